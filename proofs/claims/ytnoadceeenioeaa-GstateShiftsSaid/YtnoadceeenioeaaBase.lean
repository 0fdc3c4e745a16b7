/-
  What the small function allFix of package fixed answers.
-/
import Derived.Test.YtnoadceeenioeaaFxBase
namespace Go.Proofs.Ytnoadceeenioeaa
open Go.RowKit

set_option maxHeartbeats 400000 in
theorem allFix_any (b len cap : Nat) (zs : List Int) (w : World) (hz : zs.length = len) (hbig : len ≤ 100)
    (hc : ∀ j, j < zs.length → w.cell? ⟨b, j, none⟩ = some (.int .i64 (zs.getD j 0))) :
    Calls Try.prog 44 #[.slice (some ⟨b, 0, none⟩) len cap] w fun e w' => e = .returned (.bool (fixAll zs)) ∧ w = w' := by
  have HC := Lib.hid hc
  have HZ := Lib.hid hz
  have hz1 : zs.length ≤ len := by omega
  clear hc hz
  go_enter Try.func44, Try.ntmps44
  go_wp2
  go_loop [7] (fun i => ∃ k : Nat, k ≤ len ∧ i = .int .i64 k ∧ Hid (fixAll (zs.take k) = true)) (fun i => len - (intOf i).toNat)
  case atStart => exact ⟨0, Nat.zero_le _, rfl, rfl⟩
  case round =>
    obtain ⟨k, hk, rfl, HF⟩ := hrel
    by_cases hlt : k < len
    · have hcell := HC.out k (by have := HZ.out; omega)
      have HS : Hid (zs.take (k + 1) = zs.take k ++ [zs.getD k 0]) := by
        have hl : k < zs.length := by have := HZ.out; omega
        rw [List.take_add_one]; simp [hl, Hid]
      have HG : Hid (fixAll zs = true → fixB (zs.getD k 0) = true) := by
        have hl : k < zs.length := by have := HZ.out; omega
        intro h
        have e : zs = zs.take k ++ zs.getD k 0 :: zs.drop (k + 1) := by
          simp [List.getD, hl]
        rw [e] at h
        exact fixAll_mid _ _ _ h
      generalize zs.getD k 0 = n at *
      by_cases h1 : n < -2147483647
      · go_wp2
        go_ret
        exact ⟨by rw [fixAll_no HG.out (by simp [fixB]; omega)]; rfl, rfl⟩
      · by_cases h2 : 2147483647 < n
        · go_wp2
          go_ret
          exact ⟨by rw [fixAll_no HG.out (by simp [fixB]; omega)]; rfl, rfl⟩
        · go_wp2
          go_round
          case rel => exact ⟨k + 1, by omega, by go_num, by unfold Hid; rw [HS.out, fixAll_snoc, HF.out]; simp [fixB]; omega⟩
          case measure => simp [intOf]; omega
    · go_wp2
      go_ret
      have e : zs.take k = zs := List.take_of_length_le (by omega)
      have := HF.out
      rw [e] at this
      exact ⟨by rw [this]; rfl, rfl⟩

end Go.Proofs.Ytnoadceeenioeaa
