/-
  The walk of SfntSums: it answers true at every two slices of bytes, in every world, and changes nothing that was there. Condition: each slice has at most 1048576 bytes.
-/
import Derived.Test.YteealhfphhfeaaaJoin
namespace Go.Proofs.Yteealhfphhfeaaa.sfntSums
open Go.RowKit Go.PlainAid
set_option linter.unusedSimpArgs false
set_option linter.unusedVariables false

theorem cut_isB {w : World} {a : Option Addr} {cap : Nat} {s : ByteArray} (h : IsB w a s.size cap s) {k : Nat} (hk : k ≤ s.size) : IsB w a (s.extract 0 k).size cap (s.extract 0 k) := by
  have e : (s.extract 0 k).size = k := by rw [ByteArray.size_extract]; omega
  rw [e]
  obtain ⟨h1, h2, h3 | ⟨b, off, rfl, hc⟩⟩ := h
  · exact ⟨e, by omega, .inl (by omega)⟩
  · refine ⟨e, by omega, .inr ⟨b, off, rfl, fun i hi => ?_⟩⟩
    rw [bt_extract s 0 k i hk (by omega), Nat.zero_add]
    exact hc i (by omega)

set_option maxHeartbeats 1000000 in
theorem walk (a : Option Addr) (ca : Nat) (s : ByteArray) (b : Option Addr) (cb : Nat) (u : ByteArray) (w : World) (hA : IsB w a s.size ca s) (hz : (s.size : Int) ≤ 140737488351232) (hu : s.size ≤ 1048576)
    (hB : IsB w b u.size cb u) (hz2 : (u.size : Int) ≤ 140737488351232) (hu2 : u.size ≤ 1048576) :
    Calls Try.prog 4 #[.slice a s.size ca, .slice b u.size cb] w fun e w' => e = .returned (.bool true) ∧ Below w.heap.size w w' := by
  have HA := Lib.hid hA
  have HB := Lib.hid hB
  have HS := Lib.hid hu
  have HU := Lib.hid hu2
  have hss : (sumB s != sumB s) = false := by simp
  clear hA hB hz hz2 hu hu2
  go_enter Try.func4, Try.ntmps4
  go_wp2_with fail
  refine (alive_c _).mono ?_
  rintro e w1 ⟨rfl, hb1⟩
  have HA1 := Lib.hid (HA.out.below hb1)
  have HW1 := Lib.hid hb1
  clear hb1
  go_wp2_with (at_builtin; refine wpList_copy rfl _ _ rfl w1 a s.size ca s rfl rfl HA1.out (by have := HS.out; omega) ?_; intro g1 c1 w2 hown hb2)
  have HC2 := Lib.hid (isB_of_owns hown)
  have HW2 := Lib.hid (HW1.out.trans (hb2.mono HW1.out.size))
  have HA2 := Lib.hid (HA.out.below HW2.out)
  clear hb2 hown HA1 HW1
  refine (sum_c _ _ _ s w2 HC2.out (by have := HS.out; omega)).mono ?_
  rintro e w3 ⟨rfl, rfl⟩
  go_wp2_with fail
  refine (refsum_c _ _ _ s w2 HA2.out (by have := HS.out; omega)).mono ?_
  rintro e w3 ⟨rfl, rfl⟩
  go_wp2_with fail
  go_loop [0] (fun x => ∃ k : Nat, k ≤ s.size ∧ x = .slice a k ca) (fun x => match x with | .slice _ k _ => k | _ => 0)
  case atStart => exact ⟨s.size, Nat.le_refl _, rfl⟩
  case round =>
    obtain ⟨k, hk, rfl⟩ := hrel
    by_cases h4 : k % 4 = 0
    · have hm : ((k : Int)).tmod 4 = 0 := by rw [Int.tmod_eq_emod_of_nonneg (by omega)]; omega
      obtain ⟨s1, HS1⟩ : ∃ s1, Hid (s.extract 0 k = s1) := ⟨_, rfl⟩
      have HZ1 : Hid (s1.size = k) := by unfold Hid; rw [← HS1.out, ByteArray.size_extract]; omega
      have HA3 : Hid (IsB w2 a s1.size ca s1) := by have := cut_isB HA2.out hk; rw [HS1.out] at this; exact this
      have HB3 := Lib.hid (HB.out.below HW2.out)
      have HL1 : Hid (s1.size ≤ 1048576) := by have := HS.out; have := HZ1.out; unfold Hid; omega
      have HJ := Lib.hid (sumB_join s1 u (by rw [HZ1.out]; exact h4))
      have e := HZ1.out
      subst e
      clear HS1 HZ1 HC2 HA hss h4 hk
      go_wp2_with (first
        | (at_builtin; refine wpList_copy rfl _ _ rfl w2 a s1.size ca s1 rfl rfl HA3.out (by have := HL1.out; omega) ?_; intro g3 c3 w3 hown3 hb3; have HO3 := Lib.hid hown3; have HB4 := Lib.hid hb3; clear hown3 hb3)
        | (at_builtin; refine wpList_join rfl _ _ rfl w3 w2.heap.size g3 c3 s1 u b cb rfl rfl HO3.out (HB3.out.below HB4.out) (by have := HL1.out; have := HU.out; omega) HB4.out.size ?_; intro g4 c4 w4 hI4 hb4))
      have HI4 := Lib.hid hI4
      have HB5 := Lib.hid (HB4.out.trans hb4)
      clear hI4 hb4 HO3
      refine (sum_c _ _ _ (s1 ++ u) w4 HI4.out (by have := HL1.out; have := HU.out; omega)).mono ?_
      rintro e w5 ⟨rfl, rfl⟩
      have HA4 := Lib.hid (HA3.out.below HB5.out)
      have HB6 := Lib.hid (HB3.out.below HB5.out)
      have HW4 := Lib.hid (HW2.out.trans (HB5.out.mono HW2.out.size))
      clear HI4 HB4 HB5 HA3 HB3
      go_wp2_with (at_builtin; refine wpList_copy rfl _ _ rfl w4 a s1.size ca s1 rfl rfl HA4.out (by have := HL1.out; omega) ?_; intro g5 c5 w5 hown5 hb5)
      have HC5 := Lib.hid (isB_of_owns hown5)
      have HW5 := Lib.hid (HW4.out.trans (hb5.mono HW4.out.size))
      have HB7 := Lib.hid (HB6.out.below hb5)
      clear hown5 hb5 HB6 HA4
      refine (sum_c _ _ _ s1 w5 HC5.out (by have := HL1.out; omega)).mono ?_
      rintro e w6 ⟨rfl, rfl⟩
      go_wp2_with (at_builtin; refine wpList_copy rfl _ _ rfl w5 b u.size cb u rfl rfl HB7.out (by have := HU.out; omega) ?_; intro g7 c7 w7 hown7 hb7)
      have HC7 := Lib.hid (isB_of_owns hown7)
      have HW7 := Lib.hid (HW5.out.trans (hb7.mono HW5.out.size))
      clear hown7 hb7
      refine (sum_c _ _ _ u w7 HC7.out (by have := HU.out; omega)).mono ?_
      rintro e w8 ⟨rfl, rfl⟩
      have hb1 := sumB_lo s1
      have hb2 := sumB_hi s1
      have hb3 := sumB_lo u
      have hb4 := sumB_hi u
      have hw : wrap64 (sumB s1 + sumB u) = sumB s1 + sumB u := by unfold wrap64; omega
      have ht : (sumB s1 + sumB u).tmod 4294967296 = sumB (s1 ++ u) := by rw [Int.tmod_eq_emod_of_nonneg (by omega), HJ.out]
      have he : (sumB (s1 ++ u) == sumB (s1 ++ u)) = true := by simp
      clear hb1 hb2 hb3 hb4
      go_wp2_with fail
      go_ret
      exact ⟨rfl, HW7.out⟩
    · have hm : ¬ ((k : Int)).tmod 4 = 0 := by rw [Int.tmod_eq_emod_of_nonneg (by omega)]; omega
      have hA := HA.out
      obtain ⟨_, hlc, h0 | ⟨ba, off, rfl, hc⟩⟩ := hA
      · omega
      clear hc
      have hw : wrap64 ((k : Int) - 1) = ((k - 1 : Nat) : Int) := by have := HS.out; unfold wrap64; omega
      have hw0 : (0 : Int) ≤ ((k - 1 : Nat) : Int) := by omega
      have hw1 : ((k - 1 : Nat) : Int) ≤ (ca : Int) := by omega
      go_wp2_with fail
      go_round
      case rel => exact ⟨k - 1, by omega, rfl⟩
      case measure => simp only []; omega

end Go.Proofs.Yteealhfphhfeaaa.sfntSums
