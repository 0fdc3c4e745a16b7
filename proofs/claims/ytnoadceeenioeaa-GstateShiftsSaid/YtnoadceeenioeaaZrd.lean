/-
  What down, Floor, Ceil, Round of package fixed answer for a FIX.
-/
import Derived.Test.YtnoadceeenioeaaFs
import Derived.Laws.BitsAllLaws
import Derived.Lib.QuoteBits
namespace Go.Proofs.Ytnoadceeenioeaa
open Go.RowKit
set_option linter.unusedSimpArgs false
set_option linter.unusedVariables false

theorem and_64 (x : Nat) (hx : x < 18446744073709551616) : x &&& 18446744073709551552 = x / 64 * 64 := by
  have e : 18446744073709551552 = (2 ^ 58 - 1) <<< 6 := by decide
  have e2 : x / 64 * 64 = (x >>> 6) <<< 6 := by rw [Nat.shiftLeft_eq, Nat.shiftRight_eq_div_pow]
  rw [e, e2]
  apply Nat.eq_of_testBit_eq
  intro i
  rw [Nat.testBit_and, Nat.testBit_shiftLeft, Nat.testBit_shiftLeft, Nat.testBit_shiftRight, Nat.testBit_two_pow_sub_one]
  by_cases h : 6 ≤ i
  · have h1 : 6 + (i - 6) = i := by omega
    rw [h1]
    by_cases h2 : i - 6 < 58
    · simp [h, h2]
    · have : x.testBit i = false := Nat.testBit_lt_two_pow (Nat.lt_of_lt_of_le hx (by
        have : 2 ^ 64 ≤ 2 ^ i := Nat.pow_le_pow_right (by omega) (by omega)
        simpa using this))
      simp [this]
  · simp [h]
theorem ofInt_64 (n : Int) : (BitVec.ofInt 64 n).toNat = (n % 18446744073709551616).toNat := by
  rw [BitVec.toNat_ofInt]; rfl
theorem andNot_63 (n : Int) (h0 : -4294967296 ≤ n) (h1 : n ≤ 4294967296) : bits .andNot .i64 n 63 = n - n % 64 := by
  show IntKind.i64.wrap ((BitVec.ofInt 64 n &&& ~~~BitVec.ofInt 64 63).toNat : Int) = _
  have h2 : (BitVec.ofInt 64 63).toNat = 63 := by decide
  rw [BitVec.toNat_and, BitVec.toNat_not, h2, ofInt_64, show 2 ^ 64 - 1 - 63 = 18446744073709551552 by decide, and_64 _ (by omega), IntKind.wrap_i64]
  omega

theorem down_c (n : Int) (w : World) (h0 : -4294967296 ≤ n) (h1 : n ≤ 4294967296) : Calls Try.prog 53 #[.int .i64 n] w fun e w' => e = .returned (.int .i64 (n - n % 64)) ∧ w = w' := by
  have hb := Lib.hid (andNot_63 n h0 h1)
  clear h0 h1
  go_enter Try.func53, Try.ntmps53
  go_wp2
  go_ret
  exact ⟨by rw [← hb.out]; rfl, rfl⟩

theorem floor_c (n : Int) (w : World) (H : Hid (fixB n = true)) : Calls Try.prog 46 #[.int .i64 n] w fun e w' => e = .returned (.int .i64 (n - n % 64)) ∧ Below w.heap.size w w' := by
  have HD := Lib.hid (fun V => down_c n V (by have := fixB_true H.out; omega) (by have := fixB_true H.out; omega))
  go_enter Try.func46, Try.ntmps46
  go_wp2_with fail
  refine (allFix_one n _ w.heap.size (by go_simp)).mono ?_
  rintro e w1 ⟨rfl, rfl⟩
  rw [H.out]
  go_wp2_with fail
  refine (HD.out _).mono ?_
  rintro e w1 ⟨rfl, rfl⟩
  go_wp2_with fail
  go_ret
  exact ⟨rfl, (Below.refl _ _).alloc (Nat.le_refl _) _⟩

theorem round_fc (n : Int) (w : World) (H : Hid (fixB n = true)) : Calls Try.prog 45 #[.int .i64 n] w fun e w' => e = .returned (.int .i64 (n + 32 - (n + 32) % 64)) ∧ Below w.heap.size w w' := by
  have HD := Lib.hid (fun V => down_c (n + 32) V (by have := fixB_true H.out; omega) (by have := fixB_true H.out; omega))
  have hw : wrap64 (n + 32) = n + 32 := by have := fixB_true H.out; unfold wrap64; omega
  go_enter Try.func45, Try.ntmps45
  go_wp2_with fail
  refine (allFix_one n _ w.heap.size (by go_simp)).mono ?_
  rintro e w1 ⟨rfl, rfl⟩
  rw [H.out]
  go_wp2_with fail
  (try rw [hw])
  refine (HD.out _).mono ?_
  rintro e w1 ⟨rfl, rfl⟩
  go_wp2_with fail
  go_ret
  exact ⟨rfl, (Below.refl _ _).alloc (Nat.le_refl _) _⟩

theorem ceil_c (n : Int) (w : World) (H : Hid (fixB n = true)) : Calls Try.prog 47 #[.int .i64 n] w fun e w' => e = .returned (.int .i64 (-(-n - -n % 64))) ∧ Below w.heap.size w w' := by
  have HD := Lib.hid (fun V => down_c (-n) V (by have := fixB_true H.out; omega) (by have := fixB_true H.out; omega))
  have hw : wrap64 (-n) = -n := by have := fixB_true H.out; unfold wrap64; omega
  have hw2 : wrap64 (-(-n - -n % 64)) = -(-n - -n % 64) := by have := fixB_true H.out; unfold wrap64; omega
  obtain ⟨q, HQ⟩ : ∃ q, Hid (-n - -n % 64 = q) := ⟨_, rfl⟩
  rw [HQ.out] at HD hw2 ⊢
  go_enter Try.func47, Try.ntmps47
  go_wp2_with fail
  refine (allFix_one n _ w.heap.size (by go_simp)).mono ?_
  rintro e w1 ⟨rfl, rfl⟩
  rw [H.out]
  go_wp2_with fail
  (try rw [hw])
  refine (HD.out _).mono ?_
  rintro e w1 ⟨rfl, rfl⟩
  go_wp2_with fail
  go_ret
  exact ⟨by show Ending.returned (.int .i64 (wrap64 (-q))) = _; rw [hw2], (Below.refl _ _).alloc (Nat.le_refl _) _⟩

end Go.Proofs.Ytnoadceeenioeaa
