/-
  The chapter's examples that every statement of layer 1 asks first: fixedAlive answers true, in every world; nothing that was there is changed.
-/
import Derived.Test.YtigegagmnodmaaaMulDiv
namespace Go.Proofs.Ytigegagmnodmaaa
open Go.RowKit Go.Lib
set_option linter.unusedSimpArgs false
set_option linter.unusedVariables false

/-- MulDiv where the product has 64 bits. -/
theorem muldiv_low (a b c : Int) (w : World) (a0 : -9223372036854775808 ≤ a) (a1 : a ≤ 9223372036854775807) (b0 : -9223372036854775808 ≤ b) (b1 : b ≤ 9223372036854775807)
    (c0 : -9223372036854775808 ≤ c) (c1 : c ≤ 9223372036854775807) (hm : a.natAbs * b.natAbs < 18446744073709551616) :
    Calls Try.prog 17 #[.int .i64 a, .int .i64 b, .int .i64 c] w fun e w' => e = .returned (.tuple #[.int .i64 (mulDiv a b c).1, .int .i64 (mulDiv a b c).2]) ∧ Below w.heap.size w w' := by
  refine muldiv_of a b c w a0 a1 b0 b1 c0 c1 ?_
  intro h wd
  rw [Nat.div_eq_of_lt hm] at h ⊢
  rw [Nat.mod_eq_of_lt hm]
  exact div64_low _ _ wd h (by omega) hm

theorem md7 : mulDiv 7 1 2 = (4, 0) := by decide
theorem md7n : mulDiv (-7) 1 2 = (-4, 0) := by decide
theorem andNot64 : bits .andNot .i64 64 63 = 64 := by decide

set_option maxHeartbeats 400000 in
theorem round32 (w : World) : Calls Try.prog 25 #[.int .i64 32] w fun e w' => e = .returned (.int .i64 64) ∧ Below w.heap.size w w' := by
  go_enter Try.func25, Try.ntmps25
  go_wp2_with fail
  refine (allFix_any w.heap.size 1 1 [32] _ rfl (by omega) (by intro j hj; have : j = 0 := by simpa using hj
                                                               subst this; go_simp)).mono ?_
  rintro e w1 ⟨rfl, rfl⟩
  rw [show fixAll [32] = true from by decide]
  go_wp2_with fail
  refine (down_any 64 _ (by decide) (by decide)).mono ?_
  rintro e w1 ⟨rfl, rfl⟩
  rw [andNot64]
  go_wp2_with fail
  go_ret
  exact ⟨rfl, (Below.refl _ _).alloc (Nat.le_refl _) _⟩

set_option maxHeartbeats 400000 in
theorem alive_any (w : World) : Calls Try.prog 10 #[] w fun e w' => e = .returned (.bool true) ∧ Below w.heap.size w w' := by
  go_enter Try.func10, Try.ntmps10
  go_wp2_with fail
  refine (muldiv_low 7 1 2 _ (by decide) (by decide) (by decide) (by decide) (by decide) (by decide) (by decide)).mono ?_
  rintro e w1 ⟨rfl, hb1⟩
  rw [md7]
  go_wp2_with fail
  refine (muldiv_low (-7) 1 2 _ (by decide) (by decide) (by decide) (by decide) (by decide) (by decide) (by decide)).mono ?_
  rintro e w2 ⟨rfl, hb2⟩
  rw [md7n]
  go_wp2_with fail
  refine (round32 _).mono ?_
  rintro e w3 ⟨rfl, hb3⟩
  go_wp2_with fail
  go_ret
  exact ⟨rfl, (hb1.trans (hb2.mono hb1.size)).trans (hb3.mono (Nat.le_trans hb1.size hb2.size))⟩

end Go.Proofs.Ytigegagmnodmaaa
