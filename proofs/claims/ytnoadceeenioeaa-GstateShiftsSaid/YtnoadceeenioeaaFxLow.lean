/-
  MulDiv where the product has 64 bits.
-/
import Derived.Test.YtnoadceeenioeaaMulDiv
namespace Go.Proofs.Ytnoadceeenioeaa
open Go.RowKit Go.Lib
set_option linter.unusedSimpArgs false
set_option linter.unusedVariables false

/-- MulDiv where the product has 64 bits. -/
theorem muldiv_low (a b c : Int) (w : World) (a0 : -9223372036854775808 ≤ a) (a1 : a ≤ 9223372036854775807) (b0 : -9223372036854775808 ≤ b) (b1 : b ≤ 9223372036854775807)
    (c0 : -9223372036854775808 ≤ c) (c1 : c ≤ 9223372036854775807) (hm : a.natAbs * b.natAbs < 18446744073709551616) :
    Calls Try.prog 58 #[.int .i64 a, .int .i64 b, .int .i64 c] w fun e w' => e = .returned (.tuple #[.int .i64 (mulDiv a b c).1, .int .i64 (mulDiv a b c).2]) ∧ Below w.heap.size w w' := by
  refine muldiv_of a b c w a0 a1 b0 b1 c0 c1 ?_
  intro h wd
  rw [Nat.div_eq_of_lt hm] at h ⊢
  rw [Nat.mod_eq_of_lt hm]
  exact div64_low _ _ wd h (by omega) hm

end Go.Proofs.Ytnoadceeenioeaa
