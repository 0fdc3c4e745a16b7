/-
  What product, Div64 with a high half of 0, MulDiv, Round and fixedAlive answer, as contracts over the translated program. MulDiv stands under the condition that Div64 answers the quotient and the rest at the numbers that MulDiv hands it.
-/
import Derived.Test.YtnoadceeenioeaaFxMag
import Derived.BigQuiet
import Derived.Deep.QuietTactic
import Derived.RegionTactic
namespace Go.Proofs.Ytnoadceeenioeaa
open Go.RowKit Go.Lib
set_option linter.unusedSimpArgs false
set_option linter.unusedVariables false

/-- The sign of a product as product tells it: negative only where it is not 0. -/
def prodNeg (a b : Int) : Bool := (decide (a < 0) != decide (b < 0)) && decide (a * b ≠ 0)

theorem neg_eq (a b : Int) (ha0 : -9223372036854775808 ≤ a) (ha1 : a ≤ 9223372036854775807) (hb0 : -9223372036854775808 ≤ b) (hb1 : b ≤ 9223372036854775807) :
    ((!decide (a < 0) == decide (b < 0)) && bits .or .u64 ((a.natAbs * b.natAbs / 18446744073709551616 : Nat) : Int) ((a.natAbs * b.natAbs % 18446744073709551616 : Nat) : Int) != 0) = prodNeg a b := by
  have hm : a.natAbs * b.natAbs ≤ 9223372036854775808 * 9223372036854775808 := Nat.mul_le_mul (by omega) (by omega)
  rw [bits_or_u64_nat _ _ (by omega) (by omega)]
  unfold prodNeg
  have e : (a * b).natAbs = a.natAbs * b.natAbs := Int.natAbs_mul a b
  have h0 : (a * b ≠ 0) ↔ a.natAbs * b.natAbs ≠ 0 := by omega
  have h1 : (((a.natAbs * b.natAbs / 18446744073709551616 ||| a.natAbs * b.natAbs % 18446744073709551616 : Nat) : Int) != 0) = decide (a * b ≠ 0) := by
    rw [Bool.eq_iff_iff]
    simp only [bne_iff_ne, decide_eq_true_eq, h0]
    generalize a.natAbs * b.natAbs = m
    have hor : (m / 18446744073709551616 ||| m % 18446744073709551616) = 0 ↔ m / 18446744073709551616 = 0 ∧ m % 18446744073709551616 = 0 := Nat.or_eq_zero_iff
    omega
  rw [h1]
  by_cases ha : a < 0 <;> by_cases hb : b < 0 <;> simp [ha, hb]

theorem ret_ints {k k2 : IntKind} {a b c d : Int} (h : a = b) (h2 : c = d) : Ending.returned (.tuple #[.int k a, .int k2 c]) = .returned (.tuple #[.int k b, .int k2 d]) := by rw [h, h2]

set_option maxHeartbeats 400000 in
theorem product_core (a b : Int) (hi lo : Nat) (w : World) (H1 : Hid (-9223372036854775808 ≤ a)) (H2 : Hid (a ≤ 9223372036854775807)) (H3 : Hid (-9223372036854775808 ≤ b)) (H4 : Hid (b ≤ 9223372036854775807))
    (HH : Hid (a.natAbs * b.natAbs / 18446744073709551616 = hi)) (HL : Hid (a.natAbs * b.natAbs % 18446744073709551616 = lo)) :
    Calls Try.prog 59 #[.int .i64 a, .int .i64 b] w fun e w' =>
      e = .returned (.agg #[.bool (prodNeg a b), .int .u64 (hi : Int), .int .u64 (lo : Int)]) ∧ Below w.heap.size w w' := by
  have HP : Hid (((!decide (a < 0) == decide (b < 0)) && bits .or .u64 (hi : Int) (lo : Int) != 0) = prodNeg a b) := by
    have := neg_eq a b H1.out H2.out H3.out H4.out
    rw [HH.out, HL.out] at this
    exact this
  go_enter Try.func59, Try.ntmps59
  go_wp2_with fail
  refine (magnitude_any a _ H1.out H2.out).mono ?_
  rintro e w' ⟨rfl, rfl⟩
  go_wp2_with fail
  refine (magnitude_any b _ H3.out H4.out).mono ?_
  rintro e w' ⟨rfl, rfl⟩
  go_wp2_with fail
  refine (mul64_any a.natAbs b.natAbs (by have := H1.out; have := H2.out; omega) (by have := H3.out; have := H4.out; omega) _).mono ?_
  rintro e w' ⟨rfl, rfl⟩
  rw [HH.out, HL.out]
  go_wp2_with fail
  all_goals
    refine bodyPost_ret (v := .agg #[.bool (prodNeg a b), .int .u64 (hi : Int), .int .u64 (lo : Int)]) ?_ rfl ⟨rfl, (Below.refl _ _).alloc (Nat.le_refl _) _⟩
    rw [← HP.out]
    simp [results, Try.results59, go_sem]
    try (intro hn; exact absurd ‹a < 0 ↔ b < 0› hn)

theorem product_any (a b : Int) (w : World) (ha0 : -9223372036854775808 ≤ a) (ha1 : a ≤ 9223372036854775807) (hb0 : -9223372036854775808 ≤ b) (hb1 : b ≤ 9223372036854775807) :
    Calls Try.prog 59 #[.int .i64 a, .int .i64 b] w fun e w' =>
      e = .returned (.agg #[.bool (prodNeg a b), .int .u64 ((a.natAbs * b.natAbs / 18446744073709551616 : Nat) : Int), .int .u64 ((a.natAbs * b.natAbs % 18446744073709551616 : Nat) : Int)]) ∧ Below w.heap.size w w' :=
  product_core a b _ _ w ha0 ha1 hb0 hb1 rfl rfl

set_option maxHeartbeats 400000 in
theorem div64_low (lo y : Nat) (w : World) (hy : 0 < y) (hy1 : y < 18446744073709551616) (hl : lo < 18446744073709551616) :
    Calls Try.prog 61 #[.int .u64 0, .int .u64 lo, .int .u64 y] w fun e w' => e = .returned (.tuple #[.int .u64 ((lo / y : Nat) : Int), .int .u64 ((lo % y : Nat) : Int)]) ∧ ∃ n, w' = w.drewN n := by
  have h1 : ((y : Int) == 0) = false := by simp; omega
  have h2 : decide ((y : Int) ≤ 0) = false := by simp; omega
  go_enter Try.func61, Try.ntmps61
  go_wp2_with fail
  go_region
  all_goals
    go_wp2
    go_ret2
    exact ⟨ret_ints (by rw [← Int.natCast_ediv, u64_small (Nat.lt_of_le_of_lt (Nat.div_le_self _ _) hl)]) rfl, 1, rfl⟩

end Go.Proofs.Ytnoadceeenioeaa
