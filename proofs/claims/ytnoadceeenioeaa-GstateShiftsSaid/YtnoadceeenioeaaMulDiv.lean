/-
  What MulDiv answers, as a contract over the translated program: the nearest of the exact quotient, halves away from 0, or 14. It stands under the condition that Div64 answers the quotient and the rest at the numbers that MulDiv hands it.
-/
import Derived.Test.YtnoadceeenioeaaProd
import Derived.Deep.DeepCutAuto
namespace Go.Proofs.Ytnoadceeenioeaa
open Go.RowKit Go.Lib
set_option linter.unusedSimpArgs false
set_option linter.unusedVariables false

/-- Div64 answers q and r at these numbers, in every world. -/
def DivAt (hi lo y q r : Nat) : Prop := ∀ w : World, Calls Try.prog 61 #[.int .u64 hi, .int .u64 lo, .int .u64 y] w fun e w' => e = .returned (.tuple #[.int .u64 (q : Int), .int .u64 (r : Int)]) ∧ ∃ n, w' = w.drewN n

/-- What MulDiv answers: a number and an error's number. -/
def near (m c : Nat) : Nat := (2 * m + c) / (2 * c)
def mulDiv (a b c : Int) : Int × Int :=
  if c = 0 ∨ 2147483647 < near (a.natAbs * b.natAbs) c.natAbs then (0, 14)
  else (if (prodNeg a b != decide (c < 0)) = true then -(near (a.natAbs * b.natAbs) c.natAbs : Int) else (near (a.natAbs * b.natAbs) c.natAbs : Int), 0)

/-- MulDiv's rounding of a quotient q with the rest r by y. -/
def roundQ (q r y : Nat) (minus : Bool) : Int × Int :=
  if 2147483647 < q then (0, 14)
  else if 2147483647 < q + (if y ≤ 2 * r then 1 else 0) then (0, 14)
  else (if minus = true then -((q + (if y ≤ 2 * r then 1 else 0) : Nat) : Int) else ((q + (if y ≤ 2 * r then 1 else 0) : Nat) : Int), 0)

theorem roundQ_up (q r y : Nat) (h : y ≤ 2 * r) (hq : q + 1 ≤ 2147483647) (m : Bool) : roundQ q r y m = (if m = true then -((q + 1 : Nat) : Int) else ((q + 1 : Nat) : Int), 0) := by
  unfold roundQ; rw [if_neg (by omega), if_pos h, if_neg (by omega)]
theorem roundQ_down (q r y : Nat) (h : ¬ y ≤ 2 * r) (hq : q ≤ 2147483647) (m : Bool) : roundQ q r y m = (if m = true then -(q : Int) else (q : Int), 0) := by
  unfold roundQ; rw [if_neg (by omega), if_neg h, if_neg (by omega)]; rfl

theorem near_eq (m c : Nat) (hc : 0 < c) : near m c = m / c + if c ≤ 2 * (m % c) then 1 else 0 := by
  unfold near
  have hm := Nat.div_add_mod m c
  have hr := Nat.mod_lt m hc
  generalize m / c = q at *
  generalize m % c = r at *
  subst hm
  split
  · rw [Nat.div_eq_iff (by omega)]
    have : 2 * c * (q + 1) = 2 * (c * q) + 2 * c := by rw [Nat.mul_add, Nat.mul_assoc]; omega
    constructor <;> (try rw [Nat.mul_comm (q + 1)]) <;> omega
  · rw [Nat.div_eq_iff (by omega)]
    have : 2 * c * (q + 0) = 2 * (c * q) := by rw [Nat.add_zero, Nat.mul_assoc]
    constructor <;> (try rw [Nat.mul_comm (q + 0)]) <;> omega

set_option maxHeartbeats 400000 in
/-- A divisor that is not above the high half: refused. -/
theorem muldiv_great (a b c : Int) (hi lo y : Nat) (w : World) (H1 : Hid (-9223372036854775808 ≤ a)) (H2 : Hid (a ≤ 9223372036854775807)) (H3 : Hid (-9223372036854775808 ≤ b)) (H4 : Hid (b ≤ 9223372036854775807))
    (H5 : Hid (-9223372036854775808 ≤ c)) (H6 : Hid (c ≤ 9223372036854775807))
    (HH : Hid (a.natAbs * b.natAbs / 18446744073709551616 = hi)) (HL : Hid (a.natAbs * b.natAbs % 18446744073709551616 = lo)) (HY : Hid (c.natAbs = y))
    (hg : y ≤ hi) :
    Calls Try.prog 58 #[.int .i64 a, .int .i64 b, .int .i64 c] w fun e w' => e = .returned (.tuple #[.int .i64 0, .int .i64 14]) ∧ Below w.heap.size w w' := by
  go_enter Try.func58, Try.ntmps58
  go_wp2_with fail
  refine (product_core a b hi lo _ H1 H2 H3 H4 HH HL).mono ?_
  rintro e w' ⟨rfl, hb⟩
  go_wp2_with fail
  refine (magnitude_any c _ H5.out H6.out).mono ?_
  rintro e w' ⟨rfl, rfl⟩
  rw [HY.out]
  go_wp2_with fail
  go_ret2
  exact ⟨rfl, hb.trans ((Below.refl _ _).alloc hb.size _)⟩

set_option maxRecDepth 100000 in
set_option maxHeartbeats 1000000 in
/-- A divisor above the high half: the quotient is rounded, asked twice, and bears the sign. -/
theorem muldiv_small (a b c : Int) (hi lo y q r : Nat) (w : World) (H1 : Hid (-9223372036854775808 ≤ a)) (H2 : Hid (a ≤ 9223372036854775807)) (H3 : Hid (-9223372036854775808 ≤ b)) (H4 : Hid (b ≤ 9223372036854775807))
    (H5 : Hid (-9223372036854775808 ≤ c)) (H6 : Hid (c ≤ 9223372036854775807))
    (HH : Hid (a.natAbs * b.natAbs / 18446744073709551616 = hi)) (HL : Hid (a.natAbs * b.natAbs % 18446744073709551616 = lo)) (HY : Hid (c.natAbs = y))
    (hg : hi < y) (D : Hid (DivAt hi lo y q r)) (hr : r < y) (hy : y ≤ 9223372036854775808) :
    Calls Try.prog 58 #[.int .i64 a, .int .i64 b, .int .i64 c] w fun e w' => e = .returned (.tuple #[.int .i64 (roundQ q r y (prodNeg a b != decide (c < 0))).1, .int .i64 (roundQ q r y (prodNeg a b != decide (c < 0))).2]) ∧ Below w.heap.size w w' := by
  generalize hn : prodNeg a b = ng
  have HN := Lib.hid hn
  clear hn
  go_enter Try.func58, Try.ntmps58
  go_wp2_with fail
  refine (product_core a b hi lo _ H1 H2 H3 H4 HH HL).mono ?_
  rintro e w1 ⟨rfl, hb⟩
  rw [HN.out]
  go_wp2_with fail
  refine (magnitude_any c _ H5.out H6.out).mono ?_
  rintro e w' ⟨rfl, rfl⟩
  rw [HY.out]
  have HB : Below w.heap.size w (w1.alloc (.cells #[.bool ng, .int .u64 hi, .int .u64 lo] 95)) := hb.alloc hb.size _
  clear hb
  go_wp2_with fail
  refine (D.out _).mono ?_
  rintro e w' ⟨rfl, n, rfl⟩
  by_cases hq : (2147483647 : Int) < (q : Int)
  · have HF : Hid (roundQ q r y (ng != decide (c < 0)) = (0, 14)) := by unfold roundQ; rw [if_pos (by omega)]; rfl
    go_wp2_with fail
    go_ret2
    rw [HF.out]
    exact ⟨rfl, below_drewN HB _⟩
  · have HW : IntKind.u64.wrap ((y : Int) - (r : Int)) = ((y - r : Nat) : Int) := by rw [IntKind.wrap_u64]; omega
    have HR := Lib.hid hr
    have HYY := Lib.hid hy
    clear hr hy
    by_cases hh : y ≤ 2 * r
    · have hh1 : y - r ≤ r := by omega
      have HHH := Lib.hid hh
      clear hh
      go_upto_region 9 with (fail)
      generalize hq1 : (q : Int) + 1 = q1
      have hp : 0 ≤ q1 := by omega
      have HQ1 := Lib.hid hq1
      clear hq1
      by_cases hq2 : 2147483647 < q1
      · have HF : Hid (roundQ q r y (ng != decide (c < 0)) = (0, 14)) := by
          unfold roundQ; rw [if_neg (by omega), if_pos HHH.out, if_pos (by have := HQ1.out; omega)]; rfl
        go_wp2_with fail
        go_ret2
        rw [HF.out]
        exact ⟨rfl, below_drewN HB _⟩
      · have HF := Lib.hid (roundQ_up q r y HHH.out (by have := HQ1.out; omega))
        by_cases hc : c < 0
        all_goals
          cases ng
          all_goals
            go_wp2_with fail
            all_goals
              go_ret2
              rw [HF.out]
              refine ⟨ret_ints ?_ rfl, below_drewN HB _⟩
              have := HQ1.out
              simp
              first | omega | (split <;> omega)
    · have hh1 : ¬ y - r ≤ r := by have := HR.out; omega
      have HHH := Lib.hid hh
      clear hh
      have HF := Lib.hid (roundQ_down q r y HHH.out (by omega))
      by_cases hc : c < 0
      all_goals
        cases ng
        all_goals
          go_wp2_with fail
          all_goals
            go_ret2
            rw [HF.out]
            refine ⟨ret_ints ?_ rfl, below_drewN HB _⟩
            simp
            try (first | (intro _; omega) | (rename_i hx; simp at hx; omega))

theorem sign_zero (a b c : Int) (h : a.natAbs * b.natAbs = 0) : prodNeg a b = false := by
  have e : (a * b).natAbs = a.natAbs * b.natAbs := Int.natAbs_mul a b
  have : a * b = 0 := by omega
  simp [prodNeg, this]

/-- MulDiv, where Div64 answers at the numbers that it is handed. -/
theorem muldiv_of (a b c : Int) (w : World) (a0 : -9223372036854775808 ≤ a) (a1 : a ≤ 9223372036854775807) (b0 : -9223372036854775808 ≤ b) (b1 : b ≤ 9223372036854775807)
    (c0 : -9223372036854775808 ≤ c) (c1 : c ≤ 9223372036854775807)
    (D : a.natAbs * b.natAbs / 18446744073709551616 < c.natAbs → DivAt (a.natAbs * b.natAbs / 18446744073709551616) (a.natAbs * b.natAbs % 18446744073709551616) c.natAbs (a.natAbs * b.natAbs / c.natAbs) (a.natAbs * b.natAbs % c.natAbs)) :
    Calls Try.prog 58 #[.int .i64 a, .int .i64 b, .int .i64 c] w fun e w' => e = .returned (.tuple #[.int .i64 (mulDiv a b c).1, .int .i64 (mulDiv a b c).2]) ∧ Below w.heap.size w w' := by
  by_cases hg : c.natAbs ≤ a.natAbs * b.natAbs / 18446744073709551616
  · have e : mulDiv a b c = (0, 14) := by
      unfold mulDiv
      rw [if_pos]
      by_cases h0 : c = 0
      · exact .inl h0
      · right
        rw [near_eq _ _ (by omega)]
        have h1 : c.natAbs * 18446744073709551616 ≤ a.natAbs * b.natAbs := by omega
        have h2 : 18446744073709551616 ≤ a.natAbs * b.natAbs / c.natAbs := (Nat.le_div_iff_mul_le (by omega)).2 (by rw [Nat.mul_comm]; exact h1)
        omega
    rw [e]
    exact muldiv_great a b c _ _ _ w a0 a1 b0 b1 c0 c1 rfl rfl rfl hg
  · have hy : 0 < c.natAbs := by omega
    refine (muldiv_small a b c _ _ _ _ _ w a0 a1 b0 b1 c0 c1 rfl rfl rfl (by omega) (D (by omega)) (Nat.mod_lt _ hy) (by omega)).mono ?_
    rintro e w' ⟨rfl, hb⟩
    refine ⟨?_, hb⟩
    have e : roundQ (a.natAbs * b.natAbs / c.natAbs) (a.natAbs * b.natAbs % c.natAbs) c.natAbs (prodNeg a b != decide (c < 0)) = mulDiv a b c := by
      unfold mulDiv roundQ
      rw [near_eq _ _ hy]
      generalize a.natAbs * b.natAbs / c.natAbs = q
      generalize (if c.natAbs ≤ 2 * (a.natAbs * b.natAbs % c.natAbs) then 1 else 0) = u
      have hc : ¬ c = 0 := by omega
      by_cases h1 : 2147483647 < q
      · rw [if_pos h1, if_pos (.inr (by omega))]
      · rw [if_neg h1]
        by_cases h2 : 2147483647 < q + u
        · rw [if_pos h2, if_pos (.inr h2)]
        · rw [if_neg h2, if_neg (c := c = 0 ∨ 2147483647 < q + u) (by omega)]
    rw [e]

end Go.Proofs.Ytnoadceeenioeaa
