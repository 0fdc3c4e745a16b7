/-
  The walk of FixedSigns: it answers true at every three integers, in every world, and changes nothing that was there.
-/
import Derived.Test.YtigegagmnodmaaaDivAll
import Derived.Test.YtigegagmnodmaaaAlive
import Derived.OpenShut
import Derived.Handy
namespace Go.Proofs.Ytigegagmnodmaaa.fixedSigns
open Go.RowKit
set_option linter.unusedSimpArgs false
set_option linter.unusedVariables false

theorem bel_next {w a b : World} (h : Below w.heap.size w a) (k : Below a.heap.size a b) : Below w.heap.size w b := h.trans (k.mono h.size)
theorem bel_alloc {w a : World} (h : Below w.heap.size w a) (o : Obj) : Below w.heap.size w (a.alloc o) := h.alloc h.size o

theorem near_zero (c : Nat) : near 0 c = 0 := by
  unfold near
  rcases Nat.eq_zero_or_pos c with h | h
  · rw [h]
  · exact Nat.div_eq_of_lt (by omega)
theorem prodNeg_flip (a b : Int) (h : a.natAbs * b.natAbs ≠ 0) : prodNeg (-a) b = !prodNeg a b := by
  have ha : a ≠ 0 := fun e => h (by simp [e])
  have hb : b ≠ 0 := fun e => h (by simp [e])
  have h1 : a * b ≠ 0 := Int.mul_ne_zero ha hb
  have h2 : (-a) * b ≠ 0 := Int.mul_ne_zero (by omega) hb
  unfold prodNeg
  by_cases h3 : a < 0
  · have : ¬ -a < 0 := by omega
    by_cases h4 : b < 0 <;> simp [h1, h2, h3, h4, this] <;> omega
  · have : -a < 0 := by omega
    by_cases h4 : b < 0 <;> simp [h1, h2, h3, h4, this] <;> omega
theorem prodNeg_comm (a b : Int) : prodNeg a b = prodNeg b a := by
  unfold prodNeg
  rw [Int.mul_comm a b]
  by_cases h3 : a < 0 <;> by_cases h4 : b < 0 <;> simp [h3, h4]
theorem comm (a b c : Int) : mulDiv b a c = mulDiv a b c := by
  unfold mulDiv
  rw [Nat.mul_comm, prodNeg_comm]
theorem neg1 (a b c : Int) : mulDiv (-a) b c = (-(mulDiv a b c).1, (mulDiv a b c).2) := by
  unfold mulDiv
  rw [Int.natAbs_neg]
  by_cases h0 : a.natAbs * b.natAbs = 0
  · rw [h0, near_zero]
    by_cases hc : c = 0
    · simp [hc]
    · simp [hc]
  · rw [prodNeg_flip a b h0]
    by_cases hc : c = 0 ∨ 2147483647 < near (a.natAbs * b.natAbs) c.natAbs
    · rw [if_pos hc]; simp [if_pos hc]
    · rw [if_neg hc, if_neg hc]
      cases prodNeg a b <;> by_cases hc2 : c < 0 <;> simp [hc2]
theorem neg2 (a b c : Int) : mulDiv a (-b) c = (-(mulDiv a b c).1, (mulDiv a b c).2) := by
  rw [← comm, neg1, comm]
theorem neg3 (a b c : Int) : mulDiv a b (-c) = (-(mulDiv a b c).1, (mulDiv a b c).2) := by
  unfold mulDiv
  rw [Int.natAbs_neg]
  by_cases hc0 : c = 0
  · simp [hc0]
  · by_cases hc : 2147483647 < near (a.natAbs * b.natAbs) c.natAbs
    · rw [if_pos (.inr hc)]; simp [if_pos (Or.inr hc : c = 0 ∨ 2147483647 < near (a.natAbs * b.natAbs) c.natAbs)]
    · have hn1 : ¬ (-c = 0 ∨ 2147483647 < near (a.natAbs * b.natAbs) c.natAbs) := by omega
      have hn2 : ¬ (c = 0 ∨ 2147483647 < near (a.natAbs * b.natAbs) c.natAbs) := by omega
      rw [if_neg hn1, if_neg hn2]
      by_cases hc2 : c < 0
      · have : ¬ -c < 0 := by omega
        cases prodNeg a b <;> simp [hc2, this] <;> (intro _; omega)
      · have : -c < 0 := by omega
        cases prodNeg a b <;> simp [hc2, this] <;> (intro _; omega)

theorem at0 (x0 x1 x2 x3 x4 x5 x6 x7 x8 : Value) (w : World) : (Instr.index 35 (.agg #[x0, x1, x2, x3, x4, x5, x6, x7, x8]) (.int .i64 0)).run Try.prog w = .ok (.agg #[x0, x1, x2]) w := by kernel_rfl
theorem at1 (x0 x1 x2 x3 x4 x5 x6 x7 x8 : Value) (w : World) : (Instr.index 35 (.agg #[x0, x1, x2, x3, x4, x5, x6, x7, x8]) (.int .i64 1)).run Try.prog w = .ok (.agg #[x3, x4, x5]) w := by kernel_rfl
theorem at2 (x0 x1 x2 x3 x4 x5 x6 x7 x8 : Value) (w : World) : (Instr.index 35 (.agg #[x0, x1, x2, x3, x4, x5, x6, x7, x8]) (.int .i64 2)).run Try.prog w = .ok (.agg #[x6, x7, x8]) w := by kernel_rfl

set_option maxRecDepth 100000 in
set_option maxHeartbeats 2000000 in
theorem walk_all (a b c n e : Int) (w : World) (a0 : -9223372036854775808 < a) (a1 : a ≤ 9223372036854775807) (b0 : -9223372036854775808 < b) (b1 : b ≤ 9223372036854775807)
    (c0 : -9223372036854775808 < c) (c1 : c ≤ 9223372036854775807) (HM : Hid (mulDiv a b c = (n, e))) (nb : -2147483647 ≤ n) (nc : n ≤ 2147483647) :
    Calls Try.prog 6 #[.int .i64 a, .int .i64 b, .int .i64 c] w fun e w' => e = .returned (.bool true) ∧ Below w.heap.size w w' := by
  have H1 := Lib.hid (neg1 a b c)
  have H2 := Lib.hid (neg2 a b c)
  have H3 := Lib.hid (neg3 a b c)
  have H4 := Lib.hid (comm a b c)
  rw [HM.out] at H1 H2 H3 H4
  have ta : (a == -9223372036854775808) = false := by simp; omega
  have tb : (b == -9223372036854775808) = false := by simp; omega
  have tc : (c == -9223372036854775808) = false := by simp; omega
  have hnn : ((-n : Int) != -n) = false := by simp
  have hee : (e != e) = false := by simp
  have hnn2 : (n == n) = true := by simp
  have hee2 : (e == e) = true := by simp
  go_enter Try.func6, Try.ntmps6
  go_wp2_with fail
  refine (alive_any _).mono ?_
  rintro x w1 ⟨rfl, hb1⟩
  go_wp2_with fail
  refine (muldiv_any a b c _ (by omega) a1 (by omega) b1 (by omega) c1).mono ?_
  rintro x w2 ⟨rfl, hb2⟩
  rw [HM.out]
  have k0 := at0
  have k1 := at1
  have k2 := at2
  go_upto_region 7 with (fail)
  refine wp_loop_rounds 4 ?_
  rw [rounds_succ]
  go_wp2_with fail
  refine (muldiv_any (-a) b c _ (by omega) (by omega) (by omega) b1 (by omega) c1).mono ?_
  rintro x w3 ⟨rfl, hb3⟩
  rw [H1.out]
  go_wp2_with fail
  rw [rounds_succ]
  go_wp2_with fail
  refine (muldiv_any a (-b) c _ (by omega) a1 (by omega) (by omega) (by omega) c1).mono ?_
  rintro x w4 ⟨rfl, hb4⟩
  rw [H2.out]
  go_wp2_with fail
  rw [rounds_succ]
  go_wp2_with fail
  refine (muldiv_any a b (-c) _ (by omega) a1 (by omega) b1 (by omega) (by omega)).mono ?_
  rintro x w5 ⟨rfl, hb5⟩
  rw [H3.out]
  go_wp2_with fail
  rw [rounds_succ]
  go_wp2_with fail
  refine (muldiv_any b a c _ (by omega) b1 (by omega) a1 (by omega) c1).mono ?_
  rintro x w6 ⟨rfl, hb6⟩
  rw [H4.out]
  go_wp2_with fail
  go_ret
  exact ⟨rfl, bel_next (bel_next (bel_alloc (bel_next (bel_alloc (bel_next (bel_alloc (bel_next hb1 hb2) _) hb3) _) hb4) _) hb5) hb6⟩

set_option maxRecDepth 100000 in
set_option maxHeartbeats 1000000 in
/-- Where one of the three is the least integer the law asks nothing. -/
theorem walk_least (a b c : Int) (w : World) (h : a = -9223372036854775808 ∨ b = -9223372036854775808 ∨ c = -9223372036854775808) :
    Calls Try.prog 6 #[.int .i64 a, .int .i64 b, .int .i64 c] w fun e w' => e = .returned (.bool true) ∧ Below w.heap.size w w' := by
  by_cases ha : a = -9223372036854775808
  · have ta : (a == -9223372036854775808) = true := by simp [ha]
    clear ha h
    go_enter Try.func6, Try.ntmps6
    go_wp2_with fail
    refine (alive_any _).mono ?_
    rintro x w1 ⟨rfl, hb1⟩
    go_wp2_with fail
    go_ret
    exact ⟨rfl, hb1⟩
  · have ta : (a == -9223372036854775808) = false := by simp [ha]
    by_cases hb : b = -9223372036854775808
    · have tb : (b == -9223372036854775808) = true := by simp [hb]
      clear ha hb h
      go_enter Try.func6, Try.ntmps6
      go_wp2_with fail
      refine (alive_any _).mono ?_
      rintro x w1 ⟨rfl, hb1⟩
      go_wp2_with fail
      go_ret
      exact ⟨rfl, hb1⟩
    · have tb : (b == -9223372036854775808) = false := by simp [hb]
      have tc : (c == -9223372036854775808) = true := by simp; omega
      clear ha hb h
      go_enter Try.func6, Try.ntmps6
      go_wp2_with fail
      refine (alive_any _).mono ?_
      rintro x w1 ⟨rfl, hb1⟩
      go_wp2_with fail
      go_ret
      exact ⟨rfl, hb1⟩

theorem mulDiv_bound (a b c : Int) : -2147483647 ≤ (mulDiv a b c).1 ∧ (mulDiv a b c).1 ≤ 2147483647 := by
  unfold mulDiv
  by_cases h : c = 0 ∨ 2147483647 < near (a.natAbs * b.natAbs) c.natAbs
  · rw [if_pos h]; decide
  · rw [if_neg h]
    generalize near (a.natAbs * b.natAbs) c.natAbs = q at *
    by_cases h2 : (prodNeg a b != decide (c < 0)) = true
    · rw [if_pos h2]; show -2147483647 ≤ -(q : Int) ∧ -(q : Int) ≤ 2147483647; omega
    · rw [if_neg h2]; show -2147483647 ≤ (q : Int) ∧ (q : Int) ≤ 2147483647; omega

theorem walk (a b c : Int) (w : World) (w0 : (Lit.int .i64 a).wf = true) (w1 : (Lit.int .i64 b).wf = true) (w2 : (Lit.int .i64 c).wf = true) :
    Calls Try.prog 6 #[.int .i64 a, .int .i64 b, .int .i64 c] w fun e w' => e = .returned (.bool true) ∧ Below w.heap.size w w' := by
  have ha := bounds_i64 w0
  have hb := bounds_i64 w1
  have hc := bounds_i64 w2
  by_cases h : a = -9223372036854775808 ∨ b = -9223372036854775808 ∨ c = -9223372036854775808
  · exact walk_least a b c w h
  · have hm := mulDiv_bound a b c
    exact walk_all a b c _ _ w (by omega) ha.2 (by omega) hb.2 (by omega) hc.2 rfl hm.1 hm.2
end Go.Proofs.Ytigegagmnodmaaa.fixedSigns
