/-
  What Mul by 2 to the 14th, Dot of package fixed and Dot of the document's answer give, as contracts over the translated program, for all integers of 64 bits.
-/
import Derived.Test.YthjhekmlhmljlaaFxSum
import Derived.Deep.DeepCutAuto
namespace Go.Proofs.Ythjhekmlhmljlaa
open Go.RowKit Go.Lib
set_option linter.unusedSimpArgs false
set_option linter.unusedVariables false

/-- A product of two vectors, or refused. -/
def dotOr (ax ay bx by' : Int) : Int × Int :=
  if fixAll [ax, ay, bx, by'] = true then mulDiv (ax * bx + ay * by') 1 16384 else (0, 14)

theorem mul_bound {a b : Int} (a1 : -2147483647 ≤ a) (a2 : a ≤ 2147483647) (b1 : -2147483647 ≤ b) (b2 : b ≤ 2147483647) : -4611686014132420609 ≤ a * b ∧ a * b ≤ 4611686014132420609 := by
  have h : a.natAbs * b.natAbs ≤ 2147483647 * 2147483647 := Nat.mul_le_mul (by omega) (by omega)
  have e : (a * b).natAbs = a.natAbs * b.natAbs := Int.natAbs_mul a b
  omega

set_option maxHeartbeats 400000 in
theorem mul14 (n s f : Int) (w : World) (n0 : -9223372036854775808 ≤ n) (n1 : n ≤ 9223372036854775807) (HS : Hid (mulDiv n 1 16384 = (s, f))) :
    Calls Try.prog 49 #[.int .i64 n, .int .i64 1, .int .i64 14] w fun e w' => e = .returned (.tuple #[.int .i64 s, .int .i64 f]) ∧ Below w.heap.size w w' := by
  have H0 := Lib.hid n0
  have H1 := Lib.hid n1
  clear n0 n1
  go_enter Try.func49, Try.ntmps49
  go_wp2_with fail
  refine (muldiv_low n 1 16384 _ H0.out H1.out (by decide) (by decide) (by decide) (by decide) (by have := H0.out; have := H1.out; simp; omega)).mono ?_
  rintro e w1 ⟨rfl, hb⟩
  rw [HS.out]
  go_wp2_with fail
  go_ret2
  exact ⟨rfl, hb⟩

set_option maxHeartbeats 400000 in
theorem dot_any (ax ay bx by' s f : Int) (w : World) (HS : Hid (dotOr ax ay bx by' = (s, f))) :
    Calls Try.prog 32 #[.int .i64 ax, .int .i64 ay, .int .i64 bx, .int .i64 by'] w fun e w' => e = .returned (.tuple #[.int .i64 s, .int .i64 f]) ∧ Below w.heap.size w w' := by
  have hcells : Hid (∀ j, j < ([ax, ay, bx, by'] : List Int).length → (w.alloc (.cells #[.int .i64 ax, .int .i64 ay, .int .i64 bx, .int .i64 by'] 3)).cell? ⟨w.heap.size, j, none⟩ = some (.int .i64 (([ax, ay, bx, by'] : List Int).getD j 0))) := by
    intro j hj
    have : j = 0 ∨ j = 1 ∨ j = 2 ∨ j = 3 := by simp at hj; omega
    rcases this with rfl | rfl | rfl | rfl <;> simp [go_sem]
  cases h : fixAll [ax, ay, bx, by']
  · have HF := Lib.hid h
    clear h
    go_enter Try.func32, Try.ntmps32
    go_wp2_with fail
    refine (allFix_any w.heap.size 4 4 [ax, ay, bx, by'] _ rfl (by omega) hcells.out).mono ?_
    rintro e w1 ⟨rfl, rfl⟩
    rw [HF.out]
    go_wp2_with fail
    go_ret2
    have := HS.out
    rw [dotOr, HF.out] at this
    simp at this
    rw [← this.1, ← this.2]
    exact ⟨rfl, (Below.refl _ _).alloc (Nat.le_refl _) _⟩
  · have HF := Lib.hid h
    have hs : mulDiv (ax * bx + ay * by') 1 16384 = (s, f) := by
      have := HS.out
      rw [dotOr, h, if_pos rfl] at this
      exact this
    simp [fixAll] at h
    obtain ⟨f1, f2, f3, f4⟩ := h
    have m1 := mul_bound (fixB_true f1).1 (fixB_true f1).2 (fixB_true f3).1 (fixB_true f3).2
    have m2 := mul_bound (fixB_true f2).1 (fixB_true f2).2 (fixB_true f4).1 (fixB_true f4).2
    have HM := Lib.hid (mul14 (ax * bx + ay * by') s f (w.alloc (.cells #[.int .i64 ax, .int .i64 ay, .int .i64 bx, .int .i64 by'] 3)) (by omega) (by omega) hs)
    have HW1 : wrap64 (ax * bx) = ax * bx := by unfold wrap64; omega
    have HW2 : wrap64 (ay * by') = ay * by' := by unfold wrap64; omega
    have HW3 : wrap64 (ax * bx + ay * by') = ax * bx + ay * by' := by unfold wrap64; omega
    clear f1 f2 f3 f4 m1 m2 hs
    go_enter Try.func32, Try.ntmps32
    go_wp2_with fail
    refine (allFix_any w.heap.size 4 4 [ax, ay, bx, by'] _ rfl (by omega) hcells.out).mono ?_
    rintro e w1 ⟨rfl, rfl⟩
    rw [HF.out]
    go_wp2_with fail
    refine HM.out.mono ?_
    rintro e w1 ⟨rfl, hb⟩
    go_wp2_with fail
    go_ret2
    exact ⟨rfl, ((Below.refl _ _).alloc (Nat.le_refl _) _).trans (hb.mono (by simp))⟩

/-- How the document's answer rounds by 2 to the 14th. -/
theorem dot_small (n : Int) : mulDiv n 1 16384 = if 2147483647 < n.natAbs / 16384 + (if 8192 ≤ n.natAbs % 16384 then 1 else 0) then (0, 14) else (if n < 0 then -((n.natAbs / 16384 + (if 8192 ≤ n.natAbs % 16384 then 1 else 0) : Nat) : Int) else ((n.natAbs / 16384 + (if 8192 ≤ n.natAbs % 16384 then 1 else 0) : Nat) : Int), 0) := by
  unfold mulDiv
  have e1 : n.natAbs * (1 : Int).natAbs = n.natAbs := by simp
  have e2 : (16384 : Int).natAbs = 16384 := rfl
  have e3 : near n.natAbs 16384 = n.natAbs / 16384 + (if 8192 ≤ n.natAbs % 16384 then 1 else 0) := by unfold near; split <;> omega
  have e4 : (prodNeg n 1 != decide ((16384 : Int) < 0)) = decide (n < 0) := by
    unfold prodNeg
    by_cases h : n < 0
    · have : n ≠ 0 := by omega
      simp [h, this]
    · simp [h]
  rw [e1, e2, e3, e4]
  by_cases h : 2147483647 < n.natAbs / 16384 + (if 8192 ≤ n.natAbs % 16384 then 1 else 0)
  · rw [if_pos (.inr h), if_pos h]
  · rw [if_neg (by simp only [not_or]; exact ⟨by decide, h⟩), if_neg h]
    by_cases hn : n < 0 <;> simp [hn]

/-- The end of the document's Dot, from a number that is not negative: m by 2 to the 14th. -/
def dotEnd (m : Nat) (minus : Bool) : Int × Int :=
  if 2147483647 < m / 16384 + (if 8192 ≤ m % 16384 then 1 else 0) then (0, 14) else (if minus = true then -((m / 16384 + (if 8192 ≤ m % 16384 then 1 else 0) : Nat) : Int) else ((m / 16384 + (if 8192 ≤ m % 16384 then 1 else 0) : Nat) : Int), 0)
theorem dotEnd_eq (n : Int) : mulDiv n 1 16384 = dotEnd n.natAbs (decide (n < 0)) := by
  rw [dot_small]; unfold dotEnd
  by_cases h : n < 0 <;> simp [h]

set_option maxHeartbeats 1000000 in
theorem refdot_ok (ax ay bx by' n s f : Int) (w : World) (H1 : Hid (fixB ax = true)) (H2 : Hid (fixB ay = true)) (H3 : Hid (fixB bx = true)) (H4 : Hid (fixB by' = true))
    (HN : Hid (wrap64 (wrap64 (ax * bx) + wrap64 (ay * by')) = n)) (n0 : -9223372028264841218 ≤ n) (n1 : n ≤ 9223372028264841218) (HS : Hid (dotEnd n.natAbs (decide (n < 0)) = (s, f)))
    :
    Calls Try.prog 46 #[.int .i64 ax, .int .i64 ay, .int .i64 bx, .int .i64 by'] w fun e w' => e = .returned (.tuple #[.int .i64 s, .int .i64 f]) ∧ w = w' := by
  go_enter Try.func46, Try.ntmps46
  go_wp2_with fail
  refine (fix_any ax _).mono ?_
  rintro e w1 ⟨rfl, rfl⟩
  rw [H1.out]
  go_wp2_with fail
  refine (fix_any ay _).mono ?_
  rintro e w1 ⟨rfl, rfl⟩
  rw [H2.out]
  go_wp2_with fail
  refine (fix_any bx _).mono ?_
  rintro e w1 ⟨rfl, rfl⟩
  rw [H3.out]
  go_wp2_with fail
  refine (fix_any by' _).mono ?_
  rintro e w1 ⟨rfl, rfl⟩
  rw [H4.out]
  go_upto_region 4 with (fail)
  rw [HN.out]
  clear HN
  by_cases hn : n < 0
  · obtain ⟨m, rfl⟩ : ∃ m : Nat, n = -(m : Int) := ⟨n.natAbs, by omega⟩
    have HS2 : Hid (dotEnd m true = (s, f)) := by
      have := HS.out
      rw [Int.natAbs_neg, Int.natAbs_natCast, decide_eq_true hn] at this
      exact this
    clear HS
    have hm : (m : Int) ≤ 9223372028264841218 := by omega
    have hm0 : 0 < m := by omega
    by_cases hr : (8192 : Int) ≤ (m : Int) % 16384
    · go_upto_region 10 with (fail)
      generalize hq1 : (m : Int) / 16384 + 1 = q1
      have hp : 0 ≤ q1 := by omega
      have HQ1 := Lib.hid hq1
      clear hq1
      by_cases hq2 : 2147483647 < q1
      · have HF : Hid (s = 0 ∧ f = 14) := by
          have := HS2.out
          rw [dotEnd, if_pos (by omega : 8192 ≤ m % 16384), if_pos (by have := HQ1.out; omega)] at this
          simp at this
          exact ⟨this.1.symm, this.2.symm⟩
        go_wp2_with fail
        go_ret2
        rw [HF.out.1, HF.out.2]
        exact ⟨rfl, rfl⟩
      · have HF : Hid (s = -q1 ∧ f = 0) := by
          have := HS2.out
          rw [dotEnd, if_pos (by omega : 8192 ≤ m % 16384), if_neg (by have := HQ1.out; omega)] at this
          simp at this
          have h2 := HQ1.out
          exact ⟨by omega, this.2.symm⟩
        go_wp2_with fail
        go_ret2
        rw [HF.out.1, HF.out.2]
        exact ⟨rfl, rfl⟩
    · go_upto_region 10 with (fail)
      generalize hq1 : (m : Int) / 16384 = q1
      have hp : 0 ≤ q1 := by omega
      have HQ1 := Lib.hid hq1
      clear hq1
      by_cases hq2 : 2147483647 < q1
      · have HF : Hid (s = 0 ∧ f = 14) := by
          have := HS2.out
          rw [dotEnd, if_neg (by omega : ¬ 8192 ≤ m % 16384), if_pos (by have := HQ1.out; omega)] at this
          simp at this
          exact ⟨this.1.symm, this.2.symm⟩
        go_wp2_with fail
        go_ret2
        rw [HF.out.1, HF.out.2]
        exact ⟨rfl, rfl⟩
      · have HF : Hid (s = -q1 ∧ f = 0) := by
          have := HS2.out
          rw [dotEnd, if_neg (by omega : ¬ 8192 ≤ m % 16384), if_neg (by have := HQ1.out; omega)] at this
          simp at this
          have h2 := HQ1.out
          exact ⟨by omega, this.2.symm⟩
        go_wp2_with fail
        go_ret2
        rw [HF.out.1, HF.out.2]
        exact ⟨rfl, rfl⟩
  · obtain ⟨m, rfl⟩ : ∃ m : Nat, n = (m : Int) := ⟨n.natAbs, by omega⟩
    have HS2 : Hid (dotEnd m false = (s, f)) := by
      have := HS.out
      rw [Int.natAbs_natCast, decide_eq_false hn] at this
      exact this
    clear HS
    have hm : (m : Int) ≤ 9223372028264841218 := by omega
    have hm0 : 0 ≤ m := by omega
    by_cases hr : (8192 : Int) ≤ (m : Int) % 16384
    · go_upto_region 10 with (fail)
      generalize hq1 : (m : Int) / 16384 + 1 = q1
      have hp : 0 ≤ q1 := by omega
      have HQ1 := Lib.hid hq1
      clear hq1
      by_cases hq2 : 2147483647 < q1
      · have HF : Hid (s = 0 ∧ f = 14) := by
          have := HS2.out
          rw [dotEnd, if_pos (by omega : 8192 ≤ m % 16384), if_pos (by have := HQ1.out; omega)] at this
          simp at this
          exact ⟨this.1.symm, this.2.symm⟩
        go_wp2_with fail
        go_ret2
        rw [HF.out.1, HF.out.2]
        exact ⟨rfl, rfl⟩
      · have HF : Hid (s = q1 ∧ f = 0) := by
          have := HS2.out
          rw [dotEnd, if_pos (by omega : 8192 ≤ m % 16384), if_neg (by have := HQ1.out; omega)] at this
          simp at this
          have h2 := HQ1.out
          exact ⟨by omega, this.2.symm⟩
        go_wp2_with fail
        go_ret2
        rw [HF.out.1, HF.out.2]
        exact ⟨rfl, rfl⟩
    · go_upto_region 10 with (fail)
      generalize hq1 : (m : Int) / 16384 = q1
      have hp : 0 ≤ q1 := by omega
      have HQ1 := Lib.hid hq1
      clear hq1
      by_cases hq2 : 2147483647 < q1
      · have HF : Hid (s = 0 ∧ f = 14) := by
          have := HS2.out
          rw [dotEnd, if_neg (by omega : ¬ 8192 ≤ m % 16384), if_pos (by have := HQ1.out; omega)] at this
          simp at this
          exact ⟨this.1.symm, this.2.symm⟩
        go_wp2_with fail
        go_ret2
        rw [HF.out.1, HF.out.2]
        exact ⟨rfl, rfl⟩
      · have HF : Hid (s = q1 ∧ f = 0) := by
          have := HS2.out
          rw [dotEnd, if_neg (by omega : ¬ 8192 ≤ m % 16384), if_neg (by have := HQ1.out; omega)] at this
          simp at this
          have h2 := HQ1.out
          exact ⟨by omega, this.2.symm⟩
        go_wp2_with fail
        go_ret2
        rw [HF.out.1, HF.out.2]
        exact ⟨rfl, rfl⟩

set_option maxHeartbeats 1000000 in
theorem refdot_any (ax ay bx by' s f : Int) (w : World) (HS : Hid (dotOr ax ay bx by' = (s, f))) :
    Calls Try.prog 46 #[.int .i64 ax, .int .i64 ay, .int .i64 bx, .int .i64 by'] w fun e w' => e = .returned (.tuple #[.int .i64 s, .int .i64 f]) ∧ w = w' := by
  cases h : fixAll [ax, ay, bx, by']
  · have HF : Hid (s = 0 ∧ f = 14) := by
      have := HS.out
      rw [dotOr, h] at this
      simp at this
      exact ⟨this.1.symm, this.2.symm⟩
    have HA := Lib.hid h
    clear h
    go_enter Try.func46, Try.ntmps46
    go_wp2_with fail
    refine (fix_any ax _).mono ?_
    rintro e w1 ⟨rfl, rfl⟩
    cases h1 : fixB ax
    · clear h1
      go_wp2_with fail
      go_ret2
      rw [HF.out.1, HF.out.2]
      exact ⟨rfl, rfl⟩
    · have H1 := Lib.hid h1
      clear h1
      go_wp2_with fail
      refine (fix_any ay _).mono ?_
      rintro e w1 ⟨rfl, rfl⟩
      cases h1 : fixB ay
      · clear h1
        go_wp2_with fail
        go_ret2
        rw [HF.out.1, HF.out.2]
        exact ⟨rfl, rfl⟩
      · have H2 := Lib.hid h1
        clear h1
        go_wp2_with fail
        refine (fix_any bx _).mono ?_
        rintro e w1 ⟨rfl, rfl⟩
        cases h1 : fixB bx
        · clear h1
          go_wp2_with fail
          go_ret2
          rw [HF.out.1, HF.out.2]
          exact ⟨rfl, rfl⟩
        · have H3 := Lib.hid h1
          clear h1
          go_wp2_with fail
          refine (fix_any by' _).mono ?_
          rintro e w1 ⟨rfl, rfl⟩
          rw [show fixB by' = false from by have := HA.out; simpa [fixAll, H1.out, H2.out, H3.out] using this]
          go_wp2_with fail
          go_ret2
          rw [HF.out.1, HF.out.2]
          exact ⟨rfl, rfl⟩
  · have hs : mulDiv (ax * bx + ay * by') 1 16384 = (s, f) := by
      have := HS.out
      rw [dotOr, h, if_pos rfl] at this
      exact this
    rw [dotEnd_eq] at hs
    simp [fixAll] at h
    obtain ⟨f1, f2, f3, f4⟩ := h
    have m1 := mul_bound (fixB_true f1).1 (fixB_true f1).2 (fixB_true f3).1 (fixB_true f3).2
    have m2 := mul_bound (fixB_true f2).1 (fixB_true f2).2 (fixB_true f4).1 (fixB_true f4).2
    exact refdot_ok ax ay bx by' _ s f w f1 f2 f3 f4 (by unfold Hid wrap64; omega) (by omega) (by omega) hs

end Go.Proofs.Ythjhekmlhmljlaa
