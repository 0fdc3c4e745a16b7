/-
  What Less of package fixed and Less of the document's answer give, as contracts over the translated program: the exact order of two quotients with divisors above 0, else false.
-/
import Derived.Test.YtigegagmnodmaaaLessC
namespace Go.Proofs.Ytigegagmnodmaaa
open Go.RowKit Go.Lib
set_option linter.unusedSimpArgs false
set_option linter.unusedVariables false

/-- An integer of 64 bits. -/
def I64 (n : Int) : Prop := -9223372036854775808 ≤ n ∧ n ≤ 9223372036854775807

set_option maxHeartbeats 400000 in
theorem less_any (a b c d : Int) (r : Bool) (w : World) (A : I64 a) (B : I64 b) (C : I64 c) (D : I64 d) (HR : Hid (lessQ a b c d = r)) :
    Calls Try.prog 23 #[.int .i64 a, .int .i64 b, .int .i64 c, .int .i64 d] w fun e w' => e = .returned (.bool r) ∧ Below w.heap.size w w' := by
  by_cases hb : b ≤ 0
  · have HF : Hid (r = false) := by rw [← HR.out]; simp [Hid, lessQ]; omega
    go_enter Try.func23, Try.ntmps23
    go_wp2
    go_ret
    rw [HF.out]
    exact ⟨rfl, Below.refl _ _⟩
  · by_cases hd : d ≤ 0
    · have HF : Hid (r = false) := by rw [← HR.out]; simp [Hid, lessQ]; omega
      go_enter Try.func23, Try.ntmps23
      go_wp2
      go_ret
      rw [HF.out]
      exact ⟨rfl, Below.refl _ _⟩
    · have hF : decide (a * d < c * b) = r := by
        rw [← HR.out, lessQ]
        by_cases h : a * d < c * b
        · simp [h]; omega
        · simp [h]
      obtain ⟨h1, HH1⟩ : ∃ h, Hid (a.natAbs * d.natAbs / 18446744073709551616 = h) := ⟨_, rfl⟩
      obtain ⟨l1, HL1⟩ : ∃ h, Hid (a.natAbs * d.natAbs % 18446744073709551616 = h) := ⟨_, rfl⟩
      obtain ⟨h2, HH2⟩ : ∃ h, Hid (c.natAbs * b.natAbs / 18446744073709551616 = h) := ⟨_, rfl⟩
      obtain ⟨l2, HL2⟩ : ∃ h, Hid (c.natAbs * b.natAbs % 18446744073709551616 = h) := ⟨_, rfl⟩
      have HF : Hid (wideLt (prodNeg a d) h1 l1 (prodNeg c b) h2 l2 = r) := by
        rw [← HH1.out, ← HL1.out, ← HH2.out, ← HL2.out, wideLt_eq]; exact hF
      clear hF
      go_enter Try.func23, Try.ntmps23
      go_wp2_with fail
      refine (product_core a d h1 l1 _ A.1 A.2 D.1 D.2 HH1 HL1).mono ?_
      rintro e w1 ⟨rfl, hb1⟩
      go_wp2_with fail
      refine (product_core c b h2 l2 _ C.1 C.2 B.1 B.2 HH2 HL2).mono ?_
      rintro e w2 ⟨rfl, hb2⟩
      go_wp2_with fail
      refine (wideless_any _ _ h1 l1 h2 l2 _).mono ?_
      rintro e w3 ⟨rfl, hb3⟩
      rw [HF.out]
      go_wp2_with fail
      go_ret
      exact ⟨rfl, (hb1.trans (hb2.mono hb1.size)).trans (hb3.mono (Nat.le_trans hb1.size hb2.size))⟩

theorem natAbs_small {n : Int} (h : I64 n) : n.natAbs < 65536 ^ 5 := by have := h.1; have := h.2; omega
theorem mul_small {x y : Nat} (hx : x < 65536 ^ 5) (hy : y < 65536 ^ 5) : x * y < 65536 ^ 10 := by
  have := Nat.mul_lt_mul'' hx hy
  rw [← Nat.pow_add] at this
  exact this

theorem lessQ_neg (a b c d : Int) (hb : 0 < b) (hd : 0 < d) (ha : a < 0) (hc : c < 0) : decide (c.natAbs * b.natAbs < a.natAbs * d.natAbs) = lessQ a b c d := by
  have h1 := Int.mul_neg_of_neg_of_pos ha hd
  have h2 := Int.mul_neg_of_neg_of_pos hc hb
  unfold lessQ
  rw [← Int.natAbs_mul, ← Int.natAbs_mul, Bool.eq_iff_iff]
  simp only [decide_eq_true_eq]
  omega
theorem lessQ_pos (a b c d : Int) (hb : 0 < b) (hd : 0 < d) (ha : 0 ≤ a) (hc : 0 ≤ c) : decide (a.natAbs * d.natAbs < c.natAbs * b.natAbs) = lessQ a b c d := by
  have h1 := Int.mul_nonneg ha (Int.le_of_lt hd)
  have h2 := Int.mul_nonneg hc (Int.le_of_lt hb)
  unfold lessQ
  rw [← Int.natAbs_mul, ← Int.natAbs_mul, Bool.eq_iff_iff]
  simp only [decide_eq_true_eq]
  omega

set_option maxRecDepth 100000 in
set_option maxHeartbeats 2000000 in
theorem refless_neg (a b c d : Int) (r : Bool) (w : World) (A : I64 a) (B : I64 b) (C : I64 c) (D : I64 d) (hb : 0 < b) (hd : 0 < d) (HR : Hid (lessQ a b c d = r)) (ha : a < 0) (hc : c < 0) :
    Calls Try.prog 24 #[.int .i64 a, .int .i64 b, .int .i64 c, .int .i64 d] w fun e w' => e = .returned (.bool r) ∧ Below w.heap.size w w' := by
  have HF : Hid (decide (c.natAbs * b.natAbs < a.natAbs * d.natAbs) = r) := by
    rw [← HR.out]
    exact lessQ_neg a b c d hb hd ha hc
  have P1 := Lib.hid (mul_small (natAbs_small A) (natAbs_small D))
  have P2 := Lib.hid (mul_small (natAbs_small C) (natAbs_small B))
  go_enter Try.func24, Try.ntmps24
  go_wp2_with fail
  refine (size_any a _ _ A.1 A.2 rfl).mono ?_
  rintro e w1 ⟨rfl, hb1⟩
  go_wp2_with fail
  refine (size_any d _ _ D.1 D.2 rfl).mono ?_
  rintro e w2 ⟨rfl, hb2⟩
  go_wp2_with fail
  refine (times_any a.natAbs d.natAbs _ (natAbs_small A) (natAbs_small D)).mono ?_
  rintro e w3 ⟨rfl, hb3⟩
  go_wp2_with fail
  refine (size_any c _ _ C.1 C.2 rfl).mono ?_
  rintro e w4 ⟨rfl, hb4⟩
  go_wp2_with fail
  refine (size_any b _ _ B.1 B.2 rfl).mono ?_
  rintro e w5 ⟨rfl, hb5⟩
  go_wp2_with fail
  refine (times_any c.natAbs b.natAbs _ (natAbs_small C) (natAbs_small B)).mono ?_
  rintro e w6 ⟨rfl, hb6⟩
  have HB : Hid (Below w.heap.size w w6) := ((((hb1.trans (hb2.mono hb1.size)).trans (hb3.mono (Nat.le_trans hb1.size hb2.size))).trans (hb4.mono (Nat.le_trans (Nat.le_trans hb1.size hb2.size) hb3.size))).trans (hb5.mono (Nat.le_trans (Nat.le_trans (Nat.le_trans hb1.size hb2.size) hb3.size) hb4.size))).trans (hb6.mono (Nat.le_trans (Nat.le_trans (Nat.le_trans (Nat.le_trans hb1.size hb2.size) hb3.size) hb4.size) hb5.size))
  clear hb1 hb2 hb3 hb4 hb5 hb6
  simp only [longV]
  go_wp2_with fail
  refine (under_any (c.natAbs * b.natAbs) (a.natAbs * d.natAbs) _ P2.out P1.out).mono ?_
  rintro e w7 ⟨rfl, hb7⟩
  rw [HF.out]
  go_wp2_with fail
  go_ret
  refine ⟨rfl, ((HB.out.alloc HB.out.size _).alloc (by have := HB.out.size; simp; omega) _).trans (hb7.mono ?_)⟩
  have := HB.out.size
  simp
  omega

set_option maxRecDepth 100000 in
set_option maxHeartbeats 2000000 in
theorem refless_pos (a b c d : Int) (r : Bool) (w : World) (A : I64 a) (B : I64 b) (C : I64 c) (D : I64 d) (hb : 0 < b) (hd : 0 < d) (HR : Hid (lessQ a b c d = r)) (ha : 0 ≤ a) (hc : 0 ≤ c) :
    Calls Try.prog 24 #[.int .i64 a, .int .i64 b, .int .i64 c, .int .i64 d] w fun e w' => e = .returned (.bool r) ∧ Below w.heap.size w w' := by
  have HF : Hid (decide (a.natAbs * d.natAbs < c.natAbs * b.natAbs) = r) := by
    rw [← HR.out]
    exact lessQ_pos a b c d hb hd ha hc
  have P1 := Lib.hid (mul_small (natAbs_small A) (natAbs_small D))
  have P2 := Lib.hid (mul_small (natAbs_small C) (natAbs_small B))
  go_enter Try.func24, Try.ntmps24
  go_wp2_with fail
  refine (size_any a _ _ A.1 A.2 rfl).mono ?_
  rintro e w1 ⟨rfl, hb1⟩
  go_wp2_with fail
  refine (size_any d _ _ D.1 D.2 rfl).mono ?_
  rintro e w2 ⟨rfl, hb2⟩
  go_wp2_with fail
  refine (times_any a.natAbs d.natAbs _ (natAbs_small A) (natAbs_small D)).mono ?_
  rintro e w3 ⟨rfl, hb3⟩
  go_wp2_with fail
  refine (size_any c _ _ C.1 C.2 rfl).mono ?_
  rintro e w4 ⟨rfl, hb4⟩
  go_wp2_with fail
  refine (size_any b _ _ B.1 B.2 rfl).mono ?_
  rintro e w5 ⟨rfl, hb5⟩
  go_wp2_with fail
  refine (times_any c.natAbs b.natAbs _ (natAbs_small C) (natAbs_small B)).mono ?_
  rintro e w6 ⟨rfl, hb6⟩
  have HB : Hid (Below w.heap.size w w6) := ((((hb1.trans (hb2.mono hb1.size)).trans (hb3.mono (Nat.le_trans hb1.size hb2.size))).trans (hb4.mono (Nat.le_trans (Nat.le_trans hb1.size hb2.size) hb3.size))).trans (hb5.mono (Nat.le_trans (Nat.le_trans (Nat.le_trans hb1.size hb2.size) hb3.size) hb4.size))).trans (hb6.mono (Nat.le_trans (Nat.le_trans (Nat.le_trans (Nat.le_trans hb1.size hb2.size) hb3.size) hb4.size) hb5.size))
  clear hb1 hb2 hb3 hb4 hb5 hb6
  simp only [longV]
  go_wp2_with fail
  refine (under_any (a.natAbs * d.natAbs) (c.natAbs * b.natAbs) _ P1.out P2.out).mono ?_
  rintro e w7 ⟨rfl, hb7⟩
  rw [HF.out]
  go_wp2_with fail
  go_ret
  refine ⟨rfl, ((HB.out.alloc HB.out.size _).alloc (by have := HB.out.size; simp; omega) _).trans (hb7.mono ?_)⟩
  have := HB.out.size
  simp
  omega

set_option maxHeartbeats 400000 in
theorem refless_any (a b c d : Int) (r : Bool) (w : World) (A : I64 a) (B : I64 b) (C : I64 c) (D : I64 d) (HR : Hid (lessQ a b c d = r)) :
    Calls Try.prog 24 #[.int .i64 a, .int .i64 b, .int .i64 c, .int .i64 d] w fun e w' => e = .returned (.bool r) ∧ Below w.heap.size w w' := by
  by_cases hb : b ≤ 0
  · have HF : Hid (r = false) := by rw [← HR.out]; simp [Hid, lessQ]; omega
    go_enter Try.func24, Try.ntmps24
    go_wp2
    go_ret
    rw [HF.out]
    exact ⟨rfl, Below.refl _ _⟩
  · by_cases hd : d ≤ 0
    · have HF : Hid (r = false) := by rw [← HR.out]; simp [Hid, lessQ]; omega
      go_enter Try.func24, Try.ntmps24
      go_wp2
      go_ret
      rw [HF.out]
      exact ⟨rfl, Below.refl _ _⟩
    · by_cases ha : a < 0
      · by_cases hc : c < 0
        · exact refless_neg a b c d r w A B C D (by omega) (by omega) HR ha hc
        · have HF : Hid (r = true) := by
            rw [← HR.out, Hid, lessQ]
            have h1 := Int.mul_neg_of_neg_of_pos ha (by omega : 0 < d)
            have h2 := Int.mul_nonneg (by omega : 0 ≤ c) (by omega : 0 ≤ b)
            simp; omega
          have hc0 : 0 ≤ c := by omega
          go_enter Try.func24, Try.ntmps24
          go_wp2
          go_ret
          rw [HF.out]
          exact ⟨rfl, Below.refl _ _⟩
      · by_cases hc : c < 0
        · have HF : Hid (r = false) := by
            rw [← HR.out, Hid, lessQ]
            have h1 := Int.mul_nonneg (by omega : 0 ≤ a) (by omega : 0 ≤ d)
            have h2 := Int.mul_neg_of_neg_of_pos hc (by omega : 0 < b)
            simp; omega
          have ha0 : 0 ≤ a := by omega
          go_enter Try.func24, Try.ntmps24
          go_wp2
          go_ret
          rw [HF.out]
          exact ⟨rfl, Below.refl _ _⟩
        · exact refless_pos a b c d r w A B C D (by omega) (by omega) HR (by omega) (by omega)

end Go.Proofs.Ytigegagmnodmaaa
