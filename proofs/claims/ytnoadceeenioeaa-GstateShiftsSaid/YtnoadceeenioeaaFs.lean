/-
  What Check, Add, Sub of package fixed and Fix of the document's answer give, as contracts over the translated program, for all integers of 64 bits.
-/
import Derived.Test.YtnoadceeenioeaaFxLow
import Derived.Test.YtnoadceeenioeaaBase
namespace Go.Proofs.Ytnoadceeenioeaa
open Go.RowKit Go.Lib
set_option linter.unusedSimpArgs false
set_option linter.unusedVariables false

theorem fixB_true {n : Int} (h : fixB n = true) : -2147483647 ≤ n ∧ n ≤ 2147483647 := by simpa [fixB] using h

theorem fixB_false {n : Int} (h : fixB n = false) : ¬ (-2147483647 ≤ n ∧ n ≤ 2147483647) := by simpa [fixB] using h

/-- a and b, or refused. -/
def sumOr (a b : Int) : Int × Int := if (fixB a && fixB b && fixB (a + b)) = true then (a + b, 0) else (0, 14)

/-- allFix of one number in new memory. -/
theorem allFix_one (n : Int) (w : World) (b : Nat) (hc : w.cell? ⟨b, 0, none⟩ = some (.int .i64 n)) :
    Calls Try.prog 44 #[.slice (some ⟨b, 0, none⟩) 1 1] w fun e w' => e = .returned (.bool (fixB n)) ∧ w = w' := by
  have h := allFix_any b 1 1 [n] w rfl (by omega) (by intro j hj; have : j = 0 := by simpa using hj
                                                      subst this; simpa using hc)
  simpa [fixAll] using h

/-- allFix of two numbers. -/
theorem allFix_two (n m : Int) (w : World) (b : Nat) (hc : w.cell? ⟨b, 0, none⟩ = some (.int .i64 n)) (hc1 : w.cell? ⟨b, 1, none⟩ = some (.int .i64 m)) :
    Calls Try.prog 44 #[.slice (some ⟨b, 0, none⟩) 2 2] w fun e w' => e = .returned (.bool (fixB n && fixB m)) ∧ w = w' := by
  have h := allFix_any b 2 2 [n, m] w rfl (by omega) (by
    intro j hj
    have : j = 0 ∨ j = 1 := by simp at hj; omega
    rcases this with rfl | rfl
    · simpa using hc
    · simpa using hc1)
  simpa [fixAll] using h

set_option maxHeartbeats 400000 in
theorem fix_any (n : Int) (w : World) :
    Calls Try.prog 12 #[.int .i64 n] w fun e w' => e = .returned (.bool (fixB n)) ∧ w = w' := by
  by_cases h1 : -2147483647 ≤ n
  · by_cases h2 : n ≤ 2147483647
    · have HF : Hid (fixB n = true) := by simp [Hid, fixB]; omega
      go_enter Try.func12, Try.ntmps12
      go_wp2
      go_ret
      exact ⟨by rw [HF.out]; rfl, rfl⟩
    · have HF : Hid (fixB n = false) := by simp [Hid, fixB]; omega
      go_enter Try.func12, Try.ntmps12
      go_wp2
      go_ret
      exact ⟨by rw [HF.out]; rfl, rfl⟩
  · have HF : Hid (fixB n = false) := by simp [Hid, fixB]; omega
    go_enter Try.func12, Try.ntmps12
    go_wp2
    go_ret
    exact ⟨by rw [HF.out]; rfl, rfl⟩

set_option maxHeartbeats 400000 in
theorem check_yes (n : Int) (H : Hid (fixB n = true)) (w : World) :
    Calls Try.prog 28 #[.int .i64 n] w fun e w' => e = .returned (.int .i64 0) ∧ Below w.heap.size w w' := by
  go_enter Try.func28, Try.ntmps28
  go_wp2_with fail
  refine (allFix_one n _ w.heap.size (by go_simp)).mono ?_
  rintro e w1 ⟨rfl, rfl⟩
  rw [H.out]
  go_wp2_with fail
  go_ret
  exact ⟨rfl, (Below.refl _ _).alloc (Nat.le_refl _) _⟩

set_option maxHeartbeats 400000 in
theorem check_no (n : Int) (H : Hid (fixB n = false)) (w : World) :
    Calls Try.prog 28 #[.int .i64 n] w fun e w' => e = .returned (.int .i64 14) ∧ Below w.heap.size w w' := by
  go_enter Try.func28, Try.ntmps28
  go_wp2_with fail
  refine (allFix_one n _ w.heap.size (by go_simp)).mono ?_
  rintro e w1 ⟨rfl, rfl⟩
  rw [H.out]
  go_wp2_with fail
  go_ret
  exact ⟨rfl, (Below.refl _ _).alloc (Nat.le_refl _) _⟩

set_option maxHeartbeats 400000 in
theorem add_any (a b s f : Int) (w : World) (HS : Hid (sumOr a b = (s, f))) :
    Calls Try.prog 57 #[.int .i64 a, .int .i64 b] w fun e w' => e = .returned (.tuple #[.int .i64 s, .int .i64 f]) ∧ Below w.heap.size w w' := by
  by_cases h : (fixB a && fixB b) = true
  · have ha := fixB_true (Bool.and_eq_true_iff.1 h).1
    have hb := fixB_true (Bool.and_eq_true_iff.1 h).2
    have H := Lib.hid h
    clear h
    obtain ⟨a1, a2⟩ := ha
    obtain ⟨b1, b2⟩ := hb
    go_enter Try.func57, Try.ntmps57
    go_wp2_with fail
    refine (allFix_two a b _ w.heap.size (by go_simp) (by go_simp)).mono ?_
    rintro e w1 ⟨rfl, rfl⟩
    rw [H.out]
    go_wp2_with fail
    refine (allFix_one (a + b) _ (w.heap.size + 1) (by go_simp)).mono ?_
    rintro e w1 ⟨rfl, rfl⟩
    cases h2 : fixB (a + b)
    · have HF : Hid (s = 0 ∧ f = 14) := by
        have := HS.out
        rw [sumOr, H.out, h2] at this
        simp at this
        exact ⟨this.1.symm, this.2.symm⟩
      clear h2
      go_wp2_with fail
      go_ret2
      rw [HF.out.1, HF.out.2]
      exact ⟨rfl, ((Below.refl _ _).alloc (Nat.le_refl _) _).alloc (by simp) _⟩
    · have HF : Hid (s = a + b ∧ f = 0) := by
        have := HS.out
        rw [sumOr, H.out, h2] at this
        simp at this
        exact ⟨this.1.symm, this.2.symm⟩
      clear h2
      go_wp2_with fail
      go_ret2
      rw [HF.out.1, HF.out.2]
      exact ⟨rfl, ((Below.refl _ _).alloc (Nat.le_refl _) _).alloc (by simp) _⟩
  · have H : Hid ((fixB a && fixB b) = false) := by simpa [Hid] using h
    have HF : Hid (s = 0 ∧ f = 14) := by
      have := HS.out
      rw [sumOr, H.out] at this
      simp at this
      exact ⟨this.1.symm, this.2.symm⟩
    clear h
    go_enter Try.func57, Try.ntmps57
    go_wp2_with fail
    refine (allFix_two a b _ w.heap.size (by go_simp) (by go_simp)).mono ?_
    rintro e w1 ⟨rfl, rfl⟩
    rw [H.out]
    go_wp2_with fail
    go_ret2
    rw [HF.out.1, HF.out.2]
    exact ⟨rfl, (Below.refl _ _).alloc (Nat.le_refl _) _⟩

/-- a less b, or refused. -/
def subOr (a b : Int) : Int × Int := if (fixB a && fixB b && fixB (a - b)) = true then (a - b, 0) else (0, 14)

set_option maxHeartbeats 400000 in
theorem sub_any (a b s f : Int) (w : World) (HS : Hid (subOr a b = (s, f))) :
    Calls Try.prog 56 #[.int .i64 a, .int .i64 b] w fun e w' => e = .returned (.tuple #[.int .i64 s, .int .i64 f]) ∧ Below w.heap.size w w' := by
  by_cases h : (fixB a && fixB b) = true
  · have ha := fixB_true (Bool.and_eq_true_iff.1 h).1
    have hb := fixB_true (Bool.and_eq_true_iff.1 h).2
    have H := Lib.hid h
    clear h
    obtain ⟨a1, a2⟩ := ha
    obtain ⟨b1, b2⟩ := hb
    go_enter Try.func56, Try.ntmps56
    go_wp2_with fail
    refine (allFix_two a b _ w.heap.size (by go_simp) (by go_simp)).mono ?_
    rintro e w1 ⟨rfl, rfl⟩
    rw [H.out]
    go_wp2_with fail
    refine (allFix_one (a - b) _ (w.heap.size + 1) (by go_simp)).mono ?_
    rintro e w1 ⟨rfl, rfl⟩
    cases h2 : fixB (a - b)
    · have HF : Hid (s = 0 ∧ f = 14) := by
        have := HS.out
        rw [subOr, H.out, h2] at this
        simp at this
        exact ⟨this.1.symm, this.2.symm⟩
      clear h2
      go_wp2_with fail
      go_ret2
      rw [HF.out.1, HF.out.2]
      exact ⟨rfl, ((Below.refl _ _).alloc (Nat.le_refl _) _).alloc (by simp) _⟩
    · have HF : Hid (s = a - b ∧ f = 0) := by
        have := HS.out
        rw [subOr, H.out, h2] at this
        simp at this
        exact ⟨this.1.symm, this.2.symm⟩
      clear h2
      go_wp2_with fail
      go_ret2
      rw [HF.out.1, HF.out.2]
      exact ⟨rfl, ((Below.refl _ _).alloc (Nat.le_refl _) _).alloc (by simp) _⟩
  · have H : Hid ((fixB a && fixB b) = false) := by simpa [Hid] using h
    have HF : Hid (s = 0 ∧ f = 14) := by
      have := HS.out
      rw [subOr, H.out] at this
      simp at this
      exact ⟨this.1.symm, this.2.symm⟩
    clear h
    go_enter Try.func56, Try.ntmps56
    go_wp2_with fail
    refine (allFix_two a b _ w.heap.size (by go_simp) (by go_simp)).mono ?_
    rintro e w1 ⟨rfl, rfl⟩
    rw [H.out]
    go_wp2_with fail
    go_ret2
    rw [HF.out.1, HF.out.2]
    exact ⟨rfl, (Below.refl _ _).alloc (Nat.le_refl _) _⟩

end Go.Proofs.Ytnoadceeenioeaa
