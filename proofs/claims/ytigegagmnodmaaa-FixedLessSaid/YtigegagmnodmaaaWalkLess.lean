/-
  The walk of FixedLess: it answers true at every two pairs of integers, in every world, and changes nothing that was there.
-/
import Derived.Test.YtigegagmnodmaaaLessD
import Derived.OpenShut
namespace Go.Proofs.Ytigegagmnodmaaa.fixedLess
open Go.RowKit Go.Lib
set_option linter.unusedSimpArgs false
set_option linter.unusedVariables false

set_option maxRecDepth 100000 in
set_option maxHeartbeats 2000000 in
theorem walk0 (a b c d : Int) (x y : Bool) (w : World) (A : I64 a) (B : I64 b) (C : I64 c) (D : I64 d) (HX : Hid (lessQ a b c d = x)) (HY : Hid (lessQ c d a b = y)) (HXY : Hid ((x && y) = false)) (HP : Hid (¬ (0 < b ∧ 0 < d) → x = false ∧ y = false)) :
    Calls Try.prog 9 #[.agg #[.int .i64 a, .int .i64 b], .agg #[.int .i64 c, .int .i64 d]] w fun e w' => e = .returned (.bool true) ∧ Below w.heap.size w w' := by
  go_enter Try.func9, Try.ntmps9
  go_wp2_with fail
  refine (alive_any _).mono ?_
  rintro e w1 ⟨rfl, hb⟩
  have c0 := hb.cell (p := ⟨w.heap.size, 0, none⟩) (by simp; omega)
  have c1 := hb.cell (p := ⟨w.heap.size, 1, none⟩) (by simp; omega)
  have c2 := hb.cell (p := ⟨w.heap.size + 1, 0, none⟩) (by simp)
  have c3 := hb.cell (p := ⟨w.heap.size + 1, 1, none⟩) (by simp)
  simp [go_sem] at c0 c1 c2 c3
  have HB : Hid (Below w.heap.size w w1) := (((Below.refl _ _).alloc (Nat.le_refl _) _).alloc (by simp) _).trans (hb.mono (by simp; omega))
  clear hb
  go_wp2_with fail
  go_quiet (fail)
  clear c0 c1 c2 c3
  go_wp2_with fail
  refine (less_any a b c d x _ A B C D HX).mono ?_
  rintro e w2 ⟨rfl, hb2⟩
  go_wp2_with fail
  refine (less_any c d a b y _ C D A B HY).mono ?_
  rintro e w3 ⟨rfl, hb3⟩
  go_wp2_with fail
  refine (refless_any a b c d x _ A B C D HX).mono ?_
  rintro e w4 ⟨rfl, hb4⟩
  have HBB : Hid (Below w.heap.size w w4) := ((((below_drewN HB.out _).trans (hb2.mono (by have := HB.out.size; simpa using this)))).trans (hb3.mono (by have := HB.out.size; have := hb2.size; simp at this; omega))).trans (hb4.mono (by have := HB.out.size; have := hb2.size; have := hb3.size; simp at *; omega))
  clear hb2 hb3 hb4
  by_cases hbd : 0 < b ∧ 0 < d
  · obtain ⟨h1, h2⟩ := hbd
    cases x
    · cases y
      all_goals
        go_wp2_with fail
        go_ret
        exact ⟨rfl, HBB.out⟩
    · cases y
      · go_wp2_with fail
        go_ret
        exact ⟨rfl, HBB.out⟩
      · exact absurd HXY.out (by decide)
  · obtain ⟨rfl, rfl⟩ := HP.out hbd
    by_cases h1 : 0 < b
    · have h2 : ¬ 0 < d := fun h => hbd ⟨h1, h⟩
      clear hbd
      go_wp2_with fail
      go_ret
      exact ⟨rfl, HBB.out⟩
    · clear hbd
      go_wp2_with fail
      go_ret
      exact ⟨rfl, HBB.out⟩

theorem walk (a b c d : Int) (w : World) (w0 : (Lit.int .i64 a).wf = true ∧ (Lit.int .i64 b).wf = true) (w1 : (Lit.int .i64 c).wf = true ∧ (Lit.int .i64 d).wf = true) :
    Calls Try.prog 9 #[.agg #[.int .i64 a, .int .i64 b], .agg #[.int .i64 c, .int .i64 d]] w fun e w' => e = .returned (.bool true) ∧ Below w.heap.size w w' := by
  refine walk0 a b c d _ _ w (bounds_i64 w0.1) (bounds_i64 w0.2) (bounds_i64 w1.1) (bounds_i64 w1.2) rfl rfl ?_ ?_
  · unfold Hid lessQ
    rw [Bool.and_eq_false_iff]
    by_cases h : a * d < c * b
    · right; simp; omega
    · left; simp; omega
  · intro h
    unfold lessQ
    constructor
    · simp; omega
    · simp; omega
end Go.Proofs.Ytigegagmnodmaaa.fixedLess
