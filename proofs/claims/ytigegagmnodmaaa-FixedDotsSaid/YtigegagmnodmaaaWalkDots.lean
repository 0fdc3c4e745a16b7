/-
  The walk of FixedDots: it answers true at every two pairs of integers, in every world, and changes nothing that was there.
-/
import Derived.Test.YtigegagmnodmaaaDotC
namespace Go.Proofs.Ytigegagmnodmaaa.fixedDots
open Go.RowKit Go.Lib
set_option linter.unusedSimpArgs false
set_option linter.unusedVariables false

set_option maxHeartbeats 1000000 in
theorem walk0 (a b c d s f : Int) (w : World) (HS : Hid (dotOr a b c d = (s, f))) :
    Calls Try.prog 7 #[.agg #[.int .i64 a, .int .i64 b], .agg #[.int .i64 c, .int .i64 d]] w fun e w' => e = .returned (.bool true) ∧ Below w.heap.size w w' := by
  have hss : (s == s) = true := by simp
  have hff : (f == f) = true := by simp
  go_enter Try.func7, Try.ntmps7
  go_wp2_with fail
  refine (alive_any _).mono ?_
  rintro e w1 ⟨rfl, hb⟩
  have c0 := hb.cell (p := ⟨w.heap.size, 0, none⟩) (by simp; omega)
  have c1 := hb.cell (p := ⟨w.heap.size, 1, none⟩) (by simp; omega)
  have c2 := hb.cell (p := ⟨w.heap.size + 1, 0, none⟩) (by simp)
  have c3 := hb.cell (p := ⟨w.heap.size + 1, 1, none⟩) (by simp)
  simp [go_sem] at c0 c1 c2 c3
  have HB : Below w.heap.size w w1 := (((Below.refl _ _).alloc (Nat.le_refl _) _).alloc (by simp) _).trans (hb.mono (by simp; omega))
  have hz := hb.size
  clear hb
  simp at hz
  go_wp2_with fail
  refine (refdot_any a b c d s f _ HS).mono ?_
  rintro e w' ⟨rfl, rfl⟩
  go_wp2_with fail
  refine (dot_any a b c d s f _ HS).mono ?_
  rintro e w2 ⟨rfl, hb2⟩
  go_wp2_with fail
  go_ret
  exact ⟨rfl, HB.trans (hb2.mono (by omega))⟩

theorem walk (a b c d : Int) (w : World) (w0 : (Lit.int .i64 a).wf = true ∧ (Lit.int .i64 b).wf = true) (w1 : (Lit.int .i64 c).wf = true ∧ (Lit.int .i64 d).wf = true) :
    Calls Try.prog 7 #[.agg #[.int .i64 a, .int .i64 b], .agg #[.int .i64 c, .int .i64 d]] w fun e w' => e = .returned (.bool true) ∧ Below w.heap.size w w' :=
  walk0 a b c d _ _ w rfl
end Go.Proofs.Ytigegagmnodmaaa.fixedDots
