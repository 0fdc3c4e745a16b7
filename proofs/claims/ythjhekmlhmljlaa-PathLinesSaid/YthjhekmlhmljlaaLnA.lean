/-
  A contour of knots on the curve alone is its own polygon (over lists).
-/
import Derived.Test.YthjhekmlhmljlaaPtA
namespace Go.Proofs.Ythjhekmlhmljlaa
set_option linter.unusedVariables false

/-- A point as a knot on the curve. -/
def onK (p : Sp) : Kn := ⟨p.x, p.y, 1⟩
theorem onK_sp (p : Sp) : (onK p).sp = p := rfl
theorem arcs_on (st : Sp) : ∀ l : List Sp, arcsL st (l.map onK) = some (l.map (fun p => ⟨[], p⟩), false)
  | [] => rfl
  | p :: l => by
    have h : arc1 st ((p :: l).map onK) = some (⟨[], p⟩, l.map onK, false) := by
      rw [List.map_cons]; unfold arc1; simp [onK, Kn.sp]
    rw [arcsL_some h, arcs_on st l]
    rfl
theorem pts_on : ∀ (s : Sp) (l : List Sp), ptsL s (l.map (fun p => (⟨[], p⟩ : Arc))) = l
  | s, [] => rfl
  | s, p :: l => by rw [List.map_cons, ptsL, pts_on p l]; rfl
theorem poly_on (l : List Sp) : polyL (l.map onK) = some l := by
  cases l with
  | nil => rfl
  | cons p l =>
    have h : begunL ((p :: l).map onK) = some (p, l.map onK) := by simp [begunL, firstOn, onK, Kn.sp]
    rw [List.map_cons] at h ⊢
    simp only [polyL, h, arcs_on p l]
    simp [ringL, pts_on]
theorem flat_on (l : List Sp) : flatL [l.map onK] = some [l] := by
  unfold flatL; rw [poly_on]; rfl
theorem check_on (l : List Sp) (hl : l.length ≤ 4096) (hf : ∀ p ∈ l, fixB p.x = true ∧ fixB p.y = true) : checkE [l.map onK] = 0 := by
  have h1 : manyB [l.map onK] = false := by simp [manyB, totalL]; omega
  have h2 : ([l.map onK].all fun c => c.all kindB) = true := by simp [kindB, onK]
  have h3 : ([l.map onK].all fun c => c.all fixK) = true := by
    simp [fixK, onK]
    exact fun p hp => hf p hp
  unfold checkE
  rw [h1, h2, h3]
  rfl

end Go.Proofs.Ythjhekmlhmljlaa
