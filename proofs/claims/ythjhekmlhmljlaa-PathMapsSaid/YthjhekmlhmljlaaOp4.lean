/-
  Opening an argument of type [4]int.
-/
import Derived.Test.YthjhekmlhmljlaaRows
import Derived.Test.YthjhekmlhmljlaaMq
import Derived.WalkKit
import Derived.ProofKit
import Derived.OpenShut
import Derived.ChangeOld
namespace Go.Proofs.Ythjhekmlhmljlaa
open Go.ChangeShapes Go.WideShapes Go.ChangeAt Go.RowKit

theorem open_four {H : Type} {enc : TypeId × Value → H} {P : Program} {w : World} {r : Reach} {b0 base : Nat} {spare : Nat → Bool} {held : Bool} {t e : TypeId} {v : Value} {d : DataW H} {p : List MemPlace}
    (ht : P.underlying t = some (.array 4 e)) (he : P.underlying e = some (.int .i64)) (hct : P.cellsOf t = 4) (hce : P.cellsOf e = 1)
    (hv : Value.okWide P w r b0 t v) (h : DataW.Trod enc P w base spare held t v d p) :
    ∃ x y z u : Int, v = .agg #[.int .i64 x, .int .i64 y, .int .i64 z, .int .i64 u] ∧ I64 x ∧ I64 y ∧ I64 z ∧ I64 u := by
  obtain ⟨cs, rfl, hsz, _⟩ : ∃ cs, v = .agg cs ∧ cs.size = P.cellsOf t ∧ Row.okWide P w r b0 t cs := by simpa [Value.okWide, ht] using hv
  rw [hct] at hsz
  obtain ⟨l⟩ := cs
  match l, hsz with
  | [c0, c1, c2, c3], _ =>
    obtain ⟨fuel, hf⟩ := h
    obtain ⟨xs, m, _, _, _, hl, hel⟩ := DataW.trod_array ht hf
    match xs, hl with
    | [y0, y1, y2, y3], _ =>
      have h0 := hel 0 (by omega)
      have h1 := hel 1 (by omega)
      have h2 := hel 2 (by omega)
      have h3 := hel 3 (by omega)
      rw [hce] at h0 h1 h2 h3
      obtain ⟨x0, e0, _, w0⟩ := DataW.trod_int he (by simpa using h0)
      obtain ⟨x1, e1, _, w1⟩ := DataW.trod_int he (by simpa using h1)
      obtain ⟨x2, e2, _, w2⟩ := DataW.trod_int he (by simpa using h2)
      obtain ⟨x3, e3, _, w3⟩ := DataW.trod_int he (by simpa using h3)
      simp [Value.cells] at e0 e1 e2 e3
      subst e0 e1 e2 e3
      exact ⟨x0, x1, x2, x3, rfl, wf_64 w0, wf_64 w1, wf_64 w2, wf_64 w3⟩
end Go.Proofs.Ythjhekmlhmljlaa
