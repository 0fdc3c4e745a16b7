/-
  The document's Copy: the outline in memory of its own.
-/
import Derived.Test.YthjhekmlhmljlaaFlC
import Derived.Test.YthjhekmlhmljlaaPtM
namespace Go.Proofs.Ythjhekmlhmljlaa
open Go.RowKit Go.PlainAid
set_option linter.unusedSimpArgs false
set_option linter.unusedVariables false

theorem belGrown {B : Nat} {w a b : World} {g : Nat} (h : Below B w a) (k : a.grownBy b (some g)) (hg : B ≤ g) (hB : B ≤ a.heap.size) : Below B w b :=
  ⟨k.os.trans h.os, k.tape.trans h.tape, k.output.trans h.output, Nat.le_trans h.size k.size, fun i hi => (k.block i (by omega) (fun e => by cases e; omega)).trans (h.block i hi)⟩

/-- Rows in memory from B on, each of its own, and none of them in the block g. -/
def RowsOwn (w : World) (B g : Nat) (vs : List Value) (O : List (List Kn)) : Prop := vs.length = O.length ∧ ∀ (i : Nat) (c : List Kn), O[i]? = some c → ∃ gi ci, vs[i]? = some (.slice (some ⟨gi, 0, none⟩) c.length ci) ∧ gi ≠ g ∧ w.ownsRow B 37 3 (.slice (some ⟨gi, 0, none⟩) c.length ci) c.length (c.flatMap clK)
theorem RowsOwn.below {w w' : World} {B g : Nat} {vs : List Value} {O : List (List Kn)} (h : RowsOwn w B g vs O) (k : Below w.heap.size w w') : RowsOwn w' B g vs O := by
  refine ⟨h.1, fun i c hc => ?_⟩
  obtain ⟨gi, ci, h1, h2, h3⟩ := h.2 i c hc
  exact ⟨gi, ci, h1, h2, own_below h3 k⟩
theorem RowsOwn.grown {w w' : World} {B g g' : Nat} {vs : List Value} {O : List (List Kn)} (h : RowsOwn w B g vs O) (k : w.grownBy w' (some g)) (hg : g' = g ∨ g' = w.heap.size) : RowsOwn w' B g' vs O := by
  refine ⟨h.1, fun i c hc => ?_⟩
  obtain ⟨gi, ci, h1, h2, h3⟩ := h.2 i c hc
  have hlt := (ownsRow_cap h3).2.2
  refine ⟨gi, ci, h1, by rcases hg with rfl | rfl <;> omega, own_keep h3 fun x hx => ?_⟩
  have : x = gi := by simpa [Value.ownBlock] using hx.symm
  subst this
  exact k.block x hlt (fun e => h2 (by cases e; rfl))
theorem RowsOwn.snoc {w : World} {B g : Nat} {vs : List Value} {O : List (List Kn)} (h : RowsOwn w B g vs O) {gi ci : Nat} {c : List Kn} (hg : gi ≠ g) (ho : w.ownsRow B 37 3 (.slice (some ⟨gi, 0, none⟩) c.length ci) c.length (c.flatMap clK)) :
    RowsOwn w B g (vs ++ [.slice (some ⟨gi, 0, none⟩) c.length ci]) (O ++ [c]) := by
  refine ⟨by simp [h.1], fun i d hd => ?_⟩
  by_cases hi : i < O.length
  · rw [List.getElem?_append_left hi] at hd
    obtain ⟨g2, c2, h1, h2, h3⟩ := h.2 i d hd
    exact ⟨g2, c2, by rw [List.getElem?_append_left (by rw [h.1]; exact hi)]; exact h1, h2, h3⟩
  · rw [List.getElem?_append_right (by omega)] at hd
    have hi2 : i - O.length = 0 := by have := (List.getElem?_eq_some_iff.1 hd).1; simp at this; omega
    rw [hi2] at hd
    have e : c = d := by simpa using hd
    subst e
    exact ⟨gi, ci, by rw [List.getElem?_append_right (by rw [h.1]; omega), h.1, hi2]; rfl, hg, ho⟩

end Go.Proofs.Ythjhekmlhmljlaa
