/-
  Boxes and points in memory; no function of the program. No conditions but those that each theorem names.
-/
import Derived.Test.YthjhekmlhmljlaaHlA
import Derived.Test.YthjhekmlhmljlaaPtF
import Derived.Test.YthjhekmlhmljlaaPtQ
import Derived.Deep.DeepCutAuto
import Derived.Deep.CutBlock
import Derived.Deep.CutRange
import Derived.Deep.LoopGhost
namespace Go.Proofs.Ythjhekmlhmljlaa
open Go.RowKit Go.PlainAid
set_option linter.unusedSimpArgs false
set_option linter.unusedVariables false

def bxV (b : Bx) : Value := .agg #[.int .i64 b.x0, .int .i64 b.y0, .int .i64 b.x1, .int .i64 b.y1]
/-- A box in the block g. -/
def BoxAt (w : World) (g : Nat) (b : Bx) : Prop := w.heap[g]? = some (.cells #[.int .i64 b.x0, .int .i64 b.y0, .int .i64 b.x1, .int .i64 b.y1] 50 (0, 0))
theorem BoxAt.below {w w' : World} {g : Nat} {b : Bx} (h : BoxAt w g b) (k : Below w.heap.size w w') : BoxAt w' g b := by
  unfold BoxAt; rw [k.block g (Array.getElem?_eq_some_iff.1 h).1]; exact h
theorem BoxAt.lt {w : World} {g : Nat} {b : Bx} (h : BoxAt w g b) : g < w.heap.size := (Array.getElem?_eq_some_iff.1 h).1
theorem BoxAt.cells {w : World} {g : Nat} {b : Bx} (h : BoxAt w g b) : w.cell? ⟨g, 0, none⟩ = some (.int .i64 b.x0) ∧ w.cell? ⟨g, 1, none⟩ = some (.int .i64 b.y0) ∧ w.cell? ⟨g, 2, none⟩ = some (.int .i64 b.x1) ∧ w.cell? ⟨g, 3, none⟩ = some (.int .i64 b.y1) :=
  ⟨by rw [cell_blk h]; rfl, by rw [cell_blk h]; rfl, by rw [cell_blk h]; rfl, by rw [cell_blk h]; rfl⟩
theorem BoxAt.fr {w : World} {g : Nat} {b : Bx} (h : BoxAt w g b) (i : Nat) : w.frozen? ⟨g, i, none⟩ = false := frozen_blk h i
theorem BoxAt.drew {w : World} {g : Nat} {b : Bx} (h : BoxAt w g b) : BoxAt w.drew g b := h
theorem BoxAt.set0 {w : World} {g : Nat} {b : Bx} (h : BoxAt w g b) (v : Int) : BoxAt (w.setCell ⟨g, 0, none⟩ (.int .i64 v)) g ⟨v, b.y0, b.x1, b.y1⟩ := by unfold BoxAt; rw [heap_set h]; rfl
theorem BoxAt.set1 {w : World} {g : Nat} {b : Bx} (h : BoxAt w g b) (v : Int) : BoxAt (w.setCell ⟨g, 1, none⟩ (.int .i64 v)) g ⟨b.x0, v, b.x1, b.y1⟩ := by unfold BoxAt; rw [heap_set h]; rfl
theorem BoxAt.set2 {w : World} {g : Nat} {b : Bx} (h : BoxAt w g b) (v : Int) : BoxAt (w.setCell ⟨g, 2, none⟩ (.int .i64 v)) g ⟨b.x0, b.y0, v, b.y1⟩ := by unfold BoxAt; rw [heap_set h]; rfl
theorem BoxAt.set3 {w : World} {g : Nat} {b : Bx} (h : BoxAt w g b) (v : Int) : BoxAt (w.setCell ⟨g, 3, none⟩ (.int .i64 v)) g ⟨b.x0, b.y0, b.x1, v⟩ := by unfold BoxAt; rw [heap_set h]; rfl
theorem BoxAt.other {w : World} {g : Nat} {b : Bx} (h : BoxAt w g b) {g' i : Nat} {v : Value} (hne : g ≠ g') : BoxAt (w.setCell ⟨g', i, none⟩ v) g b := by unfold BoxAt; rw [Below.heap_setCell _ _ _ _ hne]; exact h
/-- A point in the block g. -/
def SpotAt (w : World) (g : Nat) (p : Sp) : Prop := w.heap[g]? = some (.cells #[.int .i64 p.x, .int .i64 p.y] 47 (0, 0))
theorem SpotAt.cells {w : World} {g : Nat} {p : Sp} (h : SpotAt w g p) : w.cell? ⟨g, 0, none⟩ = some (.int .i64 p.x) ∧ w.cell? ⟨g, 1, none⟩ = some (.int .i64 p.y) := ⟨by rw [cell_blk h]; rfl, by rw [cell_blk h]; rfl⟩
theorem SpotAt.drew {w : World} {g : Nat} {p : Sp} (h : SpotAt w g p) : SpotAt w.drew g p := h
theorem SpotAt.other {w : World} {g : Nat} {p : Sp} (h : SpotAt w g p) {g' i : Nat} {v : Value} (hne : g ≠ g') : SpotAt (w.setCell ⟨g', i, none⟩ v) g p := by unfold SpotAt; rw [Below.heap_setCell _ _ _ _ hne]; exact h
theorem BoxAt.up {w : World} {g : Nat} {b : Bx} (h : BoxAt w g b) {i : Nat} {v : Value} : BoxAt (w.setCell ⟨g + 1, i, none⟩ v) g b := h.other (by omega)
theorem SpotAt.dn {w : World} {g q : Nat} {p : Sp} (h : SpotAt w q p) (hg : g + 1 < q) {i : Nat} {v : Value} : SpotAt (w.setCell ⟨g + 1, i, none⟩ v) q p := h.other (by omega)
theorem bel_up {g : Nat} {a w : World} (h : Below g a w) {i : Nat} {v : Value} : Below g a (w.setCell ⟨g + 1, i, none⟩ v) := bel_set h (by omega) v
theorem bel_at {g : Nat} {a w : World} (h : Below g a w) {i : Nat} {v : Value} : Below g a (w.setCell ⟨g, i, none⟩ v) := bel_set h (Nat.le_refl _) v
theorem rnd1 {gk j n : Nat} (h : gk + j = n) (hlt : j < n) : gk - 1 + (j + 1) = n := by omega
theorem rnd2 {gk j n : Nat} (h : gk + j = n) (hlt : j < n) : gk - 1 < gk := by omega
theorem ltI {j n : Nat} (h : j < n) : (j : Int) < (n : Int) := by omega
theorem nltI {j n : Nat} (h : ¬ j < n) : ¬ (j : Int) < (n : Int) := by omega
theorem end1 {gk j n : Nat} (h : gk + j = n) (hlt : ¬ j < n) : j = n := by omega
theorem boxAt_new (w : World) : BoxAt (w.alloc (.cells #[.int .i64 0, .int .i64 0, .int .i64 0, .int .i64 0] 50)) w.heap.size ⟨0, 0, 0, 0⟩ := heap_alloc_new w _
theorem bel_drew {B : Nat} {a w : World} (h : Below B a w) : Below B a w.drew := ⟨h.os, h.tape, h.output, h.size, h.block⟩
theorem spotsL_succ {O : List (List Kn)} {i : Nat} {c : List Kn} (h : O[i]? = some c) : spotsL (O.take (i + 1)) = spotsL (O.take i) ++ c.map Kn.sp := by
  unfold spotsL
  rw [List.take_add_one, h]; simp
theorem flatten_succ {α : Type} {O : List (List α)} {i : Nat} {c : List α} (h : O[i]? = some c) : (O.take (i + 1)).flatten = (O.take i).flatten ++ c := by
  rw [List.take_add_one, h]; simp
/-- Is there one? -/
def anyS (l : List Sp) : Bool := decide (0 < l.length)
theorem anyS_snoc (l : List Sp) (p : Sp) : anyS (l ++ [p]) = true := by simp [anyS]
theorem hull_any {T : List Sp} (h : anyS T = true) (p : Sp) : hullB (T ++ [p]) = growB (hullB T) p := hullB_snoc (fun e => by subst e; simp [anyS] at h) p
theorem hull_none {T : List Sp} (h : anyS T = false) (p : Sp) : hullB (T ++ [p]) = growB ⟨p.x, p.y, p.x, p.y⟩ p := by
  have : T = [] := by cases T with
    | nil => rfl
    | cons a l => simp [anyS] at h
  subst this
  simp [hullB, growB]

end Go.Proofs.Ythjhekmlhmljlaa
