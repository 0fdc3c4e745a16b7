/-
  What the reader's matrix and part answer for a part that has a shift of words and no scale, where the bytes are there.
-/
import Derived.Test.YtllbegmgknlaiaaGrA
namespace Go.Proofs.Ytllbegmgknlaiaa
open Go.RowKit Go.PlainAid
set_option linter.unusedSimpArgs false
set_option linter.unusedVariables false

/-- A part's flags with a shift of words and no scale. -/
structure Plain (fl : Int) : Prop where
  shift : bits .and .i64 fl 2 = 2
  words : bits .and .i64 fl 1 = 1
  one : bits .and .i64 fl 8 = 0
  two : bits .and .i64 fl 64 = 0
  four : bits .and .i64 fl 128 = 0
theorem plain3 : Plain 3 := ⟨by decide, by decide, by decide, by decide, by decide⟩
theorem plain35 : Plain 35 := ⟨by decide, by decide, by decide, by decide, by decide⟩

theorem blk_cell {w : World} {A : Nat} {cs : Array Value} {T : TypeId} {fr : Nat × Nat} (h : w.heap[A]? = some (.cells cs T fr)) (i : Nat) (v : Value) (hv : cs[i]? = some v) : w.cell? ⟨A, i, none⟩ = some v := by
  simp only [World.cell?, h]; exact hv
theorem blk_free {w : World} {A : Nat} {cs : Array Value} {T : TypeId} (h : w.heap[A]? = some (.cells cs T (0, 0))) (i : Nat) : w.frozen? ⟨A, i, none⟩ = false := by
  simp [World.frozen?, h]

set_option maxHeartbeats 400000 in
theorem matrix_c (R : Nat) (fl : Int) (w : World) (hp : Plain fl) :
    Calls Try.prog 54 #[.pointer (some ⟨R, 0, none⟩), .int .i64 fl] w fun e w' => e = .returned (.agg #[.int .i64 16384, .int .i64 0, .int .i64 0, .int .i64 16384]) ∧ Below w.heap.size w w' := by
  have h1 := hp.one
  have h2 := hp.two
  have h3 := hp.four
  clear hp
  go_enter Try.func54, Try.ntmps54
  go_wp2_with fail
  refine bodyPost_ret (v := .agg #[.int .i64 16384, .int .i64 0, .int .i64 0, .int .i64 16384]) (by simp [results, Try.results54, go_sem]) rfl ⟨rfl, ?_⟩
  exact (Below.refl _ _).alloc (Nat.le_refl _) _

theorem grown_alloc (w : World) (o : Obj) (r : Option Nat) : w.grownBy (w.alloc o) r := grown_bel r ((Below.refl _ _).alloc (Nat.le_refl _) _)
theorem grown_blk {w w' : World} {D : Nat} (hg : w.grownBy w' (some D)) {b : Nat} {o : Obj} (hb : b ≠ D) (h : w.heap[b]? = some o) : w'.heap[b]? = some o :=
  (hg.block b (Array.getElem?_eq_some_iff.1 h).1 (fun e => hb (by cases e; rfl))).trans h
theorem Rdr.lt {w : World} {R V : Nat} {s : ByteArray} {p : Int} (h : Rdr w R V s p) : R < w.heap.size ∧ V < w.heap.size := ⟨World.block_lt_of_cell? w _ h.view, World.block_lt_of_cell? w _ h.text⟩
theorem Rdr.alloc {w : World} {R V : Nat} {s : ByteArray} {p : Int} (h : Rdr w R V s p) (o : Obj) : Rdr (w.alloc o) R V s p := h.below ((Below.refl _ _).alloc (Nat.le_refl _) _)

theorem blk_set {w : World} {A : Nat} {cs : Array Value} {T : TypeId} {fr : Nat × Nat} (h : w.heap[A]? = some (.cells cs T fr)) (j : Nat) (v : Value) : (w.setCell ⟨A, j, none⟩ v).heap[A]? = some (.cells (cs.setIfInBounds j v) T fr) := by
  simp [World.setCell, Array.getElem?_modify, h]
theorem grown_below2 {w w' : World} {R : Nat} (h : Below w.heap.size w w') : w.grownBy w' (some R) := grown_bel _ h
theorem grown_to {w0 w w' : World} {r : Option Nat} (h : w0.grownBy w r) {A o : Nat} {u : Value} (hA : w0.heap.size ≤ A) (e : w' = w.setCell ⟨A, o, none⟩ u) : w0.grownBy w' r := by
  subst e
  exact ⟨h.os, h.tape, h.output, by simpa using h.size, fun k hk hne => (Below.heap_setCell w _ u k (by intro e; simp at e; omega)).trans (h.block k hk hne)⟩
theorem Rdr.other {w : World} {R V : Nat} {s : ByteArray} {p : Int} (h : Rdr w R V s p) {A o : Nat} (u : Value) (h1 : R ≠ A) (h2 : V ≠ A) : Rdr (w.setCell ⟨A, o, none⟩ u) R V s p := h.grown (grown_set w A o u) h1 h2

theorem grown_setA {w0 w : World} {r : Option Nat} {A o : Nat} {u : Value} (h : w0.grownBy w r) (hA : w0.heap.size ≤ A) : w0.grownBy (w.setCell ⟨A, o, none⟩ u) r := grown_to h hA rfl

set_option maxRecDepth 20000 in
set_option maxHeartbeats 1000000 in
theorem part_r (R V : Nat) (s : ByteArray) (p fl g dx dy q : Int) (w : World) (hr : Rdr w R V s p) (hs : (s.size : Int) ≤ 1000000) (hp : Plain fl)
    (X0 : Hid (numOr s p 2 = (fl, 0))) (X1 : Hid (numOr s (p + 2) 2 = (g, 0))) (X2 : Hid (numOr s (p + 4) 2 = (dx, 0))) (X3 : Hid (numOr s (p + 6) 2 = (dy, 0))) (hq : q = p + 8) :
    Calls Try.prog 46 #[.pointer (some ⟨R, 0, none⟩)] w fun e w' => e = .returned (.agg #[.int .i64 fl, .int .i64 g, .int .i64 (sign16 dx), .int .i64 (sign16 dy), .int .i64 16384, .int .i64 0, .int .i64 0, .int .i64 16384]) ∧ Rdr w' R V s q ∧ w.grownBy w' (some R) := by
  have HP := Lib.hid hp
  have HS := Lib.hid hs
  have HQ := Lib.hid hq
  have HR := Lib.hid hr
  have hf1 := hp.shift
  have hf2 := hp.words
  clear hr hs hp hq
  go_enter Try.func46, Try.ntmps46
  go_wp2_with fail
  have HR0 := Lib.hid (HR.out.alloc (.cells #[.int .i64 0, .int .i64 0, .int .i64 0, .int .i64 0, .int .i64 0, .int .i64 0, .int .i64 0, .int .i64 0] 82))
  refine (number_r R V s p fl (p + 2) _ HR0.out HS.out X0 rfl).mono ?_
  rintro e w1 ⟨rfl, h1, g1⟩
  have HN := Lib.hid HR.out.lt
  have HB1 : Hid (w1.heap[w.heap.size]? = some (.cells #[.int .i64 0, .int .i64 0, .int .i64 0, .int .i64 0, .int .i64 0, .int .i64 0, .int .i64 0, .int .i64 0] 82 (0, 0))) := grown_blk g1 (by have := HN.out; omega) (heap_alloc_new w _)
  have HG1 := Lib.hid (grown_trans (grown_alloc w _ _) g1)
  have HR1 := Lib.hid h1
  clear h1 g1
  go_wp2_with fail
  refine (number_r R V s (p + 2) g (p + 4) _ HR1.out HS.out X1 (by omega)).mono ?_
  rintro e w2 ⟨rfl, h2, g2⟩
  have HB2 := Lib.hid (grown_blk g2 (by have := HN.out; omega) HB1.out)
  have HG2 := Lib.hid (grown_trans HG1.out g2)
  have HR2 := Lib.hid (h2.alloc (.cells #[.int .i64 fl, .int .i64 g, .int .i64 0, .int .i64 0, .int .i64 0, .int .i64 0, .int .i64 0, .int .i64 0] 82))
  have HN2 := Lib.hid h2.lt
  have HM2 := Lib.hid HG2.out.size
  clear h2 g2
  go_wp2_with fail
  refine (signed_r R V s (p + 4) dx (p + 6) _ HR2.out HS.out X2 (by omega)).mono ?_
  rintro e w4 ⟨rfl, h4, g4⟩
  go_wp2_with fail
  refine (signed_r R V s (p + 6) dy q _ h4 HS.out X3 (by have := HQ.out; omega)).mono ?_
  rintro e w5 ⟨rfl, h5, g5⟩
  have g45 := grown_trans g4 g5
  have hb5 := grown_blk g45 (by have := HN2.out; omega) (heap_alloc_new w2 (.cells #[.int .i64 fl, .int .i64 g, .int .i64 0, .int .i64 0, .int .i64 0, .int .i64 0, .int .i64 0, .int .i64 0] 82))
  have hc0 := blk_cell hb5 0 (.int .i64 fl) rfl
  have hc2 := blk_cell hb5 2 (.int .i64 0) rfl
  have hc3 := blk_cell hb5 3 (.int .i64 0) rfl
  have hf5 := blk_free hb5
  have HB5 := Lib.hid hb5
  have HR5 := Lib.hid h5
  have HG5 := Lib.hid (grown_trans (grown_trans HG2.out (grown_alloc w2 _ _)) g45)
  have HA5 : Hid (w5.heap[w.heap.size]? = some (.cells #[.int .i64 0, .int .i64 0, .int .i64 0, .int .i64 0, .int .i64 0, .int .i64 0, .int .i64 0, .int .i64 0] 82 (0, 0))) := grown_blk g45 (by have := HN.out; omega) ((Below.heap_alloc w2 _ _ (Array.getElem?_eq_some_iff.1 HB2.out).1).trans HB2.out)
  clear h4 g4 h5 g5 g45 hb5
  go_wp2_with fail
  have HM5 := Lib.hid HG5.out.size
  have hb6 := blk_set (blk_set HB5.out 2 (.int .i64 (sign16 dx))) 3 (.int .i64 (sign16 dy))
  have HR6 := Lib.hid ((HR5.out.other (A := w2.heap.size) (o := 2) (.int .i64 (sign16 dx)) (by have := HN2.out; omega) (by have := HN2.out; omega)).other (A := w2.heap.size) (o := 3) (.int .i64 (sign16 dy)) (by have := HN2.out; omega) (by have := HN2.out; omega))
  have HG6 := Lib.hid (grown_to (grown_to HG5.out (A := w2.heap.size) (o := 2) (u := .int .i64 (sign16 dx)) HM2.out rfl) (A := w2.heap.size) (o := 3) (u := .int .i64 (sign16 dy)) HM2.out rfl)
  have HB6 : Hid (((w5.setCell ⟨w2.heap.size, 2, none⟩ (.int .i64 (sign16 dx))).setCell ⟨w2.heap.size, 3, none⟩ (.int .i64 (sign16 dy))).heap[w2.heap.size]? = some (.cells #[.int .i64 fl, .int .i64 g, .int .i64 (sign16 dx), .int .i64 (sign16 dy), .int .i64 0, .int .i64 0, .int .i64 0, .int .i64 0] 82 (0, 0))) := hb6
  have HA6 : Hid (((w5.setCell ⟨w2.heap.size, 2, none⟩ (.int .i64 (sign16 dx))).setCell ⟨w2.heap.size, 3, none⟩ (.int .i64 (sign16 dy))).heap[w.heap.size]? = some (.cells #[.int .i64 0, .int .i64 0, .int .i64 0, .int .i64 0, .int .i64 0, .int .i64 0, .int .i64 0, .int .i64 0] 82 (0, 0))) := by
    have hne : w.heap.size ≠ w2.heap.size := Nat.ne_of_lt (Array.getElem?_eq_some_iff.1 HB2.out).1
    unfold Hid
    rw [Below.heap_setCell _ _ _ _ hne, Below.heap_setCell _ _ _ _ hne]
    exact HA5.out
  clear hb6 hc0 hc2 hc3 hf5
  generalize ((w5.setCell ⟨w2.heap.size, 2, none⟩ (.int .i64 (sign16 dx))).setCell ⟨w2.heap.size, 3, none⟩ (.int .i64 (sign16 dy))) = w6 at *
  refine (matrix_c R fl w6 HP.out).mono ?_
  rintro e w7 ⟨rfl, hb7⟩
  have hx : w7.heap[w2.heap.size]? = some (.cells #[.int .i64 fl, .int .i64 g, .int .i64 (sign16 dx), .int .i64 (sign16 dy), .int .i64 0, .int .i64 0, .int .i64 0, .int .i64 0] 82 (0, 0)) := (hb7.block _ (Array.getElem?_eq_some_iff.1 HB6.out).1).trans HB6.out
  have hy : w7.heap[w.heap.size]? = some (.cells #[.int .i64 0, .int .i64 0, .int .i64 0, .int .i64 0, .int .i64 0, .int .i64 0, .int .i64 0, .int .i64 0] 82 (0, 0)) := (hb7.block _ (Array.getElem?_eq_some_iff.1 HA6.out).1).trans HA6.out
  have c0 := blk_cell hx 0 (.int .i64 fl) rfl
  have c1 := blk_cell hx 1 (.int .i64 g) rfl
  have c2 := blk_cell hx 2 (.int .i64 (sign16 dx)) rfl
  have c3 := blk_cell hx 3 (.int .i64 (sign16 dy)) rfl
  have c4 := blk_cell hx 4 (.int .i64 0) rfl
  have c5 := blk_cell hx 5 (.int .i64 0) rfl
  have c6 := blk_cell hx 6 (.int .i64 0) rfl
  have c7 := blk_cell hx 7 (.int .i64 0) rfl
  have d0 := blk_cell hy 0 (.int .i64 0) rfl
  have d1 := blk_cell hy 1 (.int .i64 0) rfl
  have d2 := blk_cell hy 2 (.int .i64 0) rfl
  have d3 := blk_cell hy 3 (.int .i64 0) rfl
  have d4 := blk_cell hy 4 (.int .i64 0) rfl
  have d5 := blk_cell hy 5 (.int .i64 0) rfl
  have d6 := blk_cell hy 6 (.int .i64 0) rfl
  have d7 := blk_cell hy 7 (.int .i64 0) rfl
  have f0 := blk_free hx
  have f1 := blk_free hy
  have HR7 := Lib.hid (HR6.out.below hb7)
  have HG7 := Lib.hid (grown_trans HG6.out (grown_bel _ hb7))
  have hne : w.heap.size ≠ w2.heap.size := Nat.ne_of_lt (Array.getElem?_eq_some_iff.1 HB2.out).1
  clear hx hy hb7
  go_wp2_with fail
  have hn1 := HN.out
  have hn2 := HN2.out
  have hm2 := HM2.out
  refine bodyPost_ret (v := .agg #[.int .i64 fl, .int .i64 g, .int .i64 (sign16 dx), .int .i64 (sign16 dy), .int .i64 16384, .int .i64 0, .int .i64 0, .int .i64 16384]) (by simp [results, Try.results46, go_sem, d0, d1, d2, d3, d4, d5, d6, d7, hne, hne.symm]) rfl ⟨rfl, ?_, ?_⟩
  · iterate 12 (refine Rdr.other ?_ _ (by omega) (by omega))
    exact HR7.out
  · iterate 12 (refine grown_setA ?_ (by omega))
    exact HG7.out

end Go.Proofs.Ytllbegmgknlaiaa
