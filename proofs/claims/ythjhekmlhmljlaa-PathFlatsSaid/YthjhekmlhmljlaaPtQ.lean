/-
  The walk round a contour in memory: what it holds, what is kept; what curveEnd gives.
-/
import Derived.Test.YthjhekmlhmljlaaPtN
namespace Go.Proofs.Ythjhekmlhmljlaa
open Go.RowKit Go.PlainAid
set_option linter.unusedSimpArgs false
set_option linter.unusedVariables false

/-- The walk's five cells. -/
def wkCells (st : Sp) (ca : Option Addr) (n cc g m pc : Nat) (c : Bool) : Array Value := #[.int .i64 st.x, .int .i64 st.y, .slice ca n cc, .slice (some ⟨g, 0, none⟩) m pc, .bool c]
/-- The walk: its start, the knots to come, the points so far, whether a curve has closed it. -/
structure Wk (w0 : World) (W : Nat) (st : Sp) (ca : Option Addr) (cc : Nat) (L : List Kn) (g pc : Nat) (P : List Sp) (c : Bool) (w : World) : Prop where
  blk : w.heap[W]? = some (.cells (wkCells st ca L.length cc g P.length pc c) 102 (0, 0))
  com : IsR clK w0 ca L
  lc : L.length ≤ cc
  own : w.ownsRow w0.heap.size 47 2 (.slice (some ⟨g, 0, none⟩) P.length pc) P.length (P.flatMap clS)
  ne : g ≠ W
  hW : w0.heap.size ≤ W
  bel : Below w0.heap.size w0 w
theorem Wk.lt {w0 w : World} {W cc g pc : Nat} {st : Sp} {ca : Option Addr} {L : List Kn} {P : List Sp} {c : Bool} (h : Wk w0 W st ca cc L g pc P c w) : W < w.heap.size := (Array.getElem?_eq_some_iff.1 h.blk).1
theorem cell_blk {w : World} {W : Nat} {cs : Array Value} {T : TypeId} {fr : Nat × Nat} (h : w.heap[W]? = some (.cells cs T fr)) (i : Nat) : w.cell? ⟨W, i, none⟩ = cs[i]? := by simp [World.cell?, h]
theorem frozen_blk {w : World} {W : Nat} {cs : Array Value} {T : TypeId} (h : w.heap[W]? = some (.cells cs T (0, 0))) (i : Nat) : w.frozen? ⟨W, i, none⟩ = false := by simp [World.frozen?, h]
/-- The cells, one by one. -/
structure WkC (W : Nat) (st : Sp) (ca : Option Addr) (n cc g m pc : Nat) (c : Bool) (w : World) : Prop where
  c0 : w.cell? ⟨W, 0, none⟩ = some (.int .i64 st.x)
  c1 : w.cell? ⟨W, 1, none⟩ = some (.int .i64 st.y)
  c2 : w.cell? ⟨W, 2, none⟩ = some (.slice ca n cc)
  c3 : w.cell? ⟨W, 3, none⟩ = some (.slice (some ⟨g, 0, none⟩) m pc)
  c4 : w.cell? ⟨W, 4, none⟩ = some (.bool c)
  f2 : w.frozen? ⟨W, 2, none⟩ = false
  f3 : w.frozen? ⟨W, 3, none⟩ = false
  f4 : w.frozen? ⟨W, 4, none⟩ = false
theorem Wk.cs {w0 w : World} {W cc g pc : Nat} {st : Sp} {ca : Option Addr} {L : List Kn} {P : List Sp} {c : Bool} (h : Wk w0 W st ca cc L g pc P c w) : WkC W st ca L.length cc g P.length pc c w :=
  ⟨cell_blk h.blk 0, cell_blk h.blk 1, cell_blk h.blk 2, cell_blk h.blk 3, cell_blk h.blk 4, frozen_blk h.blk 2, frozen_blk h.blk 3, frozen_blk h.blk 4⟩
theorem WkC.below {w w' : World} {W n cc g m pc : Nat} {st : Sp} {ca : Option Addr} {c : Bool} (h : WkC W st ca n cc g m pc c w) (hb : Below w.heap.size w w') : WkC W st ca n cc g m pc c w' :=
  ⟨keepC hb h.c0, keepC hb h.c1, keepC hb h.c2, keepC hb h.c3, keepC hb h.c4, keepF hb h.c2 h.f2, keepF hb h.c3 h.f3, keepF hb h.c4 h.f4⟩
theorem Wk.below {w0 w w' : World} {W cc g pc : Nat} {st : Sp} {ca : Option Addr} {L : List Kn} {P : List Sp} {c : Bool} (h : Wk w0 W st ca cc L g pc P c w) (hb : Below w.heap.size w w') : Wk w0 W st ca cc L g pc P c w' :=
  ⟨by rw [hb.block W h.lt]; exact h.blk, h.com, h.lc, own_below h.own hb, h.ne, h.hW, h.bel.trans (hb.mono h.bel.size)⟩
theorem Wk.read {w0 w : World} {W cc g pc : Nat} {st : Sp} {ca : Option Addr} {L : List Kn} {P : List Sp} {c : Bool} (h : Wk w0 W st ca cc L g pc P c w) : IsR clK w ca L := h.com.below h.bel
theorem heap_set {w : World} {W i : Nat} {cs : Array Value} {T : TypeId} {fr : Nat × Nat} {u : Value} (h : w.heap[W]? = some (.cells cs T fr)) : (w.setCell ⟨W, i, none⟩ u).heap[W]? = some (.cells (cs.setIfInBounds i u) T fr) := by
  simp [World.setCell, Array.getElem?_modify, h]
/-- Other knots to come. -/
theorem Wk.setC {w0 w : World} {W cc g pc : Nat} {st : Sp} {ca : Option Addr} {L : List Kn} {P : List Sp} {c : Bool} (h : Wk w0 W st ca cc L g pc P c w) {a' : Option Addr} {n' c' : Nat} {L' : List Kn} (hr : IsR clK w0 a' L') (hn : L'.length = n') (hc : n' ≤ c') : Wk w0 W st a' c' L' g pc P c (w.setCell ⟨W, 2, none⟩ (.slice a' n' c')) := by
  subst hn
  exact ⟨by rw [heap_set h.blk]; rfl, hr, hc, own_set h.own _ _ (fun e => h.ne e.symm), h.ne, h.hW, h.bel.setCell h.hW _⟩
/-- Closed. -/
theorem Wk.setB {w0 w : World} {W cc g pc : Nat} {st : Sp} {ca : Option Addr} {L : List Kn} {P : List Sp} {c : Bool} (h : Wk w0 W st ca cc L g pc P c w) (d : Bool) : Wk w0 W st ca cc L g pc P d (w.setCell ⟨W, 4, none⟩ (.bool d)) :=
  ⟨by rw [heap_set h.blk]; rfl, h.com, h.lc, own_set h.own _ _ (fun e => h.ne e.symm), h.ne, h.hW, h.bel.setCell h.hW _⟩
/-- Other points. -/
theorem Wk.setP {w0 w w1 : World} {W cc g pc : Nat} {st : Sp} {ca : Option Addr} {L : List Kn} {P : List Sp} {c : Bool} (h : Wk w0 W st ca cc L g pc P c w) {g' c' m : Nat} {Q : List Sp} (hm : Q.length = m) (ho : w1.ownsRow w0.heap.size 47 2 (.slice (some ⟨g', 0, none⟩) Q.length c') Q.length (Q.flatMap clS)) (hg : w.grownBy w1 (some g)) (hat : g' = g ∨ w.heap.size ≤ g') : Wk w0 W st ca cc L g' c' Q c (w1.setCell ⟨W, 3, none⟩ (.slice (some ⟨g', 0, none⟩) m c')) := by
  subst hm
  have hlt := h.lt
  have hne : g' ≠ W := by
    rcases hat with e | e
    · rw [e]; exact h.ne
    · omega
  have hb : w1.heap[W]? = w.heap[W]? := hg.block W hlt (fun e => h.ne (by cases e; rfl))
  refine ⟨by rw [heap_set (hb.trans h.blk)]; rfl, h.com, h.lc, own_set ho _ _ (Ne.symm hne), hne, h.hW, ?_⟩
  refine Below.setCell ?_ h.hW _
  refine h.bel.grown hg h.bel.size (fun k hk => ?_)
  cases hk
  exact (ownsRow_cap h.own).2.1
/-- A cell elsewhere. -/
theorem Wk.setO {w0 w : World} {W cc g pc : Nat} {st : Sp} {ca : Option Addr} {L : List Kn} {P : List Sp} {c : Bool} (h : Wk w0 W st ca cc L g pc P c w) {r o : Nat} {u : Value} (h1 : r ≠ W) (h2 : r ≠ g) (h3 : w0.heap.size ≤ r) : Wk w0 W st ca cc L g pc P c (w.setCell ⟨r, o, none⟩ u) :=
  ⟨by rw [Below.heap_setCell _ _ _ _ (Ne.symm h1)]; exact h.blk, h.com, h.lc, own_set h.own _ _ h2, h.ne, h.hW, h.bel.setCell h3 _⟩
theorem new_cells (w : World) (u v : Value) (T : TypeId) : (w.alloc (.cells #[u, v] T)).cell? ⟨w.heap.size, 0, none⟩ = some u ∧ (w.alloc (.cells #[u, v] T)).cell? ⟨w.heap.size, 1, none⟩ = some v ∧ (w.alloc (.cells #[u, v] T)).frozen? ⟨w.heap.size, 0, none⟩ = false ∧ (w.alloc (.cells #[u, v] T)).frozen? ⟨w.heap.size, 1, none⟩ = false := by
  refine ⟨?_, ?_, ?_, ?_⟩ <;> simp [go_sem]
theorem WkC.set2 {w : World} {W n cc g m pc : Nat} {st : Sp} {ca : Option Addr} {c : Bool} (h : WkC W st ca n cc g m pc c w) : w.cell? ⟨W, 2, none⟩ = some (.slice ca n cc) := h.c2

/-- What curveEnd answers: the end, and the walk behind it. -/
def EndPost (w0 : World) (W : Nat) (st : Sp) (g pc : Nat) (P : List Sp) (s : Sp) (L : List Kn) (c : Bool) (w : World) (e : Ending) (w' : World) : Prop :=
  e = .returned (.tuple #[.agg #[.int .i64 s.x, .int .i64 s.y], .int .i64 0]) ∧ w.heap.size ≤ w'.heap.size ∧ ∃ ca cc, Wk w0 W st ca cc L g pc P c w' ∧ ∀ b, b < w.heap.size → b ≠ W → w'.heap[b]? = w.heap[b]?


set_option maxRecDepth 20000 in
set_option maxHeartbeats 2000000 in
theorem curveEnd_none1 (w0 : World) (W : Nat) (st : Sp) (ca : Option Addr) (cc : Nat) (L : List Kn) (g pc : Nat) (P : List Sp) (c : Bool) (w : World) (h : Wk w0 W st ca cc L g pc P c w) (hl : L.length = 1) :
    Calls Try.prog 82 #[.pointer (some ⟨W, 0, none⟩), .int .i64 1] w (EndPost w0 W st g pc P st [] true w) := by
  obtain ⟨k, hk⟩ := get_of (show 0 < L.length by omega)
  obtain ⟨b, off, rfl, _⟩ := h.com.knot hk
  have hcc := h.lc
  have hlt := h.lt
  rw [hl] at hcc
  have HW := Lib.hid h
  have hc2 := h.cs.c2
  have hc0 := h.cs.c0
  have hc1 := h.cs.c1
  have hc4 := h.cs.c4
  have hf2 := h.cs.f2
  have hf4 := h.cs.f4
  rw [hl] at hc2
  have n1 : ¬ W = w.heap.size := by omega
  have n2 : ¬ w.heap.size = W := by omega
  have HLT := Lib.hid hlt
  clear h hk hl
  by_cases he : 1 = cc
  · subst he
    have HW1 := Lib.hid (((HW.out.setC (a' := some ⟨b, off, none⟩) (n' := 0) (c' := 0) (L' := []) (.inl rfl) rfl (Nat.le_refl _)).setB true).below ((Below.refl _ _).alloc (Nat.le_refl _) (.cells #[.int .i64 st.x, .int .i64 st.y] 47)))
    clear hcc
    go_enter Try.func82, Try.ntmps82
    go_wp2_with fail
    refine bodyPost_ret (v := .tuple #[.agg #[.int .i64 st.x, .int .i64 st.y], .int .i64 0]) (by simp [results, Try.results82, go_sem]) rfl ⟨rfl, by simp, _, _, HW1.out, fun b' hb' hne => ?_⟩
    rw [Below.heap_alloc _ _ _ (by simpa using hb'), Below.heap_setCell _ _ _ _ hne, Below.heap_setCell _ _ _ _ hne]
  · have he' : ¬ cc = 1 := fun e => he e.symm
    have hcc' : (1 : Int) ≤ (cc : Int) := by omega
    have HW1 := Lib.hid (((HW.out.setC (a' := some ⟨b, off + 3, none⟩) (n' := 0) (c' := cc - 1) (L' := []) (.inl rfl) rfl (Nat.zero_le _)).setB true).below ((Below.refl _ _).alloc (Nat.le_refl _) (.cells #[.int .i64 st.x, .int .i64 st.y] 47)))
    clear hcc he
    go_enter Try.func82, Try.ntmps82
    go_wp2_with fail
    refine bodyPost_ret (v := .tuple #[.agg #[.int .i64 st.x, .int .i64 st.y], .int .i64 0]) (by simp [results, Try.results82, go_sem]) rfl ⟨rfl, by simp, _, _, HW1.out, fun b' hb' hne => ?_⟩
    rw [Below.heap_alloc _ _ _ (by simpa using hb'), Below.heap_setCell _ _ _ _ hne, Below.heap_setCell _ _ _ _ hne]

set_option maxRecDepth 20000 in
set_option maxHeartbeats 2000000 in
theorem curveEnd_on1 (w0 : World) (W : Nat) (st : Sp) (ca : Option Addr) (cc : Nat) (L : List Kn) (g pc : Nat) (P : List Sp) (c : Bool) (w : World) (k : Kn) (h : Wk w0 W st ca cc L g pc P c w) (hk : L[1]? = some k) (h1 : k.k = 1) :
    Calls Try.prog 82 #[.pointer (some ⟨W, 0, none⟩), .int .i64 1] w (EndPost w0 W st g pc P k.sp (L.drop 2) c w) := by
  have hll : 1 < L.length := (List.getElem?_eq_some_iff.1 hk).1
  obtain ⟨b, off, rfl, k0, k1, k2⟩ := h.read.knot hk
  have hcc := h.lc
  have hlt := h.lt
  have HW := Lib.hid h
  have HR : Hid (IsR clK w0 (some ⟨b, off + 6, none⟩) (L.drop 2)) := h.com.drop clK_length 2
  obtain ⟨n, HN⟩ : ∃ n, Hid (L.length = n) := ⟨_, rfl⟩
  have HNR : Hid ((L.drop 2).length = n - 2) := by unfold Hid; rw [List.length_drop, HN.out]
  have HRJ : Hid (IsR clK w0 (some ⟨b, off + 3, none⟩) (L.drop 1)) := h.com.drop clK_length 1
  have HNJ : Hid ((L.drop 1).length = n - 1) := by unfold Hid; rw [List.length_drop, HN.out]
  have hbW : b < w0.heap.size := World.block_lt_of_cell? w0 _ (by have := h.com.knot hk; obtain ⟨b', o', e, q0, _⟩ := this; cases e; exact q0)
  have hWW := h.hW
  have hc2 := h.cs.c2
  have hf2 := h.cs.f2
  rw [HN.out] at hc2 hll hcc
  have n1 : ¬ W = w.heap.size := by omega
  have n2 : ¬ w.heap.size = W := by omega
  have n3 : ¬ W = b := by omega
  have n4 : ¬ b = W := by omega
  have n5 : ¬ b = w.heap.size := by omega
  have n6 : ¬ w.heap.size = b := by omega
  have he : ¬ cc = 1 := by omega
  have q1 : (1 : Int) ≤ (n : Int) := by omega
  have q2 : (1 : Int) ≤ (cc : Int) := by omega
  have q3 : 0 < n - 1 := by omega
  have q4 : ¬ n - 1 = 0 := by omega
  have q5 : ¬ n = 1 := by omega
  have HQ := Lib.hid (And.intro hll hcc)
  obtain ⟨x, y, z⟩ := k
  simp only at h1 k0 k1 k2
  subst h1
  have hbl : b < w.heap.size := by omega
  clear h hk hll hcc hbW hWW
  have HGL : Hid (g < w.heap.size ∧ w0.heap.size ≤ w.heap.size) := ⟨(ownsRow_cap HW.out.own).2.2, HW.out.bel.size⟩
  have HLT := Lib.hid hlt
  by_cases he2 : cc = 2
  · subst he2
    have HW2 := Lib.hid ((HW.out.setC (a' := some ⟨b, off + 3, none⟩) (n' := n - 1) (c' := 1) HRJ.out HNJ.out (by have := HQ.out; omega)).setC (a' := (some ⟨b, off + 3, none⟩)) (n' := n - 1 - 1) (c' := 0) (L' := L.drop 2) (.inl (List.drop_eq_nil_of_le (by rw [HN.out]; have := HQ.out; omega))) (by rw [HNR.out]; omega) (by have := HQ.out; omega))
    go_enter Try.func82, Try.ntmps82
    go_wp2_with fail
    have HSZ : Hid (((w.setCell ⟨W, 2, none⟩ (.slice (some ⟨b, off + 3, none⟩) (n - 1) 1)).setCell ⟨W, 2, none⟩ (.slice (some ⟨b, off + 3, none⟩) (n - 1 - 1) 0)).heap.size = w.heap.size) := by simp [Hid]
    have HHP : Hid (∀ b', b' ≠ W → ((w.setCell ⟨W, 2, none⟩ (.slice (some ⟨b, off + 3, none⟩) (n - 1) 1)).setCell ⟨W, 2, none⟩ (.slice (some ⟨b, off + 3, none⟩) (n - 1 - 1) 0)).heap[b']? = w.heap[b']?) := fun b' hne => by rw [Below.heap_setCell _ _ _ _ hne, Below.heap_setCell _ _ _ _ hne]
    clear hc2 hf2 k0 k1 k2
    generalize ((w.setCell ⟨W, 2, none⟩ (.slice (some ⟨b, off + 3, none⟩) (n - 1) 1)).setCell ⟨W, 2, none⟩ (.slice (some ⟨b, off + 3, none⟩) (n - 1 - 1) 0)) = V at *
    obtain ⟨z0, z1, z2, z3⟩ := new_cells V (.int .i64 0) (.int .i64 0) 47
    rw [HSZ.out] at z0 z1 z2 z3
    have HZ := Lib.hid (And.intro z0 (And.intro z1 (And.intro z2 z3)))
    clear z0 z1 z2 z3
    refine (placeOf_h ⟨x, y, 1⟩ _).mono ?_
    rintro e w6 ⟨rfl, hb6⟩
    have HW6 := Lib.hid ((HW2.out.below ((Below.refl _ _).alloc (Nat.le_refl _) _)).below (bel_to ((Below.refl _ _).alloc (Nat.le_refl _) _) hb6 (by simp)))
    have o0 := keepC hb6 (keepA HZ.out.1 (.cells #[.int .i64 x, .int .i64 y, .int .i64 1] 37))
    have o1 := keepC hb6 (keepA HZ.out.2.1 (.cells #[.int .i64 x, .int .i64 y, .int .i64 1] 37))
    have f0 := keepF hb6 (keepA HZ.out.1 (.cells #[.int .i64 x, .int .i64 y, .int .i64 1] 37)) (keepAF HZ.out.1 HZ.out.2.2.1 _)
    have f1 := keepF hb6 (keepA HZ.out.2.1 (.cells #[.int .i64 x, .int .i64 y, .int .i64 1] 37)) (keepAF HZ.out.2.1 HZ.out.2.2.2 _)
    have HB6 : Hid (Below V.heap.size V w6) := bel_next (bel_alloc ((Below.refl _ _).alloc (Nat.le_refl _) _) _) hb6
    clear hb6
    go_wp2_with fail
    have n7 : w.heap.size ≠ W := n2
    have n8 : w.heap.size ≠ g := by have := HGL.out; omega
    refine bodyPost_ret (v := .tuple #[.agg #[.int .i64 x, .int .i64 y], .int .i64 0]) (by simp [results, Try.results82, go_sem, o0, o1]) rfl ⟨rfl, ?_, _, _, (HW6.out.setO n7 n8 HGL.out.2).setO n7 n8 HGL.out.2, fun b' hb' hne => ?_⟩
    · have := HB6.out.size; rw [HSZ.out] at this; simp; omega
    · have hx : b' ≠ w.heap.size := by omega
      rw [Below.heap_setCell _ _ _ _ hx, Below.heap_setCell _ _ _ _ hx, HB6.out.block b' (by rw [HSZ.out]; exact hb'), HHP.out b' hne]
  · have he3 : ¬ cc - 1 = 1 := by omega
    have q6 : (1 : Int) ≤ ((cc - 1 : Nat) : Int) := by have := HQ.out; omega
    have HW2 := Lib.hid ((HW.out.setC (a' := some ⟨b, off + 3, none⟩) (n' := n - 1) (c' := cc - 1) HRJ.out HNJ.out (by have := HQ.out; omega)).setC (a' := (some ⟨b, off + 3 + 3, none⟩)) (n' := n - 1 - 1) (c' := cc - 1 - 1) (L' := L.drop 2) HR.out (by rw [HNR.out]; omega) (by have := HQ.out; omega))
    go_enter Try.func82, Try.ntmps82
    go_wp2_with fail
    have HSZ : Hid (((w.setCell ⟨W, 2, none⟩ (.slice (some ⟨b, off + 3, none⟩) (n - 1) (cc - 1))).setCell ⟨W, 2, none⟩ (.slice (some ⟨b, off + 3 + 3, none⟩) (n - 1 - 1) (cc - 1 - 1))).heap.size = w.heap.size) := by simp [Hid]
    have HHP : Hid (∀ b', b' ≠ W → ((w.setCell ⟨W, 2, none⟩ (.slice (some ⟨b, off + 3, none⟩) (n - 1) (cc - 1))).setCell ⟨W, 2, none⟩ (.slice (some ⟨b, off + 3 + 3, none⟩) (n - 1 - 1) (cc - 1 - 1))).heap[b']? = w.heap[b']?) := fun b' hne => by rw [Below.heap_setCell _ _ _ _ hne, Below.heap_setCell _ _ _ _ hne]
    clear hc2 hf2 k0 k1 k2
    generalize ((w.setCell ⟨W, 2, none⟩ (.slice (some ⟨b, off + 3, none⟩) (n - 1) (cc - 1))).setCell ⟨W, 2, none⟩ (.slice (some ⟨b, off + 3 + 3, none⟩) (n - 1 - 1) (cc - 1 - 1))) = V at *
    obtain ⟨z0, z1, z2, z3⟩ := new_cells V (.int .i64 0) (.int .i64 0) 47
    rw [HSZ.out] at z0 z1 z2 z3
    have HZ := Lib.hid (And.intro z0 (And.intro z1 (And.intro z2 z3)))
    clear z0 z1 z2 z3
    refine (placeOf_h ⟨x, y, 1⟩ _).mono ?_
    rintro e w6 ⟨rfl, hb6⟩
    have HW6 := Lib.hid ((HW2.out.below ((Below.refl _ _).alloc (Nat.le_refl _) _)).below (bel_to ((Below.refl _ _).alloc (Nat.le_refl _) _) hb6 (by simp)))
    have o0 := keepC hb6 (keepA HZ.out.1 (.cells #[.int .i64 x, .int .i64 y, .int .i64 1] 37))
    have o1 := keepC hb6 (keepA HZ.out.2.1 (.cells #[.int .i64 x, .int .i64 y, .int .i64 1] 37))
    have f0 := keepF hb6 (keepA HZ.out.1 (.cells #[.int .i64 x, .int .i64 y, .int .i64 1] 37)) (keepAF HZ.out.1 HZ.out.2.2.1 _)
    have f1 := keepF hb6 (keepA HZ.out.2.1 (.cells #[.int .i64 x, .int .i64 y, .int .i64 1] 37)) (keepAF HZ.out.2.1 HZ.out.2.2.2 _)
    have HB6 : Hid (Below V.heap.size V w6) := bel_next (bel_alloc ((Below.refl _ _).alloc (Nat.le_refl _) _) _) hb6
    clear hb6
    go_wp2_with fail
    have n7 : w.heap.size ≠ W := n2
    have n8 : w.heap.size ≠ g := by have := HGL.out; omega
    refine bodyPost_ret (v := .tuple #[.agg #[.int .i64 x, .int .i64 y], .int .i64 0]) (by simp [results, Try.results82, go_sem, o0, o1]) rfl ⟨rfl, ?_, _, _, (HW6.out.setO n7 n8 HGL.out.2).setO n7 n8 HGL.out.2, fun b' hb' hne => ?_⟩
    · have := HB6.out.size; rw [HSZ.out] at this; simp; omega
    · have hx : b' ≠ w.heap.size := by omega
      rw [Below.heap_setCell _ _ _ _ hx, Below.heap_setCell _ _ _ _ hx, HB6.out.block b' (by rw [HSZ.out]; exact hb'), HHP.out b' hne]

set_option maxRecDepth 20000 in
set_option maxHeartbeats 2000000 in
theorem curveEnd_bad1 (w0 : World) (W : Nat) (st : Sp) (ca : Option Addr) (cc : Nat) (L : List Kn) (g pc : Nat) (P : List Sp) (c : Bool) (w : World) (k : Kn) (h : Wk w0 W st ca cc L g pc P c w) (hk : L[1]? = some k) (h1 : ¬ k.k = 1) :
    Calls Try.prog 82 #[.pointer (some ⟨W, 0, none⟩), .int .i64 1] w fun e w' => e = .returned (.tuple #[.agg #[.int .i64 0, .int .i64 0], .int .i64 61]) ∧ Below w0.heap.size w0 w' := by
  have hll : 1 < L.length := (List.getElem?_eq_some_iff.1 hk).1
  obtain ⟨b, off, rfl, k0, k1, k2⟩ := h.read.knot hk
  have hcc := h.lc
  have hlt := h.lt
  have HW := Lib.hid h
  have HR : Hid (IsR clK w0 (some ⟨b, off + 6, none⟩) (L.drop 2)) := h.com.drop clK_length 2
  obtain ⟨n, HN⟩ : ∃ n, Hid (L.length = n) := ⟨_, rfl⟩
  have HNR : Hid ((L.drop 2).length = n - 2) := by unfold Hid; rw [List.length_drop, HN.out]
  have HRJ : Hid (IsR clK w0 (some ⟨b, off + 3, none⟩) (L.drop 1)) := h.com.drop clK_length 1
  have HNJ : Hid ((L.drop 1).length = n - 1) := by unfold Hid; rw [List.length_drop, HN.out]
  have hbW : b < w0.heap.size := World.block_lt_of_cell? w0 _ (by have := h.com.knot hk; obtain ⟨b', o', e, q0, _⟩ := this; cases e; exact q0)
  have hWW := h.hW
  have hc2 := h.cs.c2
  have hf2 := h.cs.f2
  rw [HN.out] at hc2 hll hcc
  have n1 : ¬ W = w.heap.size := by omega
  have n2 : ¬ w.heap.size = W := by omega
  have n3 : ¬ W = b := by omega
  have n4 : ¬ b = W := by omega
  have n5 : ¬ b = w.heap.size := by omega
  have n6 : ¬ w.heap.size = b := by omega
  have he : ¬ cc = 1 := by omega
  have q1 : (1 : Int) ≤ (n : Int) := by omega
  have q2 : (1 : Int) ≤ (cc : Int) := by omega
  have q3 : 0 < n - 1 := by omega
  have q4 : ¬ n - 1 = 0 := by omega
  have q5 : ¬ n = 1 := by omega
  have HQ := Lib.hid (And.intro hll hcc)
  obtain ⟨x, y, z⟩ := k
  simp only at h1 k0 k1 k2
  have e1 : (z == 1) = false := by simpa using h1
  have HB := Lib.hid (bel_set (b := W) (o := 2) h.bel h.hW (.slice (some ⟨b, off + 3, none⟩) (n - 1) (cc - 1)))
  have HSL := Lib.hid h.bel.size
  have hbl : b < w.heap.size := by omega
  clear h hk hll hcc hbW hWW
  go_enter Try.func82, Try.ntmps82
  go_wp2_with fail
  refine bodyPost_ret (v := .tuple #[.agg #[.int .i64 0, .int .i64 0], .int .i64 61]) (by simp [results, Try.results82, go_sem]) rfl ⟨rfl, ?_⟩
  exact (HB.out.alloc (by have := HSL.out; simpa using this) _).alloc (by have := HSL.out; simp; omega) _

set_option maxRecDepth 20000 in
set_option maxHeartbeats 2000000 in
theorem curveEnd_none2 (w0 : World) (W : Nat) (st : Sp) (ca : Option Addr) (cc : Nat) (L : List Kn) (g pc : Nat) (P : List Sp) (c : Bool) (w : World) (h : Wk w0 W st ca cc L g pc P c w) (hl : L.length = 2) :
    Calls Try.prog 82 #[.pointer (some ⟨W, 0, none⟩), .int .i64 2] w (EndPost w0 W st g pc P st [] true w) := by
  obtain ⟨k, hk⟩ := get_of (show 0 < L.length by omega)
  obtain ⟨b, off, rfl, _⟩ := h.com.knot hk
  have hcc := h.lc
  have hlt := h.lt
  rw [hl] at hcc
  have HW := Lib.hid h
  have hc2 := h.cs.c2
  have hc0 := h.cs.c0
  have hc1 := h.cs.c1
  have hc4 := h.cs.c4
  have hf2 := h.cs.f2
  have hf4 := h.cs.f4
  rw [hl] at hc2
  have n1 : ¬ W = w.heap.size := by omega
  have n2 : ¬ w.heap.size = W := by omega
  have HLT := Lib.hid hlt
  clear h hk hl
  by_cases he : 2 = cc
  · subst he
    have HW1 := Lib.hid (((HW.out.setC (a' := some ⟨b, off, none⟩) (n' := 0) (c' := 0) (L' := []) (.inl rfl) rfl (Nat.le_refl _)).setB true).below ((Below.refl _ _).alloc (Nat.le_refl _) (.cells #[.int .i64 st.x, .int .i64 st.y] 47)))
    clear hcc
    go_enter Try.func82, Try.ntmps82
    go_wp2_with fail
    refine bodyPost_ret (v := .tuple #[.agg #[.int .i64 st.x, .int .i64 st.y], .int .i64 0]) (by simp [results, Try.results82, go_sem]) rfl ⟨rfl, by simp, _, _, HW1.out, fun b' hb' hne => ?_⟩
    rw [Below.heap_alloc _ _ _ (by simpa using hb'), Below.heap_setCell _ _ _ _ hne, Below.heap_setCell _ _ _ _ hne]
  · have he' : ¬ cc = 2 := fun e => he e.symm
    have hcc' : (2 : Int) ≤ (cc : Int) := by omega
    have HW1 := Lib.hid (((HW.out.setC (a' := some ⟨b, off + 6, none⟩) (n' := 0) (c' := cc - 2) (L' := []) (.inl rfl) rfl (Nat.zero_le _)).setB true).below ((Below.refl _ _).alloc (Nat.le_refl _) (.cells #[.int .i64 st.x, .int .i64 st.y] 47)))
    clear hcc he
    go_enter Try.func82, Try.ntmps82
    go_wp2_with fail
    refine bodyPost_ret (v := .tuple #[.agg #[.int .i64 st.x, .int .i64 st.y], .int .i64 0]) (by simp [results, Try.results82, go_sem]) rfl ⟨rfl, by simp, _, _, HW1.out, fun b' hb' hne => ?_⟩
    rw [Below.heap_alloc _ _ _ (by simpa using hb'), Below.heap_setCell _ _ _ _ hne, Below.heap_setCell _ _ _ _ hne]

set_option maxRecDepth 20000 in
set_option maxHeartbeats 2000000 in
theorem curveEnd_on2 (w0 : World) (W : Nat) (st : Sp) (ca : Option Addr) (cc : Nat) (L : List Kn) (g pc : Nat) (P : List Sp) (c : Bool) (w : World) (k : Kn) (h : Wk w0 W st ca cc L g pc P c w) (hk : L[2]? = some k) (h1 : k.k = 1) :
    Calls Try.prog 82 #[.pointer (some ⟨W, 0, none⟩), .int .i64 2] w (EndPost w0 W st g pc P k.sp (L.drop 3) c w) := by
  have hll : 2 < L.length := (List.getElem?_eq_some_iff.1 hk).1
  obtain ⟨b, off, rfl, k0, k1, k2⟩ := h.read.knot hk
  have hcc := h.lc
  have hlt := h.lt
  have HW := Lib.hid h
  have HR : Hid (IsR clK w0 (some ⟨b, off + 9, none⟩) (L.drop 3)) := h.com.drop clK_length 3
  obtain ⟨n, HN⟩ : ∃ n, Hid (L.length = n) := ⟨_, rfl⟩
  have HNR : Hid ((L.drop 3).length = n - 3) := by unfold Hid; rw [List.length_drop, HN.out]
  have HRJ : Hid (IsR clK w0 (some ⟨b, off + 6, none⟩) (L.drop 2)) := h.com.drop clK_length 2
  have HNJ : Hid ((L.drop 2).length = n - 2) := by unfold Hid; rw [List.length_drop, HN.out]
  have hbW : b < w0.heap.size := World.block_lt_of_cell? w0 _ (by have := h.com.knot hk; obtain ⟨b', o', e, q0, _⟩ := this; cases e; exact q0)
  have hWW := h.hW
  have hc2 := h.cs.c2
  have hf2 := h.cs.f2
  rw [HN.out] at hc2 hll hcc
  have n1 : ¬ W = w.heap.size := by omega
  have n2 : ¬ w.heap.size = W := by omega
  have n3 : ¬ W = b := by omega
  have n4 : ¬ b = W := by omega
  have n5 : ¬ b = w.heap.size := by omega
  have n6 : ¬ w.heap.size = b := by omega
  have he : ¬ cc = 2 := by omega
  have q1 : (2 : Int) ≤ (n : Int) := by omega
  have q2 : (2 : Int) ≤ (cc : Int) := by omega
  have q3 : 0 < n - 2 := by omega
  have q4 : ¬ n - 2 = 0 := by omega
  have q5 : ¬ n = 2 := by omega
  have HQ := Lib.hid (And.intro hll hcc)
  obtain ⟨x, y, z⟩ := k
  simp only at h1 k0 k1 k2
  subst h1
  have hbl : b < w.heap.size := by omega
  clear h hk hll hcc hbW hWW
  have HGL : Hid (g < w.heap.size ∧ w0.heap.size ≤ w.heap.size) := ⟨(ownsRow_cap HW.out.own).2.2, HW.out.bel.size⟩
  have HLT := Lib.hid hlt
  by_cases he2 : cc = 3
  · subst he2
    have HW2 := Lib.hid ((HW.out.setC (a' := some ⟨b, off + 6, none⟩) (n' := n - 2) (c' := 1) HRJ.out HNJ.out (by have := HQ.out; omega)).setC (a' := (some ⟨b, off + 6, none⟩)) (n' := n - 2 - 1) (c' := 0) (L' := L.drop 3) (.inl (List.drop_eq_nil_of_le (by rw [HN.out]; have := HQ.out; omega))) (by rw [HNR.out]; omega) (by have := HQ.out; omega))
    go_enter Try.func82, Try.ntmps82
    go_wp2_with fail
    have HSZ : Hid (((w.setCell ⟨W, 2, none⟩ (.slice (some ⟨b, off + 6, none⟩) (n - 2) 1)).setCell ⟨W, 2, none⟩ (.slice (some ⟨b, off + 6, none⟩) (n - 2 - 1) 0)).heap.size = w.heap.size) := by simp [Hid]
    have HHP : Hid (∀ b', b' ≠ W → ((w.setCell ⟨W, 2, none⟩ (.slice (some ⟨b, off + 6, none⟩) (n - 2) 1)).setCell ⟨W, 2, none⟩ (.slice (some ⟨b, off + 6, none⟩) (n - 2 - 1) 0)).heap[b']? = w.heap[b']?) := fun b' hne => by rw [Below.heap_setCell _ _ _ _ hne, Below.heap_setCell _ _ _ _ hne]
    clear hc2 hf2 k0 k1 k2
    generalize ((w.setCell ⟨W, 2, none⟩ (.slice (some ⟨b, off + 6, none⟩) (n - 2) 1)).setCell ⟨W, 2, none⟩ (.slice (some ⟨b, off + 6, none⟩) (n - 2 - 1) 0)) = V at *
    obtain ⟨z0, z1, z2, z3⟩ := new_cells V (.int .i64 0) (.int .i64 0) 47
    rw [HSZ.out] at z0 z1 z2 z3
    have HZ := Lib.hid (And.intro z0 (And.intro z1 (And.intro z2 z3)))
    clear z0 z1 z2 z3
    refine (placeOf_h ⟨x, y, 1⟩ _).mono ?_
    rintro e w6 ⟨rfl, hb6⟩
    have HW6 := Lib.hid ((HW2.out.below ((Below.refl _ _).alloc (Nat.le_refl _) _)).below (bel_to ((Below.refl _ _).alloc (Nat.le_refl _) _) hb6 (by simp)))
    have o0 := keepC hb6 (keepA HZ.out.1 (.cells #[.int .i64 x, .int .i64 y, .int .i64 1] 37))
    have o1 := keepC hb6 (keepA HZ.out.2.1 (.cells #[.int .i64 x, .int .i64 y, .int .i64 1] 37))
    have f0 := keepF hb6 (keepA HZ.out.1 (.cells #[.int .i64 x, .int .i64 y, .int .i64 1] 37)) (keepAF HZ.out.1 HZ.out.2.2.1 _)
    have f1 := keepF hb6 (keepA HZ.out.2.1 (.cells #[.int .i64 x, .int .i64 y, .int .i64 1] 37)) (keepAF HZ.out.2.1 HZ.out.2.2.2 _)
    have HB6 : Hid (Below V.heap.size V w6) := bel_next (bel_alloc ((Below.refl _ _).alloc (Nat.le_refl _) _) _) hb6
    clear hb6
    go_wp2_with fail
    have n7 : w.heap.size ≠ W := n2
    have n8 : w.heap.size ≠ g := by have := HGL.out; omega
    refine bodyPost_ret (v := .tuple #[.agg #[.int .i64 x, .int .i64 y], .int .i64 0]) (by simp [results, Try.results82, go_sem, o0, o1]) rfl ⟨rfl, ?_, _, _, (HW6.out.setO n7 n8 HGL.out.2).setO n7 n8 HGL.out.2, fun b' hb' hne => ?_⟩
    · have := HB6.out.size; rw [HSZ.out] at this; simp; omega
    · have hx : b' ≠ w.heap.size := by omega
      rw [Below.heap_setCell _ _ _ _ hx, Below.heap_setCell _ _ _ _ hx, HB6.out.block b' (by rw [HSZ.out]; exact hb'), HHP.out b' hne]
  · have he3 : ¬ cc - 2 = 1 := by omega
    have q6 : (1 : Int) ≤ ((cc - 2 : Nat) : Int) := by have := HQ.out; omega
    have HW2 := Lib.hid ((HW.out.setC (a' := some ⟨b, off + 6, none⟩) (n' := n - 2) (c' := cc - 2) HRJ.out HNJ.out (by have := HQ.out; omega)).setC (a' := (some ⟨b, off + 6 + 3, none⟩)) (n' := n - 2 - 1) (c' := cc - 2 - 1) (L' := L.drop 3) HR.out (by rw [HNR.out]; omega) (by have := HQ.out; omega))
    go_enter Try.func82, Try.ntmps82
    go_wp2_with fail
    have HSZ : Hid (((w.setCell ⟨W, 2, none⟩ (.slice (some ⟨b, off + 6, none⟩) (n - 2) (cc - 2))).setCell ⟨W, 2, none⟩ (.slice (some ⟨b, off + 6 + 3, none⟩) (n - 2 - 1) (cc - 2 - 1))).heap.size = w.heap.size) := by simp [Hid]
    have HHP : Hid (∀ b', b' ≠ W → ((w.setCell ⟨W, 2, none⟩ (.slice (some ⟨b, off + 6, none⟩) (n - 2) (cc - 2))).setCell ⟨W, 2, none⟩ (.slice (some ⟨b, off + 6 + 3, none⟩) (n - 2 - 1) (cc - 2 - 1))).heap[b']? = w.heap[b']?) := fun b' hne => by rw [Below.heap_setCell _ _ _ _ hne, Below.heap_setCell _ _ _ _ hne]
    clear hc2 hf2 k0 k1 k2
    generalize ((w.setCell ⟨W, 2, none⟩ (.slice (some ⟨b, off + 6, none⟩) (n - 2) (cc - 2))).setCell ⟨W, 2, none⟩ (.slice (some ⟨b, off + 6 + 3, none⟩) (n - 2 - 1) (cc - 2 - 1))) = V at *
    obtain ⟨z0, z1, z2, z3⟩ := new_cells V (.int .i64 0) (.int .i64 0) 47
    rw [HSZ.out] at z0 z1 z2 z3
    have HZ := Lib.hid (And.intro z0 (And.intro z1 (And.intro z2 z3)))
    clear z0 z1 z2 z3
    refine (placeOf_h ⟨x, y, 1⟩ _).mono ?_
    rintro e w6 ⟨rfl, hb6⟩
    have HW6 := Lib.hid ((HW2.out.below ((Below.refl _ _).alloc (Nat.le_refl _) _)).below (bel_to ((Below.refl _ _).alloc (Nat.le_refl _) _) hb6 (by simp)))
    have o0 := keepC hb6 (keepA HZ.out.1 (.cells #[.int .i64 x, .int .i64 y, .int .i64 1] 37))
    have o1 := keepC hb6 (keepA HZ.out.2.1 (.cells #[.int .i64 x, .int .i64 y, .int .i64 1] 37))
    have f0 := keepF hb6 (keepA HZ.out.1 (.cells #[.int .i64 x, .int .i64 y, .int .i64 1] 37)) (keepAF HZ.out.1 HZ.out.2.2.1 _)
    have f1 := keepF hb6 (keepA HZ.out.2.1 (.cells #[.int .i64 x, .int .i64 y, .int .i64 1] 37)) (keepAF HZ.out.2.1 HZ.out.2.2.2 _)
    have HB6 : Hid (Below V.heap.size V w6) := bel_next (bel_alloc ((Below.refl _ _).alloc (Nat.le_refl _) _) _) hb6
    clear hb6
    go_wp2_with fail
    have n7 : w.heap.size ≠ W := n2
    have n8 : w.heap.size ≠ g := by have := HGL.out; omega
    refine bodyPost_ret (v := .tuple #[.agg #[.int .i64 x, .int .i64 y], .int .i64 0]) (by simp [results, Try.results82, go_sem, o0, o1]) rfl ⟨rfl, ?_, _, _, (HW6.out.setO n7 n8 HGL.out.2).setO n7 n8 HGL.out.2, fun b' hb' hne => ?_⟩
    · have := HB6.out.size; rw [HSZ.out] at this; simp; omega
    · have hx : b' ≠ w.heap.size := by omega
      rw [Below.heap_setCell _ _ _ _ hx, Below.heap_setCell _ _ _ _ hx, HB6.out.block b' (by rw [HSZ.out]; exact hb'), HHP.out b' hne]

set_option maxRecDepth 20000 in
set_option maxHeartbeats 2000000 in
theorem curveEnd_bad2 (w0 : World) (W : Nat) (st : Sp) (ca : Option Addr) (cc : Nat) (L : List Kn) (g pc : Nat) (P : List Sp) (c : Bool) (w : World) (k : Kn) (h : Wk w0 W st ca cc L g pc P c w) (hk : L[2]? = some k) (h1 : ¬ k.k = 1) :
    Calls Try.prog 82 #[.pointer (some ⟨W, 0, none⟩), .int .i64 2] w fun e w' => e = .returned (.tuple #[.agg #[.int .i64 0, .int .i64 0], .int .i64 61]) ∧ Below w0.heap.size w0 w' := by
  have hll : 2 < L.length := (List.getElem?_eq_some_iff.1 hk).1
  obtain ⟨b, off, rfl, k0, k1, k2⟩ := h.read.knot hk
  have hcc := h.lc
  have hlt := h.lt
  have HW := Lib.hid h
  have HR : Hid (IsR clK w0 (some ⟨b, off + 9, none⟩) (L.drop 3)) := h.com.drop clK_length 3
  obtain ⟨n, HN⟩ : ∃ n, Hid (L.length = n) := ⟨_, rfl⟩
  have HNR : Hid ((L.drop 3).length = n - 3) := by unfold Hid; rw [List.length_drop, HN.out]
  have HRJ : Hid (IsR clK w0 (some ⟨b, off + 6, none⟩) (L.drop 2)) := h.com.drop clK_length 2
  have HNJ : Hid ((L.drop 2).length = n - 2) := by unfold Hid; rw [List.length_drop, HN.out]
  have hbW : b < w0.heap.size := World.block_lt_of_cell? w0 _ (by have := h.com.knot hk; obtain ⟨b', o', e, q0, _⟩ := this; cases e; exact q0)
  have hWW := h.hW
  have hc2 := h.cs.c2
  have hf2 := h.cs.f2
  rw [HN.out] at hc2 hll hcc
  have n1 : ¬ W = w.heap.size := by omega
  have n2 : ¬ w.heap.size = W := by omega
  have n3 : ¬ W = b := by omega
  have n4 : ¬ b = W := by omega
  have n5 : ¬ b = w.heap.size := by omega
  have n6 : ¬ w.heap.size = b := by omega
  have he : ¬ cc = 2 := by omega
  have q1 : (2 : Int) ≤ (n : Int) := by omega
  have q2 : (2 : Int) ≤ (cc : Int) := by omega
  have q3 : 0 < n - 2 := by omega
  have q4 : ¬ n - 2 = 0 := by omega
  have q5 : ¬ n = 2 := by omega
  have HQ := Lib.hid (And.intro hll hcc)
  obtain ⟨x, y, z⟩ := k
  simp only at h1 k0 k1 k2
  have e1 : (z == 1) = false := by simpa using h1
  have HB := Lib.hid (bel_set (b := W) (o := 2) h.bel h.hW (.slice (some ⟨b, off + 6, none⟩) (n - 2) (cc - 2)))
  have HSL := Lib.hid h.bel.size
  have hbl : b < w.heap.size := by omega
  clear h hk hll hcc hbW hWW
  go_enter Try.func82, Try.ntmps82
  go_wp2_with fail
  refine bodyPost_ret (v := .tuple #[.agg #[.int .i64 0, .int .i64 0], .int .i64 61]) (by simp [results, Try.results82, go_sem]) rfl ⟨rfl, ?_⟩
  exact (HB.out.alloc (by have := HSL.out; simpa using this) _).alloc (by have := HSL.out; simp; omega) _

end Go.Proofs.Ythjhekmlhmljlaa
