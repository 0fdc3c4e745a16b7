/-
  A zone that is smoothed in place: what is known of the world under way.
-/
import Derived.Test.YtnoadceeenioeaaZx
namespace Go.Proofs.Ytnoadceeenioeaa
open Go.RowKit Go.PlainAid
set_option linter.unusedSimpArgs false
set_option linter.unusedVariables false

/-- A block of a zone's cells. -/
structure GZ (V : World) (G : Nat) (v0 v1 v2 v3 v4 : Value) : Prop where
  b : BxW V G v0 v1 v2 v3 v4
  f : Fz5 V G
  t : ∃ cs fr, V.heap[G]? = some (.cells cs 31 fr)
theorem GZ.below {V V' : World} {G : Nat} {v0 v1 v2 v3 v4 : Value} (H : GZ V G v0 v1 v2 v3 v4) (hb : Below V.heap.size V V') : GZ V' G v0 v1 v2 v3 v4 := by
  obtain ⟨cs, fr, h⟩ := H.t
  exact ⟨H.b.below hb, H.f.below H.b hb, cs, fr, by rw [hb.block G (Array.getElem?_eq_some_iff.1 h).1]; exact h⟩
theorem GZ.set {V : World} {G : Nat} {v0 v1 v2 v3 v4 : Value} (H : GZ V G v0 v1 v2 v3 v4) {b : Nat} (o : Nat) (u : Value) (hb : b ≠ G) : GZ (V.setCell ⟨b, o, none⟩ u) G v0 v1 v2 v3 v4 := by
  obtain ⟨cs, fr, h⟩ := H.t
  exact ⟨H.b.set o u hb, H.f.set _ _, cs, fr, by rw [Below.heap_setCell _ _ _ _ (Ne.symm hb)]; exact h⟩
theorem type_set {V : World} {G : Nat} {T : TypeId} (h : ∃ cs fr, V.heap[G]? = some (.cells cs T fr)) (p : Addr) (u : Value) : ∃ cs fr, (V.setCell p u).heap[G]? = some (.cells cs T fr) := by
  obtain ⟨cs, fr, h⟩ := h
  by_cases e : p.block = G
  · subst e
    obtain ⟨pb, po, pk⟩ := p
    exact ⟨_, _, by simp only [World.setCell, Array.getElem?_modify, h]; simp; exact ⟨rfl, rfl⟩⟩
  · exact ⟨cs, fr, by rw [Below.heap_setCell _ _ _ _ (fun e2 => e e2.symm)]; exact h⟩
theorem gz_new (w : World) (v0 v1 v2 v3 v4 : Value) : GZ (w.alloc (.cells #[v0, v1, v2, v3, v4] 31)) w.heap.size v0 v1 v2 v3 v4 :=
  ⟨bxW_new w _ _ _ _ _, fz5_new w _ _ _ _ _, _, _, heap_alloc_new w _⟩
theorem apart_blk {w : World} {B G : Nat} {e T : TypeId} {s n m c : Nat} {a : Option Addr} {xs : List Value} (h : w.ownsRow B e s (.slice a m c) n xs) (hG : ∃ cs fr, w.heap[G]? = some (.cells cs T fr)) (hne : e ≠ T) : Apart a (some ⟨G, 0, none⟩) := by
  intro x y hx hy ee
  cases hy
  obtain ⟨cs, fr, h1⟩ := own_type h x hx
  obtain ⟨ds, fs, h2⟩ := hG
  rw [ee] at h1
  dsimp only at h1
  rw [h2] at h1
  cases h1
  exact hne rfl
theorem tz1 : (38 : TypeId) ≠ 31 := by decide
theorem tz2 : (4 : TypeId) ≠ 31 := by decide
theorem tz3 : (3 : TypeId) ≠ 31 := by decide
theorem tz4 : (82 : TypeId) ≠ 31 := by decide
theorem tz5 : (38 : TypeId) ≠ 82 := by decide
theorem ZOwn.setZone {w : World} {B G : Nat} {Z : Zn} {a0 a1 a2 a3 a4 : Option Addr} {c0 c1 c2 c3 c4 : Nat} (h : ZOwn w B Z a0 a1 a2 a3 a4 c0 c1 c2 c3 c4) (hG : ∃ cs fr, w.heap[G]? = some (.cells cs 31 fr)) (i : Nat) (u : Value) : ZOwn (w.setCell ⟨G, i, none⟩ u) B Z a0 a1 a2 a3 a4 c0 c1 c2 c3 c4 :=
  ⟨own_setA (m := 0) _ h.o0 (apart_blk h.o0 hG tz1), own_setA (m := 0) _ h.o1 (apart_blk h.o1 hG tz1), own_setA (m := 0) _ h.o2 (apart_blk h.o2 hG tz2), own_setA (m := 0) _ h.o3 (apart_blk h.o3 hG tz2), own_setA (m := 0) _ h.o4 (apart_blk h.o4 hG tz3), h.h01, h.h23⟩

/-- Under way. -/
structure SmS (w V : World) (h G g n : Nat) (Z : Zn) (M : List Mk) (b0 b1 b2 b3 b4 : Option Addr) (d0 d1 d2 d3 d4 : Nat) : Prop where
  zr : BxW V (h + 1) (.slice none 0 0) (.slice none 0 0) (.slice none 0 0) (.slice none 0 0) (.slice none 0 0)
  zf : Fz5 V (h + 1)
  gz : GZ V G (.slice b0 n d0) (.slice b1 n d1) (.slice b2 n d2) (.slice b3 n d3) (.slice b4 Z.ends.length d4)
  zo : ZOwn V (h + 2) Z b0 b1 b2 b3 b4 d0 d1 d2 d3 d4
  mr : V.ownsRow (h + 2) 82 3 (.slice (some ⟨g, 0, none⟩) n n) n (M.flatMap clM)
  bel : Below h w V
  sz : h + 2 ≤ V.heap.size
  hw : w.heap.size = h
theorem SmS.below {w V V' : World} {h G g n : Nat} {Z : Zn} {M : List Mk} {b0 b1 b2 b3 b4 : Option Addr} {d0 d1 d2 d3 d4 : Nat} (H : SmS w V h G g n Z M b0 b1 b2 b3 b4 d0 d1 d2 d3 d4) (hb : Below V.heap.size V V') : SmS w V' h G g n Z M b0 b1 b2 b3 b4 d0 d1 d2 d3 d4 :=
  ⟨H.zr.below hb, H.zf.below H.zr hb, H.gz.below hb, H.zo.below hb, own_below H.mr hb, bel_to H.bel hb (by have := H.sz; omega), by have := H.sz; have := hb.size; omega, H.hw⟩
theorem SmS.grown {w V V' : World} {h G g n : Nat} {Z : Zn} {M : List Mk} {b0 b1 b2 b3 b4 : Option Addr} {d0 d1 d2 d3 d4 : Nat} (H : SmS w V h G g n Z M b0 b1 b2 b3 b4 d0 d1 d2 d3 d4) {r : Nat} (hg : V.grownBy V' (some r)) {N : Nat} (hN : ∀ x, x < N → x ≠ r) (hNV : V.heap.size ≤ N) : SmS w V' h G g n Z M b0 b1 b2 b3 b4 d0 d1 d2 d3 d4 :=
  H.below ⟨hg.os, hg.tape, hg.output, hg.size, fun i hi => hg.block i hi (fun e => hN i (by omega) (by cases e; rfl))⟩
theorem SmS.put {w V : World} {h G g n g1 : Nat} {Z : Zn} {M : List Mk} {b0 b2 b3 b4 : Option Addr} {d0 d1 d2 d3 d4 : Nat} (H : SmS w V h G g n Z M b0 (some ⟨g1, 0, none⟩) b2 b3 b4 d0 d1 d2 d3 d4) (axis : Int) (p : Nat) (q : Int) :
    SmS w (V.setCell ⟨g1, p * 2 + axO axis, none⟩ (.int .i64 q)) h G g n (Z.setCur axis p q) M b0 (some ⟨g1, 0, none⟩) b2 b3 b4 d0 d1 d2 d3 d4 := by
  have h1 := own_lt H.zo.o1 _ rfl
  dsimp only at h1
  have hne : g1 ≠ G := fun e => apart_blk H.zo.o1 H.gz.t tz1 ⟨g1, 0, none⟩ ⟨G, 0, none⟩ rfl rfl e
  exact ⟨H.zr.set _ _ (by omega), H.zf.set _ _, H.gz.set _ _ hne, H.zo.setCur axis p q, own_setA (m := 0) _ H.mr (apart_type tz5 H.zo.o1 H.mr).symm, bel_set H.bel (by omega) _, by simpa [go_sem] using H.sz, H.hw⟩

theorem flat_drop {α : Type} {cl : α → List Value} {s : Nat} (hcl : ∀ x, (cl x).length = s) : ∀ (L : List α) (k : Nat), (L.drop k).flatMap cl = (L.flatMap cl).drop (k * s)
  | L, 0 => by simp
  | [], k + 1 => by simp
  | a :: L, k + 1 => by
    rw [List.drop_succ_cons, flat_drop hcl L k, List.flatMap_cons, Nat.add_mul, Nat.one_mul, Nat.add_comm, ← List.drop_drop, ← hcl a, List.drop_left]
theorem lies_drop {w : World} {b off : Nat} {xs : List Value} (h : Lies w b off xs) (m : Nat) : Lies w b (off + m) (xs.drop m) := by
  intro j u hj
  rw [List.getElem?_drop] at hj
  rw [Nat.add_assoc]
  exact h _ u hj
theorem lies_pre {w : World} {b off : Nat} {xs ys : List Value} (h : Lies w b off (xs ++ ys)) : Lies w b off xs := by
  intro j u hj
  refine h j u ?_
  have := (List.getElem?_eq_some_iff.1 hj).1
  rw [List.getElem?_append_left this]; exact hj
/-- A part of a row is read as a part of its list. -/
theorem isR_part {α : Type} {cl : α → List Value} {s : Nat} (hcl : ∀ x, (cl x).length = s) {w : World} {g : Nat} {L : List α} (h : Lies w g 0 (L.flatMap cl)) (k m : Nat) : IsR cl w (some ⟨g, k * s, none⟩) ((L.drop k).take m) := by
  refine .inr ⟨g, k * s, rfl, ?_⟩
  have h1 := lies_drop h (k * s)
  rw [Nat.zero_add, ← flat_drop hcl] at h1
  have h2 : (L.drop k).flatMap cl = ((L.drop k).take m).flatMap cl ++ ((L.drop k).drop m).flatMap cl := by rw [← List.flatMap_append, List.take_append_drop]
  rw [h2] at h1
  exact lies_pre h1

end Go.Proofs.Ytnoadceeenioeaa
