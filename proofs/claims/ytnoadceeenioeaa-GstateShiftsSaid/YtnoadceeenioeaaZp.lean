/-
  What Put of package gstate answers, where it refuses; a zone of its own, written in place.
-/
import Derived.Test.YtnoadceeenioeaaZh
namespace Go.Proofs.Ytnoadceeenioeaa
open Go.RowKit Go.PlainAid
set_option linter.unusedSimpArgs false
set_option linter.unusedVariables false

theorem heap_set {w : World} {W i : Nat} {cs : Array Value} {T : TypeId} {fr : Nat × Nat} {u : Value} (h : w.heap[W]? = some (.cells cs T fr)) : (w.setCell ⟨W, i, none⟩ u).heap[W]? = some (.cells (cs.setIfInBounds i u) T fr) := by
  simp [World.setCell, Array.getElem?_modify, h]
theorem own_put {w : World} {B : Nat} {e : TypeId} {s n g c : Nat} {xs : List Value} (h : w.ownsRow B e s (.slice (some ⟨g, 0, none⟩) n c) n xs) (i : Nat) (u : Value) : (w.setCell ⟨g, i, none⟩ u).ownsRow B e s (.slice (some ⟨g, 0, none⟩) n c) n (xs.set i u) := by
  refine ⟨by rw [List.length_set]; exact h.1, ?_⟩
  rcases h.2 with ⟨hv, _⟩ | ⟨g', cap, cur, hv, hb, hg, hnc, hcm, hcs, ht⟩
  · cases hv
  · cases hv
    refine .inr ⟨g, c, cur.setIfInBounds i u, rfl, hb, heap_set hg, hnc, hcm, by rw [Array.size_setIfInBounds]; exact hcs, ?_⟩
    rw [← ht, Array.toList_setIfInBounds, List.take_set]
theorem flat_setA (axis q : Int) (L : List Sp) : ∀ (j : Nat), ((L.flatMap clS).set (j * 2 + axO axis) (.int .i64 q)) = (L.modify j fun s => axS axis s q).flatMap clS := by
  induction L with
  | nil => intro j; simp
  | cons a L ih =>
    intro j
    cases j with
    | zero => by_cases h : axis = 0 <;> simp [clS, axS, axO, h]
    | succ j =>
      have h1 : (j + 1) * 2 + axO axis = j * 2 + axO axis + 2 := by omega
      rw [List.flatMap_cons, h1, List.modify_succ_cons, List.flatMap_cons, ← ih j]
      simp [clS, List.set_cons_succ]
theorem flat_setB (b : Bool) (L : List Bool) : ∀ (j : Nat), ((L.flatMap clB).set j (.bool b)) = (L.set j b).flatMap clB := by
  induction L with
  | nil => intro j; simp
  | cons a L ih =>
    intro j
    cases j with
    | zero => simp [clB]
    | succ j =>
      rw [List.flatMap_cons, List.set_cons_succ, List.flatMap_cons, ← ih j]
      simp [clB, List.set_cons_succ]
theorem own_some {w : World} {B : Nat} {e : TypeId} {s n c : Nat} {a : Option Addr} {xs : List Value} (h : w.ownsRow B e s (.slice a n c) n xs) (hn : 0 < n) : ∃ g, a = some ⟨g, 0, none⟩ ∧ B ≤ g ∧ g < w.heap.size ∧ n ≤ c := by
  rcases h.2 with ⟨hv, h3⟩ | ⟨g', cap, cur, hv, hb, hg, hnc, hcm, hcs, ht⟩
  · omega
  · cases hv
    exact ⟨g', rfl, hb, (Array.getElem?_eq_some_iff.1 hg).1, hnc⟩
theorem own_frozen {w : World} {B : Nat} {e : TypeId} {s n m g c : Nat} {xs : List Value} (h : w.ownsRow B e s (.slice (some ⟨g, 0, none⟩) m c) n xs) (i : Nat) : w.frozen? ⟨g, i, none⟩ = false := by
  rcases h.2 with ⟨hv, _⟩ | ⟨g', cap, cur, hv, hb, hg, hnc, hcm, hcs, ht⟩
  · cases hv
  · cases hv
    simp [World.frozen?, hg]
theorem own_setA {w : World} {B : Nat} {e : TypeId} {s n m c g i : Nat} {a : Option Addr} {xs : List Value} (u : Value) (h : w.ownsRow B e s (.slice a n c) n xs) (hd : Apart a (some ⟨g, 0, none⟩)) : (w.setCell ⟨g, i, none⟩ u).ownsRow B e s (.slice a n c) n xs :=
  own_keep h fun k hk => by
    cases a with
    | none => simp [Value.ownBlock] at hk
    | some x =>
      have : x.block = k := by simpa [Value.ownBlock] using hk
      subst this
      exact Below.heap_setCell _ _ _ _ (hd x ⟨g, 0, none⟩ rfl rfl)

/-- A point of a zone is put elsewhere. -/
def Zn.setCur (Z : Zn) (axis : Int) (p : Nat) (q : Int) : Zn := ⟨Z.org, Z.cur.modify p fun s => axS axis s q, Z.tx, Z.ty, Z.ends⟩
/-- .. and touched. -/
def Zn.touch (Z : Zn) (axis : Int) (p : Nat) : Zn := ⟨Z.org, Z.cur, if axis = 0 then Z.tx.set p true else Z.tx, if axis = 0 then Z.ty else Z.ty.set p true, Z.ends⟩
theorem tyne1 : (38 : TypeId) ≠ 4 := by decide
theorem tyne2 : (38 : TypeId) ≠ 3 := by decide
theorem tyne3 : (4 : TypeId) ≠ 3 := by decide

theorem ZOwn.setCur {w : World} {B : Nat} {Z : Zn} {a0 a2 a3 a4 : Option Addr} {g c0 c1 c2 c3 c4 : Nat} (h : ZOwn w B Z a0 (some ⟨g, 0, none⟩) a2 a3 a4 c0 c1 c2 c3 c4) (axis : Int) (p : Nat) (q : Int) :
    ZOwn (w.setCell ⟨g, p * 2 + axO axis, none⟩ (.int .i64 q)) B (Z.setCur axis p q) a0 (some ⟨g, 0, none⟩) a2 a3 a4 c0 c1 c2 c3 c4 := by
  have e : (Z.setCur axis p q).cur.length = Z.cur.length := by simp [Zn.setCur]
  refine ⟨own_setA (m := 0) _ h.o0 h.h01, ?_, own_setA (m := 0) _ h.o2 (apart_type tyne1 h.o1 h.o2).symm, own_setA (m := 0) _ h.o3 (apart_type tyne1 h.o1 h.o3).symm, own_setA (m := 0) _ h.o4 (apart_type tyne2 h.o1 h.o4).symm, h.h01, h.h23⟩
  rw [e, show (Z.setCur axis p q).cur = Z.cur.modify p fun s => axS axis s q from rfl, ← flat_setA]
  exact own_put h.o1 _ _
theorem ZOwn.touchX {w : World} {B : Nat} {Z : Zn} {a0 a1 a3 a4 : Option Addr} {g c0 c1 c2 c3 c4 : Nat} (h : ZOwn w B Z a0 a1 (some ⟨g, 0, none⟩) a3 a4 c0 c1 c2 c3 c4) (p : Nat) :
    ZOwn (w.setCell ⟨g, p, none⟩ (.bool true)) B (Z.touch 0 p) a0 a1 (some ⟨g, 0, none⟩) a3 a4 c0 c1 c2 c3 c4 := by
  have e : (Z.touch 0 p).tx.length = Z.tx.length := by simp [Zn.touch]
  refine ⟨own_setA (m := 0) _ h.o0 (apart_type tyne1 h.o0 h.o2), own_setA (m := 0) _ h.o1 (apart_type tyne1 h.o1 h.o2), ?_, own_setA (m := 0) _ h.o3 h.h23.symm, own_setA (m := 0) _ h.o4 (apart_type tyne3 h.o2 h.o4).symm, h.h01, h.h23⟩
  rw [e, show (Z.touch 0 p).tx = Z.tx.set p true from rfl, ← flat_setB]
  exact own_put h.o2 _ _
theorem ZOwn.touchY {w : World} {B : Nat} {Z : Zn} {a0 a1 a2 a4 : Option Addr} {g c0 c1 c2 c3 c4 : Nat} (h : ZOwn w B Z a0 a1 a2 (some ⟨g, 0, none⟩) a4 c0 c1 c2 c3 c4) {axis : Int} (ha : axis ≠ 0) (p : Nat) :
    ZOwn (w.setCell ⟨g, p, none⟩ (.bool true)) B (Z.touch axis p) a0 a1 a2 (some ⟨g, 0, none⟩) a4 c0 c1 c2 c3 c4 := by
  have e1 : Z.touch axis p = ⟨Z.org, Z.cur, Z.tx, Z.ty.set p true, Z.ends⟩ := by simp [Zn.touch, ha]
  rw [e1]
  have e : (Z.ty.set p true).length = Z.ty.length := by simp
  refine ⟨own_setA (m := 0) _ h.o0 (apart_type tyne1 h.o0 h.o3), own_setA (m := 0) _ h.o1 (apart_type tyne1 h.o1 h.o3), own_setA (m := 0) _ h.o2 h.h23, ?_, own_setA (m := 0) _ h.o4 (apart_type tyne3 h.o3 h.o4).symm, h.h01, h.h23⟩
  dsimp only
  rw [e, ← flat_setB]
  exact own_put h.o3 _ _

/-- What Put answers. -/
def putZ (Z : Zn) (axis p q : Int) : Zn × Int :=
  if (soundB Z && (axis == 0 || axis == 1) && decide (0 ≤ p) && decide (p < Z.org.length)) = false then (zn0, 91)
  else if fixB q = false then (zn0, 94)
  else ((Z.setCur axis p.toNat q).touch axis p.toNat, 0)
/-- What answers a zone of its own, and an error. -/
def ZeroPost (w : World) (R : Zn × Int) (e : Ending) (w' : World) : Prop := ∃ a0 a1 a2 a3 a4 c0 c1 c2 c3 c4, e = .returned (.tuple #[zv R.1 a0 a1 a2 a3 a4 c0 c1 c2 c3 c4, .int .i64 R.2]) ∧ ZOwn w' w.heap.size R.1 a0 a1 a2 a3 a4 c0 c1 c2 c3 c4 ∧ Below w.heap.size w w'
theorem zeroPost_no {w w' : World} {R : Zn × Int} {n : Int} (h : R = (zn0, n)) {e : Ending} (he : e = .returned (.tuple #[.agg #[.slice none 0 0, .slice none 0 0, .slice none 0 0, .slice none 0 0, .slice none 0 0], .int .i64 n])) (hb : Below w.heap.size w w') : ZeroPost w R e w' := by
  subst h
  exact ⟨none, none, none, none, none, 0, 0, 0, 0, 0, he, zown0 _ _, hb⟩

end Go.Proofs.Ytnoadceeenioeaa
