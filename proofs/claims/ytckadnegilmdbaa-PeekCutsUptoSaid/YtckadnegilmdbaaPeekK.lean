/-
  Bytes that are written: what a world keeps while the bytes of blocks of the call's own are written, and append of one byte to a slice of the call's own. No conditions but those that each theorem names.
-/
import Derived.Test.YtckadnegilmdbaaPeekA
import Derived.ArgAppend
import Derived.Laws.IdiomCopy
namespace Go.Proofs.Ytckadnegilmdbaa
open Go.RowKit Go.PlainAid
set_option linter.unusedSimpArgs false
set_option linter.unusedVariables false

/-- The first n cells of the block are bytes that may be written. -/
def Room (w : World) (g n : Nat) : Prop := ∀ i, i < n → (∃ z, w.cell? ⟨g, i, none⟩ = some (.int .u8 z)) ∧ w.frozen? ⟨g, i, none⟩ = false

theorem Room.set {w : World} {g n : Nat} (h : Room w g n) (b j : Nat) (z : Int) : Room (w.setCell ⟨b, j, none⟩ (.int .u8 z)) g n := by
  intro i hi
  obtain ⟨⟨y, hy⟩, hf⟩ := h i hi
  refine ⟨?_, by simpa using hf⟩
  by_cases e : (⟨b, j, none⟩ : Addr) = ⟨g, i, none⟩
  · exact ⟨z, by rw [← e]; exact World.cell?_setCell_same w _ _ (u := .int .u8 y) (by rw [e]; exact hy)⟩
  · exact ⟨y, by rw [World.cell?_setCell_other w _ _ _ e]; exact hy⟩
theorem Room.below {w w' : World} {g n : Nat} (h : Room w g n) (hb : Below w.heap.size w w') : Room w' g n := by
  intro i hi
  obtain ⟨⟨y, hy⟩, hf⟩ := h i hi
  have hlt := World.block_lt_of_cell? w _ hy
  exact ⟨⟨y, by rw [hb.cell (p := ⟨g, i, none⟩) hlt]; exact hy⟩, by rw [hb.frozen (p := ⟨g, i, none⟩) hlt]; exact hf⟩
theorem Room.mono {w : World} {g n m : Nat} (h : Room w g n) (hm : m ≤ n) : Room w g m := fun i hi => h i (by omega)
theorem Room.alloc {w : World} {g n : Nat} (h : Room w g n) (o : Obj) : Room (w.alloc o) g n := h.below ((Below.refl _ _).alloc (Nat.le_refl _) _)

theorem room_owns {w : World} {base g c n : Nat} {xs : List Value} (h : w.ownsRow base 5 1 (.slice (some ⟨g, 0, none⟩) n c) n xs) (hx : ∀ (i : Nat) (u : Value), xs[i]? = some u → ∃ z, u = Value.int .u8 z) : Room w g n := by
  intro i hi
  have hl := h.1
  obtain ⟨u, hu⟩ : ∃ u, xs[i]? = some u := ⟨xs[i]'(by omega), by simp [show i < xs.length by omega]⟩
  have hc := h.cells (g := g) rfl i u hu
  obtain ⟨z, rfl⟩ := hx i u hu
  rw [Addr.add_lit, Nat.zero_add] at hc
  refine ⟨⟨z, hc⟩, ?_⟩
  rcases h.2 with ⟨hv, _⟩ | ⟨g', cap, cur, hv, _, hg, _⟩
  · cases hv
  · cases hv
    simp [World.frozen?, hg]

theorem room_bytes (w : World) (s : ByteArray) : Room (Lib.bytesWorld w 5 s) w.heap.size (grownCap w s.size 0 5) := by
  intro i hi
  have hge := grownCap_ge w s.size 0 5
  have hsz : (Lib.bytesCells w 5 s).size = grownCap w s.size 0 5 := by
    have h1 : s.data.size = s.size := rfl
    simp [Lib.bytesCells, h1]; omega
  constructor
  · simp only [World.cell?, Lib.bytesWorld_at_new]
    by_cases h : i < s.size
    · have h2 : i < s.data.size := h
      refine ⟨((s.data[i]'h2).toNat : Int), ?_⟩
      simp [Lib.bytesCells, Array.getElem?_append, h, Array.getElem?_eq_getElem h2]
    · have h2 : ¬ i < s.data.size := h
      have h3 : i - s.size < grownCap w s.size 0 5 - s.size := by omega
      refine ⟨0, ?_⟩
      simp [Lib.bytesCells, Array.getElem?_append, h, Array.getElem?_replicate, h3]
  · simp [World.frozen?, Lib.bytesWorld_at_new, hsz]
    omega

/-- What is kept: all that was there at the call's beginning, and the two views. -/
structure Sit (w : World) (s : ByteArray) (gv gc : Nat) (wr : World) : Prop where
  bel : Below w.heap.size w wr
  v : wr.cell? ⟨gv, 0, none⟩ = some (.string s)
  c : wr.cell? ⟨gc, 0, none⟩ = some (.string s)

theorem Sit.set {w wr : World} {s : ByteArray} {gv gc : Nat} (h : Sit w s gv gc wr) {g : Nat} (j : Nat) (u : Value) (h0 : w.heap.size ≤ g) (h1 : g ≠ gv) (h2 : g ≠ gc) : Sit w s gv gc (wr.setCell ⟨g, j, none⟩ u) :=
  ⟨h.bel.setCell h0 u, by rw [World.cell?_setCell_other wr _ _ _ (by intro e; cases e; omega)]; exact h.v, by rw [World.cell?_setCell_other wr _ _ _ (by intro e; cases e; omega)]; exact h.c⟩
theorem Sit.below {w wr w' : World} {s : ByteArray} {gv gc : Nat} (h : Sit w s gv gc wr) (hb : Below wr.heap.size wr w') : Sit w s gv gc w' :=
  ⟨h.bel.trans (hb.mono h.bel.size), by rw [hb.cell (p := ⟨gv, 0, none⟩) (World.block_lt_of_cell? wr _ h.v)]; exact h.v, by rw [hb.cell (p := ⟨gc, 0, none⟩) (World.block_lt_of_cell? wr _ h.c)]; exact h.c⟩
theorem Sit.alloc {w wr : World} {s : ByteArray} {gv gc : Nat} (h : Sit w s gv gc wr) (o : Obj) : Sit w s gv gc (wr.alloc o) := h.below ((Below.refl _ _).alloc (Nat.le_refl _) _)

/-- The first n cells of the block are there and may be written. -/
def Slots (w : World) (g n : Nat) : Prop := ∀ i, i < n → (w.cell? ⟨g, i, none⟩).isSome = true ∧ w.frozen? ⟨g, i, none⟩ = false
theorem Room.slots {w : World} {g n : Nat} (h : Room w g n) : Slots w g n := fun i hi => by
  obtain ⟨⟨z, hz⟩, hf⟩ := h i hi
  exact ⟨by rw [hz]; rfl, hf⟩
theorem Slots.set {w : World} {g n : Nat} (h : Slots w g n) (b j : Nat) (u : Value) : Slots (w.setCell ⟨b, j, none⟩ u) g n := by
  intro i hi
  obtain ⟨hy, hf⟩ := h i hi
  obtain ⟨y, hy⟩ := Option.isSome_iff_exists.1 hy
  obtain ⟨y', hy'⟩ := cell?_setCell_some (p := ⟨b, j, none⟩) (x := u) hy
  exact ⟨by rw [hy']; rfl, by simpa using hf⟩
theorem Slots.below {w w' : World} {g n : Nat} (h : Slots w g n) (hb : Below w.heap.size w w') : Slots w' g n := by
  intro i hi
  obtain ⟨hy, hf⟩ := h i hi
  obtain ⟨y, hy⟩ := Option.isSome_iff_exists.1 hy
  have hlt := World.block_lt_of_cell? w _ hy
  exact ⟨by rw [hb.cell (p := ⟨g, i, none⟩) hlt, hy]; rfl, by rw [hb.frozen (p := ⟨g, i, none⟩) hlt]; exact hf⟩
theorem Slots.alloc {w : World} {g n : Nat} (h : Slots w g n) (o : Obj) : Slots (w.alloc o) g n := h.below ((Below.refl _ _).alloc (Nat.le_refl _) _)

theorem setCells_one (w : World) (b o : Nat) (u : Value) : w.setCells b o [u] = w.setCell ⟨b, o, none⟩ u := by simp [World.setCells]

/-- A slice of the call's own to which bytes are appended. -/
structure Own (w : World) (s : ByteArray) (gv gc : Nat) (n : Nat) (v : Value) (wr : World) : Prop where
  sit : Sit w s gv gc wr
  at' : ∃ g cap, v = .slice (some ⟨g, 0, none⟩) n cap ∧ n ≤ cap ∧ w.heap.size ≤ g ∧ g ≠ gv ∧ g ≠ gc ∧ Slots wr g cap

theorem wpList_more {ops : Array Oper} {rest : List Oper} {o : Oper} {t : Act} {Q : Exit → Act → World → Prop} (hgd : o.guard = none) (sl x : Operand)
    (ho : o.op = .call { callee := .builtin .append, args := #[sl, x], argTypes := #[22, 22] })
    (w wr : World) (s : ByteArray) (gv gc n : Nat) (v : Value) (z : Int) (hs : t.eval sl = v) (hx : t.eval x = .slice (some ⟨wr.heap.size, 0, none⟩) 1 1) (hO : Own w s gv gc n v wr) (hl : n + 1 ≤ 140737488355328)
    (h : ∀ v' w', Own w s gv gc (n + 1) v' w' → wpList Try.prog ops Q rest (t.put o.dst v') w') :
    wpList Try.prog ops Q (o :: rest) t (wr.alloc (.cells #[.int .u8 z] 5)) := by
  obtain ⟨sit, g, cap, rfl, hnc, hg0, hg1, hg2, hroom⟩ := hO
  obtain ⟨i0, hi, hz0, hz1, hz2⟩ := info_parts infoU8
  have sit1 := sit.alloc (.cells #[.int .u8 z] 5)
  have room1 := hroom.alloc (.cells #[.int .u8 z] 5)
  have hnew : (wr.alloc (.cells #[.int .u8 z] 5)).cell? ⟨wr.heap.size, 0, none⟩ = some (.int .u8 z) := by simp [go_sem]
  have hsz1 : wr.heap.size ≤ (wr.alloc (.cells #[.int .u8 z] 5)).heap.size := by simp
  generalize wr.alloc (.cells #[.int .u8 z] 5) = wa at *
  let olds : List Value := (List.range n).map fun i => (wa.cell? ⟨g, i, none⟩).getD undef
  have holds : ∀ j u, olds[j]? = some u → wa.cell? ⟨g, 0 + j, none⟩ = some u := by
    intro j u hj
    have hjn : j < n := by
      rcases Nat.lt_or_ge j n with h | h
      · exact h
      · rw [List.getElem?_eq_none (by simp [olds]; exact h)] at hj; cases hj
    obtain ⟨hy, _⟩ := room1 j (by omega)
    obtain ⟨y, hy⟩ := Option.isSome_iff_exists.1 hy
    simp [olds, hjn, hy] at hj
    rw [Nat.zero_add, hy, hj]
  refine wpList_append_arg (P := Try.prog) wa hgd sl x 22 ho 5 i0 (.int .u8 0) 1 1 Try.underlying22 hi hz0 hz1 hz2 rfl (by decide) g 0 n cap olds hs (by simp [olds]) holds
    ⟨wr.heap.size, 0, none⟩ 1 1 [.int .u8 z] hx rfl (fun j u hj => ?_) (fun u hu => by simp at hu; subst hu; rfl) (fun hr j hj => ?_) (by unfold maxLen; omega) (by omega) (fun hr => ?_) (fun hr v' w' ho' hg' => ?_)
  · cases j with
    | zero => simp at hj; subst hj; rw [Addr.add_lit]; exact hnew
    | succ j => simp at hj
  · obtain rfl : j = 0 := by simp at hj; omega
    obtain ⟨hy, hf⟩ := room1 n (by omega)
    simp [hy, hf]
  · rw [setCells_one]
    refine h _ _ ⟨sit1.set _ _ hg0 hg1 hg2, g, cap, rfl, hr, hg0, hg1, hg2, room1.set _ _ _⟩
  · have hb : Below wa.heap.size wa w' := (Below.refl _ _).grown hg' (Nat.le_refl _) (fun k hk => by cases hk)
    have hlen := ho'.1
    obtain ⟨g', cap', hv, hge⟩ : ∃ g' cap', v' = .slice (some ⟨g', 0, none⟩) (n + 1) cap' ∧ wa.heap.size ≤ g' ∧ n + 1 ≤ cap' ∧ Slots w' g' cap' := by
      rcases ho'.2 with ⟨_, h0⟩ | ⟨g', cap', cur, hv, hge, hh, hle, _, hcs, htake⟩
      · omega
      · refine ⟨g', cap', hv, hge, hle, fun i hi => ⟨?_, by simp [World.frozen?, hh]⟩⟩
        rw [Nat.mul_one] at hcs
        simp [World.cell?, hh, hcs, hi]
    obtain ⟨hge, hle, hrm⟩ := hge
    have b1 := World.block_lt_of_cell? wa _ sit1.v
    have b2 := World.block_lt_of_cell? wa _ sit1.c
    have b3 := sit1.bel.size
    simp at b1 b2
    exact h _ _ ⟨sit1.below hb, g', cap', hv, hle, by omega, by omega, by omega, hrm⟩

#print axioms wpList_more
end Go.Proofs.Ytckadnegilmdbaa
