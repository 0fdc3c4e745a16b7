/-
  A row of numbers that fills its block: what it holds, how it is made, written, kept.
-/
import Derived.Test.YtnoadceeenioeaaZb
namespace Go.Proofs.Ytnoadceeenioeaa
open Go.RowKit Go.PlainAid
set_option linter.unusedSimpArgs false
set_option linter.unusedVariables false

theorem infoInt : (Try.prog.info? 3).map (fun i => (i.zero, i.size, i.bytes)) = some (some (.int .i64 0), 1, 8) := by kernel_rfl

/-- The block holds these numbers and nothing else, and may be written. -/
def IntsAt (w : World) (g : Nat) (L : List Int) : Prop := w.heap[g]? = some (.cells (L.map (Value.int .i64)).toArray 3 (0, 0))

theorem IntsAt.lt {w : World} {g : Nat} {L : List Int} (h : IntsAt w g L) : g < w.heap.size := (Array.getElem?_eq_some_iff.1 h).1
theorem IntsAt.cell {w : World} {g : Nat} {L : List Int} (h : IntsAt w g L) {i : Nat} (hi : i < L.length) : w.cell? ⟨g, i, none⟩ = some (.int .i64 (L.getD i 0)) := by
  have h' : w.heap[g]? = _ := h
  simp [World.cell?, World.cells?, h', hi, List.getD]
theorem IntsAt.frozen {w : World} {g : Nat} {L : List Int} (h : IntsAt w g L) (i : Nat) : w.frozen? ⟨g, i, none⟩ = false := by
  have h' : w.heap[g]? = _ := h
  simp [World.frozen?, h']
theorem IntsAt.kept {w w' : World} {g B : Nat} {L : List Int} (h : IntsAt w g L) (hb : Below B w w') (hB : g < B) : IntsAt w' g L := by
  unfold IntsAt; rw [hb.block g hB]; exact h
theorem IntsAt.below {w w' : World} {g : Nat} {L : List Int} (h : IntsAt w g L) (hb : Below w.heap.size w w') : IntsAt w' g L := h.kept hb h.lt
theorem IntsAt.set {w : World} {g : Nat} {L : List Int} (h : IntsAt w g L) (j : Nat) (v : Int) : IntsAt (w.setCell ⟨g, j, none⟩ (.int .i64 v)) g (L.set j v) := by
  have h' : w.heap[g]? = _ := h
  unfold IntsAt
  simp [World.setCell, Array.getElem?_modify, h', List.map_set]
theorem IntsAt.other {w : World} {g : Nat} {L : List Int} (h : IntsAt w g L) (p : Addr) (v : Value) (hne : p.block ≠ g) : IntsAt (w.setCell p v) g L := by
  unfold IntsAt; rw [Below.heap_setCell _ _ _ _ (Ne.symm hne)]; exact h
theorem IntsAt.drew {w : World} {g : Nat} {L : List Int} (h : IntsAt w g L) : IntsAt w.drew g L := h
theorem IntsAt.owns {w : World} {g base : Nat} {L : List Int} (h : IntsAt w g L) (hb : base ≤ g) (hl : L.length ≤ 140737488355328) : w.ownsRow base 3 1 (.slice (some ⟨g, 0, none⟩) L.length L.length) L.length (L.map (Value.int .i64)) := by
  refine ⟨by simp, .inr ⟨g, L.length, (L.map (Value.int .i64)).toArray, rfl, hb, h, Nat.le_refl _, by unfold maxLen; omega, by simp, ?_⟩⟩
  simp [List.take_of_length_le]

theorem intsAt_alloc (w : World) (L : List Int) : IntsAt (w.alloc (.cells (L.map (Value.int .i64)).toArray 3)) w.heap.size L := heap_alloc_new w _

theorem made_zero : ∀ k, madeCells #[.int .i64 0] k = ((List.replicate k (0 : Int)).map (Value.int .i64)).toArray := by
  intro k
  apply Array.ext
  · simp [size_madeCells]
  · intro i h1 h2
    simp [madeCells, Nat.mod_one]

/-- make of so many numbers. -/
theorem run_make_ints (k : Nat) (hk : k ≤ 1048577) (u : World) : (Instr.makeSlice 29 (.int .i64 (k : Int)) (.int .i64 (k : Int))).run Try.prog u =
      .ok (.slice (some ⟨u.heap.size, 0, none⟩) k k) (u.alloc (.cells ((List.replicate k (0 : Int)).map (Value.int .i64)).toArray 3)) := by
  obtain ⟨i0, hi, hz0, hz1, hz2⟩ := info_parts infoInt
  have h := run_make (P := Try.prog) u 29 3 i0 (.int .i64 0) Try.underlying29 hi hz0 .i64 .i64 (k : Int) (k : Int) (by omega) (Int.le_refl _) (by rw [hz2]; omega) (by omega)
  rw [Int.toNat_natCast] at h
  rw [← made_zero]
  simpa [hz1, Value.cells] using h

/-- make of so many numbers, the world behind it named. -/
theorem make_ints (k : Nat) (hk : k ≤ 1048577) (u : World) : ∃ w', (Instr.makeSlice 29 (.int .i64 (k : Int)) (.int .i64 (k : Int))).run Try.prog u = .ok (.slice (some ⟨u.heap.size, 0, none⟩) k k) w' ∧
    IntsAt w' u.heap.size (List.replicate k 0) ∧ Below u.heap.size u w' ∧ w'.heap.size = u.heap.size + 1 :=
  ⟨_, run_make_ints k hk u, intsAt_alloc u _, (Below.refl _ _).alloc (Nat.le_refl _) _, by simp [go_sem]⟩

end Go.Proofs.Ytnoadceeenioeaa
