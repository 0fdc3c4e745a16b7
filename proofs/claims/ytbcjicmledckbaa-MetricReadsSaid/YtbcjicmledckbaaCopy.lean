/-
  copy of bytes into a row that fills its block; the tables that Pieces writes, as lists.
-/
import Derived.Test.YtbcjicmledckbaaSrt
import Derived.Laws.IdiomCopy
namespace Go.Proofs.Ytbcjicmledckbaa
open Go.RowKit Go.PlainAid
set_option linter.unusedSimpArgs false
set_option linter.unusedVariables false

/-- These bytes laid over the row from a place on. -/
def layL (L : List Int) (o : Nat) : List Int → List Int
  | [] => L
  | v :: r => layL (L.set o v) (o + 1) r
theorem layL_length (o : Nat) : ∀ (vs : List Int) (o : Nat) (L : List Int), (layL L o vs).length = L.length
  | [], o, L => rfl
  | v :: r, o, L => by rw [layL, layL_length o r, List.length_set]
theorem BytL.lay {g : Nat} : ∀ (vs : List Int) (o : Nat) (L : List Int) (w : World), BytL w g L → BytL (w.setCells g o (vs.map (Value.int .u8))) g (layL L o vs)
  | [], o, L, w, h => h
  | v :: r, o, L, w, h => by
    simp only [layL, List.map_cons, World.setCells]
    exact BytL.lay r (o + 1) _ _ (h.set o v)
theorem setCells_but (g : Nat) : ∀ (vs : List Value) (o : Nat) (w : World), (∀ k, k ≠ g → (w.setCells g o vs).heap[k]? = w.heap[k]?) ∧ (w.setCells g o vs).heap.size = w.heap.size ∧ (w.setCells g o vs).os = w.os ∧ (w.setCells g o vs).tape = w.tape ∧ (w.setCells g o vs).output = w.output
  | [], o, w => ⟨fun _ _ => rfl, rfl, rfl, rfl, rfl⟩
  | v :: r, o, w => by
    simp only [World.setCells]
    obtain ⟨h1, h2, h3, h4, h5⟩ := setCells_but g r (o + 1) (w.setCell ⟨g, o, none⟩ v)
    refine ⟨fun k hk => by rw [h1 k hk, Below.heap_setCell _ _ _ _ hk], by rw [h2]; simp [go_sem], ?_, ?_, ?_⟩
    · rw [h3]; rfl
    · rw [h4]; rfl
    · rw [h5]; rfl

/-- copy of a row of bytes into a row that fills its block. -/
theorem copy_into (w : World) (ty : TypeId) (g o dn dc : Nat) (L : List Int) (u : ByteArray) (b2 off2 cap m : Nat) (hm : m = u.size) (hL : BytL w g L) (hfit : o + u.size ≤ L.length) (hdn : u.size ≤ dn) (hu : 0 < u.size)
    (hB : IsB w (some ⟨b2, off2, none⟩) u.size cap u) :
    ∃ w', (Builtin.copy_ #[23, 23] ty #[.slice (some ⟨g, o, none⟩) dn dc, .slice (some ⟨b2, off2, none⟩) m cap]).run Try.prog w = .ok (goInt m) w' ∧ BytL w' g (layL L o (bytesL u)) ∧ w.grownBy w' (some g) ∧ w'.heap.size = w.heap.size := by
  subst hm
  obtain ⟨i0, hi, hz0, hz1, hz2⟩ := info_parts infoU8
  have hl := run_loadCells_list (P := Try.prog) w ⟨b2, off2, none⟩ (cellsOfStr u) (isB_cells hB)
  have hst := run_storeCells_cells (P := Try.prog) g o (cellsOfStr u) 0 w (by intro j hj; rw [cellsOfStr_length] at hj; rw [Nat.add_zero, hL.cell (by omega)]; rfl) (by intro j hj; exact hL.frozen _) (by intro v hv; simp [cellsOfStr] at hv; obtain ⟨_, _, rfl⟩ := hv; rfl)
  rw [cellsOfStr_length] at hl
  have hmin : u.size.min dn = u.size := Nat.min_eq_left hdn
  obtain ⟨h1, h2, h3, h4, h5⟩ := setCells_but g (cellsOfStr u) o w
  refine ⟨w.setCells g o (cellsOfStr u), ?_, ?_, ⟨h3, h4, h5, Nat.le_of_eq h2.symm, fun k _ hk => h1 k (by intro e; subst e; exact hk rfl)⟩, h2⟩
  · simp [Builtin.copy_, run_underlying Try.underlying23, Builtin.lenOf, Builtin.firstCells, sizeOf, typeInfo, hi, hz1, hl, hst, hmin]
  · have := BytL.lay (bytesL u) o L w hL
    rwa [bytesL_cells] at this

theorem bytesL_zeros : ∀ n, bytesL (zerosB n) = List.replicate n 0 := by
  intro n
  induction n with
  | zero => rfl
  | succ n ih => rw [zerosB, bytesL_join, ih, List.replicate_succ']; rfl
theorem head_list (units : Int) : ((layL (layL (List.replicate 54 0) 12 (bytesL ⟨#[95, 15, 60, 245]⟩)) 18 (bytesL (bigB units 2))).set 51 1) = bytesL (headB units) := by
  have e : bytesL (⟨#[95, 15, 60, 245]⟩ : ByteArray) = [95, 15, 60, 245] := by decide +kernel
  have e2 : bytesL (⟨#[0, 1]⟩ : ByteArray) = [0, 1] := by decide +kernel
  rw [headB]
  simp only [bytesL_join, bytesL_zeros, bytesL_big, e, e2, lowL]
  rfl
theorem hhea_list (a d g n : Int) : layL (layL (List.replicate 36 0) 4 (bytesL (twoB [a, d, g]))) 34 (bytesL (bigB n 2)) = bytesL (hheaB a d g n) := by
  rw [hheaB]
  simp only [twoB, bytesL_join, bytesL_zeros, bytesL_big, lowL]
  rfl

end Go.Proofs.Ytbcjicmledckbaa
