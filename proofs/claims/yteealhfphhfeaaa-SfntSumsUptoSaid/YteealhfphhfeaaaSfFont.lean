/-
  What Kind and Tables of package sfnt answer of an opened font, as contracts over the translated program. Nothing that was there is changed.
-/
import Derived.Test.YteealhfphhfeaaaSfOpen
namespace Go.Proofs.Yteealhfphhfeaaa
open Go.RowKit Go.PlainAid
set_option linter.unusedSimpArgs false
set_option linter.unusedVariables false

set_option maxHeartbeats 400000 in
theorem kind_c (B gf : Nat) (kd : Int) (l : List Row) (s : ByteArray) (w : World) (hf : IsFont B w gf kd l s) :
    Calls Try.prog 10 #[.pointer (some ⟨gf, 0, none⟩)] w fun e w' => e = .returned (.int .i64 kd) ∧ w = w' := by
  obtain ⟨⟨gl, gv, _, h0, _⟩, _⟩ := hf
  go_enter Try.func10, Try.ntmps10
  go_wp2
  go_ret
  exact ⟨rfl, rfl⟩

/-- copy of whole elements, however many cells an element has. -/
theorem run_copy_wide {P : Program} (w : World) (dT sT ty elem : TypeId) (i : TypeInfo) (b o n dCap : Nat) (a : Addr) (sCap : Nat) (cs : List Value)
    (hu : P.underlying dT = some (.slice elem)) (hi : P.info? elem = some i) (hn : cs.length = n * i.size)
    (hsrc : ∀ j v, cs[j]? = some v → w.cell? (a.add j) = some v) (hc : ∀ j, j < cs.length → (w.cell? ⟨b, o + j, none⟩).isSome = true) (hf : ∀ j, j < cs.length → w.frozen? ⟨b, o + j, none⟩ = false) (h1 : ∀ v ∈ cs, v.oneCell' = true) :
    (Builtin.copy_ #[dT, sT] ty #[.slice (some ⟨b, o, none⟩) n dCap, .slice (some a) n sCap]).run P w = .ok (goInt n) (w.setCells b o cs) := by
  have hl := run_loadCells_list (P := P) w a cs hsrc
  have hst := run_storeCells_cells (P := P) b o cs 0 w (by simpa using hc) (by simpa using hf) h1
  rw [hn] at hl
  simp [Builtin.copy_, run_underlying hu, Builtin.lenOf, Builtin.firstCells, sizeOf, typeInfo, hi, hl, hst]

theorem rowCells_length (l : List Row) : (rowCells l).length = l.length * 3 := by
  induction l with
  | nil => rfl
  | cons r l ih => simp [rowCells, ih]; omega
theorem rowCells_one (l : List Row) : ∀ u ∈ rowCells l, u.oneCell' = true := by
  induction l with
  | nil => intro u hu; cases hu
  | cons r l ih =>
    intro u hu
    simp [rowCells] at hu
    rcases hu with rfl | rfl | rfl | hu
    · rfl
    · rfl
    · rfl
    · exact ih u hu

theorem below_setCells {B : Nat} {w0 : World} (b : Nat) (hb : B ≤ b) : ∀ (vs : List Value) (o : Nat) (w : World), Below B w0 w → Below B w0 (w.setCells b o vs)
  | [], o, w, h => h
  | v :: r, o, w, h => by
    simp only [World.setCells]
    exact below_setCells b hb r (o + 1) _ (h.setCell (p := ⟨b, o, none⟩) hb v)

set_option maxHeartbeats 400000 in
theorem tablesOf_c (B gf : Nat) (kd : Int) (l : List Row) (s : ByteArray) (w : World) (hf : IsFont B w gf kd l s) :
    Calls Try.prog 11 #[.pointer (some ⟨gf, 0, none⟩)] w fun e w' => e = .returned (.slice (some ⟨w.heap.size, 0, none⟩) l.length l.length) ∧ Below w.heap.size w w' := by
  obtain ⟨⟨gl, gv, _, _, h1, _, _, hown⟩, hlen⟩ := hf
  obtain ⟨i0, hi, hz0, hz1, hz2⟩ := info_parts infoTable
  have b1 := World.block_lt_of_cell? w _ h1
  simp at b1
  have hmk := run_make (P := Try.prog) w 36 61 i0 _ Try.underlying36 hi hz0 .i64 .i64 l.length l.length (by omega) (Int.le_refl _) (by rw [hz2]; omega) (by omega)
  rw [Int.toNat_natCast] at hmk
  obtain ⟨cs, hcs⟩ : ∃ cs, cs = madeCells (Value.agg #[.string ⟨#[]⟩, .int .i64 0, .int .i64 0]).cells (l.length * i0.size) := ⟨_, rfl⟩
  rw [← hcs] at hmk
  have hsz : cs.size = l.length * 3 := by rw [hcs, size_madeCells, hz1]
  have hbw : Below w.heap.size w (w.alloc (.cells cs 61)) := (Below.refl _ _).alloc (Nat.le_refl _) _
  have hh := heap_alloc_new w (.cells cs 61)
  have hcp := run_copy_wide (P := Try.prog) (w.alloc (.cells cs 61)) 36 36 3 61 i0 w.heap.size 0 l.length l.length ⟨gl, 0, none⟩ l.length (rowCells l) Try.underlying36 hi (by rw [rowCells_length, hz1])
    (fun j v hj => by
      have hjl : j < l.length * 3 := by rw [← rowCells_length]; exact (List.getElem?_eq_some_iff.1 hj).1
      have hc := hown.cellAt j hjl
      rw [hj] at hc
      rw [Addr.add_lit, Nat.zero_add]
      exact keepC hbw hc)
    (fun j hj => by
      rw [rowCells_length] at hj
      rw [Nat.zero_add, cell_of_row _ w.heap.size j cs _ (0, 0) hh]
      simp [hsz, hj])
    (fun j hj => by simp only [World.frozen?, Nat.zero_add, hh]; simp)
    (rowCells_one l)
  have HBW : Hid (Below w.heap.size w ((w.alloc (.cells cs 61)).setCells w.heap.size 0 (rowCells l))) := below_setCells _ (Nat.le_refl _) _ _ _ hbw
  have h1' : (w.alloc (.cells cs 61)).cell? ⟨gf, 1, none⟩ = some (.slice (some ⟨gl, 0, none⟩) l.length l.length) := keepC hbw h1
  generalize (w.alloc (.cells cs 61)).setCells w.heap.size 0 (rowCells l) = w2 at *
  generalize w.alloc (.cells cs 61) = w1 at *
  clear hown hi hz0 hz1 hz2 hsz hh hbw hcs hlen
  go_enter Try.func11, Try.ntmps11
  go_wp2
  go_ret
  exact ⟨rfl, HBW.out⟩

end Go.Proofs.Yteealhfphhfeaaa
