/-
  What the small functions of package sfnt answer that write a file, as contracts over the translated program: put, filledUp; scaler, tagsRise and fileBytes of the chapter's example, one table. Nothing is changed but the row that is written.
-/
import Derived.Test.YteealhfphhfeaaaSfFont
namespace Go.Proofs.Yteealhfphhfeaaa
open Go.RowKit Go.PlainAid
set_option linter.unusedSimpArgs false
set_option linter.unusedVariables false

/-- The block's first cells are these bytes, and may be written. -/
def IsRow (w : World) (g : Nat) (L : List Int) : Prop := ∀ i, i < L.length → w.cell? ⟨g, i, none⟩ = some (.int .u8 (L.getD i 0)) ∧ w.frozen? ⟨g, i, none⟩ = false

theorem IsRow.below {w w' : World} {g : Nat} {L : List Int} (h : IsRow w g L) (hb : Below w.heap.size w w') : IsRow w' g L := by
  intro i hi
  obtain ⟨h1, h2⟩ := h i hi
  have hlt := World.block_lt_of_cell? w _ h1
  exact ⟨keepC hb h1, by rw [hb.frozen (p := ⟨g, i, none⟩) hlt]; exact h2⟩
theorem IsRow.set {w : World} {g : Nat} {L : List Int} (h : IsRow w g L) (j : Nat) (v : Int) : IsRow (w.setCell ⟨g, j, none⟩ (.int .u8 v)) g (L.set j v) := by
  intro i hi
  rw [List.length_set] at hi
  obtain ⟨h1, h2⟩ := h i hi
  refine ⟨?_, by simpa using h2⟩
  by_cases e : i = j
  · subst e
    rw [World.cell?_setCell_same w _ _ h1]
    simp [List.getD, hi]
  · rw [World.cell?_setCell_other w _ _ _ (by intro q; cases q; exact e rfl), h1]
    simp [List.getD, List.getElem?_set, Ne.symm e]

/-- A row of a call's own that is written: what was there is kept. -/
structure FileAt (w0 : World) (g : Nat) (L : List Int) (w : World) : Prop where
  bel : Below w0.heap.size w0 w
  new : w0.heap.size ≤ g
  row : IsRow w g L
theorem FileAt.set {w0 w : World} {g : Nat} {L : List Int} (h : FileAt w0 g L w) (j : Nat) (v : Int) : FileAt w0 g (L.set j v) (w.setCell ⟨g, j, none⟩ (.int .u8 v)) :=
  ⟨h.bel.setCell (p := ⟨g, j, none⟩) h.new _, h.new, h.row.set j v⟩
theorem FileAt.below {w0 w w' : World} {g : Nat} {L : List Int} (h : FileAt w0 g L w) (hb : Below w.heap.size w w') : FileAt w0 g L w' :=
  ⟨h.bel.trans (hb.mono h.bel.size), h.new, h.row.below hb⟩
theorem FileAt.drew {w0 w : World} {g : Nat} {L : List Int} (h : FileAt w0 g L w) : FileAt w0 g L w.drew := ⟨h.bel.drew, h.new, h.row⟩

/-- These bytes laid over the row from a place on. -/
def layL (L : List Int) (o : Nat) : List Int → List Int
  | [] => L
  | v :: r => layL (L.set o v) (o + 1) r
theorem FileAt.lay {w0 : World} {g : Nat} : ∀ (vs : List Int) (o : Nat) (L : List Int) (w : World), FileAt w0 g L w → FileAt w0 g (layL L o vs) (w.setCells g o (vs.map (Value.int .u8)))
  | [], o, L, w, h => h
  | v :: r, o, L, w, h => by
    simp only [layL, List.map_cons, World.setCells]
    exact FileAt.lay r (o + 1) _ _ (h.set o v)

/-- The byte at place i of a number that is written in k bytes. -/
def byteAt (n : Int) (k i : Nat) : Int := n / 2 ^ min (8 * (k - 1 - i)) 64 % 256
/-- The row with the first bytes of a number written. -/
def putL (L : List Int) (off : Nat) (n : Int) (k : Nat) : Nat → List Int
  | 0 => L
  | i + 1 => (putL L off n k i).set (off + i) (byteAt n k i)
theorem putL_length (L : List Int) (off : Nat) (n : Int) (k : Nat) : ∀ i, (putL L off n k i).length = L.length
  | 0 => rfl
  | i + 1 => by rw [putL, List.length_set, putL_length L off n k i]

set_option maxHeartbeats 400000 in
theorem put_c (w0 : World) (g off k cap : Nat) (n : Int) (L : List Int) (w : World) (hf : FileAt w0 g L w) (hk : k ≤ 4) (hL : off + k ≤ L.length) (hn0 : 0 ≤ n) (hn1 : n ≤ 4294967295) :
    Calls Try.prog 15 #[.slice (some ⟨g, off, none⟩) k cap, .int .i64 n] w fun e w' => e = .returned (.tuple #[]) ∧ FileAt w0 g (putL L off n k k) w' := by
  have HF := Lib.hid hf
  have HK := Lib.hid hk
  have HL := Lib.hid hL
  have HN := Lib.hid (And.intro hn0 hn1)
  clear hf hk hL hn0 hn1
  go_enter Try.func15, Try.ntmps15
  go_wp2_with fail
  go_loopw [7] (fun i wr => ∃ j : Nat, j ≤ k ∧ i = .int .i64 j ∧ Hid (FileAt w0 g (putL L off n k j) wr)) (fun i _ => k - (intOf i).toNat)
  case atStart => exact ⟨0, Nat.zero_le _, rfl, HF⟩
  case round =>
    obtain ⟨j, hj, rfl, HJ⟩ := hrel
    by_cases hlt : j < k
    · have hlt' : (j : Int) < (k : Int) := by omega
      have hj0 : (0 : Int) ≤ (j : Int) := by omega
      obtain ⟨hcj, hfj⟩ := HJ.out.row (off + j) (by rw [putL_length]; have := HL.out; omega)
      have hw1 : wrap64 ((k : Int) - 1) = (k : Int) - 1 := by have := HK.out; unfold wrap64; omega
      have hw2 : wrap64 ((k : Int) - 1 - (j : Int)) = (k : Int) - 1 - (j : Int) := by have := HK.out; unfold wrap64; omega
      have hw3 : wrap64 (8 * ((k : Int) - 1 - (j : Int))) = 8 * ((k : Int) - 1 - (j : Int)) := by have := HK.out; unfold wrap64; omega
      have hs0 : ¬ 8 * ((k : Int) - 1 - (j : Int)) < 0 := by omega
      have HW7 : Hid (wrap64 ((j : Int) + 1) = ((j + 1 : Nat) : Int)) := by have := HK.out; unfold Hid wrap64; omega
      go_wp2_with fail
      go_roundw
      case rel => exact ⟨j + 1, by omega, by rw [HW7.out], HJ.out.set (off + j) (byteAt n k j)⟩
      case measure => rw [HW7.out]; simp only [intOf]; omega
    · have hlt' : ¬ (j : Int) < (k : Int) := by omega
      have e : j = k := by omega
      subst e
      go_wp2_with fail
      go_end0
      exact ⟨rfl, HJ.out⟩

set_option maxHeartbeats 400000 in
theorem filledUp_c (n : Int) (w : World) (h0 : 0 ≤ n) (h1 : n ≤ 140737488355328) :
    Calls Try.prog 16 #[.int .i64 n] w fun e w' => e = .returned (.int .i64 ((n + 3) / 4 * 4)) ∧ w = w' := by
  have hw1 : wrap64 (n + 4) = n + 4 := by unfold wrap64; omega
  have hw2 : wrap64 (n + 4 - 1) = n + 3 := by unfold wrap64; omega
  have hq : (n + 3).tdiv 4 = (n + 3) / 4 := Int.tdiv_eq_ediv_of_nonneg (by omega)
  have hw3 : wrap64 ((n + 3) / 4) = (n + 3) / 4 := by unfold wrap64; omega
  have hw4 : wrap64 ((n + 3) / 4 * 4) = (n + 3) / 4 * 4 := by unfold wrap64; omega
  clear h0 h1
  go_enter Try.func16, Try.ntmps16
  go_wp2
  go_ret
  rw [hw4]
  exact ⟨rfl, rfl⟩

set_option maxHeartbeats 400000 in
theorem scaler1_c (w : World) : Calls Try.prog 12 #[.int .i64 1] w fun e w' => e = .returned (.string ⟨#[0, 1, 0, 0]⟩) ∧ w = w' := by
  go_enter Try.func12, Try.ntmps12
  go_wp2
  go_ret
  exact ⟨rfl, rfl⟩

set_option maxHeartbeats 400000 in
theorem tagsRise1_c (gp gb : Nat) (w : World) (h0 : w.cell? ⟨gp, 0, none⟩ = some (.string ⟨#[97, 98, 99, 100]⟩)) (h1 : w.cell? ⟨gp, 1, none⟩ = some (.slice (some ⟨gb, 0, none⟩) 1 1)) :
    Calls Try.prog 13 #[.slice (some ⟨gp, 0, none⟩) 1 1] w fun e w' => e = .returned (.bool true) ∧ Below w.heap.size w w' := by
  go_enter Try.func13, Try.ntmps13
  go_wp2_with fail
  go_loopw [3, 8] (fun a i wr => (a = .string ⟨#[]⟩ ∧ i = .int .i64 0 ∧ wr = w) ∨ (i = .int .i64 1 ∧ Hid (Below w.heap.size w wr))) (fun _ i _ => 1 - (intOf i).toNat)
  case atStart => exact .inl ⟨rfl, rfl, rfl⟩
  case round =>
    rcases hrel with ⟨rfl, rfl, rfl⟩ | ⟨rfl, HB⟩
    · go_wp2_with fail
      go_roundw
      case rel => exact .inr ⟨by go_num, (Below.refl _ _).alloc (Nat.le_refl _) _⟩
      case measure => simp [intOf]
    · go_wp2_with fail
      go_ret
      exact ⟨rfl, HB.out⟩

set_option maxHeartbeats 400000 in
theorem fileBytes1_c (gp gb : Nat) (w : World) (h0 : w.cell? ⟨gp, 0, none⟩ = some (.string ⟨#[97, 98, 99, 100]⟩)) (h1 : w.cell? ⟨gp, 1, none⟩ = some (.slice (some ⟨gb, 0, none⟩) 1 1)) :
    Calls Try.prog 14 #[.slice (some ⟨gp, 0, none⟩) 1 1] w fun e w' => e = .returned (.int .i64 32) ∧ Below w.heap.size w w' := by
  go_enter Try.func14, Try.ntmps14
  go_wp2_with fail
  go_loopw [3, 12] (fun a i wr => (a = .int .i64 28 ∧ i = .int .i64 0 ∧ wr = w) ∨ (a = .int .i64 32 ∧ i = .int .i64 1 ∧ Hid (Below w.heap.size w wr))) (fun _ i _ => 1 - (intOf i).toNat)
  case atStart => exact .inl ⟨rfl, rfl, rfl⟩
  case round =>
    rcases hrel with ⟨rfl, rfl, rfl⟩ | ⟨rfl, rfl, HB⟩
    · go_wp2_with fail
      refine (filledUp_c 1 _ (by decide) (by decide)).mono ?_
      rintro e w1 ⟨rfl, rfl⟩
      go_wp2_with fail
      go_roundw
      case rel => exact .inr ⟨by go_num, by go_num, (Below.refl _ _).alloc (Nat.le_refl _) _⟩
      case measure => simp [intOf]
    · go_wp2_with fail
      go_ret
      exact ⟨rfl, HB.out⟩

end Go.Proofs.Yteealhfphhfeaaa
