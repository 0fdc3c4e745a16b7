/-
  What Build of package sfnt answers for the chapter's example, one table: a new file of 32 bytes, written out. Nothing that was there is changed.
-/
import Derived.Test.YteealhfphhfeaaaSfPut
import Derived.Lib.LazyBuf
import Derived.BigQuiet
import Derived.Deep.RegionHeld3
namespace Go.Proofs.Yteealhfphhfeaaa
open Go.RowKit Go.PlainAid
set_option linter.unusedSimpArgs false
set_option linter.unusedVariables false

/-- The piece of the chapter's example in memory. -/
structure Pc (w : World) (gp gb : Nat) : Prop where
  h0 : w.cell? ⟨gp, 0, none⟩ = some (.string ⟨#[97, 98, 99, 100]⟩)
  h1 : w.cell? ⟨gp, 1, none⟩ = some (.slice (some ⟨gb, 0, none⟩) 1 1)
  hb : w.cell? ⟨gb, 0, none⟩ = some (.int .u8 9)
theorem Pc.below {w w' : World} {gp gb : Nat} (h : Pc w gp gb) (hb : Below w.heap.size w w') : Pc w' gp gb := ⟨keepC hb h.h0, keepC hb h.h1, keepC hb h.hb⟩

def zeros32 : List Int := List.replicate 32 0

theorem sizeU8 (w : World) : (Go.sizeOf 5).run Try.prog w = .ok 1 w := by
  obtain ⟨i0, hi, hz0, hz1, hz2⟩ := info_parts infoU8
  simp [sizeOf, typeInfo, hi, hz1]

theorem make32 (w0 w : World) (hb : Below w0.heap.size w0 w) : ∃ w', (Instr.makeSlice 23 (.int .i64 32) (.int .i64 32)).run Try.prog w = .ok (.slice (some ⟨w.heap.size, 0, none⟩) 32 32) w' ∧ FileAt w0 w.heap.size zeros32 w' := by
  obtain ⟨i0, hi, hz0, hz1, hz2⟩ := info_parts infoU8
  have h := run_make (P := Try.prog) w 23 5 i0 (.int .u8 0) Try.underlying23 hi hz0 .i64 .i64 32 32 (by omega) (Int.le_refl _) (by rw [hz2]; omega) (by omega)
  rw [hz1] at h
  refine ⟨_, h, hb.alloc hb.size _, hb.size, fun i hi => ?_⟩
  have hi' : i < 32 := by simpa [zeros32] using hi
  have hh := heap_alloc_new w (.cells (madeCells (Value.int .u8 0).cells (Int.toNat 32 * 1)) 5)
  refine ⟨?_, by simp only [World.frozen?, hh]; simp⟩
  rw [cell_of_row _ w.heap.size i _ _ (0, 0) hh]
  have hm : Int.toNat 32 * 1 = 32 := rfl
  rw [hm]
  have hz : zeros32.getD i 0 = 0 := by
    unfold zeros32
    rw [List.getD_eq_getElem?_getD, List.getElem?_replicate]
    simp [hi']
  rw [hz]
  simp [madeCells, hi', Value.cells, Nat.mod_one]

/-- The file's bytes as they are written. -/
def fileL : List Int := layL (putL (putL (putL (layL (putL (layL zeros32 0 [0, 1, 0, 0]) 4 1 2 2) 12 [97, 98, 99, 100]) 16 150994944 4 4) 20 28 4 4) 24 1 4 4) 28 [9]
def fileB : ByteArray := ⟨#[0, 1, 0, 0, 0, 1, 0, 0, 0, 0, 0, 0, 97, 98, 99, 100, 9, 0, 0, 0, 0, 0, 0, 28, 0, 0, 0, 1, 9, 0, 0, 0]⟩
theorem fileL_length : fileL.length = 32 := by decide +kernel
theorem fileL_bt : ∀ i, i < 32 → fileL.getD i 0 = bt fileB i := by decide +kernel
theorem FileAt.isB {w0 w : World} {g : Nat} (h : FileAt w0 g fileL w) : IsB w (some ⟨g, 0, none⟩) 32 32 fileB := by
  refine ⟨rfl, Nat.le_refl _, .inr ⟨g, 0, rfl, fun i hi => ?_⟩⟩
  rw [Nat.zero_add, (h.row i (by rw [fileL_length]; exact hi)).1, fileL_bt i hi]

def nineB : ByteArray := ⟨#[9]⟩
theorem nine_sum : sumB nineB = 150994944 := by decide +kernel
theorem Pc.isB {w : World} {gp gb : Nat} (h : Pc w gp gb) : IsB w (some ⟨gb, 0, none⟩) 1 1 nineB := by
  refine ⟨rfl, Nat.le_refl _, .inr ⟨gb, 0, rfl, fun i hi => ?_⟩⟩
  obtain rfl : i = 0 := by omega
  exact h.hb

theorem copyStr (w0 w : World) (g o dLen dCap : Nat) (L vs : List Int) (t : ByteArray) (ht : t.data.toList.map (fun x => Value.int .u8 (x.toNat : Int)) = vs.map (Value.int .u8)) (hf : FileAt w0 g L w) (hle : t.size ≤ dLen) (hL : o + t.size ≤ L.length) :
    ∃ w', (Builtin.copy_ #[23, 9] 3 #[.slice (some ⟨g, o, none⟩) dLen dCap, .string t]).run Try.prog w = .ok (goInt t.size) w' ∧ FileAt w0 g (layL L o vs) w' := by
  have h := run_copy_string (P := Try.prog) w 23 9 3 5 g o dLen dCap t Try.underlying23 sizeU8 hle (fun j hj => by rw [(hf.row (o + j) (by omega)).1]; rfl) (fun j hj => (hf.row (o + j) (by omega)).2)
  rw [ht] at h
  exact ⟨_, h, FileAt.lay vs o L w hf⟩

theorem copyNine (w0 w : World) (g o dLen dCap gp gb : Nat) (L : List Int) (hp : Pc w gp gb) (hf : FileAt w0 g L w) (hle : 1 ≤ dLen) (hL : o + 1 ≤ L.length) :
    ∃ w', (Builtin.copy_ #[23, 23] 3 #[.slice (some ⟨g, o, none⟩) dLen dCap, .slice (some ⟨gb, 0, none⟩) 1 1]).run Try.prog w = .ok (goInt 1) w' ∧ FileAt w0 g (layL L o [9]) w' := by
  obtain ⟨i0, hi, hz0, hz1, hz2⟩ := info_parts infoU8
  have h := run_copy_cells (P := Try.prog) w 23 23 3 5 g o dLen dCap ⟨gb, 0, none⟩ 1 1 [.int .u8 9] Try.underlying23 (by rw [hi]; simp [hz1]) (Nat.min_eq_left hle).symm
    (fun j v hj => by
      cases j with
      | zero => simp at hj; subst hj; rw [Addr.add_lit]; exact hp.hb
      | succ j => simp at hj)
    (fun j hj => by rw [(hf.row (o + j) (by simp at hj; omega)).1]; rfl) (fun j hj => (hf.row (o + j) (by simp at hj; omega)).2) (fun v hv => by simp at hv; subst hv; rfl)
  exact ⟨_, h, FileAt.lay [9] o L w hf⟩

set_option maxHeartbeats 1000000 in
theorem build1_c (gp gb : Nat) (w : World) (hp : Pc w gp gb) :
    Calls Try.prog 8 #[.int .i64 1, .slice (some ⟨gp, 0, none⟩) 1 1] w fun e w' => ∃ g, e = .returned (.tuple #[.slice (some ⟨g, 0, none⟩) 32 32, .int .i64 0]) ∧ FileAt w g fileL w' := by
  have HP := Lib.hid hp
  clear hp
  go_enter Try.func8, Try.ntmps8
  go_wp2_with fail
  refine (scaler1_c w).mono ?_
  rintro e w1 ⟨rfl, rfl⟩
  go_wp2_with fail
  refine (tagsRise1_c gp gb w HP.out.h0 HP.out.h1).mono ?_
  rintro e w1 ⟨rfl, hb1⟩
  have HW1 := Lib.hid hb1
  have HP1 := Lib.hid (HP.out.below hb1)
  clear hb1
  go_wp2_with fail
  refine (fileBytes1_c gp gb w1 HP1.out.h0 HP1.out.h1).mono ?_
  rintro e w2 ⟨rfl, hb2⟩
  have HW2 := Lib.hid (HW1.out.trans (hb2.mono HW1.out.size))
  clear hb2 HP1 HW1
  obtain ⟨w3, hmk, hf3⟩ := make32 w w2 HW2.out
  obtain ⟨w4, hcp, hf4⟩ := copyStr w w3 w2.heap.size 0 32 32 zeros32 [0, 1, 0, 0] ⟨#[0, 1, 0, 0]⟩ rfl hf3 (by decide) (by decide)
  have HF4 := Lib.hid hf4
  clear hf3 hf4
  generalize w2.heap.size = gF at *
  go_wp2_with fail
  refine (put_c w gF 4 2 28 1 _ w4 HF4.out (by decide) (by decide) (by decide) (by decide)).mono ?_
  rintro e w5 ⟨rfl, hf5⟩
  obtain ⟨L5, HL5⟩ : ∃ L5, Hid (putL (layL zeros32 0 [0, 1, 0, 0]) 4 1 2 2 = L5) := ⟨_, rfl⟩
  rw [HL5.out] at hf5
  have HF5 := Lib.hid hf5
  clear hf5 HF4 hmk hcp
  go_wp2_with fail
  go_loopw [9, 49] (fun a i wr => (a = .int .i64 28 ∧ i = .int .i64 0 ∧ Hid (FileAt w gF L5 wr)) ∨ (i = .int .i64 1 ∧ Hid (FileAt w gF fileL wr))) (fun _ i _ => 1 - (intOf i).toNat)
  case atStart => exact .inl ⟨rfl, rfl, HF5⟩
  case round =>
    clear HF5
    rcases hrel with ⟨rfl, rfl, HF⟩ | ⟨rfl, HF⟩
    · obtain ⟨w6, hcp, hf6⟩ := copyStr w wr gF 12 16 20 L5 [97, 98, 99, 100] ⟨#[97, 98, 99, 100]⟩ rfl HF.out (by decide) (by rw [← HL5.out]; decide)
      obtain ⟨L6, HL6⟩ : ∃ L6, Hid (layL L5 12 [97, 98, 99, 100] = L6) := ⟨_, rfl⟩
      rw [HL6.out] at hf6
      have HN6 : Hid (L6.length = 32) := by unfold Hid; rw [← HL6.out, ← HL5.out]; decide
      have HF6 := Lib.hid hf6
      have HP5 := HP.out.below HF.out.bel
      obtain ⟨q0, q1, qb⟩ := HP5
      have HP6 := Lib.hid (HP.out.below hf6.bel.drew)
      clear hf6
      go_wp2_with fail
      have q16 : w6.cell? ⟨gp, 1, none⟩ = some (.slice (some ⟨gb, 0, none⟩) 1 1) := HP6.out.h1
      go_region_held3 (fun W => W.cell? ⟨gp, 1, none⟩ = some (.slice (some ⟨gb, 0, none⟩) 1 1)) (first | exact HP6.out.h1 | exact HP7.out.h1)
        (first
          | (go_at_call 6; refine (sum_c (some ⟨gb, 0, none⟩) 1 1 nineB w6.drew HP6.out.isB (by decide)).mono ?_; rintro e w7 ⟨rfl, rfl⟩; rw [nine_sum])
          | (go_at_call 15; refine (put_c w gF 16 4 16 150994944 L6 w6.drew HF6.out.drew (by decide) (by rw [HN6.out]; decide) (by decide) (by decide)).mono ?_; rintro e w7 ⟨rfl, hf7⟩; have HF7 := Lib.hid hf7; have HP7 := Lib.hid (HP.out.below hf7.bel); clear hf7))
      obtain ⟨L7, HL7⟩ : ∃ L7, Hid (putL L6 16 150994944 4 4 = L7) := ⟨_, rfl⟩
      rw [HL7.out] at HF7
      have HN7 : Hid (L7.length = 32) := by unfold Hid; rw [← HL7.out, putL_length, HN6.out]
      clear HF6 HP6 q16 hcp q0 q1 qb
      have q17 := HP7.out.h1
      go_wp2_with fail
      refine (put_c w gF 20 4 12 28 L7 w7 HF7.out (by decide) (by rw [HN7.out]; decide) (by decide) (by decide)).mono ?_
      rintro e w8 ⟨rfl, hf8⟩
      obtain ⟨L8, HL8⟩ : ∃ L8, Hid (putL L7 20 28 4 4 = L8) := ⟨_, rfl⟩
      rw [HL8.out] at hf8
      have HF8 := Lib.hid hf8
      have HN8 : Hid (L8.length = 32) := by unfold Hid; rw [← HL8.out, putL_length, HN7.out]
      have HP8 := Lib.hid (HP.out.below hf8.bel.drew)
      clear hf8 HF7 HP7 q17
      go_wp2_with fail
      have q18 : w8.cell? ⟨gp, 1, none⟩ = some (.slice (some ⟨gb, 0, none⟩) 1 1) := HP8.out.h1
      go_region_held3 (fun W => W.cell? ⟨gp, 1, none⟩ = some (.slice (some ⟨gb, 0, none⟩) 1 1)) (first | exact HP8.out.h1 | exact HP9.out.h1)
        (first
          | (go_at_call 15; refine (put_c w gF 24 4 8 1 L8 w8.drew HF8.out.drew (by decide) (by rw [HN8.out]; decide) (by decide) (by decide)).mono ?_; rintro e w9 ⟨rfl, hf9⟩; have HF9 := Lib.hid hf9; have HP9 := Lib.hid (HP.out.below hf9.bel); clear hf9))
      obtain ⟨L9, HL9⟩ : ∃ L9, Hid (putL L8 24 1 4 4 = L9) := ⟨_, rfl⟩
      rw [HL9.out] at HF9
      have HN9 : Hid (L9.length = 32) := by unfold Hid; rw [← HL9.out, putL_length, HN8.out]
      obtain ⟨w10, hcp, hf10⟩ := copyNine w w9.drew gF 28 4 4 gp gb L9 (HP.out.below HF9.out.bel.drew) HF9.out.drew (by decide) (by rw [HN9.out]; decide)
      have HF10 := Lib.hid hf10
      have q19 : w9.cell? ⟨gp, 1, none⟩ = some (.slice (some ⟨gb, 0, none⟩) 1 1) := HP9.out.h1
      clear hf10 HF8 HP8 q18
      go_wp2_with fail
      go_region
      have q20 : w10.cell? ⟨gp, 1, none⟩ = some (.slice (some ⟨gb, 0, none⟩) 1 1) := (HP.out.below HF10.out.bel).h1
      have HE : Hid (layL L9 28 [9] = fileL) := by unfold Hid; rw [← HL9.out, ← HL8.out, ← HL7.out, ← HL6.out, ← HL5.out]; rfl
      rw [HE.out] at HF10
      clear hcp q19
      go_wp2_with fail
      refine (filledUp_c 1 w10 (by decide) (by decide)).mono ?_
      rintro e w11 ⟨rfl, rfl⟩
      go_wp2_with fail
      go_roundw
      case rel => exact .inr ⟨by go_num, HF10⟩
      case measure => simp [intOf]
    · go_wp2_with fail
      go_ret2
      exact ⟨gF, rfl, HF.out⟩

end Go.Proofs.Yteealhfphhfeaaa
