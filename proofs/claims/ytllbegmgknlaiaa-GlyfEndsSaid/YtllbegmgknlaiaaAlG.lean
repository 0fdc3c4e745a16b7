/-
  The chapter's example, which every statement of layer 7 asks first: glyfAlive answers true, in every world; nothing that was there is changed.
-/
import Derived.Test.YtllbegmgknlaiaaDeE
namespace Go.Proofs.Ytllbegmgknlaiaa
open Go.RowKit Go.PlainAid
set_option linter.unusedSimpArgs false
set_option linter.unusedVariables false

theorem tri_long : Long [triK] := ⟨by decide, fun c hc => by simp at hc; subst hc; decide⟩
theorem tri_longA : LongA [triK] := ⟨by decide, fun c hc => by simp at hc; subst hc; decide⟩
theorem bytL5 (w : World) : BytL (w.alloc (.cells #[.int .u8 5] 5)) w.heap.size [5] := heap_alloc_new w _

set_option maxRecDepth 20000 in
set_option maxHeartbeats 2000000 in
theorem glyfAlive_c (w : World) : Calls Try.prog 5 #[] w fun e w' => e = .returned (.bool true) ∧ Below w.heap.size w w' := by
  have HO := Lib.hid (isO_lit clK_length w triK 35 36 #[.int .i64 1, .int .i64 2, .int .i64 1, .int .i64 9, .int .i64 (-4), .int .i64 2, .int .i64 0, .int .i64 7, .int .i64 1] rfl)
  have HB : Hid (Below w.heap.size w ((w.alloc (.cells #[.int .i64 1, .int .i64 2, .int .i64 1, .int .i64 9, .int .i64 (-4), .int .i64 2, .int .i64 0, .int .i64 7, .int .i64 1] 35)).alloc (.cells #[.slice (some ⟨w.heap.size, 0, none⟩) 3 3] 36))) := bel_alloc ((Below.refl _ _).alloc (Nat.le_refl _) _) _
  have e3 : triK.length = 3 := rfl
  rw [e3] at HO
  go_enter Try.func5, Try.ntmps5
  go_wp2_with fail
  generalize ((w.alloc (.cells #[.int .i64 1, .int .i64 2, .int .i64 1, .int .i64 9, .int .i64 (-4), .int .i64 2, .int .i64 0, .int .i64 7, .int .i64 1] 35)).alloc (.cells #[.slice (some ⟨w.heap.size, 0, none⟩) 3 3] 36)) = w0 at *
  refine (copy_c (some ⟨w.heap.size + 1, 0, none⟩) 1 [triK] w0 HO.out tri_long).mono ?_
  rintro e w1 ⟨g, c, vs, rfl, how, hrows, hb⟩
  obtain ⟨h, ch, hv, hne, hrow⟩ := hrows.2 0 triK rfl
  have HC1 : Hid (w1.cell? ⟨g, 0, none⟩ = some (.slice (some ⟨h, 0, none⟩) 3 ch)) := by have := own_lies how 0 _ hv; rwa [Nat.zero_add] at this
  have HL1 : Hid (Lies w1 h 0 (triK.flatMap clK)) := own_lies hrow
  have HB1 := Lib.hid (bel_next HB.out hb)
  have HO1 := Lib.hid (HO.out.below hb)
  clear how hrows hv hne hrow hb
  rw [show [triK].length = 1 from rfl]
  go_wp2_with fail
  have hba : Below w1.heap.size w1 (w1.alloc (.cells #[.int .u8 5] 5)) := (Below.refl _ _).alloc (Nat.le_refl _) _
  have HB2 := Lib.hid (bel_next HB1.out hba)
  have HO2 := Lib.hid (HO1.out.below hba)
  have HENC := Lib.hid (encode_c g h c ch w1.heap.size _ (keepC hba HC1.out) (HL1.out.below hba) (bytL5 w1))
  clear hba
  generalize (w1.alloc (.cells #[.int .u8 5] 5)) = w2 at *
  refine HENC.out.mono ?_
  rintro e w3 ⟨gb, cb, rfl, hob, hb3⟩
  have HOB := Lib.hid hob
  have HB3 := Lib.hid (bel_next HB2.out hb3)
  have HO3 := Lib.hid (HO2.out.below hb3)
  clear hob hb3 HENC
  go_wp2_with fail
  have hba : Below w3.heap.size w3 (w3.alloc (.cells #[.int .i64 0, .int .i64 30] 3)) := (Below.refl _ _).alloc (Nat.le_refl _) _
  have HB4 := Lib.hid (bel_next HB3.out hba)
  have HO4 := Lib.hid (HO3.out.below hba)
  have HDEC := Lib.hid (lawDecode_s _ w2.heap.size gb cb w3.heap.size (own_below HOB.out hba) (intsAt_alloc w3 [0, 30]))
  clear hba
  generalize (w3.alloc (.cells #[.int .i64 0, .int .i64 30] 3)) = w4 at *
  refine HDEC.out.mono ?_
  rintro e w5 ⟨go, gc, cc, rfl, hgot, hk⟩
  have hb5 : Below w4.heap.size w4 w5 := hk.below (fun i h => h.elim) (Nat.le_refl _)
  have HB5 := Lib.hid (bel_next HB4.out hb5)
  have HO5 := Lib.hid (HO4.out.below hb5)
  have HGOT := Lib.hid hgot
  clear hgot hk hb5 HDEC
  go_wp2_with fail
  have hba : Below w5.heap.size w5 (w5.alloc (.cells #[.slice (some ⟨go, 0, none⟩) 1 1, .slice (some ⟨gc, 0, none⟩) 1 cc] 29)) := (Below.refl _ _).alloc (Nat.le_refl _) _
  have HB6 := Lib.hid (bel_next HB5.out hba)
  have HO6 := Lib.hid (HO5.out.below hba)
  have HP6 := Lib.hid (HGOT.out.out.isO.below hba)
  have HC6 := Lib.hid (keepC hba HGOT.out.code)
  have HV6 : Hid ((w5.alloc (.cells #[.slice (some ⟨go, 0, none⟩) 1 1, .slice (some ⟨gc, 0, none⟩) 1 cc] 29)).cell? ⟨w5.heap.size, 1, none⟩ = some (.slice (some ⟨gc, 0, none⟩) 1 cc)) := blk_cell (heap_alloc_new w5 _) 1 _ rfl
  clear hba
  generalize (w5.alloc (.cells #[.slice (some ⟨go, 0, none⟩) 1 1, .slice (some ⟨gc, 0, none⟩) 1 cc] 29)) = w6 at *
  refine (sameOutline_c (some ⟨go, 0, none⟩) (some ⟨w.heap.size + 1, 0, none⟩) 1 1 [triK] w6 HP6.out HO6.out tri_longA).mono ?_
  rintro e w7 ⟨rfl, hb7⟩
  have HB7 := Lib.hid (bel_next HB6.out hb7)
  have v7 := keepC hb7 HV6.out
  have c7 := keepC hb7 HC6.out
  have hci : ∀ i, i < 1 → w7.cell? ⟨gc, 0 + i, none⟩ = some (.int .u8 ([5].getD i 0)) := by
    intro i hi
    obtain rfl : i = 0 := by omega
    exact c7
  have hcv := run_convert_bytes_arg w7 23 5 Try.underlying23 Try.underlying5 gc 0 1 cc [5] rfl hci 9 Try.underlying9
  clear hci
  rw [show strOfNums [5] = ⟨#[5]⟩ from by kernel_rfl] at hcv
  clear hb7 c7
  go_wp2_with fail
  go_ret
  exact ⟨rfl, HB7.out⟩

end Go.Proofs.Ytllbegmgknlaiaa
