/-
  What outline, glyph, Decode and the law's decode answer for the triangle's bytes.
-/
import Derived.Test.YtllbegmgknlaiaaDeD
namespace Go.Proofs.Ytllbegmgknlaiaa
open Go.RowKit Go.PlainAid
set_option linter.unusedSimpArgs false
set_option linter.unusedVariables false

set_option maxHeartbeats 1000000 in
theorem outline_s (D R U : Nat) (dep : Int) (w : World) (hr : Rdr w R U encS 0) :
    Calls Try.prog 31 #[.pointer (some ⟨D, 0, none⟩), .pointer (some ⟨R, 0, none⟩), .int .i64 dep] w (GotPost (fun i => i = R) w) := by
  have HL := Lib.hid hr.lt
  have HR1 := Lib.hid (hr.alloc (.cells #[.slice none 0 0, .slice none 0 0] 29))
  have HA0 : Hid ((w.alloc (.cells #[.slice none 0 0, .slice none 0 0] 29)).heap[w.heap.size]? = some (.cells #[.slice none 0 0, .slice none 0 0] 29 (0, 0))) := heap_alloc_new w _
  clear hr
  go_enter Try.func31, Try.ntmps31
  go_wp2_with fail
  refine (signed_r R U encS 0 1 2 _ HR1.out e_small (Lib.hid e0) rfl).mono ?_
  rintro e w1 ⟨rfl, h1, g1⟩
  have HX1 := Lib.hid h1
  have HG1 := Lib.hid g1
  clear h1 g1
  rw [show sign16 1 = 1 from rfl]
  go_wp2_with fail
  refine wp_loop_rounds 5 ?_
  rw [rounds_succ]
  go_wp2_with fail
  refine (number_r R U encS 2 0 4 _ HX1.out e_small (Lib.hid e2) (by decide)).mono ?_
  rintro e w2 ⟨rfl, h1, g1⟩
  have HX2 := Lib.hid h1
  have HG2 := Lib.hid (grown_trans HG1.out g1)
  clear h1 g1
  go_wp2_with fail
  rw [rounds_succ]
  go_wp2_with fail
  refine (number_r R U encS 4 0 6 _ HX2.out e_small (Lib.hid e4) (by decide)).mono ?_
  rintro e w3 ⟨rfl, h1, g1⟩
  have HX3 := Lib.hid h1
  have HG3 := Lib.hid (grown_trans HG2.out g1)
  clear h1 g1
  go_wp2_with fail
  rw [rounds_succ]
  go_wp2_with fail
  refine (number_r R U encS 6 0 8 _ HX3.out e_small (Lib.hid e6) (by decide)).mono ?_
  rintro e w4 ⟨rfl, h1, g1⟩
  have HX4 := Lib.hid h1
  have HG4 := Lib.hid (grown_trans HG3.out g1)
  clear h1 g1
  go_wp2_with fail
  rw [rounds_succ]
  go_wp2_with fail
  refine (number_r R U encS 8 0 10 _ HX4.out e_small (Lib.hid e8) (by decide)).mono ?_
  rintro e w5 ⟨rfl, h1, g1⟩
  have HX5 := Lib.hid h1
  have HG5 := Lib.hid (grown_trans HG4.out g1)
  clear h1 g1
  go_wp2_with fail
  rw [rounds_succ]
  have c5 := HX5.out.fault
  have HK5 : Hid (Kb (fun i => i = R) w w5) := (kb_bel ((Below.refl _ _).alloc (Nat.le_refl _) _)).trans (kb_grown HG5.out) (fun _ _ h => h)
  have HA5 := Lib.hid (grown_blk HG5.out (by have := HL.out; omega) HA0.out)
  have HZ5 : Hid (w.heap.size < w5.heap.size) := (Array.getElem?_eq_some_iff.1 HA5.out).1
  go_wp2_with fail
  refine (simple_c R U w5 HX5.out).mono ?_
  rintro e w6 ⟨g, h, c, rfl, hgot, hk6⟩
  have hA6 := hk6.blk (A := w.heap.size) (by have := HL.out; omega) HA5.out
  have a0 := blk_cell hA6 0 (.slice none 0 0) rfl
  have a1 := blk_cell hA6 1 (.slice none 0 0) rfl
  have a2 := blk_free hA6
  have HK6 := Lib.hid (HK5.out.trans hk6 (fun _ _ h => h))
  have HGOT := Lib.hid (hgot.mono (B' := w.heap.size + 1) (by have := HZ5.out; omega))
  clear hk6 hA6 c5 hgot
  go_wp2_with fail
  refine bodyPost_ret (v := .tuple #[.agg #[.slice (some ⟨g, 0, none⟩) 1 1, .slice (some ⟨h, 0, none⟩) 1 c], .int .i64 0]) (by simp [results, Try.results31, go_sem, a0, a1]) rfl ⟨g, h, c, rfl, ?_, ?_⟩
  · exact (HGOT.out.kb (kb_set _ w.heap.size 0 _) (fun i h => by omega)).kb (kb_set _ w.heap.size 1 _) (fun i h => by omega)
  · exact (HK6.out.set (.inr (Nat.le_refl _))).set (.inr (Nat.le_refl _))

set_option maxHeartbeats 1000000 in
theorem glyph_s (w : World) (D V P c : Nat) (k : Int) (hd : Dcd w D V P c encS [0, 30] k) :
    Calls Try.prog 25 #[.pointer (some ⟨D, 0, none⟩), .int .i64 0, .int .i64 1] w (GotPost (fun _ => False) w) := by
  have hd0 := hd.alloc (.cells #[.slice none 0 0, .slice none 0 0] 29)
  have HD0 := Lib.hid hd0
  have c0 := hd0.tab
  have c1 := hd0.pl
  have c2 := hd0.rows 0 0 rfl
  have c3 := hd0.rows 1 30 rfl
  rw [show [(0 : Int), 30].length = 2 from rfl] at c1
  clear hd hd0
  go_enter Try.func25, Try.ntmps25
  go_wp2_with fail
  go_quiet (fail)
  have HBa : Hid (Below w.heap.size w ((w.alloc (.cells #[.slice none 0 0, .slice none 0 0] 29)).drewN nq)) := bel_drewN ((Below.refl _ _).alloc (Nat.le_refl _) _) _
  have HDa : Hid (Dcd ((w.alloc (.cells #[.slice none 0 0, .slice none 0 0] 29)).drewN nq) D V P c encS [0, 30] k) := HD0.out.below (bel_drewN (Below.refl _ _) _)
  have HAa : Hid (((w.alloc (.cells #[.slice none 0 0, .slice none 0 0] 29)).drewN nq).heap[w.heap.size]? = some (.cells #[.slice none 0 0, .slice none 0 0] 29 (0, 0))) := heap_alloc_new w _
  clear c0 c1 c2 c3
  generalize ((w.alloc (.cells #[.slice none 0 0, .slice none 0 0] 29)).drewN nq) = wa at *
  have c0 := HDa.out.tab
  go_wp2_with fail
  have HCUT := Lib.hid (cut_yes V 0 30 encS wa HDa.out.text (by have := e_small; omega) (by rw [e_size]; omega))
  rw [show 0 + 30 = 30 from rfl, e_all] at HCUT
  refine HCUT.out.mono ?_
  rintro e w1 ⟨rfl, rfl⟩
  go_wp2_with fail
  have HLEN := Lib.hid (len_c wa.heap.size encS _ (blk_cell (heap_alloc_new wa (.cells #[.string encS] 53)) 0 _ rfl))
  rw [e_size] at HLEN
  refine HLEN.out.mono ?_
  rintro e w1 ⟨rfl, rfl⟩
  go_wp2_with fail
  have HLa : Hid (w.heap.size < wa.heap.size) := (Array.getElem?_eq_some_iff.1 HAa.out).1
  refine (outline_s D (wa.heap.size + 1) wa.heap.size 1 _ (rdr_new wa encS)).mono ?_
  rintro e w2 ⟨g, h, c, rfl, hgot, hk2⟩
  have HK2 : Hid (Kb (fun i => i = wa.heap.size + 1) wa w2) := ((kb_bel (Below.refl _ _)).alloc _ |>.alloc _).trans hk2 (fun _ _ h => h)
  have hA := HK2.out.blk (A := w.heap.size) (by have := HLa.out; omega) HAa.out
  have a0 := blk_cell hA 0 (.slice none 0 0) rfl
  have a1 := blk_cell hA 1 (.slice none 0 0) rfl
  have a2 := blk_free hA
  have HK3 : Hid (Kb (fun _ => False) w w2) := (kb_bel HBa.out).trans HK2.out (fun i hi h => by have := HLa.out; omega)
  have HGOT := Lib.hid (hgot.mono (B' := w.heap.size + 1) (by have := HLa.out; simp; omega))
  clear hk2 hA hgot
  go_wp2_with fail
  refine bodyPost_ret (v := .tuple #[.agg #[.slice (some ⟨g, 0, none⟩) 1 1, .slice (some ⟨h, 0, none⟩) 1 c], .int .i64 0]) (by simp [results, Try.results25, go_sem, a0, a1]) rfl ⟨g, h, c, rfl, ?_, ?_⟩
  · exact (HGOT.out.kb (kb_set _ w.heap.size 0 _) (fun i h => by omega)).kb (kb_set _ w.heap.size 1 _) (fun i h => by omega)
  · exact (HK3.out.set (.inr (Nat.le_refl _))).set (.inr (Nat.le_refl _))

set_option maxHeartbeats 1000000 in
theorem decode_s (w : World) (V P c : Nat) (ht : w.cell? ⟨V, 0, none⟩ = some (.string encS)) (hP : P < w.heap.size) (hrow : IntsIn w P [0, 30]) :
    Calls Try.prog 14 #[.pointer (some ⟨V, 0, none⟩), .slice (some ⟨P, 0, none⟩) 2 c, .int .i64 0] w (GotPost (fun _ => False) w) := by
  have HV := Lib.hid ht
  have HP := Lib.hid hP
  have HROW := Lib.hid hrow
  clear ht hP hrow
  go_enter Try.func14, Try.ntmps14
  go_wp2_with fail
  have hb : Below w.heap.size w ((w.alloc (.cells #[.slice none 0 0, .slice none 0 0] 29)).alloc (.cells #[.pointer (some ⟨V, 0, none⟩), .slice (some ⟨P, 0, none⟩) 2 c, .int .i64 0] 55)) := bel_alloc ((Below.refl _ _).alloc (Nat.le_refl _) _) _
  have hz : (w.alloc (.cells #[.slice none 0 0, .slice none 0 0] 29)).heap.size = w.heap.size + 1 := by simp
  have hx := heap_alloc_new (w.alloc (.cells #[.slice none 0 0, .slice none 0 0] 29)) (.cells #[.pointer (some ⟨V, 0, none⟩), .slice (some ⟨P, 0, none⟩) 2 c, .int .i64 0] 55)
  rw [hz] at hx
  have hy := (Below.heap_alloc (w.alloc (.cells #[.slice none 0 0, .slice none 0 0] 29)) (.cells #[.pointer (some ⟨V, 0, none⟩), .slice (some ⟨P, 0, none⟩) 2 c, .int .i64 0] 55) w.heap.size (by rw [hz]; omega)).trans (heap_alloc_new w (.cells #[.slice none 0 0, .slice none 0 0] 29))
  have HD : Hid (Dcd ((w.alloc (.cells #[.slice none 0 0, .slice none 0 0] 29)).alloc (.cells #[.pointer (some ⟨V, 0, none⟩), .slice (some ⟨P, 0, none⟩) 2 c, .int .i64 0] 55)) (w.heap.size + 1) V P c encS [0, 30] 0) :=
    ⟨blk_cell hx 0 _ rfl, blk_cell hx 1 _ rfl, blk_cell hx 2 _ rfl, blk_free hx 2, keepC hb HV.out, fun i x h => keepC hb (HROW.out i x h), by have := World.block_lt_of_cell? w _ HV.out; simp at this; omega, by have := HP.out; omega⟩
  have HY := Lib.hid hy
  have HB := Lib.hid hb
  have HLa : Hid (w.heap.size < ((w.alloc (.cells #[.slice none 0 0, .slice none 0 0] 29)).alloc (.cells #[.pointer (some ⟨V, 0, none⟩), .slice (some ⟨P, 0, none⟩) 2 c, .int .i64 0] 55)).heap.size) := (Array.getElem?_eq_some_iff.1 hy).1
  clear hb hz hx hy
  generalize ((w.alloc (.cells #[.slice none 0 0, .slice none 0 0] 29)).alloc (.cells #[.pointer (some ⟨V, 0, none⟩), .slice (some ⟨P, 0, none⟩) 2 c, .int .i64 0] 55)) = wa at *
  refine (glyph_s wa (w.heap.size + 1) V P c 0 HD.out).mono ?_
  rintro e w2 ⟨g, h, c2, rfl, hgot, hk2⟩
  have hA := hk2.blk (A := w.heap.size) (by simp) HY.out
  have a0 := blk_cell hA 0 (.slice none 0 0) rfl
  have a1 := blk_cell hA 1 (.slice none 0 0) rfl
  have a2 := blk_free hA
  have HK3 : Hid (Kb (fun _ => False) w w2) := (kb_bel HB.out).trans hk2 (fun i hi h => h)
  have HGOT := Lib.hid (hgot.mono (B' := w.heap.size + 1) (by have := HLa.out; omega))
  clear hk2 hA hgot
  go_wp2_with fail
  refine bodyPost_ret (v := .tuple #[.agg #[.slice (some ⟨g, 0, none⟩) 1 1, .slice (some ⟨h, 0, none⟩) 1 c2], .int .i64 0]) (by simp [results, Try.results14, go_sem, a0, a1]) rfl ⟨g, h, c2, rfl, ?_, ?_⟩
  · exact (HGOT.out.kb (kb_set _ w.heap.size 0 _) (fun i h => by omega)).kb (kb_set _ w.heap.size 1 _) (fun i h => by omega)
  · exact (HK3.out.set (.inr (Nat.le_refl _))).set (.inr (Nat.le_refl _))

set_option maxHeartbeats 1000000 in
theorem lawDecode_s (w : World) (B gb cb bp : Nat) (hb : OwnB B w gb cb encS) (hp : IntsAt w bp [0, 30]) :
    Calls Try.prog 8 #[.slice (some ⟨gb, 0, none⟩) 30 cb, .slice (some ⟨bp, 0, none⟩) 2 2, .int .i64 0] w (GotPost (fun _ => False) w) := by
  have HPP := Lib.hid hp
  have HB0 : Hid (Below w.heap.size w (w.alloc (.cells #[.slice none 0 0, .slice none 0 0] 29))) := (Below.refl _ _).alloc (Nat.le_refl _) _
  have HA0 : Hid ((w.alloc (.cells #[.slice none 0 0, .slice none 0 0] 29)).heap[w.heap.size]? = some (.cells #[.slice none 0 0, .slice none 0 0] 29 (0, 0))) := heap_alloc_new w _
  have HI0 : Hid (IsB (w.alloc (.cells #[.slice none 0 0, .slice none 0 0] 29)) (some ⟨gb, 0, none⟩) 30 cb encS) := by have := (isB_of_owns hb).below HB0.out; rwa [e_size] at this
  clear hb hp
  have HE0 := Lib.hid (own_none (w.alloc (.cells #[.slice none 0 0, .slice none 0 0] 29)) 5 1 (w.heap.size + 1) (by simp))
  have HC0 : Hid (IsB ((w.alloc (.cells #[.slice none 0 0, .slice none 0 0] 29)).alloc (.cells #[] 5)) (some ⟨gb, 0, none⟩) 30 cb encS) := HI0.out.below ((Below.refl _ _).alloc (Nat.le_refl _) _)
  go_enter Try.func8, Try.ntmps8
  go_wp2_with (at_builtin; refine wpList_app elB rfl _ _ rfl ((w.alloc (.cells #[.slice none 0 0, .slice none 0 0] 29)).alloc (.cells #[] 5)) (w.heap.size + 1) (w.heap.size + 1) 0 0 [] (some ⟨gb, 0, none⟩) 30 cb (cellsOfStr encS) rfl rfl HE0.out (by rw [cellsOfStr_length, e_size]) (isB_lies HC0.out) bytes_one (by decide) (by decide) (by simp) ?_; intro g1 c1 w1 o1 k1 hat1)
  have HB1 : Hid (Below w.heap.size w w1) := belGrown (bel_alloc HB0.out _) k1 (by omega) (by simp; omega)
  have HI1 : Hid (IsB w1 (some ⟨g1, 0, none⟩) 30 c1 encS) := by
    have h2 := o1
    rw [Nat.zero_add, List.nil_append, ← e_size] at h2
    have := isB_of_owns h2
    rwa [e_size] at this
  have HA1 : Hid (w1.heap[w.heap.size]? = some (.cells #[.slice none 0 0, .slice none 0 0] 29 (0, 0))) := grown_blk k1 (by omega) ((Below.heap_alloc _ _ _ (by simp)).trans HA0.out)
  clear o1 k1 hat1
  refine (new_c _ 30 c1 encS w1 HI1.out).mono ?_
  rintro e w2 ⟨rfl, rfl⟩
  have HB2 := Lib.hid (bel_alloc HB1.out (.cells #[.string encS] 53))
  have HE2 := Lib.hid (own_none (w1.alloc (.cells #[.string encS] 53)) 3 1 (w1.heap.size + 1) (by simp))
  have HB3 := Lib.hid (bel_alloc HB2.out (.cells #[] 3))
  have HZ3 : Hid (w.heap.size < w1.heap.size) := (Array.getElem?_eq_some_iff.1 HA1.out).1
  have HV3 : Hid (((w1.alloc (.cells #[.string encS] 53)).alloc (.cells #[] 3)).cell? ⟨w1.heap.size, 0, none⟩ = some (.string encS)) := keepC ((Below.refl _ _).alloc (Nat.le_refl _) _) (blk_cell (heap_alloc_new w1 (.cells #[.string encS] 53)) 0 _ rfl)
  have HA3 : Hid (((w1.alloc (.cells #[.string encS] 53)).alloc (.cells #[] 3)).heap[w.heap.size]? = some (.cells #[.slice none 0 0, .slice none 0 0] 29 (0, 0))) :=
    (Below.heap_alloc _ _ _ (by have := HZ3.out; simp; omega)).trans ((Below.heap_alloc _ _ _ HZ3.out).trans HA1.out)
  have HP3 : Hid (Lies ((w1.alloc (.cells #[.string encS] 53)).alloc (.cells #[] 3)) bp 0 [.int .i64 0, .int .i64 30]) := by
    intro j u hj
    rw [Nat.zero_add]
    exact keepC HB3.out (blk_cell HPP.out j u (by simpa using hj))
  go_wp2_with (at_builtin; refine wpList_app elI rfl _ _ rfl ((w1.alloc (.cells #[.string encS] 53)).alloc (.cells #[] 3)) (w1.heap.size + 1) (w1.heap.size + 1) 0 0 [] (some ⟨bp, 0, none⟩) 2 2 [.int .i64 0, .int .i64 30] rfl rfl HE2.out rfl (.inr ⟨bp, 0, rfl, HP3.out⟩) (by simp [Value.oneCell']) (by decide) (by decide) (by simp) ?_; intro g4 c4 w4 o4 k4 hat4)
  have HO4 : Hid (OwnI (w1.heap.size + 1) w4 g4 c4 [0, 30]) := o4
  have HV4 := Lib.hid (grown_cell k4 (by omega) HV3.out)
  have HA4 := Lib.hid (grown_blk k4 (by have := HZ3.out; omega) HA3.out)
  have HB4 : Hid (Below w.heap.size w w4) := belGrown HB3.out k4 (by have := HZ3.out; omega) (by have := HZ3.out; simp; omega)
  clear o4 k4 hat4
  have HLa : Hid (w.heap.size < w4.heap.size) := (Array.getElem?_eq_some_iff.1 HA4.out).1
  refine (decode_s w4 w1.heap.size g4 c4 HV4.out (ownsRow_cap HO4.out).2.2 (own_ints HO4.out)).mono ?_
  rintro e w5 ⟨g, h, c2, rfl, hgot, hk2⟩
  have hA := hk2.blk (A := w.heap.size) (by simp) HA4.out
  have a0 := blk_cell hA 0 (.slice none 0 0) rfl
  have a1 := blk_cell hA 1 (.slice none 0 0) rfl
  have a2 := blk_free hA
  have HK3 : Hid (Kb (fun _ => False) w w5) := (kb_bel HB4.out).trans hk2 (fun i hi h => h)
  have HGOT := Lib.hid (hgot.mono (B' := w.heap.size + 1) (by have := HLa.out; omega))
  clear hk2 hA hgot
  go_wp2_with fail
  refine bodyPost_ret (v := .tuple #[.agg #[.slice (some ⟨g, 0, none⟩) 1 1, .slice (some ⟨h, 0, none⟩) 1 c2], .int .i64 0]) (by simp [results, Try.results8, go_sem, a0, a1]) rfl ⟨g, h, c2, rfl, ?_, ?_⟩
  · exact (HGOT.out.kb (kb_set _ w.heap.size 0 _) (fun i h => by omega)).kb (kb_set _ w.heap.size 1 _) (fun i h => by omega)
  · exact (HK3.out.set (.inr (Nat.le_refl _))).set (.inr (Nat.le_refl _))

end Go.Proofs.Ytllbegmgknlaiaa
