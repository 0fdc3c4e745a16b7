/-
  What the reader's contours and code answer, for a glyph of one contour of three knots and one byte of code.
-/
import Derived.Test.YtllbegmgknlaiaaEnC
import Derived.Deep.RegionWith
import Derived.Deep.RegionHeld3
namespace Go.Proofs.Ytllbegmgknlaiaa
open Go.RowKit Go.PlainAid
set_option linter.unusedSimpArgs false
set_option linter.unusedVariables false

set_option maxHeartbeats 400000 in
theorem bytes_c (g : Nat) (s : ByteArray) (w : World) (hc : w.cell? ⟨g, 0, none⟩ = some (.string s)) :
    Calls Try.prog 49 #[.pointer (some ⟨g, 0, none⟩)] w fun e w' => e = .returned (.slice (some ⟨w.heap.size, 0, none⟩) s.size (grownCap w s.size 0 5)) ∧ w' = Lib.bytesWorld w 5 s := by
  have hk := Lib.run_convert_string_bytes (P := Try.prog) w 9 23 5 s Try.underlying9 Try.underlying23 Try.underlying5
  generalize hgc : grownCap w s.size 0 5 = c at *
  generalize hgw : Lib.bytesWorld w 5 s = W at *
  clear hgc hgw
  go_enter Try.func49, Try.ntmps49
  go_wp2
  go_ret
  exact ⟨rfl, rfl⟩

set_option maxRecDepth 20000 in
set_option maxHeartbeats 1000000 in
theorem contours_c (R V : Nat) (s : ByteArray) (p q : Int) (w : World) (hr : Rdr w R V s p) (hs : (s.size : Int) ≤ 1000000) (X : Hid (numOr s p 2 = (2, 0))) (hq : q = p + 2) :
    Calls Try.prog 40 #[.pointer (some ⟨R, 0, none⟩), .int .i64 1] w fun e w' => e = .returned (.tuple #[.slice (some ⟨w.heap.size, 0, none⟩) 1 1, .int .i64 3]) ∧ IntsAt w' w.heap.size [3] ∧ Rdr w' R V s q ∧ w.grownBy w' (some R) := by
  have HR := Lib.hid hr
  have HS := Lib.hid hs
  have HQ := Lib.hid hq
  have hmk := mk1 w
  have HR1 := Lib.hid (hr.alloc (.cells #[.int .i64 0] 3))
  clear hr hs hq
  go_enter Try.func40, Try.ntmps40
  go_wp2_with fail
  refine wp_loop_rounds 2 ?_
  rw [rounds_succ]
  go_wp2_with fail
  refine (number_r R V s p 2 q _ HR1.out HS.out X HQ.out).mono ?_
  rintro e w1 ⟨rfl, h1, g1⟩
  have hx : w1.heap[w.heap.size]? = some (.cells #[.int .i64 0] 3 (0, 0)) := grown_blk g1 (by have := HR.out.lt; omega) (heap_alloc_new w _)
  have c0 := blk_cell hx 0 (.int .i64 0) rfl
  have f0 := blk_free hx
  have HX := Lib.hid hx
  have HR2 := Lib.hid h1
  have HG := Lib.hid (grown_trans (grown_alloc w _ _) g1)
  clear h1 g1 hx
  go_wp2_with fail
  rw [rounds_succ]
  go_wp2_with fail
  go_ret2
  refine ⟨rfl, ?_, HR2.out.other _ (by have := HR.out.lt; omega) (by have := HR.out.lt; omega), grown_setA HG.out (Nat.le_refl _)⟩
  have := blk_set HX.out 0 (.int .i64 3)
  exact this

set_option maxRecDepth 20000 in
set_option maxHeartbeats 1000000 in
theorem code_c (R V : Nat) (s : ByteArray) (p : Int) (q k r : Nat) (w : World) (hr : Rdr w R V s p) (hs : (s.size : Int) ≤ 1000000) (X : Hid (numOr s p 2 = ((k : Int), 0))) (hq : (q : Int) = p + 2) (hk : q + k = r) (hr2 : r ≤ s.size) :
    Calls Try.prog 42 #[.pointer (some ⟨R, 0, none⟩)] w fun e w' => ∃ g c, e = .returned (.slice (some ⟨g, 0, none⟩) k c) ∧ IsB w' (some ⟨g, 0, none⟩) k c (s.extract q r) ∧ w.heap.size ≤ g ∧ Rdr w' R V s (r : Int) ∧ w.grownBy w' (some R) := by
  have HR := Lib.hid hr
  have HS := Lib.hid hs
  have HK := Lib.hid (And.intro hk hr2)
  have HQ := Lib.hid hq
  have HWR : Hid (wrap64 ((q : Int) + (k : Int)) = (r : Int)) := by unfold Hid wrap64; omega
  clear hr hs hk hq hr2
  go_enter Try.func42, Try.ntmps42
  go_wp2_with fail
  refine (number_r R V s p k (q : Int) _ HR.out HS.out X HQ.out).mono ?_
  rintro e w1 ⟨rfl, h1, g1⟩
  have HR1 := Lib.hid h1
  have HG1 := Lib.hid g1
  have r0 := h1.view
  have r1 := h1.place
  have hlt1 := h1.lt.1
  clear h1 g1
  go_wp2_with fail
  have HV := Lib.hid HR1.out.text
  have hcut := fun (W : World) (hW : W.cell? ⟨V, 0, none⟩ = some (.string s)) => cut_at V q k (k : Int) rfl s W hW (by have := HS.out; omega) (by have := HK.out; omega)
  rw [HK.out.1] at hcut
  have HCUT := Lib.hid hcut
  clear hcut
  have HLT := Lib.hid HR1.out.lt
  have HB3 : Hid (Below w1.heap.size w1 ((w1.alloc (.cells #[.string (s.extract q r)] 53)).drew)) := ((Below.refl _ _).alloc (Nat.le_refl _) _).drew
  have HR3 := Lib.hid (HR1.out.below HB3.out)
  have HG3 := Lib.hid (grown_trans HG1.out (grown_bel _ HB3.out))
  have HT3 : Hid (((w1.alloc (.cells #[.string (s.extract q r)] 53)).drew).cell? ⟨w1.heap.size, 0, none⟩ = some (.string (s.extract q r))) := blk_cell (w := (w1.alloc (.cells #[.string (s.extract q r)] 53)).drew) (heap_alloc_new w1 (.cells #[.string (s.extract q r)] 53)) 0 _ rfl
  have HZ : Hid ((s.extract q r).size = k) := by have := HK.out; unfold Hid; rw [ByteArray.size_extract]; omega
  go_region_with (go_at_call 29; refine (HCUT.out w1.drew HV.out).mono ?_; rintro e w2 ⟨rfl, rfl⟩)
  all_goals (
    clear r0 r1 hlt1 HCUT
    generalize (w1.alloc (.cells #[.string (s.extract q r)] 53)).drew = w3 at *
    have r1 := HR3.out.place
    have f1 := HR3.out.free
    go_wp2_with fail
    rw [HWR.out]
    refine (bytes_c w1.heap.size (s.extract q r) (w3.setCell ⟨R, 1, none⟩ (.int .i64 (r : Int))) ((keepS (by have := HLT.out; omega)).trans HT3.out)).mono ?_
    rintro e w4 ⟨rfl, rfl⟩
    rw [HZ.out]
    have HRF := Lib.hid ((HR3.out.moved (r : Int)).below (below_bytes _ (s.extract q r) 5))
    have HGF := Lib.hid (grown_trans (grown_trans HG3.out (grown_set w3 R 1 (.int .i64 (r : Int)))) (grown_bel _ (below_bytes _ (s.extract q r) 5)))
    go_wp2_with fail
    go_ret
    refine ⟨_, _, rfl, ?_, ?_, HRF.out, HGF.out⟩
    · have := isB_bytes (w3.setCell ⟨R, 1, none⟩ (.int .i64 (r : Int))) (s.extract q r) 5
      have hsz : (w3.setCell ⟨R, 1, none⟩ (.int .i64 (r : Int))).heap.size = w3.heap.size := by simp
      rw [HZ.out, hsz] at this
      exact this
    · have := HG3.out.size; simp; omega)

end Go.Proofs.Ytllbegmgknlaiaa
