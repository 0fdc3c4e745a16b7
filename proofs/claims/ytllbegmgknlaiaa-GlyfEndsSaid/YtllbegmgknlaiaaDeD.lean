/-
  What simple, outline, glyph and Decode answer for the triangle's bytes.
-/
import Derived.Test.YtllbegmgknlaiaaDeC
namespace Go.Proofs.Ytllbegmgknlaiaa
open Go.RowKit Go.PlainAid
set_option linter.unusedSimpArgs false
set_option linter.unusedVariables false

theorem e_size : encS.size = 30 := by kernel_rfl
theorem e_small : (encS.size : Int) ≤ 1000000 := by rw [e_size]; decide
theorem e0 : numOr encS 0 2 = (1, 0) := by kernel_rfl
theorem e2 : numOr encS 2 2 = (0, 0) := by kernel_rfl
theorem e4 : numOr encS 4 2 = (0, 0) := by kernel_rfl
theorem e6 : numOr encS 6 2 = (0, 0) := by kernel_rfl
theorem e8 : numOr encS 8 2 = (0, 0) := by kernel_rfl
theorem e10 : numOr encS 10 2 = (2, 0) := by kernel_rfl
theorem e12 : numOr encS 12 2 = (1, 0) := by kernel_rfl
theorem e15 : numOr encS 15 1 = (1, 0) := by kernel_rfl
theorem e16 : numOr encS (15 + 1) 1 = (0, 0) := by kernel_rfl
theorem e17 : numOr encS (15 + 2) 1 = (1, 0) := by kernel_rfl
theorem e18 : numOr encS 18 2 = (1, 0) := by kernel_rfl
theorem e20 : numOr encS (18 + 2) 2 = (8, 0) := by kernel_rfl
theorem e22 : numOr encS (18 + 4) 2 = (65527, 0) := by kernel_rfl
theorem e24 : numOr encS 24 2 = (2, 0) := by kernel_rfl
theorem e26 : numOr encS (24 + 2) 2 = (65530, 0) := by kernel_rfl
theorem e28 : numOr encS (24 + 4) 2 = (11, 0) := by kernel_rfl
theorem e_code : encS.extract 14 15 = ⟨#[5]⟩ := by kernel_rfl
theorem e_all : encS.extract 0 30 = encS := by kernel_rfl

/-- The glyph that was decoded: its outline at g, its code at h. -/
structure Got (B : Nat) (w : World) (g h : Nat) : Prop where
  out : Tro w g
  code : w.cell? ⟨h, 0, none⟩ = some (.int .u8 5)
  hg : B ≤ g
  hh : B ≤ h
theorem Got.kb {S : Nat → Prop} {B : Nat} {w w' : World} {g h : Nat} (x : Got B w g h) (k : Kb S w w') (hS : ∀ i, S i → i < B) : Got B w' g h where
  out := x.out.kb k (fun s => by have := hS _ s; have := x.hg; omega) (fun s => by have := hS _ s; have := x.hg; omega)
  code := (World.cell?_of_block (w := w) (k.block h (World.block_lt_of_cell? w _ x.code) (fun s => by have := hS _ s; have := x.hh; omega))).trans x.code
  hg := x.hg
  hh := x.hh
theorem Got.mono {B B' : Nat} {w : World} {g h : Nat} (x : Got B w g h) (hB : B' ≤ B) : Got B' w g h := ⟨x.out, x.code, Nat.le_trans hB x.hg, Nat.le_trans hB x.hh⟩
theorem kb_set (w : World) (A o : Nat) (u : Value) : Kb (fun i => i = A) w (w.setCell ⟨A, o, none⟩ u) := kb_grown (grown_set w A o u)
/-- What is answered: the glyph, in memory from B on. -/
def GotPost (S : Nat → Prop) (w : World) (e : Ending) (w' : World) : Prop := ∃ g h c, e = .returned (.tuple #[.agg #[.slice (some ⟨g, 0, none⟩) 1 1, .slice (some ⟨h, 0, none⟩) 1 c], .int .i64 0]) ∧ Got (w.heap.size + 1) w' g h ∧ Kb S w w'

set_option maxRecDepth 20000 in
set_option maxHeartbeats 2000000 in
theorem simple_c (R V : Nat) (w : World) (hr : Rdr w R V encS 10) : Calls Try.prog 35 #[.pointer (some ⟨R, 0, none⟩), .int .i64 1] w (GotPost (fun i => i = R) w) := by
  have HLT := Lib.hid hr.lt
  have HR0 := Lib.hid (hr.alloc (.cells #[.slice none 0 0, .slice none 0 0] 29))
  have HA0 : Hid ((w.alloc (.cells #[.slice none 0 0, .slice none 0 0] 29)).heap[w.heap.size]? = some (.cells #[.slice none 0 0, .slice none 0 0] 29 (0, 0))) := heap_alloc_new w _
  have HG0 := Lib.hid (grown_alloc w (.cells #[.slice none 0 0, .slice none 0 0] 29) (some R))
  have HZ0 : Hid ((w.alloc (.cells #[.slice none 0 0, .slice none 0 0] 29)).heap.size = w.heap.size + 1) := by unfold Hid; simp
  clear hr
  go_enter Try.func35, Try.ntmps35
  go_wp2_with fail
  generalize (w.alloc (.cells #[.slice none 0 0, .slice none 0 0] 29)) = w0 at *
  refine (contours_c R V encS 10 12 w0 HR0.out e_small (Lib.hid e10) (by decide)).mono ?_
  rintro e w1 ⟨rfl, hi, h1, g1⟩
  have HI1 := Lib.hid hi
  have HR1 := Lib.hid h1
  have HA1 := Lib.hid (grown_blk g1 (by have := HLT.out; omega) HA0.out)
  have HG1 := Lib.hid (grown_trans HG0.out g1)
  have HL1 := Lib.hid hi.lt
  have c1 := h1.fault
  clear hi h1 g1
  go_wp2_with fail
  clear c1
  refine (code_c R V encS 12 14 1 15 w1 HR1.out e_small (Lib.hid e12) (by decide) (by decide) (by decide)).mono ?_
  rintro e w2 ⟨gc, cc, rfl, hb, hgc, h2, g2⟩
  have HC2 : Hid (w2.cell? ⟨gc, 0, none⟩ = some (.int .u8 5)) := by
    obtain ⟨_, _, h0 | ⟨b, off, e, hc⟩⟩ := hb
    · omega
    · cases e
      have := hc 0 (by omega)
      rw [e_code] at this
      exact this
  have HGC := Lib.hid hgc
  have HR2 := Lib.hid h2
  have HI2 : Hid (IntsAt w2 w0.heap.size [3]) := grown_blk g2 (by have := HLT.out; have := HZ0.out; omega) HI1.out
  have HA2 := Lib.hid (grown_blk g2 (by have := HLT.out; omega) HA1.out)
  have HG2 := Lib.hid (grown_trans HG1.out g2)
  have HM2 := Lib.hid g2.size
  clear hb hgc h2 g2
  go_wp2_with fail
  refine (flags_c R V encS 15 18 w2 HR2.out e_small (Lib.hid e15) (Lib.hid e16) (Lib.hid e17) (by decide)).mono ?_
  rintro e w3 ⟨gf, cf, rfl, ho, h3, g3⟩
  have HO3 := Lib.hid ho
  have HR3 := Lib.hid h3
  have HI3 : Hid (IntsAt w3 w0.heap.size [3]) := grown_blk g3 (by have := HLT.out; have := HZ0.out; omega) HI2.out
  have HA3 := Lib.hid (grown_blk g3 (by have := HLT.out; omega) HA2.out)
  have HC3 := Lib.hid (grown_cell g3 (by have := HGC.out; have := HL1.out; have := HLT.out; have := HZ0.out; omega) HC2.out)
  have HG3 := Lib.hid (grown_trans HG2.out g3)
  have HM3 := Lib.hid g3.size
  have HF3 := Lib.hid (own_ints ho)
  have HGF := Lib.hid (ownsRow_cap ho).2.1
  clear ho h3 g3
  go_wp2_with fail
  have HN3 : Hid (w.heap.size < w0.heap.size ∧ w0.heap.size < w1.heap.size ∧ w1.heap.size ≤ w2.heap.size ∧ R < w.heap.size) := ⟨by have := HZ0.out; omega, HL1.out, HM2.out, HLT.out.1⟩
  refine (coordX_c R V gf cf encS 18 24 w3 HR3.out e_small HF3.out (by have := HGF.out; have := HN3.out; omega) (Lib.hid e18) (Lib.hid e20) (Lib.hid e22) (by decide)).mono ?_
  rintro e w4 ⟨rfl, hx, h4, g4⟩
  have HX4 := Lib.hid hx
  have HR4 := Lib.hid h4
  have HI4 : Hid (IntsAt w4 w0.heap.size [3]) := grown_blk g4 (by have := HN3.out; omega) HI3.out
  have HA4 := Lib.hid (grown_blk g4 (by have := HLT.out; omega) HA3.out)
  have HC4 := Lib.hid (grown_cell g4 (by have := HGC.out; have := HN3.out; omega) HC3.out)
  have HF4 : Hid (IntsIn w4 gf [1, 0, 1]) := fun i x h => grown_cell g4 (by have := HGF.out; have := HN3.out; omega) (HF3.out i x h)
  have HG4 := Lib.hid (grown_trans HG3.out g4)
  have HL4 := Lib.hid hx.lt
  have HM4 := Lib.hid g4.size
  clear hx h4 g4
  go_wp2_with fail
  refine (coordY_c R V gf cf encS 24 30 w4 HR4.out e_small HF4.out (by have := HGF.out; have := HN3.out; omega) (Lib.hid e24) (Lib.hid e26) (Lib.hid e28) (by decide)).mono ?_
  rintro e w5 ⟨rfl, hy, h5, g5⟩
  have HY5 := Lib.hid hy
  have HX5 : Hid (IntsAt w5 w3.heap.size [1, 9, 0]) := grown_blk g5 (by have := HN3.out; have := HM3.out; omega) HX4.out
  have HI5 : Hid (IntsAt w5 w0.heap.size [3]) := grown_blk g5 (by have := HN3.out; omega) HI4.out
  have HA5 := Lib.hid (grown_blk g5 (by have := HLT.out; omega) HA4.out)
  have HC5 := Lib.hid (grown_cell g5 (by have := HGC.out; have := HN3.out; omega) HC4.out)
  have HF5 : Hid (IntsIn w5 gf [1, 0, 1]) := fun i x h => grown_cell g5 (by have := HGF.out; have := HN3.out; omega) (HF4.out i x h)
  have HG5 := Lib.hid (grown_trans HG4.out g5)
  have HM5 := Lib.hid g5.size
  have c5 := h5.fault
  clear hy h5 g5
  go_wp2_with fail
  clear c5
  refine (outlineOf_c w0.heap.size 1 gf cf w3.heap.size 3 w4.heap.size 3 w5 HI5.out.ins HF5.out HX5.out.ins HY5.out.ins).mono ?_
  rintro e w6 ⟨rfl, ht, hb⟩
  have HT6 := Lib.hid ht
  have hA := (hb.block _ (Array.getElem?_eq_some_iff.1 HA5.out).1).trans HA5.out
  have HC6 := Lib.hid (keepC hb HC5.out)
  have HG6 := Lib.hid (grown_trans HG5.out (grown_bel _ hb))
  have a0 := blk_cell hA 0 (.slice none 0 0) rfl
  have a1 := blk_cell hA 1 (.slice none 0 0) rfl
  have a2 := blk_free hA
  have HK6 : Hid (Kb (fun i => i = R) w w6) := kb_grown HG6.out
  have HGOT : Hid (Got (w.heap.size + 1) w6 w5.heap.size gc) := ⟨ht, HC6.out, by have := HN3.out; have := HM3.out; have := HM4.out; have := HM5.out; omega, by have := HGC.out; have := HN3.out; omega⟩
  clear ht hb hA
  go_wp2_with fail
  refine bodyPost_ret (v := .tuple #[.agg #[.slice (some ⟨w5.heap.size, 0, none⟩) 1 1, .slice (some ⟨gc, 0, none⟩) 1 cc], .int .i64 0]) (by simp [results, Try.results35, go_sem, a0, a1]) rfl ⟨w5.heap.size, gc, cc, rfl, ?_, ?_⟩
  · exact (HGOT.out.kb (kb_set _ w.heap.size 0 _) (fun i h => by omega)).kb (kb_set _ w.heap.size 1 _) (fun i h => by omega)
  · exact (HK6.out.set (.inr (Nat.le_refl _))).set (.inr (Nat.le_refl _))

end Go.Proofs.Ytllbegmgknlaiaa
