import Derived.Test.YtklenppldblbdaaGreatK42
set_option linter.unusedSimpArgs false
set_option linter.unusedVariables false
namespace Go.Proofs.YtklenppldblbdaaGreat.type2Runs
open Go.RowKit Go.PlainAid
set_option maxRecDepth 20000 in
set_option maxHeartbeats 4000000 in
theorem walk (ca : Option Addr) (cc : Nat) (c : ByteArray) (la : Option Addr) (lc : Nat) (Ls : List ByteArray) (ga : Option Addr) (gc : Nat) (Gs : List ByteArray) (u0 u1 : Int) (w : World) (hC : IsB w ca c.size cc c) (hL : IsL w la Ls) (hG : IsL w ga Gs) (hb : c.size + sizeN Ls + Ls.length + sizeN Gs + Gs.length ≤ 10000000) :
 Calls Tryz.prog 3 #[.agg #[.slice ca c.size cc, .slice la Ls.length lc, .slice ga Gs.length gc, .int .i64 u0, .int .i64 u1]] w fun e w' => e = .returned (.bool true) ∧ Below w.heap.size w w' := by
 have hb0 : Below w.heap.size w (w.alloc (.cells #[.slice ca c.size cc, .slice la Ls.length lc, .slice ga Gs.length gc, .int .i64 u0, .int .i64 u1] 25)) := bel_al _ _
 have e0 : (w.alloc (.cells #[.slice ca c.size cc, .slice la Ls.length lc, .slice ga Gs.length gc, .int .i64 u0, .int .i64 u1] 25)).heap[w.heap.size]? = some (.cells #[.slice ca c.size cc, .slice la Ls.length lc, .slice ga Gs.length gc, .int .i64 u0, .int .i64 u1] 25 (0, 0)) := heap_alloc_new w _
 have HA := Lib.hid (fun W => type2Alive_c W)
 have HCB := Lib.hid (hC.below hb0)
 have HLB := Lib.hid (hL.below hb0)
 have HGB := Lib.hid (hG.below hb0)
 have HB0 := Lib.hid hb0
 have HE0 := Lib.hid e0
 have HBU := Lib.hid hb
 clear hC hL hG hb hb0 e0
 go_enter Tryz.func3, Tryz.ntmps3
 go_wp2_with fail
 generalize (w.alloc (.cells #[.slice ca c.size cc, .slice la Ls.length lc, .slice ga Gs.length gc, .int .i64 u0, .int .i64 u1] 25)) = w0 at *
 refine (HA.out w0).mono ?_
 rintro e w1 ⟨rfl, hb1⟩
 have eP := blk_below HE0.out hb1
 have HEP := Lib.hid eP
 have HB1 := Lib.hid (bel_next HB0.out hb1)
 have HC1 := Lib.hid (HCB.out.below hb1)
 have HL1 := Lib.hid (HLB.out.below hb1)
 have HG1 := Lib.hid (HGB.out.below hb1)
 have p0 := blk_cell eP 0 _ rfl
 have p1 := blk_cell eP 1 _ rfl
 have p2 := blk_cell eP 2 _ rfl
 have p3 := blk_cell eP 3 _ rfl
 have p4 := blk_cell eP 4 _ rfl
 clear eP hb1 HB0 HE0 HCB HLB HGB
 go_wp2_with fail
 refine (small_d ca cc c la lc Ls ga gc Gs u0 u1 w1 HL1.out HG1.out HBU.out).mono ?_
 clear p0 p1 p2 p3 p4
 rintro e w2 ⟨bb, rfl, hb2, hbb⟩
 have HB2 := Lib.hid (bel_next HB1.out hb2)
 cases bb
 ·clear hb2 hbb
  go_wp2_with fail
  go_ret
  exact ⟨rfl, HB2.out⟩
 have HSM := Lib.hid (hbb rfl)
 have eP := blk_below HEP.out hb2
 have HC2 := Lib.hid (HC1.out.below hb2)
 have HL2 := Lib.hid (HL1.out.below hb2)
 have HG2 := Lib.hid (HG1.out.below hb2)
 have p0 := blk_cell eP 0 _ rfl
 have p1 := blk_cell eP 1 _ rfl
 have p2 := blk_cell eP 2 _ rfl
 have p3 := blk_cell eP 3 _ rfl
 have p4 := blk_cell eP 4 _ rfl
 have hlt : w.heap.size < w2.heap.size := blk_lt eP
 clear eP hb2 hbb HEP HB1 HC1 HL1 HG1
 go_upto_region 6 with fail
 refine wp_gen _ fun w3 hw3 => ?_
 have h2 := alloc2 w2 (.cells #[.slice ca c.size cc] 22) (.cells #[.slice (some ⟨w2.heap.size, 0, none⟩) 1 1, .slice la Ls.length lc, .slice ga Gs.length gc, .int .i64 u0, .int .i64 u1] 29)
 rw [← hw3] at h2
 obtain ⟨eR, eF, hb3⟩ := h2
 have HER := Lib.hid eR
 have HEF := Lib.hid eF
 have HC3 := Lib.hid (HC2.out.below hb3)
 have HL3 := Lib.hid (HL2.out.below hb3)
 have HG3 := Lib.hid (HG2.out.below hb3)
 have HB3 := Lib.hid (bel_next HB2.out hb3)
 clear hw3 hb3 eR p0 p1 p2 p3 p4 hlt HC2 HL2 HG2
 generalize w2.heap.size = R at *
 obtain ⟨f, HFD⟩ : ∃ f : FS, Hid (f = { glyphs := [c], locals := Ls, globals := Gs, w0 := u0, w1 := u1 }) := ⟨_, rfl⟩
 have hf1 : f.glyphs = [c] := by rw [HFD.out]
 have hf2 : f.locals = Ls := by rw [HFD.out]
 have hf3 : f.globals = Gs := by rw [HFD.out]
 have hf4 : f.w0 = u0 := by rw [HFD.out]
 have hf5 : f.w1 = u1 := by rw [HFD.out]
 have hn1 : f.glyphs.length ≤ 60000 ∧ f.locals.length ≤ 60000 ∧ f.globals.length ≤ 60000 := by have h := HSM.out; rw [hf1, hf2, hf3]; refine ⟨by simp, by omega, by omega⟩
 have hn2 : sizeN f.glyphs ≤ 60000 ∧ sizeN f.locals ≤ 60000 ∧ sizeN f.globals ≤ 60000 := by have h := HSM.out; rw [hf1, hf2, hf3]; refine ⟨by simp only [sizeN]; omega, by omega, by omega⟩
 have HOK : Hid (FOk f) := ⟨hn1, hn2, by rw [hf4]; have h := HSM.out; omega, by rw [hf5]; have h := HSM.out; omega, by rw [hf1]; simp⟩
 have hfa : FArg w3 f (some ⟨R, 0, none⟩) 1 la lc ga gc := ⟨by rw [hf1]; refine isL_cellsD HER.out (fun i P hP => ?_); (have hi : i = 0 := by have := (List.getElem?_eq_some_iff.1 hP).1; simp at this; omega); subst hi; (have e : c = P := by simpa using hP); subst e; exact ⟨ca, cc, rfl, HC3.out⟩, by rw [hf2]; exact HL3.out, by rw [hf3]; exact HG3.out, hn1, hn2, HOK.out.w0, HOK.out.w1⟩
 have hpk := pack_c f (some ⟨R, 0, none⟩) 1 la lc ga gc w3 hfa
 rw [show f.glyphs.length = 1 by rw [hf1]; rfl, hf2, hf3, hf4, hf5] at hpk
 have HPK := Lib.hid hpk
 have HF1 := Lib.hid hf1
 have HF2 := Lib.hid hf2
 have HF3 := Lib.hid hf3
 have HF4 := Lib.hid hf4
 have HF5 := Lib.hid hf5
 have q0 := blk_cell eF 0 _ rfl
 have q1 := blk_cell eF 1 _ rfl
 have q2 := blk_cell eF 2 _ rfl
 have q3 := blk_cell eF 3 _ rfl
 have q4 := blk_cell eF 4 _ rfl
 clear eF hf1 hf2 hf3 hf4 hf5 hn1 hn2 hfa hpk HFD
 go_wp2_with fail
 refine HPK.out.mono ?_
 clear HPK q0 q1 q2 q3 q4
 rintro e w4 ⟨g4, c4, rfl, ho4, hb4⟩
 have HI4 := Lib.hid (isB_of_owns ho4)
 have HB4 := Lib.hid (bel_next HB3.out hb4)
 have HER4 := Lib.hid (blk_below HER.out hb4)
 have HEF4 := Lib.hid (blk_below HEF.out hb4)
 have HC4 := Lib.hid (HC3.out.below hb4)
 have HL4 := Lib.hid (HL3.out.below hb4)
 have HG4 := Lib.hid (HG3.out.below hb4)
 clear ho4 hb4 HER HEF HC3 HL3 HG3 HB3
 go_wp2_with fail
 refine (lawOpen_c f HOK.out (some ⟨g4, 0, none⟩) c4 w4 HI4.out).mono ?_
 rintro e w5 ⟨F, fl, rfl, hF, hb5⟩
 have HFT := Lib.hid hF
 have HB5 := Lib.hid (bel_next HB4.out hb5)
 have eF5 := blk_below HEF4.out hb5
 have eR5 := blk_below HER4.out hb5
 have q0 := blk_cell eF5 0 _ rfl
 have q1 := blk_cell eF5 1 _ rfl
 have q2 := blk_cell eF5 2 _ rfl
 have q3 := blk_cell eF5 3 _ rfl
 have q4 := blk_cell eF5 4 _ rfl
 have hff : FontF f w5.heap.size ⟨some ⟨R, 0, none⟩, 1, 1, la, lc, ga, gc⟩ w5 := ⟨ListB.of (by rw [HF2.out]; exact HL4.out.below hb5) (Nat.le_refl _), ListB.of (by rw [HF3.out]; exact HG4.out.below hb5) (Nat.le_refl _), HOK.out.fit, ⟨by rw [HF2.out]; have h := HSM.out; omega, by rw [HF3.out]; have h := HSM.out; omega⟩, by rw [HF5.out]; have h := HSM.out; exact ⟨by omega, by omega⟩⟩
 have hgl := refglyph_d f la ga lc gc R c ca cc w5 hff (InB.of (HC4.out.below hb5) (Nat.le_refl _)) (by have h := HSM.out; omega) (blk_cell eR5 0 _ rfl) HF1.out
 rw [HF2.out, HF3.out, HF4.out, HF5.out] at hgl
 have HGL := Lib.hid hgl
 clear hF hb5 eF5 eR5 hff hgl HI4 HB4 HER4 HEF4 HC4 HL4 HG4
 go_wp2_with fail
 refine HGL.out.mono ?_
 clear HGL q0 q1 q2 q3 q4
 rintro e w6 ⟨oW, ocW, vsW, rfl, hzW, hb6⟩
 have HFT6 := Lib.hid (HFT.out.below hb6)
 have HB6 := Lib.hid (bel_next HB5.out hb6)
 have HWW := Lib.hid hzW.isO
 have HFEW := Lib.hid (glyph_fewD HOK.out.fit 0 c (by rw [HF1.out]; rfl))
 clear hb6 hzW HFT HB5
 have hga := glyph_c w6 F fl f 0 (by decide) HFT6.out
 have HGA := Lib.hid hga
 have HGC := Lib.hid (fun W (h : FontAt W F fl f) => glyph_c W F fl f 0 (by decide) h)
 clear hga
 obtain ⟨O, hO⟩ : ∃ O, (glyphM f 0).1 = O := ⟨_, rfl⟩
 obtain ⟨wd, hwd⟩ : ∃ x, (glyphM f 0).2.1 = x := ⟨_, rfl⟩
 obtain ⟨er, her⟩ : ∃ x, (glyphM f 0).2.2 = x := ⟨_, rfl⟩
 unfold GPost at HGA HGC
 rw [hO, hwd, her] at HGA ⊢
 simp only [hO, hwd, her] at HGC
 rw [hO] at HWW HFEW
 clear hO hwd her
 go_wp2_with fail
 refine HGA.out.mono ?_
 rintro e w7 ⟨a7, c7, vs7, rfl, hz7, hb7⟩
 have HZ7 := Lib.hid hz7
 have HFT7 := Lib.hid (HFT6.out.below hb7)
 have HB7 := Lib.hid (bel_next HB6.out hb7)
 have HW7 := Lib.hid (HWW.out.below hb7)
 have HX7 := Lib.hid hb7
 clear hz7 hb7 HGA
 go_wp2_with fail
 refine (HGC.out w7 HFT7.out).mono ?_
 rintro e w8 ⟨a8, c8, vs8, rfl, hz8, hb8⟩
 have HZ8 := Lib.hid hz8
 have HB8 := Lib.hid (bel_next HB7.out hb8)
 have HX8 := Lib.hid hb8
 have HLA : Hid (LongA O) := ⟨by have := HFEW.out.1; omega, fun c hc => by have := HFEW.out.2 c hc; omega⟩
 have HSO := Lib.hid (sameOutline_c a7 oW c7 ocW O w8 (HZ7.out.isO.below hb8) (HW7.out.below hb8) HLA.out)
 clear hz8 hb8 HGC
 go_wp2_with fail
 refine HSO.out.mono ?_
 rintro e w9 ⟨rfl, hb9⟩
 have HSP0 := Lib.hid (spw_start (N7 := w8.heap.size) HZ7.out rfl (bel_next HX8.out hb9) hb9.size HX7.out.size)
 have HVL : Hid (vs7.length = O.length) := by have := HZ7.out.own.1; unfold Hid; omega
 have HAP := Lib.hid HZ7.out.apart
 have HB9 := Lib.hid (bel_next HB8.out hb9)
 have HM9 : Hid (Mid w7.heap.size w8.heap.size w8 w9) := fun j _ h => hb9.block j h
 have HW9 : Hid (Below w6.heap.size w6 w9) := bel_next (bel_next HX7.out HX8.out) hb9
 have HLE6 : Hid (w.heap.size ≤ w6.heap.size) := HB6.out.size
 have HO256 := Lib.hid HFEW.out.1
 have hob : O.length ≤ 256 := HFEW.out.1
 clear hb9 HSO HZ7 HFT6 HFT7 HB7 HB8 HW7 HX7 HX8
 go_wp2_with fail
 go_loopw [80] (fun iv wr => ∃ (i : Nat) (us : List Value), iv = .int .i64 (i : Int) ∧ Hid (i ≤ O.length) ∧ Hid (SpW w6.heap.size w7.heap.size w8.heap.size a7 c7 vs7 O i us w9 wr)) (fun iv _ => O.length - (intOf iv).toNat)
 case atStart => exact ⟨0, vs7, rfl, Nat.zero_le _, HSP0.out⟩
 case round =>
  clear HSP0
  obtain ⟨i, us, rfl, HI, HS⟩ := hrel
  by_cases hlt : i < O.length
  ·have hlt' : (i : Int) < (O.length : Int) := by omega
   have hi0 : (0 : Int) ≤ (i : Int) := by omega
   have HLT := Lib.hid hlt
   obtain ⟨ct, hct⟩ := get_of hlt
   obtain ⟨av, cv, hsi⟩ := HS.out.enter HAP.out hct
   obtain ⟨ra, hra, _⟩ := own_some HS.out.row (by omega)
   subst hra
   have k0 := own_lies hsi.row i _ hsi.here
   rw [Nat.zero_add] at k0
   have HCT : Hid (ct.length ≤ 4096) := HFEW.out.2 ct (List.mem_of_getElem? hct)
   have HSI := Lib.hid hsi
   have HW1 : Hid (wrap64 ((i : Int) + 1) = ((i + 1 : Nat) : Int)) := by unfold Hid wrap64; omega
   clear hlt hct hsi HS
   go_wp2_with fail
   go_loopw [88] (fun jv wx => ∃ (j : Nat) (xs : List Value), jv = .int .i64 (j : Int) ∧ Hid (j ≤ ct.length) ∧ Hid (SpI w6.heap.size w7.heap.size w8.heap.size (some ⟨ra, 0, none⟩) c7 vs7 O i us av ct.length cv xs w9 wx)) (fun jv _ => ct.length - (intOf jv).toNat)
   case atStart => exact ⟨0, _, rfl, Nat.zero_le _, HSI.out⟩
   case round =>
    clear HSI k0
    obtain ⟨j, xs, rfl, HJ, HSI⟩ := hrel
    have k0 := own_lies HSI.out.row i _ HSI.out.here
    rw [Nat.zero_add] at k0
    by_cases hlj : j < ct.length
    ·have hlj' : (j : Int) < (ct.length : Int) := by omega
     have hj0 : (0 : Int) ≤ (j : Int) := by omega
     have HLJ := Lib.hid hlj
     obtain ⟨g, hg, _⟩ := own_some HSI.out.cont (by omega)
     subst hg
     have hxl : j * 3 < xs.length := by have := HSI.out.cont.1; omega
     obtain ⟨u, hu⟩ := get_of hxl
     have k1 := own_lies HSI.out.cont (j * 3) u hu
     rw [Nat.zero_add] at k1
     have f1 := own_free HSI.out.cont (j * 3)
     have HW2 : Hid (wrap64 ((j : Int) + 1) = ((j + 1 : Nat) : Int)) := by have := HCT.out; unfold Hid wrap64; omega
     have HSN := Lib.hid (HSI.out.set HVL.out (j * 3) (.int .i64 (-1)))
     have hw2 := HW2.out
     clear hlj hxl hu
     go_wp2_with fail
     refine ⟨⟨j + 1, _, by first | rw [hw2] | go_num, HLJ.out, HSN.out⟩, ?_⟩
     (try rw [hw2]); clear hw2; have := HLJ.out; simp only [intOf]; omega
    ·obtain rfl : j = ct.length := by have := HJ.out; omega
     have h1 : ¬ (ct.length : Int) < (ct.length : Int) := by omega
     clear hlj k0
     go_wp2_with fail
     go_loopw [16] (fun tv wy => ∃ (t m' cv' : Nat) (us' : List Value) (av' : Option Addr) (xs' : List Value), tv = .int .i64 (t : Int) ∧ Hid (t ≤ 9) ∧ Hid (m' = ct.length + t) ∧ Hid (SpI w6.heap.size w7.heap.size w8.heap.size (some ⟨ra, 0, none⟩) c7 vs7 O i us' av' m' cv' xs' w9 wy)) (fun tv _ => 9 - (intOf tv).toNat)
     case atStart => exact ⟨0, _, _, _, _, _, rfl, Nat.zero_le _, rfl, HSI.out⟩
     case round =>
      clear HSI
      obtain ⟨t, m', cv', us', av', xs', rfl, HT, HMM, HSI⟩ := hrel
      have k0 := own_lies HSI.out.row i _ HSI.out.here
      rw [Nat.zero_add] at k0
      by_cases hlt9 : t < 9
      ·have hlt9' : (t : Int) < 9 := by omega
       have HT9 := Lib.hid hlt9
       have HW3 : Hid (wrap64 ((t : Int) + 1) = ((t + 1 : Nat) : Int)) := by unfold Hid wrap64; omega
       have HMN : Hid (m' + 1 = ct.length + (t + 1)) := by have := HMM.out; unfold Hid; omega
       have HMB : Hid (m' ≤ 5000) := by have h1 := HMM.out; have h2 := HCT.out; unfold Hid; omega
       have HAL := Lib.hid (bel_al _ (.cells #[.int .i64 0, .int .i64 0, .int .i64 0] 43) : Below wr.heap.size wr (wr.alloc (.cells #[.int .i64 0, .int .i64 0, .int .i64 0] 43)))
       have HOC := Lib.hid (own_below HSI.out.cont HAL.out)
       have HOR := Lib.hid (own_below HSI.out.row HAL.out)
       clear hlt9
       go_wp2_with (at_builtin; (
        refine wpList_appA elK rfl _ _ rfl (wr.alloc (.cells #[.int .i64 0, .int .i64 0, .int .i64 0] 43)) w6.heap.size av' m' cv' xs' wr.heap.size 1 1 [.int .i64 0, .int .i64 0, .int .i64 0] rfl rfl HOC.out rfl lies_new (by simp [Value.oneCell']) (by decide) (by have := HMB.out; omega) (by have := HMB.out; omega) (Nat.le_trans HSI.out.ge HAL.out.size) ?_
        intro g9 c9 w10 ho9 hg9 hat9
        have hor := own_chg HOR.out hg9 (typ_own HOC.out) (by decide)
        have k2 := own_lies hor i _ HSI.out.here
        rw [Nat.zero_add] at k2
        have f2 := own_free hor i
        have HSN := Lib.hid (HSI.out.app HVL.out HLT.out HAL.out ho9 hg9 hat9)
        clear ho9 hg9 hat9 hor))
       have hw3 := HW3.out
       refine ⟨⟨t + 1, _, _, _, _, _, by first | rw [hw3] | go_num, HT9.out, HMN.out, HSN.out⟩, ?_⟩
       (try rw [hw3]); clear hw3; have := HT9.out; simp only [intOf]; omega
      ·obtain rfl : t = 9 := by have := HT.out; omega
       clear hlt9 k0
       have hw1 := HW1.out
       go_wp2_with fail
       refine ⟨⟨i + 1, us', by first | rw [hw1] | go_num, HLT.out, HSI.out.leave⟩, ?_⟩
       (try rw [hw1]); clear hw1; have := HLT.out; simp only [intOf]; omega
  ·obtain rfl : i = O.length := by have := HI.out; omega
   have h1 : ¬ (O.length : Int) < (O.length : Int) := by omega
   have hbz : Below w6.heap.size w6 wr := HW9.out.trans HS.out.bel
   have hmz : Mid w7.heap.size w8.heap.size w8 wr := fun j h1 h2 => (HS.out.mid j h1 h2).trans (HM9.out j h1 h2)
   have HFI := Lib.hid (sameOutline_c a8 oW c8 ocW O wr (HZ8.out.mid rfl hmz).isO (HWW.out.below hbz) HLA.out)
   have HBZ : Hid (Below w.heap.size w wr) := HB6.out.trans (hbz.mono HLE6.out)
   clear hlt hbz hmz
   go_wp2_with fail
   refine HFI.out.mono ?_
   rintro e w10 ⟨rfl, hb10⟩
   have HBF := Lib.hid (bel_next HBZ.out hb10)
   clear hb10
   go_wp2_with fail
   go_ret
   exact ⟨rfl, HBF.out⟩
end Go.Proofs.YtklenppldblbdaaGreat.type2Runs
