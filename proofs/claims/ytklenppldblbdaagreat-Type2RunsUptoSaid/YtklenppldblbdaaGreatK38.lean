import Derived.Test.YtklenppldblbdaaGreatK37
import Derived.Deep.LoopGhost
set_option linter.unusedSimpArgs false
set_option linter.unusedVariables false
namespace Go.Proofs.YtklenppldblbdaaGreat
open Go.RowKit Go.PlainAid
def freshCells (F : Nat) (w0 : Int) : Array Value := #[.slice none 0 0, .int .i64 0, .int .i64 0, .int .i64 0, .int .i64 0, .pointer (some ⟨F, 0, none⟩), .slice none 0 0, .slice none 0 0, .int .i64 0, .int .i64 0, .int .i64 w0, .bool false, .bool false]
theorem start_fit (f : FS) (P : ByteArray) (hP : P.size ≤ 1000000) : StepFit (MS.start f P) := by
 refine ⟨⟨by simp [MS.start], by simp [MS.start], by simp [MS.start]⟩, by simp [MS.start], by simp [MS.start], by simp [MS.start], by simp [MS.start], by simp [MS.start], by simp [MS.start], ?_, ?_⟩
 ·intro r hr
  simp [MS.start] at hr
  subst hr
  exact hP
 ·intro _ r hr
  simp [MS.start] at hr
  subst hr
  exact ⟨rfl, Nat.zero_le _⟩
theorem fresh_mach (w : World) (B M F V : Nat) (f : FS) (P : ByteArray) (hm : w.heap[M]? = some (.cells (freshCells F f.w0) 64 (0, 0))) (hB : B ≤ M) (hV : w.heap[V]? = some (.cells #[.string P] 68 (0, 0))) :
 Mach (((w.setCell ⟨M, 6, none⟩ (.slice (some ⟨w.heap.size + 1, 0, none⟩) 1 1)).alloc (.cells #[.pointer (some ⟨V, 0, none⟩), .int .i64 0, .bool false] 87)).alloc (.cells #[.pointer (some ⟨w.heap.size, 0, none⟩)] 85)) B M F ⟨none, 0, [], w.heap.size + 1, 1, [(w.heap.size, V)], none, 0⟩ (MS.start f P) := by
 have hlt := blk_lt hm
 have hg := grown_set w M 6 (.slice (some ⟨w.heap.size + 1, 0, none⟩) 1 1)
 have hmu : (w.setCell ⟨M, 6, none⟩ (.slice (some ⟨w.heap.size + 1, 0, none⟩) 1 1)).heap[M]? = some (.cells (mcells F ⟨none, 0, [], w.heap.size + 1, 1, [(w.heap.size, V)], none, 0⟩ (MS.start f P)) 64 (0, 0)) := by
  rw [blk_set hm]
  rfl
 have hVu := blk_chg hV hg (typ_blk hm) (by decide)
 have hzu : (w.setCell ⟨M, 6, none⟩ (.slice (some ⟨w.heap.size + 1, 0, none⟩) 1 1)).heap.size = w.heap.size := by simp
 generalize (w.setCell ⟨M, 6, none⟩ (.slice (some ⟨w.heap.size + 1, 0, none⟩) 1 1)) = u at *
 have hz : (u.alloc (.cells #[.pointer (some ⟨V, 0, none⟩), .int .i64 0, .bool false] 87)).heap.size = w.heap.size + 1 := by simp [hzu]
 have hb1 : Below u.heap.size u (u.alloc (.cells #[.pointer (some ⟨V, 0, none⟩), .int .i64 0, .bool false] 87)) := (Below.refl _ _).alloc (Nat.le_refl _) _
 have hb2 := bel_alloc hb1 (.cells #[.pointer (some ⟨w.heap.size, 0, none⟩)] 85)
 refine ⟨blk_below hmu hb2, hB, ⟨⟨rfl, .inl ⟨rfl, rfl⟩⟩, fun i c h => by simp [MS.start] at h, fun i j v u g _ h => by simp at h⟩, ⟨?_, rfl, ?_, by simp⟩, ⟨rfl, .inl ⟨rfl, rfl⟩⟩⟩
 ·have h1 := heap_alloc_new (u.alloc (.cells #[.pointer (some ⟨V, 0, none⟩), .int .i64 0, .bool false] 87)) (.cells #[.pointer (some ⟨w.heap.size, 0, none⟩)] 85)
  rw [hz] at h1
  exact ⟨rfl, .inr ⟨w.heap.size + 1, 1, _, rfl, by omega, h1, Nat.le_refl _, by unfold maxLen; decide, rfl, rfl⟩⟩
 ·intro i r q h1 h2
  cases i with
  | zero =>
    simp [MS.start] at h1 h2
    subst h1; subst h2
    have h3 := heap_alloc_new u (.cells #[.pointer (some ⟨V, 0, none⟩), .int .i64 0, .bool false] 87)
    rw [hzu] at h3
    exact ⟨by simp only; omega, blk_below h3 ((Below.refl _ _).alloc (Nat.le_refl _) _), blk_below hVu hb2⟩
  | succ i => simp at h2
def RunPost (B M F : Nat) (sF : MS) (w : World) (e : Ending) (w' : World) : Prop := e = .returned (.int .i64 sF.fault) ∧ (∃ L, Mach w' B M F L sF) ∧ Below B w w'
theorem run_done (f : FS) (k : Nat) (s : MS) (h : s.ended = true ∨ s.fault ≠ 0) : MS.run f k s = s := by
 cases k with
 | zero => rfl
 | succ k => rw [MS.run, if_pos h]
theorem run_on (f : FS) (k : Nat) (s : MS) (h : s.ended = false) (h0 : s.fault = 0) : MS.run f (k + 1) s = MS.run f k (s.step f) := by
 rw [MS.run, if_neg (by rw [h, h0]; simp)]
set_option maxRecDepth 20000 in
set_option maxHeartbeats 4000000 in
theorem run_c (w0 w : World) (M F V : Nat) (fl : FLay) (f : FS) (P : ByteArray) (hm : w.heap[M]? = some (.cells (freshCells F f.w0) 64 (0, 0))) (hB : w0.heap.size ≤ M) (hV : w.heap[V]? = some (.cells #[.string P] 68 (0, 0))) (hP : P.size ≤ 1000000)
 (hF : FontAt w0 F fl f) (hb : Below w0.heap.size w0 w) :
 Calls Tryz.prog 17 #[.pointer (some ⟨M, 0, none⟩), .pointer (some ⟨V, 0, none⟩)] w (RunPost w0.heap.size M F (MS.run f 20001 (MS.start f P)) w) := by
 have HM0 := Lib.hid (fresh_mach w w0.heap.size M F V f P hm hB hV)
 have HFit := Lib.hid (start_fit f P hP)
 have c6 := blk_cell hm 6 (.slice none 0 0) rfl
 have f6 := blk_free hm 6
 have hlt := blk_lt hm
 have HF := Lib.hid hF
 have HB := Lib.hid hb
 have HMB := Lib.hid hB
 have HLW : Hid (w0.heap.size ≤ w.heap.size) := hb.size
 clear hm hV hP hF hb hB
 go_enter Tryz.func17, Tryz.ntmps17
 go_wp2_with fail
 have HB1 : Hid (Below w0.heap.size w (((w.setCell ⟨M, 6, none⟩ (.slice (some ⟨w.heap.size + 1, 0, none⟩) 1 1)).alloc (.cells #[.pointer (some ⟨V, 0, none⟩), .int .i64 0, .bool false] 87)).alloc (.cells #[.pointer (some ⟨w.heap.size, 0, none⟩)] 85))) := ((bel_mset w HMB.out 6 _).alloc (by simp; exact HLW.out) _).alloc (by simp; have := HLW.out; omega) _
 clear c6 f6
 generalize (((w.setCell ⟨M, 6, none⟩ (.slice (some ⟨w.heap.size + 1, 0, none⟩) 1 1)).alloc (.cells #[.pointer (some ⟨V, 0, none⟩), .int .i64 0, .bool false] 87)).alloc (.cells #[.pointer (some ⟨w.heap.size, 0, none⟩)] 85)) = w1 at *
 go_loopg [] 20001 (fun k wr => ∃ (L : Lay) (s : MS), Hid (Mach wr w0.heap.size M F L s) ∧ Hid (StepFit s) ∧ Hid (Below w0.heap.size w wr) ∧ Hid (s.fault = 0 → 20001 ≤ k + s.fuel) ∧ Hid (MS.run f k s = MS.run f 20001 (MS.start f P)))
 case atStart => exact ⟨_, _, HM0, HFit, HB1, fun _ => Nat.le_add_right _ _, rfl⟩
 case round =>
  obtain ⟨L, s, H, HFT, HBR, HFU, HRUN⟩ := hrel
  clear HM0 HFit
  have c12 := H.out.c12
  have c4 := H.out.c4
  cases he : s.ended
  ·rw [he] at c12
   have HE := Lib.hid he
   clear he
   by_cases h0 : s.fault = 0
   ·rw [h0] at c4
    have H0 := Lib.hid h0
    clear h0
    obtain ⟨j, rfl⟩ : ∃ j, gk = j + 1 := ⟨gk - 1, by have h1 := HFU.out H0.out; have h2 := HFT.out.fuel; omega⟩
    have HRA : Hid (RunAt w0 wr M F fl f L s) := ⟨H.out, HF.out, HB.out.trans HBR.out, HFT.out⟩
    go_wp2_with fail
    refine (step_c w0 wr M F fl f L s HRA.out H0.out).mono ?_
    rintro e w2 ⟨rfl, ⟨L2, h2⟩, hb2⟩
    have H2 := Lib.hid h2
    have HB2 := Lib.hid (HBR.out.trans hb2)
    have HF2 := Lib.hid (HFT.out.step H0.out f HF.out.fit)
    have HU2 : Hid ((s.step f).fault = 0 → 20001 ≤ j + (s.step f).fuel) := by
     intro h
     have h1 := HFU.out H0.out
     have h3 := step_fuel f h (by intro e; have := HFT.out.open'; rw [e] at this; simp at this)
     omega
    have HR2 : Hid (MS.run f j (s.step f) = MS.run f 20001 (MS.start f P)) := by
     have h1 := HRUN.out
     rw [run_on f j s HE.out H0.out] at h1
     exact h1
    clear h2 hb2 c12 c4
    go_wp2_with fail
    go_roundg j
    case measure => omega
    case rel => exact ⟨L2, _, H2, HF2, HB2, HU2, HR2⟩
   ·have HR : Hid (s = MS.run f 20001 (MS.start f P)) := (run_done f gk s (.inr h0)).symm.trans HRUN.out
    obtain ⟨x, HX⟩ : ∃ x, Hid (s.fault = x) := ⟨_, rfl⟩
    rw [HX.out] at c4 h0
    have z1 : (x == 0) = false := by simp [h0]
    clear h0
    go_wp2_with fail
    go_ret
    rw [← HR.out]
    exact ⟨by rw [HX.out]; rfl, ⟨L, H.out⟩, HBR.out⟩
  ·rw [he] at c12
   have HR : Hid (s = MS.run f 20001 (MS.start f P)) := (run_done f gk s (.inl he)).symm.trans HRUN.out
   clear he
   obtain ⟨x, HX⟩ : ∃ x, Hid (s.fault = x) := ⟨_, rfl⟩
   rw [HX.out] at c4
   go_wp2_with fail
   go_ret
   rw [← HR.out]
   exact ⟨by rw [HX.out]; rfl, ⟨L, H.out⟩, HBR.out⟩
def GPost (r : List (List Kn) × Int × Int) (w : World) (e : Ending) (w' : World) : Prop := ∃ a c vs, e = .returned (.tuple #[.slice a r.1.length c, .int .i64 r.2.1, .int .i64 r.2.2]) ∧ OutW w' w.heap.size a c vs r.1 ∧ Below w.heap.size w w'
theorem outW_nil (w : World) (B : Nat) : OutW w B none 0 [] [] := ⟨⟨rfl, .inl ⟨rfl, rfl⟩⟩, fun i c h => by simp at h, fun i j v u g _ h => by simp at h⟩
theorem OutW.isO {w : World} {B : Nat} {a : Option Addr} {c : Nat} {vs : List Value} {O : List (List Kn)} (h : OutW w B a c vs O) : IsO clK w a O := by
 by_cases h0 : O.length = 0
 ·exact .inl (List.eq_nil_of_length_eq_zero h0)
 ·obtain ⟨g, rfl, _, _, _⟩ := own_some h.own (by omega)
  refine .inr ⟨g, 0, rfl, fun i d hd => ?_⟩
  obtain ⟨ai, ci, h1, h2⟩ := h.conts i d hd
  refine ⟨ai, ci, own_lies h.own i _ h1, ?_, own_isR rfl h2⟩
  by_cases hz : d.length = 0
  ·omega
  ·obtain ⟨_, _, _, _, hc⟩ := own_some h2 (by omega)
   exact hc
set_option maxRecDepth 20000 in
set_option maxHeartbeats 1000000 in
theorem fcount_c (w : World) (F : Nat) (fl : FLay) (f : FS) (h : FontAt w F fl f) :
 Calls Tryz.prog 11 #[.pointer (some ⟨F, 0, none⟩)] w fun e w' => e = .returned (.int .i64 (f.glyphs.length : Int)) ∧ Below w.heap.size w w' := by
 have k0 := blk_cell h.mem 0 (.slice fl.pa fl.pn fl.pc) rfl
 have k1 := blk_cell h.mem 1 (.pointer fl.pd) rfl
 have HC := Lib.hid (count_c fl.pa fl.pn fl.pc (.pointer fl.pd) w h.progs.2.1)
 have hc := h.progs.1.count
 rw [hc] at HC
 generalize f.glyphs.length = n at *
 clear h hc
 go_enter Tryz.func11, Tryz.ntmps11
 go_wp2_with fail
 refine HC.out.mono ?_
 rintro e w1 ⟨rfl, hb⟩
 have HB := Lib.hid hb
 clear hb
 go_wp2_with fail
 go_ret
 exact ⟨rfl, HB.out⟩
set_option maxRecDepth 20000 in
set_option maxHeartbeats 4000000 in
theorem glyph_c (w : World) (F : Nat) (fl : FLay) (f : FS) (g : Nat) (hg : g ≤ 100000) (h : FontAt w F fl f) :
 Calls Tryz.prog 9 #[.pointer (some ⟨F, 0, none⟩), .int .i64 (g : Int)] w (GPost (glyphM f g) w) := by
 have HCN := Lib.hid (fcount_c w F fl f h)
 have H := Lib.hid h
 have g0 : ¬ (g : Int) < 0 := by omega
 by_cases hlt : g < f.glyphs.length
 ·obtain ⟨P, hP⟩ := get_of hlt
  have HP := Lib.hid hP
  have hlt2 : ¬ (f.glyphs.length : Int) ≤ (g : Int) := by omega
  obtain ⟨n, HN⟩ : ∃ n, Hid (f.glyphs.length = n) := ⟨_, rfl⟩
  rw [HN.out] at HCN hlt2
  have HPS : Hid (P.size ≤ 1000000) := h.fit.1 P (List.mem_of_getElem? hP)
  have HE : Hid (glyphM f g = if (MS.run f 20001 (MS.start f P)).fault ≠ 0 then ([], 0, (MS.run f 20001 (MS.start f P)).fault) else ((MS.run f 20001 (MS.start f P)).out, (MS.run f 20001 (MS.start f P)).width, 0)) := by unfold Hid glyphM; rw [hP]
  rw [HE.out]
  clear h hlt hP HE
  by_cases hfault : (MS.run f 20001 (MS.start f P)).fault ≠ 0
  ·rw [if_pos hfault]
   generalize hsF : MS.run f 20001 (MS.start f P) = sF at *
   have HSF := Lib.hid hsF
   obtain ⟨x, HX⟩ : ∃ x, Hid (sF.fault = x) := ⟨_, rfl⟩
   rw [HX.out] at hfault ⊢
   have z1 : (x != 0) = true := by simp [hfault]
   clear hsF hfault
   go_enter Tryz.func9, Tryz.ntmps9
   go_wp2_with fail
   refine HCN.out.mono ?_
   rintro e w1 ⟨rfl, hb1⟩
   have H1 := Lib.hid (H.out.below hb1)
   have HB1 := Lib.hid hb1
   clear hb1
   have k0 := blk_cell H1.out.mem 0 (.slice fl.pa fl.pn fl.pc) rfl
   have k1 := blk_cell H1.out.mem 1 (.pointer fl.pd) rfl
   have k6 := blk_cell H1.out.mem 6 (.int .i64 f.w0) rfl
   have hFl : F < w1.heap.size := blk_lt H1.out.mem
   have HB2 : Hid (Below w1.heap.size w1 (w1.alloc (.cells #[.slice none 0 0, .int .i64 0, .int .i64 0, .int .i64 0, .int .i64 0, .pointer (some ⟨F, 0, none⟩), .slice none 0 0, .slice none 0 0, .int .i64 0, .int .i64 0, .int .i64 f.w0, .bool false, .bool false] 64))) := (Below.refl _ _).alloc (Nat.le_refl _) _
   have H2 := Lib.hid (H1.out.below HB2.out)
   have HM2 : Hid ((w1.alloc (.cells #[.slice none 0 0, .int .i64 0, .int .i64 0, .int .i64 0, .int .i64 0, .pointer (some ⟨F, 0, none⟩), .slice none 0 0, .slice none 0 0, .int .i64 0, .int .i64 0, .int .i64 f.w0, .bool false, .bool false] 64)).heap[w1.heap.size]? = some (.cells (freshCells F f.w0) 64 (0, 0))) := heap_alloc_new _ _
   go_wp2_with fail
   refine (piece_c fl.pa fl.pn fl.pc fl.pd f.glyphs g P _ H2.out.progs.1 HP.out H2.out.progs.2.1 H2.out.progs.2.2).mono ?_
   rintro e w3 ⟨⟨v3, rfl, _, hv3⟩, hb3⟩
   have HM3 := Lib.hid (blk_below HM2.out hb3)
   have HV3 := Lib.hid hv3
   have HB3 := Lib.hid (bel_next HB1.out (bel_next HB2.out hb3))
   have HMB : Hid (w.heap.size ≤ w1.heap.size) := HB1.out.size
   clear hv3 hb3 k0 k1 k6 hFl
   go_wp2_with fail
   refine (run_c w w3 w1.heap.size F v3 fl f P HM3.out HMB.out HV3.out HPS.out H.out HB3.out).mono ?_
   rintro e w4 ⟨rfl, ⟨L4, h4⟩, hb4⟩
   rw [HSF.out] at h4 ⊢
   rw [HX.out]
   have H4 := Lib.hid h4
   have HB4 := Lib.hid (HB3.out.trans hb4)
   clear h4 hb4
   go_wp2_with fail
   go_ret3
   exact ⟨none, 0, [], rfl, outW_nil _ _, HB4.out⟩
  ·rw [if_neg hfault]
   have h0 : (MS.run f 20001 (MS.start f P)).fault = 0 := by simpa using hfault
   generalize hsF : MS.run f 20001 (MS.start f P) = sF at *
   have HSF := Lib.hid hsF
   have HX := Lib.hid h0
   clear hsF hfault h0
   go_enter Tryz.func9, Tryz.ntmps9
   go_wp2_with fail
   refine HCN.out.mono ?_
   rintro e w1 ⟨rfl, hb1⟩
   have H1 := Lib.hid (H.out.below hb1)
   have HB1 := Lib.hid hb1
   clear hb1
   have k0 := blk_cell H1.out.mem 0 (.slice fl.pa fl.pn fl.pc) rfl
   have k1 := blk_cell H1.out.mem 1 (.pointer fl.pd) rfl
   have k6 := blk_cell H1.out.mem 6 (.int .i64 f.w0) rfl
   have hFl : F < w1.heap.size := blk_lt H1.out.mem
   have HB2 : Hid (Below w1.heap.size w1 (w1.alloc (.cells #[.slice none 0 0, .int .i64 0, .int .i64 0, .int .i64 0, .int .i64 0, .pointer (some ⟨F, 0, none⟩), .slice none 0 0, .slice none 0 0, .int .i64 0, .int .i64 0, .int .i64 f.w0, .bool false, .bool false] 64))) := (Below.refl _ _).alloc (Nat.le_refl _) _
   have H2 := Lib.hid (H1.out.below HB2.out)
   have HM2 : Hid ((w1.alloc (.cells #[.slice none 0 0, .int .i64 0, .int .i64 0, .int .i64 0, .int .i64 0, .pointer (some ⟨F, 0, none⟩), .slice none 0 0, .slice none 0 0, .int .i64 0, .int .i64 0, .int .i64 f.w0, .bool false, .bool false] 64)).heap[w1.heap.size]? = some (.cells (freshCells F f.w0) 64 (0, 0))) := heap_alloc_new _ _
   go_wp2_with fail
   refine (piece_c fl.pa fl.pn fl.pc fl.pd f.glyphs g P _ H2.out.progs.1 HP.out H2.out.progs.2.1 H2.out.progs.2.2).mono ?_
   rintro e w3 ⟨⟨v3, rfl, _, hv3⟩, hb3⟩
   have HM3 := Lib.hid (blk_below HM2.out hb3)
   have HV3 := Lib.hid hv3
   have HB3 := Lib.hid (bel_next HB1.out (bel_next HB2.out hb3))
   have HMB : Hid (w.heap.size ≤ w1.heap.size) := HB1.out.size
   clear hv3 hb3 k0 k1 k6 hFl
   go_wp2_with fail
   refine (run_c w w3 w1.heap.size F v3 fl f P HM3.out HMB.out HV3.out HPS.out H.out HB3.out).mono ?_
   rintro e w4 ⟨rfl, ⟨L4, h4⟩, hb4⟩
   rw [HSF.out] at h4 ⊢
   rw [HX.out]
   have H4 := Lib.hid h4
   have HB4 := Lib.hid (HB3.out.trans hb4)
   clear h4 hb4
   have c0 := H4.out.c0
   have c10 := H4.out.c10
   obtain ⟨no, HNO⟩ : ∃ no, Hid (sF.out.length = no) := ⟨_, rfl⟩
   rw [HNO.out] at c0
   go_wp2_with fail
   go_quiet (fail)
   go_wp2_with fail
   go_ret3
   refine ⟨L4.oa, L4.oc, L4.vs, by rw [HNO.out]; rfl, H4.out.out.below (bel_drewN0 w4 nq), bel_drewN HB4.out nq⟩
 ·have hlt2 : (f.glyphs.length : Int) ≤ (g : Int) := by omega
  have HE : Hid (glyphM f g = ([], 0, 85)) := by unfold Hid glyphM; rw [List.getElem?_eq_none (by omega)]
  rw [HE.out]
  obtain ⟨n, HN⟩ : ∃ n, Hid (f.glyphs.length = n) := ⟨_, rfl⟩
  rw [HN.out] at HCN hlt2
  clear h hlt HE
  go_enter Tryz.func9, Tryz.ntmps9
  go_wp2_with fail
  refine HCN.out.mono ?_
  rintro e w1 ⟨rfl, hb1⟩
  have HB1 := Lib.hid hb1
  clear hb1
  go_wp2_with fail
  go_ret3
  exact ⟨none, 0, [], rfl, outW_nil _ _, HB1.out⟩
end Go.Proofs.YtklenppldblbdaaGreat
