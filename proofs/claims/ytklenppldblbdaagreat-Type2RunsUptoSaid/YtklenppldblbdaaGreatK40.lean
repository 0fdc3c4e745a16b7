import Derived.Test.YtklenppldblbdaaGreatK08
import Derived.Test.YtklenppldblbdaaGreatK06
import Derived.Deep.RegionHeld3
import Derived.Lib.SmallJoins
set_option linter.unusedSimpArgs false
set_option linter.unusedVariables false
namespace Go.Proofs.YtklenppldblbdaaGreat
open Go.RowKit Go.PlainAid
def headF : ByteArray := ⟨#[1, 0, 4, 2]⟩ ++ packI [⟨#[102]⟩]
def restF (f : FS) : ByteArray := packI [] ++ packI f.globals
def atF (f : FS) : Nat := headF.size + 24 + (restF f).size
def privF (f : FS) : ByteArray := intB f.w0 ++ ⟨#[20]⟩ ++ (intB f.w1 ++ ⟨#[21]⟩) ++ (if f.locals.length = 0 then ByteArray.empty else intB 18 ++ ⟨#[19]⟩)
def topF (f : FS) : ByteArray := intB (atF f : Nat) ++ ⟨#[17]⟩ ++ (intB ((privF f).size : Nat) ++ intB (atF f + (packI f.glyphs).size : Nat) ++ ⟨#[18]⟩)
def packF (f : FS) : ByteArray := headF ++ packI [topF f] ++ restF f ++ packI f.glyphs ++ privF f ++ (if f.locals.length = 0 then ByteArray.empty else packI f.locals)
theorem headF_size : headF.size = 12 := by kernel_rfl
theorem h4_cells : (#[.int .u8 1, .int .u8 0, .int .u8 4, .int .u8 2] : Array Value).toList = cellsOfStr ⟨#[1, 0, 4, 2]⟩ := by kernel_rfl
theorem c102_cells : (#[.int .u8 102] : Array Value).toList = cellsOfStr ⟨#[102]⟩ := by kernel_rfl
theorem c17_cells : (#[.int .u8 17] : Array Value).toList = cellsOfStr ⟨#[17]⟩ := by kernel_rfl
theorem c18_cells : (#[.int .u8 18] : Array Value).toList = cellsOfStr ⟨#[18]⟩ := by kernel_rfl
theorem c19_cells : (#[.int .u8 19] : Array Value).toList = cellsOfStr ⟨#[19]⟩ := by kernel_rfl
theorem c20_cells : (#[.int .u8 20] : Array Value).toList = cellsOfStr ⟨#[20]⟩ := by kernel_rfl
theorem c21_cells : (#[.int .u8 21] : Array Value).toList = cellsOfStr ⟨#[21]⟩ := by kernel_rfl
theorem isL_one {w : World} {ai : Option Addr} {ci : Nat} {s : ByteArray} (h : IsB w ai s.size ci s) (T : TypeId) : IsL (w.alloc (.cells #[.slice ai s.size ci] T)) (some ⟨w.heap.size, 0, none⟩) [s] := by
 refine .inr ⟨w.heap.size, 0, rfl, fun i P hP => ?_⟩
 have hi : i = 0 := by have := (List.getElem?_eq_some_iff.1 hP).1; simp at this; omega
 subst hi
 have e : s = P := by simpa using hP
 subst e
 exact ⟨ai, ci, by simp [go_sem], h.below ((Below.refl _ _).alloc (Nat.le_refl _) _)⟩
theorem own_apart' {B : Nat} {w w' : World} {g c D : Nat} {s : ByteArray} (h : OwnB B w g c s) (hg : w.grownBy w' (some D)) (hne : g ≠ D) : OwnB B w' g c s :=
 owns_keep h (fun hl => hg.block g hl (by simp; exact hne))
structure FArg (w : World) (f : FS) (pa : Option Addr) (pc : Nat) (la : Option Addr) (lc : Nat) (ga : Option Addr) (gc : Nat) : Prop where
 gl : IsL w pa f.glyphs
 lo : IsL w la f.locals
 gb : IsL w ga f.globals
 n1 : f.glyphs.length ≤ 60000 ∧ f.locals.length ≤ 60000 ∧ f.globals.length ≤ 60000
 n2 : sizeN f.glyphs ≤ 60000 ∧ sizeN f.locals ≤ 60000 ∧ sizeN f.globals ≤ 60000
 w0 : -2147483648 ≤ f.w0 ∧ f.w0 ≤ 2147483647
 w1 : -2147483648 ≤ f.w1 ∧ f.w1 ≤ 2147483647
-- PACK
theorem packI_n (a : Option Addr) (c n z : Nat) (Ps : List ByteArray) (w : World) (hn : Ps.length = n) (hz : (packI Ps).size = z) (h : IsL w a Ps) (h1 : Ps.length ≤ 60000) (h2 : sizeN Ps ≤ 1000000) :
 Calls Tryz.prog 14 #[.slice a n c] w fun e w' => ∃ g c, e = .returned (.slice (some ⟨g, 0, none⟩) z c) ∧ OwnB w.heap.size w' g c (packI Ps) ∧ Below w.heap.size w w' := by
 subst hn hz; exact packI_c a c Ps w h h1 h2
theorem packI_z (w : World) : Calls Tryz.prog 14 #[.slice none 0 0] w fun e w' => ∃ g c, e = .returned (.slice (some ⟨g, 0, none⟩) 2 c) ∧ OwnB w.heap.size w' g c (packI []) ∧ Below w.heap.size w w' := packI_none none 0 w
theorem pack_start (w : World) (C : Array Value) (T T2 : TypeId) : Below (w.alloc (.cells C T)).heap.size (w.alloc (.cells C T)) ((((w.alloc (.cells C T)).alloc (.cells #[.int .u8 1, .int .u8 0, .int .u8 4, .int .u8 2] 5)).alloc (.cells #[.int .u8 102] 5 (1, 2))).alloc (.cells #[.slice (some ⟨w.heap.size + 1 + 1, 0, none⟩) 1 1] T2)) ∧
 OwnB (w.heap.size + 1) ((((w.alloc (.cells C T)).alloc (.cells #[.int .u8 1, .int .u8 0, .int .u8 4, .int .u8 2] 5)).alloc (.cells #[.int .u8 102] 5 (1, 2))).alloc (.cells #[.slice (some ⟨w.heap.size + 1 + 1, 0, none⟩) 1 1] T2)) (w.heap.size + 1) 4 ⟨#[1, 0, 4, 2]⟩ ∧
 IsL ((((w.alloc (.cells C T)).alloc (.cells #[.int .u8 1, .int .u8 0, .int .u8 4, .int .u8 2] 5)).alloc (.cells #[.int .u8 102] 5 (1, 2))).alloc (.cells #[.slice (some ⟨w.heap.size + 1 + 1, 0, none⟩) 1 1] T2)) (some ⟨w.heap.size + 1 + 1 + 1, 0, none⟩) [⟨#[102]⟩] := by
 generalize hwb : w.alloc (.cells C T) = wb
 have e1 : wb.heap.size = w.heap.size + 1 := by rw [← hwb]; simp
 generalize hwo : wb.alloc (.cells #[.int .u8 1, .int .u8 0, .int .u8 4, .int .u8 2] 5) = wo
 have e2 : wo.heap.size = w.heap.size + 1 + 1 := by rw [← hwo]; simp [e1]
 have b1 : Below wb.heap.size wb wo := by rw [← hwo]; exact (Below.refl _ _).alloc (Nat.le_refl _) _
 have o1 : OwnB wb.heap.size wo wb.heap.size 4 ⟨#[1, 0, 4, 2]⟩ := by rw [← hwo]; exact own_lit (Nat.le_refl _) h4_cells (by decide)
 generalize hwf : wo.alloc (.cells #[.int .u8 102] 5 (1, 2)) = wf
 have e3 : wf.heap.size = w.heap.size + 1 + 1 + 1 := by rw [← hwf]; simp [e2]
 have b2 : Below wo.heap.size wo wf := by rw [← hwf]; exact (Below.refl _ _).alloc (Nat.le_refl _) _
 have i2 : IsB wf (some ⟨wo.heap.size, 0, none⟩) (ByteArray.mk #[102]).size 1 ⟨#[102]⟩ := by rw [← hwf]; exact lit_isB _ c102_cells
 have b3 := (Below.refl wf.heap.size wf).alloc (Nat.le_refl _) (.cells #[.slice (some ⟨w.heap.size + 1 + 1, 0, none⟩) 1 1] T2)
 have i3 := isL_one i2 T2
 rw [e2, e3] at i3
 refine ⟨bel_next (bel_next b1 b2) b3, ?_, i3⟩
 have := owns_stay (owns_stay o1 b2) b3
 rw [e1] at this
 exact this
structure PkB (w wi : World) (f : FS) (pa : Option Addr) (pc : Nat) (la : Option Addr) (lc : Nat) (ga : Option Addr) (gc : Nat) (np nl ng : Nat) : Prop where
 bel : Below w.heap.size w wi
 le : w.heap.size < wi.heap.size
 c0 : wi.cell? ⟨w.heap.size, 0, none⟩ = some (.slice pa np pc)
 c1 : wi.cell? ⟨w.heap.size, 1, none⟩ = some (.slice la nl lc)
 c2 : wi.cell? ⟨w.heap.size, 2, none⟩ = some (.slice ga ng gc)
 c3 : wi.cell? ⟨w.heap.size, 3, none⟩ = some (.int .i64 f.w0)
 c4 : wi.cell? ⟨w.heap.size, 4, none⟩ = some (.int .i64 f.w1)
theorem PkB.to {w wi wj : World} {f : FS} {pa : Option Addr} {pc : Nat} {la : Option Addr} {lc : Nat} {ga : Option Addr} {gc np nl ng : Nat} (h : PkB w wi f pa pc la lc ga gc np nl ng) (hb : Below (w.heap.size + 1) wi wj) : PkB w wj f pa pc la lc ga gc np nl ng := by
 have hk : ∀ j v, wi.cell? ⟨w.heap.size, j, none⟩ = some v → wj.cell? ⟨w.heap.size, j, none⟩ = some v := fun j v hv => by
  have := hb.block w.heap.size (by omega)
  unfold World.cell? at hv ⊢
  rw [this]; exact hv
 exact ⟨h.bel.trans (hb.mono (by omega)), Nat.lt_of_lt_of_le h.le hb.size, hk 0 _ h.c0, hk 1 _ h.c1, hk 2 _ h.c2, hk 3 _ h.c3, hk 4 _ h.c4⟩
theorem PkB.below {w wi wj : World} {f : FS} {pa : Option Addr} {pc : Nat} {la : Option Addr} {lc : Nat} {ga : Option Addr} {gc np nl ng : Nat} (h : PkB w wi f pa pc la lc ga gc np nl ng) (hb : Below wi.heap.size wi wj) : PkB w wj f pa pc la lc ga gc np nl ng := h.to (hb.mono h.le)
theorem blk_isB {w : World} {b : Nat} {C : Array Value} {s : ByteArray} {fr : Nat × Nat} (hh : w.heap[b]? = some (.cells C 5 fr)) (h : C.toList = cellsOfStr s) : IsB w (some ⟨b, 0, none⟩) s.size s.size s := by
 refine ⟨rfl, Nat.le_refl _, .inr ⟨b, 0, rfl, ?_⟩⟩
 intro i hi
 rw [Nat.zero_add]
 have h2 : C[i]? = some (.int .u8 (bt s i)) := by rw [← Array.getElem?_toList, h]; exact cellsOfStr_get s i hi
 unfold World.cell?
 simp only [hh]
 exact h2
theorem blk_more {w : World} {b : Nat} {v : Obj} (h : w.heap[b]? = some v) (o : Obj) : (w.alloc o).heap[b]? = some v := by
 have hl : b < w.heap.size := (Array.getElem?_eq_some_iff.1 h).1
 exact (((Below.refl w.heap.size w).alloc (Nat.le_refl _) o).block b hl).trans h
theorem blk_bel {w w' : World} (hb : Below w.heap.size w w') : Hid (∀ (b : Nat) (o : Obj), w.heap[b]? = some o → w'.heap[b]? = some o) := fun b o h => (hb.block b (Array.getElem?_eq_some_iff.1 h).1).trans h
theorem blk_own {B D : Nat} {w w' : World} {g c : Nat} {s : ByteArray} (h : OwnB D w' g c s) (hB : B = D) (hw : B = w.heap.size) : Hid (∀ (b : Nat) (o : Obj), w.heap[b]? = some o → b ≠ g) := fun b o h2 => by
 have h1 := (owns_lt h).2
 have h3 := (Array.getElem?_eq_some_iff.1 h2).1
 omega
theorem blk_grown {w w' : World} {g : Nat} (hg : w.grownBy w' (some g)) : Hid (∀ (b : Nat) (o : Obj), w.heap[b]? = some o → b ≠ g → w'.heap[b]? = some o) := fun b o h hne => (hg.block b (Array.getElem?_eq_some_iff.1 h).1 (by simp; exact fun e => hne e)).trans h
theorem out_step {D : Nat} {wi wj : World} {go g' gs cs : Nat} {u : ByteArray} (hg : wi.grownBy wj (some go)) (hat : g' = go ∨ wi.heap.size ≤ g') (hs : OwnB D wi gs cs u) (hne : gs ≠ go) : OwnB D wj gs cs u ∧ gs ≠ g' := by
 refine ⟨own_apart' hs hg hne, ?_⟩
 have := (owns_lt hs).1
 rcases hat with rfl | hat
 ·exact hne
 ·omega
set_option maxRecDepth 20000 in
set_option maxHeartbeats 8000000 in
theorem pack_c (f : FS) (pa : Option Addr) (pc : Nat) (la : Option Addr) (lc : Nat) (ga : Option Addr) (gc : Nat) (w : World) (h : FArg w f pa pc la lc ga gc) :
 Calls Tryz.prog 7 #[.agg #[.slice pa f.glyphs.length pc, .slice la f.locals.length lc, .slice ga f.globals.length gc, .int .i64 f.w0, .int .i64 f.w1]] w fun e w' => ∃ g c, e = .returned (.slice (some ⟨g, 0, none⟩) (packF f).size c) ∧ OwnB w.heap.size w' g c (packF f) ∧ Below w.heap.size w w' := by
 have H := Lib.hid h
 obtain ⟨np, HNP⟩ : ∃ n, Hid (f.glyphs.length = n) := ⟨_, rfl⟩
 obtain ⟨ng, HNG⟩ : ∃ n, Hid (f.globals.length = n) := ⟨_, rfl⟩
 obtain ⟨zg, HZG⟩ : ∃ n, Hid ((packI f.globals).size = n) := ⟨_, rfl⟩
 obtain ⟨zp, HZP⟩ : ∃ n, Hid ((packI f.glyphs).size = n) := ⟨_, rfl⟩
 obtain ⟨nl, HNL⟩ : ∃ n, Hid (f.locals.length = n) := ⟨_, rfl⟩
 obtain ⟨zl, HZL⟩ : ∃ n, Hid ((packI f.locals).size = n) := ⟨_, rfl⟩
 rw [HNP.out, HNL.out, HNG.out]
 have HZLB : Hid (zl ≤ 1000000) := by have h1 := packI_size f.locals; have h2 := HZL.out; have h3 := h.n1; have h4 := h.n2; unfold Hid; split at h1 <;> omega
 have HZGB : Hid (zg ≤ 1000000) := by have h1 := packI_size f.globals; have h2 := HZG.out; have h3 := h.n1; have h4 := h.n2; unfold Hid; split at h1 <;> omega
 have HZPB : Hid (zp ≤ 1000000) := by have h1 := packI_size f.glyphs; have h2 := HZP.out; have h3 := h.n1; have h4 := h.n2; unfold Hid; split at h1 <;> omega
 have kc := fun (w : World) (C : Array Value) (n c g : Nat) (hg : g = w.heap.size) => Joins.run_convert_bytes_const_at (P := Tryz.prog) w 22 5 C n c g hg Tryz.underlying22 Tryz.underlying5
 have HST := Lib.hid (pack_start w #[.slice pa np pc, .slice la nl lc, .slice ga ng gc, .int .i64 f.w0, .int .i64 f.w1] 29 22)
 have HPB : Hid (PkB w (w.alloc (.cells #[.slice pa np pc, .slice la nl lc, .slice ga ng gc, .int .i64 f.w0, .int .i64 f.w1] 29)) f pa pc la lc ga gc np nl ng) := ⟨(Below.refl _ _).alloc (Nat.le_refl _) _, by simp, by simp [go_sem], by simp [go_sem], by simp [go_sem], by simp [go_sem], by simp [go_sem]⟩
 have HWB : Hid ((w.alloc (.cells #[.slice pa np pc, .slice la nl lc, .slice ga ng gc, .int .i64 f.w0, .int .i64 f.w1] 29)).heap.size = w.heap.size + 1) := by unfold Hid; simp
 clear h
 go_enter Tryz.func7, Tryz.ntmps7
 go_wp2_with fail
 clear kc
 generalize ((((w.alloc (.cells #[.slice pa np pc, .slice la nl lc, .slice ga ng gc, .int .i64 f.w0, .int .i64 f.w1] 29)).alloc (.cells #[.int .u8 1, .int .u8 0, .int .u8 4, .int .u8 2] 5)).alloc (.cells #[.int .u8 102] 5 (1, 2))).alloc (.cells #[.slice (some ⟨w.heap.size + 1 + 1, 0, none⟩) 1 1] 22)) = w1 at *
 generalize (w.alloc (.cells #[.slice pa np pc, .slice la nl lc, .slice ga ng gc, .int .i64 f.w0, .int .i64 f.w1] 29)) = wb at *
 obtain ⟨hb1, ho1, hl1⟩ := HST.out
 rw [HWB.out] at hb1
 have HP1 := Lib.hid (HPB.out.to hb1)
 have HO1 := Lib.hid ho1
 have HB1 : Hid (w.heap.size + 1 ≤ w1.heap.size) := by have := hb1.size; rw [HWB.out] at this; exact this
 clear HST hb1 ho1 HPB HWB
 refine (packI_n _ 1 1 8 [⟨#[102]⟩] w1 rfl (by kernel_rfl) hl1 (by decide) (by decide)).mono ?_
 rintro e w2 ⟨g2, c2, rfl, ho2, hb2⟩
 have HI2 := Lib.hid (isB_of_owns ho2)
 have HP2 := Lib.hid (HP1.out.below hb2)
 have HO2 := Lib.hid (owns_stay HO1.out hb2)
 have HB2 := Lib.hid (Nat.le_trans HB1.out hb2.size)
 clear ho2 hb2 hl1 HO1 HP1 HB1
 go_wp2_with (at_builtin; refine wpList_add rfl _ _ rfl w2 (w.heap.size + 1) (w.heap.size + 1) 4 ⟨#[1, 0, 4, 2]⟩ (packI [⟨#[102]⟩]) _ c2 4 8 rfl (by kernel_rfl) rfl rfl HO2.out HI2.out (by rw [show (packI [⟨#[102]⟩]).size = 8 by kernel_rfl]; decide) HB2.out ?_; intro g3 c3 w3 ho3 hg3 hat3)
 have HB3 := Lib.hid (Nat.le_trans HB2.out hg3.size)
 have HP3 := Lib.hid (HP2.out.to (grown_below (Below.refl (w.heap.size + 1) w2) hg3 HB2.out (Nat.le_refl _)))
 have HO3 : Hid (OwnB (w.heap.size + 1) w3.drew g3 c3 headF) := owns_stay ho3 ((Below.refl _ _).drew)
 clear ho3 hg3 hat3 HO2 HP2 HB2 HI2
 have HP3d := Lib.hid (HP3.out.below (Below.refl _ _).drew)
 have s0 := HP3d.out.c2
 go_wp2_with fail
 have HLB := Lib.hid (H.out.gb.below HP3d.out.bel)
 go_region_held3 (fun W => W.cell? ⟨w.heap.size, 2, none⟩ = some (.slice ga ng gc)) (first | with_reducible exact s0 | with_reducible exact s4 | with_reducible exact s5 | with_reducible exact s6)
  (first
   | (go_at_call 14; (with_reducible refine (packI_z _).mono ?_); rintro e w4 ⟨g4, c4, rfl, ho4, hb4⟩; have s4 := keepC hb4 s0)
   | (go_at_call 14; (with_reducible refine (packI_n ga gc ng zg f.globals w4 HNG.out HZG.out (HLB.out.below hb4) H.out.n1.2.2 (by have := H.out.n2.2.2; omega)).mono ?_); rintro e w5 ⟨g5, c5, rfl, ho5, hb5⟩; have s5 := keepC hb5 s4)
   | (refine step_add rfl _ _ rfl w5 w3.drew.heap.size g4 c4 (packI []) (packI f.globals) (some ⟨g5, 0, none⟩) c5 2 zg rfl HZG.out.symm rfl rfl (owns_stay ho4 hb5) (isB_of_owns ho5) (by have := HZG.out; have := HZGB.out; rw [show (packI []).size = 2 from rfl]; omega) (bel_next hb4 hb5).size ?_; intro g6 c6 w6 ho6 hg6 hat6; have hB6 := grown_below (bel_next hb4 hb5) hg6 (bel_next hb4 hb5).size (owns_lt ho4).2; have s6 := keepC hB6 s0))
 obtain ⟨zr, HZR⟩ : ∃ n, Hid (2 + zg = n) := ⟨_, rfl⟩
 rw [HZR.out]
 have HZRR : Hid ((restF f).size = zr) := by unfold Hid restF; rw [ByteArray.size_append, HZG.out, ← HZR.out]; rfl
 have HR6 : Hid (OwnB w3.drew.heap.size w6 g6 c6 (restF f)) := ho6
 have HP6 := Lib.hid (HP3d.out.below hB6)
 have HO6 := Lib.hid (owns_stay HO3.out hB6)
 have HB6 : Hid (w.heap.size + 1 ≤ w6.heap.size) := Nat.le_trans HB3.out hB6.size
 have HNR : Hid (g3 < w3.drew.heap.size) := (owns_lt HO3.out).1
 clear ho4 hb4 s4 ho5 hb5 s5 ho6 hg6 hat6 hB6 s6 s0 HLB HP3 HP3d HO3
 obtain ⟨za, HZA⟩ : ∃ n, Hid (36 + zr = n) := ⟨_, rfl⟩
 have HAT : Hid (atF f = za) := by unfold Hid atF; rw [headF_size, HZRR.out, ← HZA.out]
 have HZAB : Hid (za ≤ 1000100) := by have h1 := HZGB.out; have h2 := HZR.out; have h3 := HZA.out; unfold Hid; omega
 have hwa : wrap64 (36 + (zr : Int)) = (za : Int) := by have h2 := HZAB.out; have h3 := HZA.out; unfold wrap64; omega
 have k0 := HP6.out.c0
 go_wp2_with fail
 rw [hwa]
 refine (packI_n pa pc np zp f.glyphs w6 HNP.out HZP.out (H.out.gl.below HP6.out.bel) H.out.n1.1 (by have := H.out.n2.1; omega)).mono ?_
 rintro e w7 ⟨g7, c7, rfl, ho7, hb7⟩
 have hb7d := hb7.drew
 have HP7 := Lib.hid (HP6.out.below hb7d)
 have HO7 := Lib.hid (owns_stay HO6.out hb7d)
 have HR7 := Lib.hid (owns_stay HR6.out hb7d)
 have HG7 : Hid (OwnB w6.heap.size w7.drew g7 c7 (packI f.glyphs)) := owns_stay ho7 ((Below.refl _ _).drew)
 have HB7 : Hid (w.heap.size + 1 ≤ w7.drew.heap.size) := Nat.le_trans HB6.out hb7.size
 have HNG2 : Hid (g3 < w6.heap.size) := (owns_lt HO6.out).1
 clear k0 hwa ho7 hb7 hb7d HP6 HO6 HR6 HB6
 go_wp2_with fail
 have c3 := HP7.out.c3
 have c4 := HP7.out.c4
 go_upto_region 7 with fail
 go_cut [8] from 8 to 98 (fun v wx => ∃ g c, v = .slice (some ⟨g, 0, none⟩) 12 c ∧ OwnB w7.drew.heap.size wx g c (intB f.w0 ++ ⟨#[20]⟩ ++ (intB f.w1 ++ ⟨#[21]⟩)) ∧ Below w7.drew.heap.size w7.drew wx)
 case first =>
  have HS : Hid (∀ W, Below w7.drew.heap.size w7.drew W → (Below w7.drew.heap.size w7.drew W ∧ W.cell? ⟨w.heap.size, 3, none⟩ = some (.int .i64 f.w0) ∧ W.cell? ⟨w.heap.size, 4, none⟩ = some (.int .i64 f.w1))) := fun W hW => ⟨hW, keepC hW c3, keepC hW c4⟩
  go_region_held3 (fun W => Below w7.drew.heap.size w7.drew W ∧ W.cell? ⟨w.heap.size, 3, none⟩ = some (.int .i64 f.w0) ∧ W.cell? ⟨w.heap.size, 4, none⟩ = some (.int .i64 f.w1)) (first | with_reducible exact HS.out _ (Below.refl _ _) | with_reducible exact HS.out _ hb8 | with_reducible exact HS.out _ hB9 | with_reducible exact HS.out _ hb10 | with_reducible exact HS.out _ hB11 | with_reducible exact HS.out _ hB12 | with_reducible exact HS.out _ (bel_alloc (Below.refl _ _) _) | with_reducible exact HS.out _ (bel_alloc (bel_alloc (Below.refl _ _) _) _) | with_reducible exact HS.out _ (bel_alloc hb8 _) | with_reducible exact HS.out _ (bel_alloc (bel_alloc hb8 _) _) | with_reducible exact HS.out _ (bel_alloc hB9 _) | with_reducible exact HS.out _ (bel_alloc hb10 _))
   (first
    | (go_at_call 15; (with_reducible refine (int_c f.w0 _ H.out.w0.1 H.out.w0.2).mono ?_); rintro e w8 ⟨g8, c8, rfl, ho8, hbx8⟩; have hb8 : Below w7.drew.heap.size w7.drew w8 := (by first | exact hbx8 | exact bel_next (bel_alloc (Below.refl _ _) _) hbx8 | exact bel_next (bel_alloc (bel_alloc (Below.refl _ _) _) _) hbx8); have T8 := blk_bel hbx8; have N8 := blk_own ho8 rfl rfl; have L8 := (owns_lt ho8).1; have ho8 : OwnB w7.drew.heap.size w8 g8 c8 (intB f.w0) := (by first | exact ho8 | exact Joins.ownsRow_le ho8 (Below.size (bel_alloc (Below.refl _ _) _)) | exact Joins.ownsRow_le ho8 (Below.size (bel_alloc (bel_alloc (Below.refl _ _) _) _))))
    | (go_at_call 15; (with_reducible refine (int_c f.w1 _ H.out.w1.1 H.out.w1.2).mono ?_); rintro e w10 ⟨g10, c10, rfl, ho10, hbx10⟩; have hw10 : Below w9.heap.size w9 w10 := (by first | exact hbx10 | exact bel_next (bel_alloc (Below.refl _ _) _) hbx10); have hb10 := bel_to hB9 hw10 hB9.size; have T10 := blk_bel hbx10; have ho10 : OwnB w9.heap.size w10 g10 c10 (intB f.w1) := (by first | exact ho10 | exact Joins.ownsRow_le ho10 (Below.size (bel_alloc (Below.refl _ _) _)) | exact Joins.ownsRow_le ho10 (Below.size (bel_alloc (bel_alloc (Below.refl _ _) _) _))))
    | (have _q := hB11; refine step_add rfl _ _ rfl w11 w7.drew.heap.size g9 c9 (intB f.w0 ++ ⟨#[20]⟩) (intB f.w1 ++ ⟨#[21]⟩) (some ⟨g11, 0, none⟩) c11 6 6 (by rw [ByteArray.size_append, intB_size]; rfl) (by rw [ByteArray.size_append, intB_size]; rfl) rfl rfl (owns_stay ho9 hW11) (isB_of_owns ho11) (by rw [ByteArray.size_append, ByteArray.size_append, intB_size, intB_size]; decide) hB11.size ?_; intro g12 c12 w12 ho12 hg12 hat12; have hB12 := grown_below hB11 hg12 hB11.size (owns_lt ho9).2)
    | (have _q := hw10; refine step_add rfl _ _ rfl (w10.alloc (.cells #[.int .u8 21] 5)) w9.heap.size g10 c10 (intB f.w1) ⟨#[21]⟩ (some ⟨w10.heap.size, 0, none⟩) 1 5 1 (intB_size _).symm rfl rfl rfl (owns_stay ho10 (bel_alloc (Below.refl _ _) _)) (blk_isB (heap_alloc_new _ _) c21_cells) (by rw [intB_size]; decide) (bel_alloc hw10 _).size ?_; intro g11 c11 w11 ho11 hg11 hat11; have hW11 : Below w9.heap.size w9 w11 := grown_below (bel_alloc hw10 _) hg11 (bel_alloc hw10 _).size (owns_lt ho10).2; have hB11 := bel_to hB9 hW11 hB9.size)
    | (have _q := hw10; refine step_add rfl _ _ rfl w10 w9.heap.size g10 c10 (intB f.w1) ⟨#[21]⟩ (some ⟨w9.heap.size, 0, none⟩) 1 5 1 (intB_size _).symm rfl rfl rfl ho10 (blk_isB (T10.out _ _ (heap_alloc_new _ _)) c21_cells) (by rw [intB_size]; decide) hw10.size ?_; intro g11 c11 w11 ho11 hg11 hat11; have hW11 : Below w9.heap.size w9 w11 := grown_below hw10 hg11 hw10.size (owns_lt ho10).2; have hB11 := bel_to hB9 hW11 hB9.size)
    | (have _q := hw10; refine step_add rfl _ _ rfl w10 w9.heap.size g10 c10 (intB f.w1) ⟨#[21]⟩ (some ⟨w7.drew.heap.size, 0, none⟩) 1 5 1 (intB_size _).symm rfl rfl rfl ho10 (blk_isB (T10.out _ _ (T9.out _ _ (blk_more (T8.out _ _ (heap_alloc_new _ _)) _) (N8.out _ _ (heap_alloc_new _ _)))) c21_cells) (by rw [intB_size]; decide) hw10.size ?_; intro g11 c11 w11 ho11 hg11 hat11; have hW11 : Below w9.heap.size w9 w11 := grown_below hw10 hg11 hw10.size (owns_lt ho10).2; have hB11 := bel_to hB9 hW11 hB9.size)
    | (have _q := hw10; refine step_add rfl _ _ rfl w10 w9.heap.size g10 c10 (intB f.w1) ⟨#[21]⟩ (some ⟨w8.heap.size, 0, none⟩) 1 5 1 (intB_size _).symm rfl rfl rfl ho10 (blk_isB (T10.out _ _ (T9.out _ _ (blk_more (heap_alloc_new _ _) _) (Ne.symm (Nat.ne_of_lt L8)))) c21_cells) (by rw [intB_size]; decide) hw10.size ?_; intro g11 c11 w11 ho11 hg11 hat11; have hW11 : Below w9.heap.size w9 w11 := grown_below hw10 hg11 hw10.size (owns_lt ho10).2; have hB11 := bel_to hB9 hW11 hB9.size)
    | (have _q := hw10; refine step_add rfl _ _ rfl w10 w9.heap.size g10 c10 (intB f.w1) ⟨#[21]⟩ (some ⟨(w8.heap.size + 1), 0, none⟩) 1 5 1 (intB_size _).symm rfl rfl rfl ho10 (blk_isB (T10.out _ _ (T9.out _ _ (heap_alloc2_new _ _ _) (Ne.symm (Nat.ne_of_lt (Nat.lt_succ_of_lt L8))))) c21_cells) (by rw [intB_size]; decide) hw10.size ?_; intro g11 c11 w11 ho11 hg11 hat11; have hW11 : Below w9.heap.size w9 w11 := grown_below hw10 hg11 hw10.size (owns_lt ho10).2; have hB11 := bel_to hB9 hW11 hB9.size)
    | (have _q := hw10; refine step_add rfl _ _ rfl w10 w9.heap.size g10 c10 (intB f.w1) ⟨#[21]⟩ (some ⟨w7.drew.heap.size, 0, none⟩) 1 5 1 (intB_size _).symm rfl rfl rfl ho10 (blk_isB (T10.out _ _ (T9.out _ _ (T8.out _ _ (blk_more (heap_alloc_new _ _) _)) (N8.out _ _ (blk_more (heap_alloc_new _ _) _)))) c21_cells) (by rw [intB_size]; decide) hw10.size ?_; intro g11 c11 w11 ho11 hg11 hat11; have hW11 : Below w9.heap.size w9 w11 := grown_below hw10 hg11 hw10.size (owns_lt ho10).2; have hB11 := bel_to hB9 hW11 hB9.size)
    | (have _q := hw10; refine step_add rfl _ _ rfl w10 w9.heap.size g10 c10 (intB f.w1) ⟨#[21]⟩ (some ⟨(w7.drew.heap.size + 1), 0, none⟩) 1 5 1 (intB_size _).symm rfl rfl rfl ho10 (blk_isB (T10.out _ _ (T9.out _ _ (T8.out _ _ (heap_alloc2_new _ _ _)) (N8.out _ _ (heap_alloc2_new _ _ _)))) c21_cells) (by rw [intB_size]; decide) hw10.size ?_; intro g11 c11 w11 ho11 hg11 hat11; have hW11 : Below w9.heap.size w9 w11 := grown_below hw10 hg11 hw10.size (owns_lt ho10).2; have hB11 := bel_to hB9 hW11 hB9.size)
    | (have _q := hw10; refine step_add rfl _ _ rfl w10 w9.heap.size g10 c10 (intB f.w1) ⟨#[21]⟩ (some ⟨w8.heap.size, 0, none⟩) 1 5 1 (intB_size _).symm rfl rfl rfl ho10 (blk_isB (T10.out _ _ (T9.out _ _ (heap_alloc_new _ _) (Ne.symm (Nat.ne_of_lt L8)))) c21_cells) (by rw [intB_size]; decide) hw10.size ?_; intro g11 c11 w11 ho11 hg11 hat11; have hW11 : Below w9.heap.size w9 w11 := grown_below hw10 hg11 hw10.size (owns_lt ho10).2; have hB11 := bel_to hB9 hW11 hB9.size)
    | (refine step_add rfl _ _ rfl (w8.alloc (.cells #[.int .u8 20] 5)) w7.drew.heap.size g8 c8 (intB f.w0) ⟨#[20]⟩ (some ⟨w8.heap.size, 0, none⟩) 1 5 1 (intB_size _).symm rfl rfl rfl (owns_stay ho8 (bel_alloc (Below.refl _ _) _)) (blk_isB (heap_alloc_new _ _) c20_cells) (by rw [intB_size]; decide) (bel_alloc hb8 _).size ?_; intro g9 c9 w9 ho9 hg9 hat9; have hB9 : Below w7.drew.heap.size w7.drew w9 := grown_below (bel_alloc hb8 _) hg9 (bel_alloc hb8 _).size (owns_lt ho8).2; have T9 := blk_grown hg9)
    | (refine step_add rfl _ _ rfl ((w8.alloc (.cells #[.int .u8 20] 5)).alloc (.cells #[.int .u8 21] 5)) w7.drew.heap.size g8 c8 (intB f.w0) ⟨#[20]⟩ (some ⟨w8.heap.size, 0, none⟩) 1 5 1 (intB_size _).symm rfl rfl rfl (owns_stay ho8 (bel_alloc (bel_alloc (Below.refl _ _) _) _)) (blk_isB (blk_more (heap_alloc_new _ _) _) c20_cells) (by rw [intB_size]; decide) (bel_alloc (bel_alloc hb8 _) _).size ?_; intro g9 c9 w9 ho9 hg9 hat9; have hB9 : Below w7.drew.heap.size w7.drew w9 := grown_below (bel_alloc (bel_alloc hb8 _) _) hg9 (bel_alloc (bel_alloc hb8 _) _).size (owns_lt ho8).2; have T9 := blk_grown hg9)
    | (refine step_add rfl _ _ rfl ((w8.alloc (.cells #[.int .u8 21] 5)).alloc (.cells #[.int .u8 20] 5)) w7.drew.heap.size g8 c8 (intB f.w0) ⟨#[20]⟩ (some ⟨(w8.heap.size + 1), 0, none⟩) 1 5 1 (intB_size _).symm rfl rfl rfl (owns_stay ho8 (bel_alloc (bel_alloc (Below.refl _ _) _) _)) (blk_isB (heap_alloc2_new _ _ _) c20_cells) (by rw [intB_size]; decide) (bel_alloc (bel_alloc hb8 _) _).size ?_; intro g9 c9 w9 ho9 hg9 hat9; have hB9 : Below w7.drew.heap.size w7.drew w9 := grown_below (bel_alloc (bel_alloc hb8 _) _) hg9 (bel_alloc (bel_alloc hb8 _) _).size (owns_lt ho8).2; have T9 := blk_grown hg9)
    | (refine step_add rfl _ _ rfl w8 w7.drew.heap.size g8 c8 (intB f.w0) ⟨#[20]⟩ (some ⟨w7.drew.heap.size, 0, none⟩) 1 5 1 (intB_size _).symm rfl rfl rfl ho8 (blk_isB (T8.out _ _ (heap_alloc_new _ _)) c20_cells) (by rw [intB_size]; decide) hb8.size ?_; intro g9 c9 w9 ho9 hg9 hat9; have hB9 : Below w7.drew.heap.size w7.drew w9 := grown_below hb8 hg9 hb8.size (owns_lt ho8).2; have T9 := blk_grown hg9)
    | (refine step_add rfl _ _ rfl w8 w7.drew.heap.size g8 c8 (intB f.w0) ⟨#[20]⟩ (some ⟨w7.drew.heap.size, 0, none⟩) 1 5 1 (intB_size _).symm rfl rfl rfl ho8 (blk_isB (T8.out _ _ (blk_more (heap_alloc_new _ _) _)) c20_cells) (by rw [intB_size]; decide) hb8.size ?_; intro g9 c9 w9 ho9 hg9 hat9; have hB9 : Below w7.drew.heap.size w7.drew w9 := grown_below hb8 hg9 hb8.size (owns_lt ho8).2; have T9 := blk_grown hg9)
    | (refine step_add rfl _ _ rfl w8 w7.drew.heap.size g8 c8 (intB f.w0) ⟨#[20]⟩ (some ⟨(w7.drew.heap.size + 1), 0, none⟩) 1 5 1 (intB_size _).symm rfl rfl rfl ho8 (blk_isB (T8.out _ _ (heap_alloc2_new _ _ _)) c20_cells) (by rw [intB_size]; decide) hb8.size ?_; intro g9 c9 w9 ho9 hg9 hat9; have hB9 : Below w7.drew.heap.size w7.drew w9 := grown_below hb8 hg9 hb8.size (owns_lt ho8).2; have T9 := blk_grown hg9)
    | (refine step_add rfl _ _ rfl (w8.alloc (.cells #[.int .u8 21] 5)) w7.drew.heap.size g8 c8 (intB f.w0) ⟨#[20]⟩ (some ⟨w7.drew.heap.size, 0, none⟩) 1 5 1 (intB_size _).symm rfl rfl rfl (owns_stay ho8 (bel_alloc (Below.refl _ _) _)) (blk_isB (blk_more (T8.out _ _ (heap_alloc_new _ _)) _) c20_cells) (by rw [intB_size]; decide) (bel_alloc hb8 _).size ?_; intro g9 c9 w9 ho9 hg9 hat9; have hB9 : Below w7.drew.heap.size w7.drew w9 := grown_below (bel_alloc hb8 _) hg9 (bel_alloc hb8 _).size (owns_lt ho8).2; have T9 := blk_grown hg9))
  all_goals (go_wp2_with fail; go_meet)
  all_goals exact ⟨g12, c12, rfl, ho12, hB12⟩
 case rest =>
 obtain ⟨g12, c12, rfl, ho12, hB12⟩ := hcut
 generalize wc = w12 at *
 have HV12 := Lib.hid ho12
 have HP12 := Lib.hid (HP7.out.below hB12)
 have HO12 := Lib.hid (owns_stay HO7.out hB12)
 have HR12 := Lib.hid (owns_stay HR7.out hB12)
 have HG12 := Lib.hid (owns_stay HG7.out hB12)
 have HB12 : Hid (w.heap.size + 1 ≤ w12.heap.size) := Nat.le_trans HB7.out hB12.size
 have HNV : Hid (g3 < w7.drew.heap.size) := (owns_lt HO7.out).1
 have HV7 : Hid (w7.drew.heap.size ≤ w12.heap.size) := hB12.size
 have HR7L : Hid (g6 < w7.drew.heap.size) := (owns_lt HR7.out).1
 have HG7L : Hid (g7 < w7.drew.heap.size) := (owns_lt HG7.out).1
 clear ho12 hB12 c3 c4 HP7 HO7 HR7 HG7
 have k1 := HP12.out.c1
 rcases Nat.eq_zero_or_pos nl with hz | hp
 ·subst hz
  have HHL : Hid (f.locals.length = 0) := HNL.out
  have HVV : Hid (intB f.w0 ++ ⟨#[20]⟩ ++ (intB f.w1 ++ ⟨#[21]⟩) = privF f) := by unfold Hid privF; rw [if_pos HHL.out, ByteArray.append_empty]
  rw [HVV.out] at HV12
  have HZV : Hid ((privF f).size = 12) := by unfold Hid; rw [← HVV.out]; simp only [ByteArray.size_append, intB_size]; rfl
  have ba := HZAB.out
  obtain ⟨zs, HZS⟩ : ∃ n, Hid (za + zp = n) := ⟨_, rfl⟩
  have HZSB : Hid (zs ≤ 2000100) := by have h1 := HZAB.out; have h2 := HZPB.out; have h3 := HZS.out; unfold Hid; omega
  have HWS : Hid (wrap64 ((za : Int) + (zp : Int)) = (zs : Int)) := by have h1 := HZSB.out; have h3 := HZS.out; unfold Hid wrap64; omega
  go_wp2_with fail
  refine (int_c (za : Int) w12 (by omega) (by omega)).mono ?_
  rintro e w20 ⟨g20, c20, rfl, ho20, hb20⟩
  have hb20a := bel_alloc hb20 (.cells #[.int .u8 17] 5)
  go_wp2_with (at_builtin; refine wpList_add rfl _ _ rfl (w20.alloc (.cells #[.int .u8 17] 5)) w12.heap.size g20 c20 (intB (za : Int)) ⟨#[17]⟩ (some ⟨w20.heap.size, 0, none⟩) 1 5 1 (intB_size _).symm rfl rfl rfl (owns_stay ho20 (bel_alloc (Below.refl _ _) _)) (lit_isB _ c17_cells) (by rw [intB_size]; decide) hb20a.size ?_; intro g21 c21 w21 ho21 hg21 hat21; have hB21 := grown_below hb20a hg21 hb20a.size (owns_lt ho20).2)
  refine (int_c 12 w21 (by decide) (by decide)).mono ?_
  rintro e w22 ⟨g22, c22, rfl, ho22, hb22⟩
  go_wp2_with fail
  rw [HWS.out]
  refine (int_c (zs : Int) w22 (by omega) (by have := HZSB.out; omega)).mono ?_
  rintro e w23 ⟨g23, c23, rfl, ho23, hb23⟩
  have hb23w := bel_next hb22 hb23
  go_wp2_with (at_builtin; first
   | (refine wpList_add rfl _ _ rfl w23 w21.heap.size g22 c22 (intB 12) (intB (zs : Int)) (some ⟨g23, 0, none⟩) c23 5 5 (intB_size _).symm (intB_size _).symm rfl rfl (owns_stay ho22 hb23) (isB_of_owns ho23) (by rw [intB_size, intB_size]; decide) hb23w.size ?_; intro g24 c24 w24 ho24 hg24 hat24; have hB24 := grown_below hb23w hg24 hb23w.size (owns_lt ho22).2; have hB24a := bel_alloc hB24 (.cells #[.int .u8 18] 5))
   | (refine wpList_add rfl _ _ rfl (w24.alloc (.cells #[.int .u8 18] 5)) w21.heap.size g24 c24 (intB 12 ++ intB (zs : Int)) ⟨#[18]⟩ (some ⟨w24.heap.size, 0, none⟩) 1 10 1 (by simp only [ByteArray.size_append, intB_size]) rfl rfl rfl (owns_stay ho24 (bel_alloc (Below.refl _ _) _)) (lit_isB _ c18_cells) (by simp only [ByteArray.size_append, intB_size]; decide) hB24a.size ?_; intro g25 c25 w25 ho25 hg25 hat25; have hB25 := grown_below hB24a hg25 hB24a.size (owns_lt ho24).2)
   | (refine wpList_add rfl _ _ rfl w25 w12.heap.size g21 c21 (intB (za : Int) ++ ⟨#[17]⟩) (intB 12 ++ intB (zs : Int) ++ ⟨#[18]⟩) (some ⟨g25, 0, none⟩) c25 6 11 (by simp only [ByteArray.size_append, intB_size]; rfl) (by simp only [ByteArray.size_append, intB_size]; rfl) rfl rfl (owns_stay ho21 hB25) (isB_of_owns ho25) (by simp only [ByteArray.size_append, intB_size]; decide) (bel_next hB21 hB25).size ?_; intro g26 c26 w26 ho26 hg26 hat26; have hB26 := grown_below (bel_next hB21 hB25) hg26 (bel_next hB21 hB25).size (owns_lt ho21).2; have HTT : Hid (intB (za : Int) ++ ⟨#[17]⟩ ++ (intB 12 ++ intB (zs : Int) ++ ⟨#[18]⟩) = topF f) := (by unfold Hid topF; rw [HAT.out, HZV.out, HZP.out, ← HZS.out]; rfl); have hTI : IsB w26 (some ⟨g26, 0, none⟩) (topF f).size c26 (topF f) := (by have := isB_of_owns ho26; rw [HTT.out] at this; exact this)))
  have HZT : Hid ((topF f).size = 17) := by unfold Hid; rw [← HTT.out]; simp only [ByteArray.size_append, intB_size]; rfl
  have HLT := isL_one hTI 22
  rw [HZT.out] at HLT
  have hb27 := bel_alloc hB26 (.cells #[.slice (some ⟨g26, 0, none⟩) 17 c26] 22)
  generalize hw27 : w26.alloc (.cells #[.slice (some ⟨g26, 0, none⟩) 17 c26] 22) = w27 at HLT hb27 ⊢
  have HZ24 : Hid ((packI [topF f]).size = 24) := by unfold Hid; rw [packI_size, sizeN, sizeN, HZT.out]; rfl
  refine (packI_n _ 1 1 24 [topF f] w27 rfl HZ24.out HLT (by simp) (by rw [sizeN, sizeN, HZT.out]; decide)).mono ?_
  rintro e w28 ⟨g28, c28, rfl, ho28, hb28⟩
  have hB28 := bel_next hb27 hb28
  have HP28 := Lib.hid (HP12.out.below hB28)
  have HO28 := Lib.hid (owns_stay HO12.out hB28)
  have HR28 := Lib.hid (owns_stay HR12.out hB28)
  have HG28 := Lib.hid (owns_stay HG12.out hB28)
  have HV28 := Lib.hid (owns_stay HV12.out hB28)
  have HB28 : Hid (w.heap.size + 1 ≤ w28.heap.size) := Nat.le_trans HB12.out hB28.size
  have HNE1 : Hid (g6 ≠ g3) := by have h1 := (owns_lt HR28.out).2; have h2 := HNR.out; unfold Hid; omega
  have HNE2 : Hid (g7 ≠ g3) := by have h1 := (owns_lt HG28.out).2; have h2 := HNG2.out; unfold Hid; omega
  have HNE3 : Hid (g12 ≠ g3) := by have h1 := (owns_lt HV28.out).2; have h2 := HNV.out; unfold Hid; omega
  have HS1 : Hid ((headF ++ packI [topF f]).size = 36) := by unfold Hid; rw [ByteArray.size_append, headF_size, HZ24.out]
  have HS2 : Hid ((headF ++ packI [topF f] ++ restF f).size = 36 + zr) := by unfold Hid; rw [ByteArray.size_append, HS1.out, HZRR.out]
  have HS3 : Hid ((headF ++ packI [topF f] ++ restF f ++ packI f.glyphs).size = 36 + zr + zp) := by unfold Hid; rw [ByteArray.size_append, HS2.out, HZP.out]
  have HS4 : Hid ((headF ++ packI [topF f] ++ restF f ++ packI f.glyphs ++ privF f).size = 36 + zr + zp + 12) := by unfold Hid; rw [ByteArray.size_append, HS3.out, HZV.out]
  have HBG : Hid (zr ≤ 1000100 ∧ zp ≤ 1000000) := by have h1 := HZAB.out; have h2 := HZA.out; have h3 := HZPB.out; unfold Hid; omega
  clear hw27 hb27 HLT hTI hb28 hB28
  go_wp2_with (at_builtin; first
   | (refine wpList_add rfl _ _ rfl w28 (w.heap.size + 1) g3 c3 headF (packI [topF f]) (some ⟨g28, 0, none⟩) c28 12 24 headF_size.symm HZ24.out.symm rfl rfl HO28.out (isB_of_owns ho28) (by rw [headF_size, HZ24.out]; decide) HB28.out ?_; intro g29 c29 w29 ho29 hg29 hat29; have hB29 := grown_below (Below.refl _ _) hg29 HB28.out (owns_lt HO28.out).2; have HR29 := Lib.hid (out_step hg29 hat29 HR28.out HNE1.out); have HG29 := Lib.hid (out_step hg29 hat29 HG28.out HNE2.out); have HV29 := Lib.hid (out_step hg29 hat29 HV28.out HNE3.out))
   | (refine wpList_add rfl _ _ rfl w29 (w.heap.size + 1) g29 c29 (headF ++ packI [topF f]) (restF f) (some ⟨g6, 0, none⟩) c6 36 zr HS1.out.symm HZRR.out.symm rfl rfl ho29 (isB_of_owns HR29.out.1) (by rw [HS1.out, HZRR.out]; have := HBG.out; omega) (Nat.le_trans HB28.out hB29.size) ?_; intro g30 c30 w30 ho30 hg30 hat30; have hB30 := grown_below hB29 hg30 (Nat.le_trans HB28.out hB29.size) (owns_lt ho29).2; have HG30 := Lib.hid (out_step hg30 hat30 HG29.out.1 HG29.out.2); have HV30 := Lib.hid (out_step hg30 hat30 HV29.out.1 HV29.out.2))
   | (refine wpList_add rfl _ _ rfl w30 (w.heap.size + 1) g30 c30 (headF ++ packI [topF f] ++ restF f) (packI f.glyphs) (some ⟨g7, 0, none⟩) c7 (36 + zr) zp HS2.out.symm HZP.out.symm rfl rfl ho30 (isB_of_owns HG30.out.1) (by rw [HS2.out, HZP.out]; have := HBG.out; omega) (Nat.le_trans HB28.out hB30.size) ?_; intro g31 c31 w31 ho31 hg31 hat31; have hB31 := grown_below hB30 hg31 (Nat.le_trans HB28.out hB30.size) (owns_lt ho30).2; have HV31 := Lib.hid (out_step hg31 hat31 HV30.out.1 HV30.out.2))
   | (refine wpList_add rfl _ _ rfl w31 (w.heap.size + 1) g31 c31 (headF ++ packI [topF f] ++ restF f ++ packI f.glyphs) (privF f) (some ⟨g12, 0, none⟩) c12 (36 + zr + zp) 12 HS3.out.symm HZV.out.symm rfl rfl ho31 (isB_of_owns HV31.out.1) (by rw [HS3.out, HZV.out]; have := HBG.out; omega) (Nat.le_trans HB28.out hB31.size) ?_; intro g32 c32 w32 ho32 hg32 hat32; have hB32 := grown_below hB31 hg32 (Nat.le_trans HB28.out hB31.size) (owns_lt ho31).2; have HP32 := Lib.hid (HP28.out.to hB32); have k32 := HP32.out.c1))
  have HB32 : Hid (w.heap.size + 1 ≤ w32.heap.size) := Nat.le_trans HB28.out hB32.size
  have HE : Hid (headF ++ packI [topF f] ++ restF f ++ packI f.glyphs ++ privF f = packF f) := by unfold Hid packF; rw [if_pos HHL.out, ByteArray.append_empty]
  have HZE : Hid ((packF f).size = 36 + zr + zp + 12) := by unfold Hid; rw [← HE.out, HS4.out]
  rw [HE.out] at ho32
  try go_wp2_with fail
  go_ret
  refine ⟨g32, c32, ?_, Joins.ownsRow_le ho32 (Nat.le_succ _), HP32.out.bel⟩
  rw [HZE.out]
  try rfl
 ·have hnl : (0 : Int) < (nl : Int) := by omega
  have HHL : Hid (0 < f.locals.length) := by unfold Hid; rw [HNL.out]; exact hp
  go_wp2_with fail
  refine (int_c 18 w12 (by decide) (by decide)).mono ?_
  rintro e w13 ⟨g13, c13, rfl, ho13, hb13⟩
  have hI13 := isB_of_owns ho13
  have hV13 := owns_stay HV12.out hb13
  go_wp2_with (at_builtin; first
   | (refine wpList_add rfl _ _ rfl w13 w7.drew.heap.size g12 c12 (intB f.w0 ++ ⟨#[20]⟩ ++ (intB f.w1 ++ ⟨#[21]⟩)) (intB 18) _ c13 12 5 (by simp only [ByteArray.size_append, intB_size]; rfl) (intB_size _).symm rfl rfl hV13 hI13 (by simp only [ByteArray.size_append, intB_size]; decide) (Nat.le_trans HV7.out hb13.size) ?_; intro g14 c14 w14 ho14 hg14 hat14; have hB14 := grown_below (hb13.mono HV7.out) hg14 (Nat.le_trans HV7.out hb13.size) (owns_lt hV13).2)
   | (refine wpList_add rfl _ _ rfl (w14.alloc (.cells #[.int .u8 19] 5)) w7.drew.heap.size g14 c14 (intB f.w0 ++ ⟨#[20]⟩ ++ (intB f.w1 ++ ⟨#[21]⟩) ++ intB 18) ⟨#[19]⟩ (some ⟨w14.heap.size, 0, none⟩) 1 17 1 (by simp only [ByteArray.size_append, intB_size]; rfl) rfl rfl rfl (owns_stay ho14 (bel_alloc (Below.refl _ _) _)) (lit_isB _ c19_cells) (by simp only [ByteArray.size_append, intB_size]; decide) (Nat.le_trans (Nat.le_trans HV7.out hB14.size) (by simp)) ?_; intro g15 c15 w15 ho15 hg15 hat15; have hB15 : Below w7.drew.heap.size w12 w15 := grown_below (hB14.alloc (Nat.le_trans HV7.out hB14.size) _) hg15 (Nat.le_trans (Nat.le_trans HV7.out hB14.size) (by simp)) (owns_lt ho14).2))
  have HVV : Hid (intB f.w0 ++ ⟨#[20]⟩ ++ (intB f.w1 ++ ⟨#[21]⟩) ++ intB 18 ++ ⟨#[19]⟩ = privF f) := by unfold Hid privF; rw [if_neg (by have := HHL.out; omega), join_assoc]
  rw [HVV.out] at ho15
  have HV15 := Lib.hid ho15
  have HP15 := Lib.hid (HP12.out.to (hB15.mono HB7.out))
  have HO15 := Lib.hid (owns_keep HO12.out (fun _ => hB15.block _ HNV.out))
  have HR15 := Lib.hid (owns_keep HR12.out (fun _ => hB15.block _ HR7L.out))
  have HG15 := Lib.hid (owns_keep HG12.out (fun _ => hB15.block _ HG7L.out))
  have HB15 : Hid (w.heap.size + 1 ≤ w15.heap.size) := Nat.le_trans HB12.out hB15.size
  clear ho13 hb13 hI13 hV13 ho14 hg14 hat14 hB14 ho15 hg15 hat15 hB15 HP12 HO12 HR12 HG12 HB12 HV12
  have HZV : Hid ((privF f).size = 18) := by unfold Hid; rw [← HVV.out]; simp only [ByteArray.size_append, intB_size]; rfl
  have ba := HZAB.out
  obtain ⟨zs, HZS⟩ : ∃ n, Hid (za + zp = n) := ⟨_, rfl⟩
  have HZSB : Hid (zs ≤ 2000100) := by have h1 := HZAB.out; have h2 := HZPB.out; have h3 := HZS.out; unfold Hid; omega
  have HWS : Hid (wrap64 ((za : Int) + (zp : Int)) = (zs : Int)) := by have h1 := HZSB.out; have h3 := HZS.out; unfold Hid wrap64; omega
  go_wp2_with fail
  refine (int_c (za : Int) w15 (by omega) (by omega)).mono ?_
  rintro e w20 ⟨g20, c20, rfl, ho20, hb20⟩
  have hb20a := bel_alloc hb20 (.cells #[.int .u8 17] 5)
  go_wp2_with (at_builtin; refine wpList_add rfl _ _ rfl (w20.alloc (.cells #[.int .u8 17] 5)) w15.heap.size g20 c20 (intB (za : Int)) ⟨#[17]⟩ (some ⟨w20.heap.size, 0, none⟩) 1 5 1 (intB_size _).symm rfl rfl rfl (owns_stay ho20 (bel_alloc (Below.refl _ _) _)) (lit_isB _ c17_cells) (by rw [intB_size]; decide) hb20a.size ?_; intro g21 c21 w21 ho21 hg21 hat21; have hB21 := grown_below hb20a hg21 hb20a.size (owns_lt ho20).2)
  refine (int_c 18 w21 (by decide) (by decide)).mono ?_
  rintro e w22 ⟨g22, c22, rfl, ho22, hb22⟩
  go_wp2_with fail
  rw [HWS.out]
  refine (int_c (zs : Int) w22 (by omega) (by have := HZSB.out; omega)).mono ?_
  rintro e w23 ⟨g23, c23, rfl, ho23, hb23⟩
  have hb23w := bel_next hb22 hb23
  go_wp2_with (at_builtin; first
   | (refine wpList_add rfl _ _ rfl w23 w21.heap.size g22 c22 (intB 18) (intB (zs : Int)) (some ⟨g23, 0, none⟩) c23 5 5 (intB_size _).symm (intB_size _).symm rfl rfl (owns_stay ho22 hb23) (isB_of_owns ho23) (by rw [intB_size, intB_size]; decide) hb23w.size ?_; intro g24 c24 w24 ho24 hg24 hat24; have hB24 := grown_below hb23w hg24 hb23w.size (owns_lt ho22).2; have hB24a := bel_alloc hB24 (.cells #[.int .u8 18] 5))
   | (refine wpList_add rfl _ _ rfl (w24.alloc (.cells #[.int .u8 18] 5)) w21.heap.size g24 c24 (intB 18 ++ intB (zs : Int)) ⟨#[18]⟩ (some ⟨w24.heap.size, 0, none⟩) 1 10 1 (by simp only [ByteArray.size_append, intB_size]) rfl rfl rfl (owns_stay ho24 (bel_alloc (Below.refl _ _) _)) (lit_isB _ c18_cells) (by simp only [ByteArray.size_append, intB_size]; decide) hB24a.size ?_; intro g25 c25 w25 ho25 hg25 hat25; have hB25 := grown_below hB24a hg25 hB24a.size (owns_lt ho24).2)
   | (refine wpList_add rfl _ _ rfl w25 w15.heap.size g21 c21 (intB (za : Int) ++ ⟨#[17]⟩) (intB 18 ++ intB (zs : Int) ++ ⟨#[18]⟩) (some ⟨g25, 0, none⟩) c25 6 11 (by simp only [ByteArray.size_append, intB_size]; rfl) (by simp only [ByteArray.size_append, intB_size]; rfl) rfl rfl (owns_stay ho21 hB25) (isB_of_owns ho25) (by simp only [ByteArray.size_append, intB_size]; decide) (bel_next hB21 hB25).size ?_; intro g26 c26 w26 ho26 hg26 hat26; have hB26 := grown_below (bel_next hB21 hB25) hg26 (bel_next hB21 hB25).size (owns_lt ho21).2; have HTT : Hid (intB (za : Int) ++ ⟨#[17]⟩ ++ (intB 18 ++ intB (zs : Int) ++ ⟨#[18]⟩) = topF f) := (by unfold Hid topF; rw [HAT.out, HZV.out, HZP.out, ← HZS.out]; rfl); have hTI : IsB w26 (some ⟨g26, 0, none⟩) (topF f).size c26 (topF f) := (by have := isB_of_owns ho26; rw [HTT.out] at this; exact this)))
  have HZT : Hid ((topF f).size = 17) := by unfold Hid; rw [← HTT.out]; simp only [ByteArray.size_append, intB_size]; rfl
  have HLT := isL_one hTI 22
  rw [HZT.out] at HLT
  have hb27 := bel_alloc hB26 (.cells #[.slice (some ⟨g26, 0, none⟩) 17 c26] 22)
  generalize hw27 : w26.alloc (.cells #[.slice (some ⟨g26, 0, none⟩) 17 c26] 22) = w27 at HLT hb27 ⊢
  have HZ24 : Hid ((packI [topF f]).size = 24) := by unfold Hid; rw [packI_size, sizeN, sizeN, HZT.out]; rfl
  refine (packI_n _ 1 1 24 [topF f] w27 rfl HZ24.out HLT (by simp) (by rw [sizeN, sizeN, HZT.out]; decide)).mono ?_
  rintro e w28 ⟨g28, c28, rfl, ho28, hb28⟩
  have hB28 := bel_next hb27 hb28
  have HP28 := Lib.hid (HP15.out.below hB28)
  have HO28 := Lib.hid (owns_stay HO15.out hB28)
  have HR28 := Lib.hid (owns_stay HR15.out hB28)
  have HG28 := Lib.hid (owns_stay HG15.out hB28)
  have HV28 := Lib.hid (owns_stay HV15.out hB28)
  have HB28 : Hid (w.heap.size + 1 ≤ w28.heap.size) := Nat.le_trans HB15.out hB28.size
  have HNE1 : Hid (g6 ≠ g3) := by have h1 := (owns_lt HR28.out).2; have h2 := HNR.out; unfold Hid; omega
  have HNE2 : Hid (g7 ≠ g3) := by have h1 := (owns_lt HG28.out).2; have h2 := HNG2.out; unfold Hid; omega
  have HNE3 : Hid (g15 ≠ g3) := by have h1 := (owns_lt HV28.out).2; have h2 := HNV.out; unfold Hid; omega
  have HS1 : Hid ((headF ++ packI [topF f]).size = 36) := by unfold Hid; rw [ByteArray.size_append, headF_size, HZ24.out]
  have HS2 : Hid ((headF ++ packI [topF f] ++ restF f).size = 36 + zr) := by unfold Hid; rw [ByteArray.size_append, HS1.out, HZRR.out]
  have HS3 : Hid ((headF ++ packI [topF f] ++ restF f ++ packI f.glyphs).size = 36 + zr + zp) := by unfold Hid; rw [ByteArray.size_append, HS2.out, HZP.out]
  have HS4 : Hid ((headF ++ packI [topF f] ++ restF f ++ packI f.glyphs ++ privF f).size = 36 + zr + zp + 18) := by unfold Hid; rw [ByteArray.size_append, HS3.out, HZV.out]
  have HBG : Hid (zr ≤ 1000100 ∧ zp ≤ 1000000) := by have h1 := HZAB.out; have h2 := HZA.out; have h3 := HZPB.out; unfold Hid; omega
  clear hw27 hb27 HLT hTI hb28 hB28
  go_wp2_with (at_builtin; first
   | (refine wpList_add rfl _ _ rfl w28 (w.heap.size + 1) g3 c3 headF (packI [topF f]) (some ⟨g28, 0, none⟩) c28 12 24 headF_size.symm HZ24.out.symm rfl rfl HO28.out (isB_of_owns ho28) (by rw [headF_size, HZ24.out]; decide) HB28.out ?_; intro g29 c29 w29 ho29 hg29 hat29; have hB29 := grown_below (Below.refl _ _) hg29 HB28.out (owns_lt HO28.out).2; have HR29 := Lib.hid (out_step hg29 hat29 HR28.out HNE1.out); have HG29 := Lib.hid (out_step hg29 hat29 HG28.out HNE2.out); have HV29 := Lib.hid (out_step hg29 hat29 HV28.out HNE3.out))
   | (refine wpList_add rfl _ _ rfl w29 (w.heap.size + 1) g29 c29 (headF ++ packI [topF f]) (restF f) (some ⟨g6, 0, none⟩) c6 36 zr HS1.out.symm HZRR.out.symm rfl rfl ho29 (isB_of_owns HR29.out.1) (by rw [HS1.out, HZRR.out]; have := HBG.out; omega) (Nat.le_trans HB28.out hB29.size) ?_; intro g30 c30 w30 ho30 hg30 hat30; have hB30 := grown_below hB29 hg30 (Nat.le_trans HB28.out hB29.size) (owns_lt ho29).2; have HG30 := Lib.hid (out_step hg30 hat30 HG29.out.1 HG29.out.2); have HV30 := Lib.hid (out_step hg30 hat30 HV29.out.1 HV29.out.2))
   | (refine wpList_add rfl _ _ rfl w30 (w.heap.size + 1) g30 c30 (headF ++ packI [topF f] ++ restF f) (packI f.glyphs) (some ⟨g7, 0, none⟩) c7 (36 + zr) zp HS2.out.symm HZP.out.symm rfl rfl ho30 (isB_of_owns HG30.out.1) (by rw [HS2.out, HZP.out]; have := HBG.out; omega) (Nat.le_trans HB28.out hB30.size) ?_; intro g31 c31 w31 ho31 hg31 hat31; have hB31 := grown_below hB30 hg31 (Nat.le_trans HB28.out hB30.size) (owns_lt ho30).2; have HV31 := Lib.hid (out_step hg31 hat31 HV30.out.1 HV30.out.2))
   | (refine wpList_add rfl _ _ rfl w31 (w.heap.size + 1) g31 c31 (headF ++ packI [topF f] ++ restF f ++ packI f.glyphs) (privF f) (some ⟨g15, 0, none⟩) c15 (36 + zr + zp) 18 HS3.out.symm HZV.out.symm rfl rfl ho31 (isB_of_owns HV31.out.1) (by rw [HS3.out, HZV.out]; have := HBG.out; omega) (Nat.le_trans HB28.out hB31.size) ?_; intro g32 c32 w32 ho32 hg32 hat32; have hB32 := grown_below hB31 hg32 (Nat.le_trans HB28.out hB31.size) (owns_lt ho31).2; have HP32 := Lib.hid (HP28.out.to hB32); have k32 := HP32.out.c1))
  have HB32 : Hid (w.heap.size + 1 ≤ w32.heap.size) := Nat.le_trans HB28.out hB32.size
  refine (packI_n la lc nl zl f.locals w32 HNL.out HZL.out (H.out.lo.below HP32.out.bel) H.out.n1.2.1 (by have := H.out.n2.2.1; omega)).mono ?_
  rintro e w33 ⟨g33, c33, rfl, ho33, hb33⟩
  have hO33 := owns_stay ho32 hb33
  have hP33 := HP32.out.below hb33
  have hs33 := Nat.le_trans HB32.out hb33.size
  go_wp2_with (at_builtin; refine wpList_add rfl _ _ rfl w33 (w.heap.size + 1) g32 c32 (headF ++ packI [topF f] ++ restF f ++ packI f.glyphs ++ privF f) (packI f.locals) (some ⟨g33, 0, none⟩) c33 (36 + zr + zp + 18) zl HS4.out.symm HZL.out.symm rfl rfl hO33 (isB_of_owns ho33) (by rw [HS4.out, HZL.out]; have := HBG.out; have := HZLB.out; omega) hs33 ?_; intro g34 c34 w34 ho34 hg34 hat34; have hP34 := hP33.to (grown_below (Below.refl _ _) hg34 hs33 (owns_lt hO33).2))
  have HE : Hid (headF ++ packI [topF f] ++ restF f ++ packI f.glyphs ++ privF f ++ packI f.locals = packF f) := by unfold Hid packF; rw [if_neg (by have := HHL.out; omega)]
  have HZE : Hid ((packF f).size = 36 + zr + zp + 18 + zl) := by unfold Hid; rw [← HE.out, ByteArray.size_append, HS4.out, HZL.out]
  rw [HE.out] at ho34
  try go_wp2_with fail
  go_ret
  refine ⟨g34, c34, ?_, Joins.ownsRow_le ho34 (Nat.le_succ _), hP34.bel⟩
  rw [HZE.out]
  try rfl
end Go.Proofs.YtklenppldblbdaaGreat
