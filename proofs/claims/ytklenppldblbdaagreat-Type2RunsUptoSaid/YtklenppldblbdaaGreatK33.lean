import Derived.Test.YtklenppldblbdaaGreatK29
import Derived.Test.YtklenppldblbdaaGreatK32
set_option linter.unusedSimpArgs false
set_option linter.unusedVariables false
namespace Go.Proofs.YtklenppldblbdaaGreat
open Go.RowKit Go.PlainAid
variable {x0 x1 x2 x3 x4 x5 x6 x7 x8 x9 x10 x11 x12 x13 x14 x15 x16 x17 x18 x19 x20 x21 x22 x23 x24 x25 x26 x27 x28 x29 x30 x31 x32 x33 x34 x35 x36 x37 x38 x39 x40 x41 x42 x43 x44 x45 x46 x47 x48 x49 x50 x51 x52 x53 x54 x55 x56 x57 x58 x59 x60 x61 x62 x63 x64 x65 x66 x67 x68 x69 x70 x71 x72 x73 x74 x75 x76 x77 x78 x79 x80 x81 x82 x83 x84 x85 x86 x87 x88 x89 x90 x91 x92 x93 x94 x95 x96 x97 x98 x99 x100 x101 x102 x103 x104 x105 x106 x107 x108 x109 x110 x111 x112 x113 x114 x115 x116 x117 x118 x119 x120 x121 x122 x123 x124 x125 x126 x127 x128 x129 x130 x131 x132 x133 x134 x135 x136 x137 x138 x139 x140 x141 x142 x143 x144 x145 x146 x147 x148 x149 x150 x151 x152 x153 x154 x155 x156 x157 x158 x159 x160 x161 x162 x163 x164 x165 x166 x167 x168 x169 x170 x171 x172 x173 x174 x175 x176 x177 x178 x179 x180 x181 x182 x183 x184 x185 x186 x187 x188 x189 x190 x191 x192 x193 x194 x195 x196 x197 x198 x199 x200 x201 x202 x203 x204 x205 x206 x207 x208 x209 x210 x211 x212 x213 x214 x215 x216 x217 x218 x219 x220 x221 x222 x223 x224 x225 x226 x227 : Value}
def ExecOk (j : Nat) : Prop := ∀ (f : FS) (B : Nat) (L : FLt) (b : ByteArray) (ba : Option Addr) (bc : Nat) (K : SLt) (s : MS) (w : World) (rest : List Rw), Ctx f B L b ba bc w → s.rows = ⟨b, 0, false⟩ :: rest → rest.length = j → s.fault = 0 → s.ended = false → StepFit s → OutW w B K.oa K.oc K.vs s.out → Opds w s.stack K.sa → s.stack.length ≤ K.sc →
 Calls Tryz.prog 16 #[.agg #[.slice L.za L.zn L.zc, .slice L.la f.locals.length L.lc, .slice L.ga f.globals.length L.gc, .int .i64 f.w0, .int .i64 f.w1], .agg (stV K.sa K.sc K.oa K.oc s), .slice ba b.size bc, .int .i64 (j : Int)] w (ExecPost f B s w)
theorem routine_none {Ps : List ByteArray} {t : MS} (h0 : t.fault = 0) (h : routineD Ps t.stack = none) : (t.call Ps).fault = 81 := by
 unfold routineD at h
 unfold MS.call
 split at h
 ·rename_i hz; rw [if_pos hz]; exact fault_of h0 81
 ·rename_i hz
  rw [if_neg hz]
  simp only []
  split at h
  ·rename_i hv; rw [if_pos hv]; exact fault_of (s := { t with stack := t.stack.dropLast }) h0 81
  ·cases h
theorem routine_some {Ps : List ByteArray} {t : MS} {P : ByteArray} (h0 : t.fault = 0) (h : routineD Ps t.stack = some P) : t.stack.length ≠ 0 ∧ P ∈ Ps ∧ (10 < t.rows.length → (t.call Ps).fault = 83) ∧ (t.rows.length ≤ 10 → t.call Ps = { t with stack := t.stack.dropLast, rows := ⟨P, 0, false⟩ :: t.rows }) := by
 unfold routineD at h
 split at h
 ·cases h
 ·rename_i hz
  split at h
  ·cases h
  ·rename_i hv
   have e := Option.some.inj h
   refine ⟨hz, ?_, fun hr => ?_, fun hr => ?_⟩
   ·rw [← e]
    have hk : (t.stack.getLast?.getD 0 / 65536 + biasN Ps.length).toNat < Ps.length := by omega
    rw [List.getD_eq_getElem?_getD, List.getElem?_eq_getElem hk]
    exact List.getElem_mem hk
   ·unfold MS.call; rw [if_neg hz]; simp only []; rw [if_neg hv, if_pos hr]; exact fault_of (s := { t with stack := t.stack.dropLast }) h0 83
   ·unfold MS.call; rw [if_neg hz]; simp only []; rw [if_neg hv, if_neg (by omega), e]
theorem operate_c10 {f : FS} {t : MS} : t.operate f 10 = t.call f.locals := by unfold MS.operate; simp
theorem operate_c29 {f : FS} {t : MS} : t.operate f 29 = t.call f.globals := by unfold MS.operate; simp
set_option maxRecDepth 1000000 in
set_option maxHeartbeats 4000000 in
theorem t_call10 (f : FS) (B : Nat) (L : FLt) (b : ByteArray) (ba : Option Addr) (bc j : Nat) (w wr : World) (s0 : MS) (rest : List Rw) (Q : Exit → Act → World → Prop) (hC : Ctx f B L b ba bc w) (p k : Nat) (s : MS) (K : SLt) (hR : RunF f s0 b rest p s k) (t : MS) (pp : Nat) (hT : StepT f b rest pp s t 10) (hX : ExW f B L w t K wr) (hj : rest.length = j) (hE : ExecOk (j + 1)) (hret : ∀ a' w', RetX (ExecPost f B s0 w) a' w' → Q .ret a' w')
 (hN : ∀ (s' : MS) (k' p' : Nat) (K' : SLt) a' w', RunF f s0 b rest p' s' k' → ExW f B L w s' K' w' → s.fuel < s'.fuel → FrameOk w b ba bc j p' x0 x1 x6 x7 x9 x10 a' → Q (.normal) a' w') :
 Code.wp Tryz.prog t22 Q ⟨#[x0, x1, .slice ba b.size bc, .int .i64 (j : Int), .pointer (some ⟨w.heap.size, 0, none⟩), .pointer (some ⟨w.heap.size + 1, 0, none⟩), x6, x7, .pointer (some ⟨w.heap.size + 1 + 1, 0, none⟩), x9, x10, .int .i64 (pp : Int), x12, x13, .int .i64 10, x15, x16, x17, x18, x19, x20, x21, x22, x23, x24, x25, x26, x27, x28, x29, x30, x31, x32, x33, x34, x35, x36, x37, x38, x39, x40, x41, x42, x43, x44, x45, x46, x47, x48, x49, x50, x51, x52, x53, x54, x55, x56, x57, x58, x59, x60, x61, x62, x63, x64, x65, x66, x67, x68, x69, x70, x71, x72, x73, x74, x75, x76, x77, x78, x79, x80, x81, x82, x83, x84, x85, x86, x87, x88, x89, x90, x91, x92, x93, x94, x95, x96, x97, x98, x99, x100, x101, x102, x103, x104, x105, x106, x107, x108, x109, x110, x111, x112, x113, x114, x115, x116, x117, x118, x119, x120, x121, x122, x123, x124, x125, x126, x127, x128, x129, x130, x131, x132, x133, x134, x135, x136, x137, x138, x139, x140, x141, x142, x143, x144, x145, x146, x147, x148, x149, x150, x151, x152, x153, x154, x155, x156, x157, x158, x159, x160, x161, x162, x163, x164, x165, x166, x167, x168, x169, x170, x171, x172, x173, x174, x175, x176, x177, x178, x179, x180, x181, x182, x183, x184, x185, x186, x187, x188, x189, x190, x191, x192, x193, x194, x195, x196, x197, x198, x199, x200, x201, x202, x203, x204, x205, x206, x207, x208, x209, x210, x211, x212, x213, x214, x215, x216, x217, x218, x219, x220, x221, x222, x223, x224, x225, x226, x227], []⟩ wr := by
 have HX := Lib.hid hX
 have HR := Lib.hid hR
 have HC := Lib.hid hC
 have HT := Lib.hid hT
 have HRET := Lib.hid hret
 have HN := Lib.hid hN
 have hst := hT.step.trans operate_c10
 have HCL := Lib.hid (routine_b L.la L.lc f.locals t.stack K.sa K.sc wr B (hC.font.loc.kept hX.bel) hC.font.few.1 hX.opds (by have := hT.few; omega) hX.cap hT.small)
 have DC : wr.heap[w.heap.size + 1]? = some (.cells #[.slice K.sa t.stack.length K.sc, .slice K.oa t.out.length K.oc, .int .i64 t.x, .int .i64 t.y, .int .i64 (t.knots : Int), .int .i64 ((t.stems : Nat) : Int), .int .i64 ((t.fuel : Nat) : Int), .int .i64 t.width, .bool t.asked] 52 (0, 0)) := hX.dD
 have HDC := Lib.hid DC
 obtain ⟨d0, d1, d2, d3, d4, d5, d6, d7, d8⟩ := blk9 DC
 obtain ⟨f0, f1, f2, f3, f4, f5, f6, f7, f8⟩ := free9 DC
 have FC := hX.dF
 have HFC := Lib.hid FC
 have h0 := blk_cell FC 0 _ rfl
 have h1 := blk_cell FC 1 _ rfl
 have h2 := blk_cell FC 2 _ rfl
 have h3 := blk_cell FC 3 _ rfl
 have h4 := blk_cell FC 4 _ rfl
 have HEC := Lib.hid hX.dE
 have HST := Lib.hid hst
 have HJ := Lib.hid hj
 have HEX := Lib.hid hE
 clear hX hR hC hT hret hN hj hE DC FC hst
 conv => arg 2; whnf
 go_wp2_with fail
 refine HCL.out.mono ?_
 clear HCL
 rintro e w1 ⟨hb1, hm⟩
 have DC1 := blk_below HDC.out hb1
 have EC1 := blk_below HEC.out hb1
 have HD1 := Lib.hid DC1
 have HE1 := Lib.hid EC1
 have HX1 := Lib.hid (HX.out.up HC.out.le hb1)
 have HB1 := Lib.hid hb1
 have hlt1 : w.heap.size + 1 < w1.heap.size := blk_lt DC1
 clear d0 d1 d2 d3 d4 d5 d6 d7 d8 f0 f1 f2 f3 f4 f5 f6 f7 f8 h0 h1 h2 h3 h4 hb1
 cases hr : routineD f.locals t.stack with
 | none =>
   rw [hr] at hm
   subst hm
   have HF := Lib.hid (routine_none HT.out.fault hr)
   obtain ⟨c0, c1, c2, c3, c4, c5, c6, c7, c8⟩ := blk9 DC1
   obtain ⟨v0, v1, v2, v3, v4, v5, v6, v7, v8⟩ := free9 DC1
   obtain ⟨r0, r1, r2, r3, r4, r5, r6, r7, r8⟩ := blk9 EC1
   obtain ⟨u0, u1, u2, u3, u4, u5, u6, u7, u8⟩ := free9 EC1
   clear DC1 EC1 hr
   go_wp2_with fail
   refine HRET.out _ _ ?_
   refine ret_gen _ fun w9 hw9 => ?_
   have hg9 : w1.grownBy w9 (some (w.heap.size + 1 + 1)) := by rw [hw9]; exact set9_grown _ _ _ _ _ _ _ _ _ _ _
   have hE9 : w9.heap[w.heap.size + 1 + 1]? = some (.cells #[.slice K.sa t.stack.length K.sc, .slice K.oa t.out.length K.oc, .int .i64 t.x, .int .i64 t.y, .int .i64 (t.knots : Int), .int .i64 ((t.stems : Nat) : Int), .int .i64 ((t.fuel : Nat) : Int), .int .i64 t.width, .bool t.asked] 52 (0, 0)) := by rw [hw9]; exact set9_blk HE1.out _ _ _ _ _ _ _ _ _
   clear hw9
   have hb9 : Below B w w9 := HX1.out.bel.grown hg9 (Nat.le_trans HC.out.le HX1.out.le) (fun k hk => by cases hk; have := HC.out.le; omega)
   have hk9 : KeepD w.heap.size w w9 := HX1.out.keep.trans (keepD_new hg9 (by omega))
   refine retx rfl rfl rfl rfl hE9 ?_
   exact exec_err (K := K) (s2 := t) HR.out HC.out.font.fit HST.out HF.out (by decide) rfl hb9 hk9
 | some P =>
   rw [hr] at hm
   obtain ⟨ai, ci, rfl, hin⟩ := hm
   obtain ⟨hl0, hmem, h83, hok⟩ := routine_some HT.out.fault hr
   have HIN := Lib.hid hin
   have H83 := Lib.hid h83
   have HOK := Lib.hid hok
   have HMEM := Lib.hid hmem
   have HCAP : Hid (t.stack.length ≤ K.sc) := HX.out.cap
   have hb48 : t.stack.length ≤ 48 := HT.out.few
   have HL0 := Lib.hid hl0
   have hwl : wrap64 ((t.stack.length : Int) - 1) = ((t.stack.length - 1 : Nat) : Int) := by unfold wrap64; omega
   have hz1 : (0 : Int) ≤ ((t.stack.length - 1 : Nat) : Int) := by omega
   have hz2 : ((t.stack.length - 1 : Nat) : Int) ≤ (K.sc : Int) := by have := HCAP.out; omega
   obtain ⟨c0, c1, c2, c3, c4, c5, c6, c7, c8⟩ := blk9 DC1
   obtain ⟨v0, v1, v2, v3, v4, v5, v6, v7, v8⟩ := free9 DC1
   clear DC1 EC1 hr hin hmem h83 hok hl0 hb48
   go_upto_region 55 with fail
   refine wp_gen _ fun w2 hw2 => ?_
   have hg2 : w1.grownBy w2 (some (w.heap.size + 1)) := by rw [hw2]; exact grown_set w1 (w.heap.size + 1) 0 _
   have hd2 : w2.heap[w.heap.size + 1]? = some (.cells #[.slice K.sa (t.stack.length - 1) K.sc, .slice K.oa t.out.length K.oc, .int .i64 t.x, .int .i64 t.y, .int .i64 (t.knots : Int), .int .i64 (t.stems : Int), .int .i64 (t.fuel : Int), .int .i64 t.width, .bool t.asked] 52 (0, 0)) := by rw [hw2]; have h := blk_set HD1.out 0 (.slice K.sa (t.stack.length - 1) K.sc); simp at h; exact h
   have hx2 := ExW.turn (s' := { t with stack := t.stack.dropLast }) (K' := K) HX1.out HC.out.le (Below.refl _ _) (KeepD.refl _ _) hg2 (by rw [hd2]; unfold stV; rw [show ({ t with stack := t.stack.dropLast } : MS).stack.length = t.stack.length - 1 from List.length_dropLast]) HX1.out.outw (by show Opds w1 t.stack.dropLast K.sa; rw [List.dropLast_eq_take]; exact HX1.out.opds.take _) (by show t.stack.dropLast.length ≤ K.sc; rw [List.length_dropLast]; have := HCAP.out; omega)
   have HX2 := Lib.hid hx2
   have HEC2 := Lib.hid hx2.dE
   have HD2 := Lib.hid hd2
   have HBW := Lib.hid ((HB1.out.mono (Nat.le_trans HC.out.le HX.out.le)).grown hg2 (Nat.le_trans HC.out.le HX1.out.le) (fun k hk => by cases hk; have := HC.out.le; omega))
   have hlt2 : w.heap.size + 1 < w2.heap.size := blk_lt hd2
   clear hw2 hg2 hx2 c0 c1 c2 c3 c4 c5 c6 c7 c8 v0 v1 v2 v3 v4 v5 v6 v7 v8 hwl hz1 hz2 hlt1
   have FC2 := HX2.out.dF
   by_cases hj10 : 10 ≤ j
   ·have z1 : (10 : Int) ≤ (j : Int) := by omega
    have HF : Hid ((t.call f.locals).fault = 83) := H83.out (by rw [HT.out.rows, List.length_cons, HJ.out]; omega)
    have EC2 := HEC2.out
    obtain ⟨p0, p1, p2, p3, p4, p5, p6, p7, p8⟩ := blk9 hd2
    obtain ⟨r0, r1, r2, r3, r4, r5, r6, r7, r8⟩ := blk9 EC2
    obtain ⟨u0, u1, u2, u3, u4, u5, u6, u7, u8⟩ := free9 EC2
    clear hj10 hd2 EC2 FC2
    go_wp2_with fail
    refine HRET.out _ _ ?_
    refine ret_gen _ fun w9 hw9 => ?_
    have hg9 : w2.grownBy w9 (some (w.heap.size + 1 + 1)) := by rw [hw9]; exact set9_grown _ _ _ _ _ _ _ _ _ _ _
    have hE9 : w9.heap[w.heap.size + 1 + 1]? = some (.cells #[.slice K.sa (t.stack.length - 1) K.sc, .slice K.oa t.out.length K.oc, .int .i64 t.x, .int .i64 t.y, .int .i64 (t.knots : Int), .int .i64 (t.stems : Int), .int .i64 (t.fuel : Int), .int .i64 t.width, .bool t.asked] 52 (0, 0)) := by rw [hw9]; exact set9_blk HEC2.out _ _ _ _ _ _ _ _ _
    clear hw9
    have hb9 : Below B w w9 := HX2.out.bel.grown hg9 (Nat.le_trans HC.out.le HX2.out.le) (fun k hk => by cases hk; have := HC.out.le; omega)
    have hk9 : KeepD w.heap.size w w9 := HX2.out.keep.trans (keepD_new hg9 (by omega))
    refine retx rfl rfl rfl rfl hE9 ?_
    exact exec_err (K := K) (s2 := { t with stack := t.stack.dropLast }) HR.out HC.out.font.fit HST.out HF.out (by decide) (by unfold stV; rw [show ({ t with stack := t.stack.dropLast } : MS).stack.length = t.stack.length - 1 from List.length_dropLast]) hb9 hk9
   ·have z1 : ¬ (10 : Int) ≤ (j : Int) := by omega
    have hwj : wrap64 ((j : Int) + 1) = ((j + 1 : Nat) : Int) := by unfold wrap64; omega
    have hsc := HOK.out (by rw [HT.out.rows, List.length_cons, HJ.out]; omega)
    have HSC : Hid (s.step f = { t with stack := t.stack.dropLast, rows := ⟨P, 0, false⟩ :: t.rows }) := HST.out.trans hsc
    have HFT : Hid (StepFit { t with stack := t.stack.dropLast, rows := ⟨P, 0, false⟩ :: t.rows }) := by have h := HR.out.fit.step HR.out.fault f HC.out.font.fit; rw [HSC.out] at h; exact h
    have HGO : Hid (GoM f (k + 1) s0 { t with stack := t.stack.dropLast, rows := ⟨P, 0, false⟩ :: t.rows }) := HR.out.go.trans (GoM.step HR.out.ended HR.out.fault HSC.out)
    have HFUE : Hid (k + 1 + s0.fuel = t.fuel) := by have h1 := HR.out.fuel; have h2 := HT.out.fuel; unfold Hid; omega
    have HCT : Hid (Ctx f B L P ai ci w2) := ⟨HC.out.font.kept HX2.out.bel, HIN.out.kept HBW.out, HC.out.font.fit.2.1 P HMEM.out, Nat.le_trans HC.out.le HX2.out.le⟩
    have HCX := HEX.out f B L P ai ci K { t with stack := t.stack.dropLast, rows := ⟨P, 0, false⟩ :: t.rows } w2 t.rows HCT.out rfl (by rw [HT.out.rows, List.length_cons, HJ.out]) HT.out.fault HT.out.ended HFT.out HX2.out.outw HX2.out.opds HX2.out.cap
    rw [show stV K.sa K.sc K.oa K.oc { t with stack := t.stack.dropLast, rows := ⟨P, 0, false⟩ :: t.rows } = #[.slice K.sa (t.stack.length - 1) K.sc, .slice K.oa t.out.length K.oc, .int .i64 t.x, .int .i64 t.y, .int .i64 (t.knots : Int), .int .i64 (t.stems : Int), .int .i64 (t.fuel : Int), .int .i64 t.width, .bool t.asked] by unfold stV; rw [show ({ t with stack := t.stack.dropLast, rows := ⟨P, 0, false⟩ :: t.rows } : MS).stack.length = t.stack.length - 1 from List.length_dropLast]] at HCX
    have HCX2 := Lib.hid HCX
    obtain ⟨p0, p1, p2, p3, p4, p5, p6, p7, p8⟩ := blk9 hd2
    have q0 := blk_cell FC2 0 _ rfl
    have q1 := blk_cell FC2 1 _ rfl
    have q2 := blk_cell FC2 2 _ rfl
    have q3 := blk_cell FC2 3 _ rfl
    have q4 := blk_cell FC2 4 _ rfl
    clear hj10 hd2 FC2 hsc HCX
    go_wp2_with fail
    refine HCX2.out.mono ?_
    clear HCX2
    rintro e w3 ⟨hb3, hk3, k3, s1, hgo, hfit, hcnt, hend⟩
    have DC3 : w3.heap[w.heap.size + 1]? = _ := hk3 _ _ _ _ (blk_lt HD2.out) (by decide) (by decide) HD2.out
    have HD3 := Lib.hid DC3
    have HE3 : Hid (w3.heap[w.heap.size + 1 + 1]? = _) := hk3 _ _ _ _ (blk_lt HEC2.out) (by decide) (by decide) HEC2.out
    have HB3 : Hid (Below B w w3) := HX2.out.bel.trans hb3
    have HK3 : Hid (KeepD w.heap.size w w3) := HX2.out.keep.trans (hk3.mono HX2.out.le)
    have HBX := Lib.hid hb3
    have HKX := Lib.hid hk3
    have hlt3 : w.heap.size + 1 < w3.heap.size := blk_lt DC3
    have HL3 : Hid (w.heap.size ≤ w3.heap.size) := by unfold Hid; omega
    have HGO3 := Lib.hid (HGO.out.trans hgo)
    have HFI3 := Lib.hid hfit
    have HCN := Lib.hid hcnt
    clear p0 p1 p2 p3 p4 p5 p6 p7 p8 q0 q1 q2 q3 q4 hlt2 hwj
    obtain ⟨c0, c1, c2, c3, c4, c5, c6, c7, c8⟩ := blk9 DC3
    obtain ⟨v0, v1, v2, v3, v4, v5, v6, v7, v8⟩ := free9 DC3
    clear DC3 hb3 hk3 hgo hfit hcnt
    rcases hend with ⟨hf1, hcn1, hk1, hrow, K1, he, hz1, ho1, hc1⟩ | ⟨hf1, K1, s2, he⟩
    ·have HZ1 := Lib.hid hz1
     have HO1 := Lib.hid ho1
     have HC1 := Lib.hid hc1
     have HF1 := Lib.hid hf1
     have HCN1 := Lib.hid hcn1
     have HK1 := Lib.hid hk1
     have HROW := Lib.hid hrow
     change e = .returned (.tuple #[.agg #[.slice K1.sa s1.stack.length K1.sc, .slice K1.oa s1.out.length K1.oc, .int .i64 s1.x, .int .i64 s1.y, .int .i64 (s1.knots : Int), .int .i64 (s1.stems : Int), .int .i64 (s1.fuel : Int), .int .i64 s1.width, .bool s1.asked], .bool s1.ended, .int .i64 0]) at he
     clear hz1 ho1 hc1 hf1 hcn1 hk1 hrow
     cases hen : s1.ended
     ·rw [hen] at he
      subst he
      have HEN := Lib.hid hen
      clear hen
      go_upto_region 59 with fail
      refine wp_gen _ fun w4 hw4 => ?_
      have hg4 : w3.grownBy w4 (some (w.heap.size + 1)) := by rw [hw4]; exact set9_grown _ _ _ _ _ _ _ _ _ _ _
      have hd4 : w4.heap[w.heap.size + 1]? = some (.cells #[.slice K1.sa s1.stack.length K1.sc, .slice K1.oa s1.out.length K1.oc, .int .i64 s1.x, .int .i64 s1.y, .int .i64 (s1.knots : Int), .int .i64 (s1.stems : Int), .int .i64 (s1.fuel : Int), .int .i64 s1.width, .bool s1.asked] 52 (0, 0)) := by rw [hw4]; exact set9_blk HD3.out _ _ _ _ _ _ _ _ _
      have EC4 := (grown_other hg4 (blk_lt HE3.out) (fun e => by have := Option.some.inj e; omega)).trans HE3.out
      have HE4 := Lib.hid EC4
      have HB4 : Hid (Below B w w4) := HB3.out.grown hg4 (Nat.le_trans HC.out.le HL3.out) (fun k hk => by cases hk; have := HC.out.le; omega)
      have HK4 : Hid (KeepD w.heap.size w w4) := HK3.out.trans (keepD_new hg4 (by omega))
      have HL4 : Hid (w.heap.size ≤ w4.heap.size) := Nat.le_trans HL3.out hg4.size
      clear hw4
      have HXN := Lib.hid (ExW.turn (s' := s1) (K' := K1) HX2.out HC.out.le HBX.out HKX.out hg4 hd4 HZ1.out HO1.out HC1.out)
      have HRN : Hid (RunF f s0 b rest pp s1 (k + 1 + k3)) := ⟨(HROW.out HEN.out).trans HT.out.rows, HR.out.tail, HF1.out, HEN.out, HFI3.out, HGO3.out, by have h1 := HCN1.out; have h2 := HFUE.out; have h3 : ({ t with stack := t.stack.dropLast, rows := ⟨P, 0, false⟩ :: t.rows } : MS).fuel = t.fuel := rfl; omega⟩
      have HFU : Hid (s.fuel < s1.fuel) := by have h1 := HCN1.out; have h2 := HT.out.fuel; have h3 : ({ t with stack := t.stack.dropLast, rows := ⟨P, 0, false⟩ :: t.rows } : MS).fuel = t.fuel := rfl; unfold Hid; omega
      clear hg4 hd4 EC4 c0 c1 c2 c3 c4 c5 c6 c7 c8 v0 v1 v2 v3 v4 v5 v6 v7 v8 hlt3
      go_wp2_with fail
      exact HN.out _ _ _ _ _ _ HRN.out HXN.out HFU.out ⟨_, _, _, _, _, _, _, _, _, _, _, _, _, _, _, _, _, _, _, _, _, _, _, _, _, _, _, _, _, _, _, _, _, _, _, _, _, _, _, _, _, _, _, _, _, _, _, _, _, _, _, _, _, _, _, _, _, _, _, _, _, _, _, _, _, _, _, _, _, _, _, _, _, _, _, _, _, _, _, _, _, _, _, _, _, _, _, _, _, _, _, _, _, _, _, _, _, _, _, _, _, _, _, _, _, _, _, _, _, _, _, _, _, _, _, _, _, _, _, _, _, _, _, _, _, _, _, _, _, _, _, _, _, _, _, _, _, _, _, _, _, _, _, _, _, _, _, _, _, _, _, _, _, _, _, _, _, _, _, _, _, _, _, _, _, _, _, _, _, _, _, _, _, _, _, _, _, _, _, _, _, _, _, _, _, _, _, _, _, _, _, _, _, _, _, _, _, _, _, _, _, _, _, _, _, _, _, _, _, _, _, _, _, _, _, _, rfl⟩
     ·rw [hen] at he
      subst he
      have HEN := Lib.hid hen
      clear hen
      go_upto_region 59 with fail
      refine wp_gen _ fun w4 hw4 => ?_
      have hg4 : w3.grownBy w4 (some (w.heap.size + 1)) := by rw [hw4]; exact set9_grown _ _ _ _ _ _ _ _ _ _ _
      have hd4 : w4.heap[w.heap.size + 1]? = some (.cells #[.slice K1.sa s1.stack.length K1.sc, .slice K1.oa s1.out.length K1.oc, .int .i64 s1.x, .int .i64 s1.y, .int .i64 (s1.knots : Int), .int .i64 (s1.stems : Int), .int .i64 (s1.fuel : Int), .int .i64 s1.width, .bool s1.asked] 52 (0, 0)) := by rw [hw4]; exact set9_blk HD3.out _ _ _ _ _ _ _ _ _
      have EC4 := (grown_other hg4 (blk_lt HE3.out) (fun e => by have := Option.some.inj e; omega)).trans HE3.out
      have HE4 := Lib.hid EC4
      have HB4 : Hid (Below B w w4) := HB3.out.grown hg4 (Nat.le_trans HC.out.le HL3.out) (fun k hk => by cases hk; have := HC.out.le; omega)
      have HK4 : Hid (KeepD w.heap.size w w4) := HK3.out.trans (keepD_new hg4 (by omega))
      have HL4 : Hid (w.heap.size ≤ w4.heap.size) := Nat.le_trans HL3.out hg4.size
      clear hw4
      clear c0 c1 c2 c3 c4 c5 c6 c7 c8 v0 v1 v2 v3 v4 v5 v6 v7 v8 hlt3
      have HZ4 := Lib.hid (HZ1.out.chg hg4 (typ_blk HD3.out) (by decide) (by decide))
      have HO4 := Lib.hid (HO1.out.keep (keep_chg hg4 (typ_blk HD3.out) (by decide)))
      obtain ⟨p0, p1, p2, p3, p4, p5, p6, p7, p8⟩ := blk9 hd4
      obtain ⟨r0, r1, r2, r3, r4, r5, r6, r7, r8⟩ := blk9 EC4
      obtain ⟨u0, u1, u2, u3, u4, u5, u6, u7, u8⟩ := free9 EC4
      clear hg4 hd4 EC4
      go_wp2_with fail
      refine HRET.out _ _ ?_
      refine ret_gen _ fun w9 hw9 => ?_
      have hg9 : w4.grownBy w9 (some (w.heap.size + 1 + 1)) := by rw [hw9]; exact set9_grown _ _ _ _ _ _ _ _ _ _ _
      have hE9 : w9.heap[w.heap.size + 1 + 1]? = some (.cells #[.slice K1.sa s1.stack.length K1.sc, .slice K1.oa s1.out.length K1.oc, .int .i64 s1.x, .int .i64 s1.y, .int .i64 (s1.knots : Int), .int .i64 (s1.stems : Int), .int .i64 (s1.fuel : Int), .int .i64 s1.width, .bool s1.asked] 52 (0, 0)) := by rw [hw9]; exact set9_blk HE4.out _ _ _ _ _ _ _ _ _
      clear hw9
      have hb9 : Below B w w9 := HB4.out.grown hg9 (Nat.le_trans HC.out.le HL4.out) (fun k hk => by cases hk; have := HC.out.le; omega)
      have hk9 : KeepD w.heap.size w w9 := HK4.out.trans (keepD_new hg9 (by omega))
      refine retx rfl rfl rfl rfl hE9 ?_
      refine ⟨hb9, hk9, k + 1 + k3, s1, HGO3.out, HFI3.out, ?_, .inl ⟨HF1.out, ?_, by omega, fun e => (by rw [HEN.out] at e; cases e), K1, (by rw [HEN.out]; rfl), HZ4.out.chg hg9 (typ_blk HE4.out) (by decide) (by decide), HO4.out.keep (keep_chg hg9 (typ_blk HE4.out) (by decide)), HC1.out⟩⟩
      ·have h1 := HCN.out; have h2 := HFUE.out; have h3 : ({ t with stack := t.stack.dropLast, rows := ⟨P, 0, false⟩ :: t.rows } : MS).fuel = t.fuel := rfl; omega
      ·have h1 := HCN1.out; have h2 := HFUE.out; have h3 : ({ t with stack := t.stack.dropLast, rows := ⟨P, 0, false⟩ :: t.rows } : MS).fuel = t.fuel := rfl; omega
    ·have HF1 := Lib.hid hf1
     generalize hsf : s1.fault = er at *
     have HSF := Lib.hid hsf
     have hz : (er == 0) = false := by simpa using hf1
     change e = .returned (.tuple #[.agg #[.slice K1.sa s2.stack.length K1.sc, .slice K1.oa s2.out.length K1.oc, .int .i64 s2.x, .int .i64 s2.y, .int .i64 (s2.knots : Int), .int .i64 (s2.stems : Int), .int .i64 (s2.fuel : Int), .int .i64 s2.width, .bool s2.asked], .bool false, .int .i64 er]) at he
     subst he
     clear hf1 hsf
     go_upto_region 59 with fail
     refine wp_gen _ fun w4 hw4 => ?_
     have hg4 : w3.grownBy w4 (some (w.heap.size + 1)) := by rw [hw4]; exact set9_grown _ _ _ _ _ _ _ _ _ _ _
     have hd4 : w4.heap[w.heap.size + 1]? = some (.cells #[.slice K1.sa s2.stack.length K1.sc, .slice K1.oa s2.out.length K1.oc, .int .i64 s2.x, .int .i64 s2.y, .int .i64 (s2.knots : Int), .int .i64 (s2.stems : Int), .int .i64 (s2.fuel : Int), .int .i64 s2.width, .bool s2.asked] 52 (0, 0)) := by rw [hw4]; exact set9_blk HD3.out _ _ _ _ _ _ _ _ _
     have EC4 := (grown_other hg4 (blk_lt HE3.out) (fun e => by have := Option.some.inj e; omega)).trans HE3.out
     have HE4 := Lib.hid EC4
     have HB4 : Hid (Below B w w4) := HB3.out.grown hg4 (Nat.le_trans HC.out.le HL3.out) (fun k hk => by cases hk; have := HC.out.le; omega)
     have HK4 : Hid (KeepD w.heap.size w w4) := HK3.out.trans (keepD_new hg4 (by omega))
     have HL4 : Hid (w.heap.size ≤ w4.heap.size) := Nat.le_trans HL3.out hg4.size
     clear hw4
     clear c0 c1 c2 c3 c4 c5 c6 c7 c8 v0 v1 v2 v3 v4 v5 v6 v7 v8 hlt3
     obtain ⟨p0, p1, p2, p3, p4, p5, p6, p7, p8⟩ := blk9 hd4
     obtain ⟨r0, r1, r2, r3, r4, r5, r6, r7, r8⟩ := blk9 EC4
     obtain ⟨u0, u1, u2, u3, u4, u5, u6, u7, u8⟩ := free9 EC4
     clear hg4 hd4 EC4
     go_wp2_with fail
     refine HRET.out _ _ ?_
     refine ret_gen _ fun w9 hw9 => ?_
     have hg9 : w4.grownBy w9 (some (w.heap.size + 1 + 1)) := by rw [hw9]; exact set9_grown _ _ _ _ _ _ _ _ _ _ _
     have hE9 : w9.heap[w.heap.size + 1 + 1]? = some (.cells #[.slice K1.sa s2.stack.length K1.sc, .slice K1.oa s2.out.length K1.oc, .int .i64 s2.x, .int .i64 s2.y, .int .i64 (s2.knots : Int), .int .i64 (s2.stems : Int), .int .i64 (s2.fuel : Int), .int .i64 s2.width, .bool s2.asked] 52 (0, 0)) := by rw [hw9]; exact set9_blk HE4.out _ _ _ _ _ _ _ _ _
     clear hw9
     have hb9 : Below B w w9 := HB4.out.grown hg9 (Nat.le_trans HC.out.le HL4.out) (fun k hk => by cases hk; have := HC.out.le; omega)
     have hk9 : KeepD w.heap.size w w9 := HK4.out.trans (keepD_new hg9 (by omega))
     refine retx rfl rfl rfl rfl hE9 ?_
     refine ⟨hb9, hk9, k + 1 + k3, s1, HGO3.out, HFI3.out, ?_, .inr ⟨by rw [HSF.out]; exact HF1.out, K1, s2, by rw [HSF.out]; rfl⟩⟩
     have h1 := HCN.out; have h2 := HFUE.out; have h3 : ({ t with stack := t.stack.dropLast, rows := ⟨P, 0, false⟩ :: t.rows } : MS).fuel = t.fuel := rfl; omega
end Go.Proofs.YtklenppldblbdaaGreat
