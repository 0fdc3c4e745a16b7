import Derived.Test.YtklenppldblbdaaGreatK29
set_option linter.unusedSimpArgs false
set_option linter.unusedVariables false
namespace Go.Proofs.YtklenppldblbdaaGreat
open Go.RowKit Go.PlainAid
variable {x0 x1 x2 x3 x4 x5 x6 x7 x8 x9 x10 x11 x12 x13 x14 x15 x16 x17 x18 x19 x20 x21 x22 x23 x24 x25 x26 x27 x28 x29 x30 x31 x32 x33 x34 x35 x36 x37 x38 x39 x40 x41 x42 x43 x44 x45 x46 x47 x48 x49 x50 x51 x52 x53 x54 x55 x56 x57 x58 x59 x60 x61 x62 x63 x64 x65 x66 x67 x68 x69 x70 x71 x72 x73 x74 x75 x76 x77 x78 x79 x80 x81 x82 x83 x84 x85 x86 x87 x88 x89 x90 x91 x92 x93 x94 x95 x96 x97 x98 x99 x100 x101 x102 x103 x104 x105 x106 x107 x108 x109 x110 x111 x112 x113 x114 x115 x116 x117 x118 x119 x120 x121 x122 x123 x124 x125 x126 x127 x128 x129 x130 x131 x132 x133 x134 x135 x136 x137 x138 x139 x140 x141 x142 x143 x144 x145 x146 x147 x148 x149 x150 x151 x152 x153 x154 x155 x156 x157 x158 x159 x160 x161 x162 x163 x164 x165 x166 x167 x168 x169 x170 x171 x172 x173 x174 x175 x176 x177 x178 x179 x180 x181 x182 x183 x184 x185 x186 x187 x188 x189 x190 x191 x192 x193 x194 x195 x196 x197 x198 x199 x200 x201 x202 x203 x204 x205 x206 x207 x208 x209 x210 x211 x212 x213 x214 x215 x216 x217 x218 x219 x220 x221 x222 x223 x224 x225 x226 x227 : Value}
set_option maxRecDepth 1000000 in
set_option maxHeartbeats 4000000 in
theorem t_stem (f : FS) (B : Nat) (L : FLt) (b : ByteArray) (ba : Option Addr) (bc j : Nat) (w wr : World) (s0 : MS) (rest : List Rw) (Q : Exit → Act → World → Prop) (hC : Ctx f B L b ba bc w) (p k : Nat) (s : MS) (K : SLt) (hR : RunF f s0 b rest p s k) (t : MS) (pp : Nat) (op : Int) (hT : StepT f b rest pp s t op) (hX : ExW f B L w t K wr) (hop : op = 1 ∨ op = 3 ∨ op = 18 ∨ op = 23) (hret : ∀ a' w', RetX (ExecPost f B s0 w) a' w' → Q .ret a' w')
 (hN : ∀ (s' : MS) (k' p' : Nat) (K' : SLt) a' w', RunF f s0 b rest p' s' k' → ExW f B L w s' K' w' → s.fuel < s'.fuel → FrameOk w b ba bc j p' x0 x1 x6 x7 x9 x10 a' → Q (.normal) a' w') :
 Code.wp Tryz.prog t22 Q ⟨#[x0, x1, .slice ba b.size bc, .int .i64 (j : Int), .pointer (some ⟨w.heap.size, 0, none⟩), .pointer (some ⟨w.heap.size + 1, 0, none⟩), x6, x7, .pointer (some ⟨w.heap.size + 1 + 1, 0, none⟩), x9, x10, .int .i64 (pp : Int), x12, x13, .int .i64 op, x15, x16, x17, x18, x19, x20, x21, x22, x23, x24, x25, x26, x27, x28, x29, x30, x31, x32, x33, x34, x35, x36, x37, x38, x39, x40, x41, x42, x43, x44, x45, x46, x47, x48, x49, x50, x51, x52, x53, x54, x55, x56, x57, x58, x59, x60, x61, x62, x63, x64, x65, x66, x67, x68, x69, x70, x71, x72, x73, x74, x75, x76, x77, x78, x79, x80, x81, x82, x83, x84, x85, x86, x87, x88, x89, x90, x91, x92, x93, x94, x95, x96, x97, x98, x99, x100, x101, x102, x103, x104, x105, x106, x107, x108, x109, x110, x111, x112, x113, x114, x115, x116, x117, x118, x119, x120, x121, x122, x123, x124, x125, x126, x127, x128, x129, x130, x131, x132, x133, x134, x135, x136, x137, x138, x139, x140, x141, x142, x143, x144, x145, x146, x147, x148, x149, x150, x151, x152, x153, x154, x155, x156, x157, x158, x159, x160, x161, x162, x163, x164, x165, x166, x167, x168, x169, x170, x171, x172, x173, x174, x175, x176, x177, x178, x179, x180, x181, x182, x183, x184, x185, x186, x187, x188, x189, x190, x191, x192, x193, x194, x195, x196, x197, x198, x199, x200, x201, x202, x203, x204, x205, x206, x207, x208, x209, x210, x211, x212, x213, x214, x215, x216, x217, x218, x219, x220, x221, x222, x223, x224, x225, x226, x227], []⟩ wr := by
 have HX := Lib.hid hX
 have HR := Lib.hid hR
 have HC := Lib.hid hC
 have HT := Lib.hid hT
 have HRET := Lib.hid hret
 have hst := hT.step.trans (operate_stem hop)
 have HN := Lib.hid hN
 clear hN
 obtain ⟨many, hmany⟩ : ∃ b, decide (t.stack.length % 2 = 1) = b := ⟨_, rfl⟩
 have hql := behind_list t f.w1 t.stack many
 have hqs := behind_stems t f.w1 t.stack many
 have hcl := told_d (.slice L.za L.zn L.zc) (.slice L.la f.locals.length L.lc) (.slice L.ga f.globals.length L.gc) f.w0 f.w1 K.sa K.sc K.oa K.oc t many wr hX.opds hX.cap (by have := hT.few; omega) (by rw [← hmany]; simp; omega) hT.small ⟨_, _, _, rfl⟩ ⟨_, _, _, rfl⟩ ⟨_, _, _, rfl⟩ hC.font.wid
 obtain ⟨q, hq⟩ : ∃ q : MS, { (t.behind f.w1 t.stack many).2 with stack := (t.behind f.w1 t.stack many).1 } = q := ⟨_, rfl⟩
 have HQO : Hid (q.out = t.out) := by rw [← hq]; exact hqs.2.1
 have HQF : Hid (q.fault = 0) := by rw [← hq]; exact hqs.2.2.2.2.2.2.1.trans hT.fault
 have HQR : Hid (q.rows = ⟨b, pp, false⟩ :: rest) := by rw [← hq]; exact hqs.2.2.2.1.trans hT.rows
 have HQE : Hid (q.ended = false) := by rw [← hq]; exact hqs.2.2.2.2.2.2.2.trans hT.ended
 have HQS : Hid (q.stems ≤ 96) := by rw [← hq]; exact Nat.le_trans (Nat.le_of_eq hqs.1) hT.stems
 have HQU : Hid (q.fuel = s.fuel + 1) := by rw [← hq]; exact hqs.2.2.2.2.2.1.trans hT.fuel
 have HQL : Hid (q.stack.length ≤ 48) := by rw [← hq]; exact Nat.le_trans hql.1 hT.few
 rw [hmany, hq] at hst
 rw [hq] at hcl
 have HST := Lib.hid hst
 have HCL := Lib.hid hcl
 have DC : wr.heap[w.heap.size + 1]? = some (.cells #[.slice K.sa t.stack.length K.sc, .slice K.oa t.out.length K.oc, .int .i64 t.x, .int .i64 t.y, .int .i64 (t.knots : Int), .int .i64 ((t.stems : Nat) : Int), .int .i64 ((t.fuel : Nat) : Int), .int .i64 t.width, .bool t.asked] 52 (0, 0)) := hX.dD
 have HDC := Lib.hid DC
 obtain ⟨d0, d1, d2, d3, d4, d5, d6, d7, d8⟩ := blk9 DC
 obtain ⟨f0, f1, f2, f3, f4, f5, f6, f7, f8⟩ := free9 DC
 have FC := hX.dF
 have h0 := blk_cell FC 0 _ rfl
 have h1 := blk_cell FC 1 _ rfl
 have h2 := blk_cell FC 2 _ rfl
 have h3 := blk_cell FC 3 _ rfl
 have h4 := blk_cell FC 4 _ rfl
 have hmod : (((t.stack.length : Int) % 2) == 1) = many := by rw [← hmany]; apply Bool.eq_iff_iff.2; simp; omega
 have HEC := Lib.hid hX.dE
 clear hX hR hC hT hret DC FC hql hqs hcl hq hst hmany
 rcases hop with rfl | rfl | rfl | rfl
 all_goals
  conv => arg 2; whnf
  go_wp2_with fail
  refine HCL.out.mono ?_
  clear HCL
  rintro e w1 ⟨sb, sd, he, ho1, hc1, hb1⟩
  change e = .returned (.agg #[.slice sb q.stack.length sd, .slice K.oa q.out.length K.oc, .int .i64 q.x, .int .i64 q.y, .int .i64 (q.knots : Int), .int .i64 (q.stems : Int), .int .i64 (q.fuel : Int), .int .i64 q.width, .bool q.asked]) at he
  subst he
  have DC1 := blk_below HDC.out hb1
  have HD1 := Lib.hid DC1
  have HO1 := Lib.hid ho1
  have HC1 := Lib.hid hc1
  have HB1 := Lib.hid hb1
  clear d0 d1 d2 d3 d4 d5 d6 d7 d8 f0 f1 f2 f3 f4 f5 f6 f7 f8 h0 h1 h2 h3 h4 ho1 hc1 hb1
  obtain ⟨c0, c1, c2, c3, c4, c5, c6, c7, c8⟩ := blk9 DC1
  obtain ⟨v0, v1, v2, v3, v4, v5, v6, v7, v8⟩ := free9 DC1
  clear DC1
  go_upto_region 32 with fail
  refine wp_gen _ fun w2 hw2 => ?_
  have hg2 : w1.grownBy w2 (some (w.heap.size + 1)) := by rw [hw2]; exact set9_grown _ _ _ _ _ _ _ _ _ _ _
  have hd2 : w2.heap[w.heap.size + 1]? = some (.cells #[.slice sb q.stack.length sd, .slice K.oa q.out.length K.oc, .int .i64 q.x, .int .i64 q.y, .int .i64 (q.knots : Int), .int .i64 (q.stems : Int), .int .i64 (q.fuel : Int), .int .i64 q.width, .bool q.asked] 52 (0, 0)) := by rw [hw2]; exact set9_blk HD1.out _ _ _ _ _ _ _ _ _
  have hx2 := ExW.turn (s' := q) (K' := ⟨sb, sd, K.oa, K.oc, K.vs⟩) HX.out HC.out.le (HB1.out.mono (Nat.le_trans HC.out.le HX.out.le)) (keepD_bel (Nat.le_refl _) HB1.out) hg2 hd2 (by rw [HQO.out]; exact HX.out.outw.below HB1.out) HO1.out HC1.out
  have HX2 := Lib.hid hx2
  have HEC2 := Lib.hid hx2.dE
  have hlt2 : w.heap.size + 1 < w2.heap.size := blk_lt hd2
  clear hw2 hg2 hx2 c0 c1 c2 c3 c4 c5 c6 c7 c8 v0 v1 v2 v3 v4 v5 v6 v7 v8
  clear hmod
  by_cases hod : q.stack.length % 2 = 1
  ·have HOD := Lib.hid hod
   have z1 : (((q.stack.length : Int) % 2) == 1) = true := by simp; omega
   have EC2 := HEC2.out
   obtain ⟨r0, r1, r2, r3, r4, r5, r6, r7, r8⟩ := blk9 EC2
   obtain ⟨u0, u1, u2, u3, u4, u5, u6, u7, u8⟩ := free9 EC2
   obtain ⟨p0, p1, p2, p3, p4, p5, p6, p7, p8⟩ := blk9 hd2
   clear hod hd2 EC2
   go_wp2_with fail
   refine HRET.out _ _ ?_
   refine ret_gen _ fun w9 hw9 => ?_
   have hg9 : w2.grownBy w9 (some (w.heap.size + 1 + 1)) := by rw [hw9]; exact set9_grown _ _ _ _ _ _ _ _ _ _ _
   have hE9 : w9.heap[w.heap.size + 1 + 1]? = some (.cells #[.slice sb q.stack.length sd, .slice K.oa q.out.length K.oc, .int .i64 q.x, .int .i64 q.y, .int .i64 (q.knots : Int), .int .i64 (q.stems : Int), .int .i64 (q.fuel : Int), .int .i64 q.width, .bool q.asked] 52 (0, 0)) := by rw [hw9]; exact set9_blk HEC2.out _ _ _ _ _ _ _ _ _
   clear hw9
   have hb9 : Below B w w9 := HX2.out.bel.grown hg9 (Nat.le_trans HC.out.le HX2.out.le) (fun k hk => by cases hk; have := HC.out.le; omega)
   have hk9 : KeepD w.heap.size w w9 := HX2.out.keep.trans (keepD_new hg9 (by omega))
   refine retx rfl rfl rfl rfl hE9 ?_
   exact exec_err (K := ⟨sb, sd, K.oa, K.oc, K.vs⟩) (s2 := q) HR.out HC.out.font.fit HST.out (stemF_81 HQF.out HOD.out) (by decide) rfl hb9 hk9
  ·have hev : q.stack.length % 2 = 0 := by omega
   have HEV := Lib.hid hev
   have z1 : (((q.stack.length : Int) % 2) == 1) = false := by simp; omega
   have hwa : wrap64 ((q.stack.length : Int) / 2) = ((q.stack.length / 2 : Nat) : Int) := by have := HQL.out; unfold wrap64; omega
   have hwb : wrap64 ((q.stems : Int) + ((q.stack.length / 2 : Nat) : Int)) = ((q.stems + q.stack.length / 2 : Nat) : Int) := by have := HQL.out; have := HQS.out; unfold wrap64; omega
   have hwc : wrap64 ((q.stems : Int) + (q.stack.length : Int) / 2) = ((q.stems + q.stack.length / 2 : Nat) : Int) := by have := HQL.out; have := HQS.out; unfold wrap64; omega
   obtain ⟨p0, p1, p2, p3, p4, p5, p6, p7, p8⟩ := blk9 hd2
   obtain ⟨y0, y1, y2, y3, y4, y5, y6, y7, y8⟩ := free9 hd2
   have HD2 := Lib.hid hd2
   clear hod hev hd2
   go_upto_region 36 with fail
   refine wp_gen _ fun w3 hw3 => ?_
   have hg3 : w2.grownBy w3 (some (w.heap.size + 1)) := by rw [hw3]; exact grown_trans (grown_set w2 (w.heap.size + 1) 5 _) (grown_set _ (w.heap.size + 1) 0 _)
   have hd3 : w3.heap[w.heap.size + 1]? = some (.cells #[.slice none 0 0, .slice K.oa q.out.length K.oc, .int .i64 q.x, .int .i64 q.y, .int .i64 (q.knots : Int), .int .i64 ((q.stems + q.stack.length / 2 : Nat) : Int), .int .i64 (q.fuel : Int), .int .i64 q.width, .bool q.asked] 52 (0, 0)) := by rw [hw3]; have h := blk_set (blk_set HD2.out 5 (.int .i64 ((q.stems + q.stack.length / 2 : Nat) : Int))) 0 (.slice none 0 0); simp at h; simpa using h
   have hx3 := ExW.turn (s' := { q with stems := q.stems + q.stack.length / 2, stack := [] }) (K' := ⟨none, 0, K.oa, K.oc, K.vs⟩) HX2.out HC.out.le (Below.refl _ _) (KeepD.refl _ _) hg3 hd3 HX2.out.outw (Opds.nil _ _) (Nat.le_refl _)
   have HX3 := Lib.hid hx3
   have HEC3 := Lib.hid hx3.dE
   clear hw3 hg3 hx3 p0 p1 p2 p3 p4 p5 p6 p7 p8 y0 y1 y2 y3 y4 y5 y6 y7 y8 hwa hwb hwc
   by_cases hsb : 96 < q.stems + q.stack.length / 2
   ·have HSB := Lib.hid hsb
    have z2 : (96 : Int) < ((q.stems + q.stack.length / 2 : Nat) : Int) := by omega
    have EC3 := HEC3.out
    obtain ⟨r0, r1, r2, r3, r4, r5, r6, r7, r8⟩ := blk9 EC3
    obtain ⟨u0, u1, u2, u3, u4, u5, u6, u7, u8⟩ := free9 EC3
    obtain ⟨p0, p1, p2, p3, p4, p5, p6, p7, p8⟩ := blk9 hd3
    clear hsb hd3 EC3
    go_wp2_with fail
    refine HRET.out _ _ ?_
    refine ret_gen _ fun w9 hw9 => ?_
    have hg9 : w3.grownBy w9 (some (w.heap.size + 1 + 1)) := by rw [hw9]; exact set9_grown _ _ _ _ _ _ _ _ _ _ _
    have hE9 : w9.heap[w.heap.size + 1 + 1]? = some (.cells #[.slice none 0 0, .slice K.oa q.out.length K.oc, .int .i64 q.x, .int .i64 q.y, .int .i64 (q.knots : Int), .int .i64 ((q.stems + q.stack.length / 2 : Nat) : Int), .int .i64 (q.fuel : Int), .int .i64 q.width, .bool q.asked] 52 (0, 0)) := by rw [hw9]; exact set9_blk HEC3.out _ _ _ _ _ _ _ _ _
    clear hw9
    have hb9 : Below B w w9 := HX3.out.bel.grown hg9 (Nat.le_trans HC.out.le HX3.out.le) (fun k hk => by cases hk; have := HC.out.le; omega)
    have hk9 : KeepD w.heap.size w w9 := HX3.out.keep.trans (keepD_new hg9 (by omega))
    refine retx rfl rfl rfl rfl hE9 ?_
    exact exec_err (K := ⟨none, 0, K.oa, K.oc, K.vs⟩) (s2 := { q with stems := q.stems + q.stack.length / 2, stack := [] }) HR.out HC.out.font.fit HST.out (stemF_83 HQF.out HEV.out HSB.out) (by decide) rfl hb9 hk9
   ·have z2 : ¬ (96 : Int) < ((q.stems + q.stack.length / 2 : Nat) : Int) := by omega
    have HSO := Lib.hid (stemF_ok HEV.out hsb)
    have HNB : Hid (q.stems + q.stack.length / 2 ≤ 96) := by unfold Hid; omega
    obtain ⟨p0, p1, p2, p3, p4, p5, p6, p7, p8⟩ := blk9 hd3
    rw [HSO.out] at HST
    have HRN : Hid (RunF f s0 b rest pp { q with stems := q.stems + q.stack.length / 2, stack := [] } (k + 1)) := HR.out.next HC.out.font.fit HST.out HQF.out HQE.out HQR.out
    clear hsb hd3
    go_wp2_with fail
    exact HN.out _ _ _ _ _ _ HRN.out HX3.out (by show s.fuel < q.fuel; rw [HQU.out]; omega) ⟨_, _, _, _, _, _, _, _, _, _, _, _, _, _, _, _, _, _, _, _, _, _, _, _, _, _, _, _, _, _, _, _, _, _, _, _, _, _, _, _, _, _, _, _, _, _, _, _, _, _, _, _, _, _, _, _, _, _, _, _, _, _, _, _, _, _, _, _, _, _, _, _, _, _, _, _, _, _, _, _, _, _, _, _, _, _, _, _, _, _, _, _, _, _, _, _, _, _, _, _, _, _, _, _, _, _, _, _, _, _, _, _, _, _, _, _, _, _, _, _, _, _, _, _, _, _, _, _, _, _, _, _, _, _, _, _, _, _, _, _, _, _, _, _, _, _, _, _, _, _, _, _, _, _, _, _, _, _, _, _, _, _, _, _, _, _, _, _, _, _, _, _, _, _, _, _, _, _, _, _, _, _, _, _, _, _, _, _, _, _, _, _, _, _, _, _, _, _, _, _, _, _, _, _, _, _, _, _, _, _, _, _, _, _, _, _, rfl⟩
end Go.Proofs.YtklenppldblbdaaGreat
namespace Go.Proofs.YtklenppldblbdaaGreat
open Go.RowKit Go.PlainAid
variable {x0 x1 x2 x3 x4 x5 x6 x7 x8 x9 x10 x11 x12 x13 x14 x15 x16 x17 x18 x19 x20 x21 x22 x23 x24 x25 x26 x27 x28 x29 x30 x31 x32 x33 x34 x35 x36 x37 x38 x39 x40 x41 x42 x43 x44 x45 x46 x47 x48 x49 x50 x51 x52 x53 x54 x55 x56 x57 x58 x59 x60 x61 x62 x63 x64 x65 x66 x67 x68 x69 x70 x71 x72 x73 x74 x75 x76 x77 x78 x79 x80 x81 x82 x83 x84 x85 x86 x87 x88 x89 x90 x91 x92 x93 x94 x95 x96 x97 x98 x99 x100 x101 x102 x103 x104 x105 x106 x107 x108 x109 x110 x111 x112 x113 x114 x115 x116 x117 x118 x119 x120 x121 x122 x123 x124 x125 x126 x127 x128 x129 x130 x131 x132 x133 x134 x135 x136 x137 x138 x139 x140 x141 x142 x143 x144 x145 x146 x147 x148 x149 x150 x151 x152 x153 x154 x155 x156 x157 x158 x159 x160 x161 x162 x163 x164 x165 x166 x167 x168 x169 x170 x171 x172 x173 x174 x175 x176 x177 x178 x179 x180 x181 x182 x183 x184 x185 x186 x187 x188 x189 x190 x191 x192 x193 x194 x195 x196 x197 x198 x199 x200 x201 x202 x203 x204 x205 x206 x207 x208 x209 x210 x211 x212 x213 x214 x215 x216 x217 x218 x219 x220 x221 x222 x223 x224 x225 x226 x227 : Value}
set_option maxRecDepth 1000000 in
set_option maxHeartbeats 4000000 in
theorem t_mask (f : FS) (B : Nat) (L : FLt) (b : ByteArray) (ba : Option Addr) (bc j : Nat) (w wr : World) (s0 : MS) (rest : List Rw) (Q : Exit → Act → World → Prop) (hC : Ctx f B L b ba bc w) (p k : Nat) (s : MS) (K : SLt) (hR : RunF f s0 b rest p s k) (t : MS) (pp : Nat) (op : Int) (hT : StepT f b rest pp s t op) (hX : ExW f B L w t K wr) (hop : op = 19 ∨ op = 20) (hret : ∀ a' w', RetX (ExecPost f B s0 w) a' w' → Q .ret a' w')
 (hN : ∀ (s' : MS) (k' p' : Nat) (K' : SLt) a' w', RunF f s0 b rest p' s' k' → ExW f B L w s' K' w' → s.fuel < s'.fuel → FrameOk w b ba bc j p' x0 x1 x6 x7 x9 x10 a' → Q (.normal) a' w') :
 Code.wp Tryz.prog t22 Q ⟨#[x0, x1, .slice ba b.size bc, .int .i64 (j : Int), .pointer (some ⟨w.heap.size, 0, none⟩), .pointer (some ⟨w.heap.size + 1, 0, none⟩), x6, x7, .pointer (some ⟨w.heap.size + 1 + 1, 0, none⟩), x9, x10, .int .i64 (pp : Int), x12, x13, .int .i64 op, x15, x16, x17, x18, x19, x20, x21, x22, x23, x24, x25, x26, x27, x28, x29, x30, x31, x32, x33, x34, x35, x36, x37, x38, x39, x40, x41, x42, x43, x44, x45, x46, x47, x48, x49, x50, x51, x52, x53, x54, x55, x56, x57, x58, x59, x60, x61, x62, x63, x64, x65, x66, x67, x68, x69, x70, x71, x72, x73, x74, x75, x76, x77, x78, x79, x80, x81, x82, x83, x84, x85, x86, x87, x88, x89, x90, x91, x92, x93, x94, x95, x96, x97, x98, x99, x100, x101, x102, x103, x104, x105, x106, x107, x108, x109, x110, x111, x112, x113, x114, x115, x116, x117, x118, x119, x120, x121, x122, x123, x124, x125, x126, x127, x128, x129, x130, x131, x132, x133, x134, x135, x136, x137, x138, x139, x140, x141, x142, x143, x144, x145, x146, x147, x148, x149, x150, x151, x152, x153, x154, x155, x156, x157, x158, x159, x160, x161, x162, x163, x164, x165, x166, x167, x168, x169, x170, x171, x172, x173, x174, x175, x176, x177, x178, x179, x180, x181, x182, x183, x184, x185, x186, x187, x188, x189, x190, x191, x192, x193, x194, x195, x196, x197, x198, x199, x200, x201, x202, x203, x204, x205, x206, x207, x208, x209, x210, x211, x212, x213, x214, x215, x216, x217, x218, x219, x220, x221, x222, x223, x224, x225, x226, x227], []⟩ wr := by
 have HX := Lib.hid hX
 have HR := Lib.hid hR
 have HC := Lib.hid hC
 have HT := Lib.hid hT
 have HRET := Lib.hid hret
 have hst := hT.step.trans (operate_mask hop)
 have HN := Lib.hid hN
 clear hN
 obtain ⟨many, hmany⟩ : ∃ b, decide (t.stack.length % 2 = 1) = b := ⟨_, rfl⟩
 have hql := behind_list t f.w1 t.stack many
 have hqs := behind_stems t f.w1 t.stack many
 have hcl := told_d (.slice L.za L.zn L.zc) (.slice L.la f.locals.length L.lc) (.slice L.ga f.globals.length L.gc) f.w0 f.w1 K.sa K.sc K.oa K.oc t many wr hX.opds hX.cap (by have := hT.few; omega) (by rw [← hmany]; simp; omega) hT.small ⟨_, _, _, rfl⟩ ⟨_, _, _, rfl⟩ ⟨_, _, _, rfl⟩ hC.font.wid
 obtain ⟨q, hq⟩ : ∃ q : MS, { (t.behind f.w1 t.stack many).2 with stack := (t.behind f.w1 t.stack many).1 } = q := ⟨_, rfl⟩
 have HQO : Hid (q.out = t.out) := by rw [← hq]; exact hqs.2.1
 have HQF : Hid (q.fault = 0) := by rw [← hq]; exact hqs.2.2.2.2.2.2.1.trans hT.fault
 have HQR : Hid (q.rows = ⟨b, pp, false⟩ :: rest) := by rw [← hq]; exact hqs.2.2.2.1.trans hT.rows
 have HQE : Hid (q.ended = false) := by rw [← hq]; exact hqs.2.2.2.2.2.2.2.trans hT.ended
 have HQS : Hid (q.stems ≤ 96) := by rw [← hq]; exact Nat.le_trans (Nat.le_of_eq hqs.1) hT.stems
 have HQU : Hid (q.fuel = s.fuel + 1) := by rw [← hq]; exact hqs.2.2.2.2.2.1.trans hT.fuel
 have HQL : Hid (q.stack.length ≤ 48) := by rw [← hq]; exact Nat.le_trans hql.1 hT.few
 rw [hmany, hq] at hst
 rw [hq] at hcl
 have HST := Lib.hid hst
 have HCL := Lib.hid hcl
 have DC : wr.heap[w.heap.size + 1]? = some (.cells #[.slice K.sa t.stack.length K.sc, .slice K.oa t.out.length K.oc, .int .i64 t.x, .int .i64 t.y, .int .i64 (t.knots : Int), .int .i64 ((t.stems : Nat) : Int), .int .i64 ((t.fuel : Nat) : Int), .int .i64 t.width, .bool t.asked] 52 (0, 0)) := hX.dD
 have HDC := Lib.hid DC
 obtain ⟨d0, d1, d2, d3, d4, d5, d6, d7, d8⟩ := blk9 DC
 obtain ⟨f0, f1, f2, f3, f4, f5, f6, f7, f8⟩ := free9 DC
 have FC := hX.dF
 have h0 := blk_cell FC 0 _ rfl
 have h1 := blk_cell FC 1 _ rfl
 have h2 := blk_cell FC 2 _ rfl
 have h3 := blk_cell FC 3 _ rfl
 have h4 := blk_cell FC 4 _ rfl
 have hmod : (((t.stack.length : Int) % 2) == 1) = many := by rw [← hmany]; apply Bool.eq_iff_iff.2; simp; omega
 have HEC := Lib.hid hX.dE
 clear hX hR hC hT hret DC FC hql hqs hcl hq hst hmany
 rcases hop with rfl | rfl
 all_goals
  conv => arg 2; whnf
  go_wp2_with fail
  refine HCL.out.mono ?_
  clear HCL
  rintro e w1 ⟨sb, sd, he, ho1, hc1, hb1⟩
  change e = .returned (.agg #[.slice sb q.stack.length sd, .slice K.oa q.out.length K.oc, .int .i64 q.x, .int .i64 q.y, .int .i64 (q.knots : Int), .int .i64 (q.stems : Int), .int .i64 (q.fuel : Int), .int .i64 q.width, .bool q.asked]) at he
  subst he
  have DC1 := blk_below HDC.out hb1
  have HD1 := Lib.hid DC1
  have HO1 := Lib.hid ho1
  have HC1 := Lib.hid hc1
  have HB1 := Lib.hid hb1
  clear d0 d1 d2 d3 d4 d5 d6 d7 d8 f0 f1 f2 f3 f4 f5 f6 f7 f8 h0 h1 h2 h3 h4 ho1 hc1 hb1
  obtain ⟨c0, c1, c2, c3, c4, c5, c6, c7, c8⟩ := blk9 DC1
  obtain ⟨v0, v1, v2, v3, v4, v5, v6, v7, v8⟩ := free9 DC1
  clear DC1
  go_upto_region 32 with fail
  refine wp_gen _ fun w2 hw2 => ?_
  have hg2 : w1.grownBy w2 (some (w.heap.size + 1)) := by rw [hw2]; exact set9_grown _ _ _ _ _ _ _ _ _ _ _
  have hd2 : w2.heap[w.heap.size + 1]? = some (.cells #[.slice sb q.stack.length sd, .slice K.oa q.out.length K.oc, .int .i64 q.x, .int .i64 q.y, .int .i64 (q.knots : Int), .int .i64 (q.stems : Int), .int .i64 (q.fuel : Int), .int .i64 q.width, .bool q.asked] 52 (0, 0)) := by rw [hw2]; exact set9_blk HD1.out _ _ _ _ _ _ _ _ _
  have hx2 := ExW.turn (s' := q) (K' := ⟨sb, sd, K.oa, K.oc, K.vs⟩) HX.out HC.out.le (HB1.out.mono (Nat.le_trans HC.out.le HX.out.le)) (keepD_bel (Nat.le_refl _) HB1.out) hg2 hd2 (by rw [HQO.out]; exact HX.out.outw.below HB1.out) HO1.out HC1.out
  have HX2 := Lib.hid hx2
  have HEC2 := Lib.hid hx2.dE
  have hlt2 : w.heap.size + 1 < w2.heap.size := blk_lt hd2
  clear hw2 hg2 hx2 c0 c1 c2 c3 c4 c5 c6 c7 c8 v0 v1 v2 v3 v4 v5 v6 v7 v8
  clear hmod
  by_cases hod : q.stack.length % 2 = 1
  ·have HOD := Lib.hid hod
   have z1 : (((q.stack.length : Int) % 2) == 1) = true := by simp; omega
   have EC2 := HEC2.out
   obtain ⟨r0, r1, r2, r3, r4, r5, r6, r7, r8⟩ := blk9 EC2
   obtain ⟨u0, u1, u2, u3, u4, u5, u6, u7, u8⟩ := free9 EC2
   obtain ⟨p0, p1, p2, p3, p4, p5, p6, p7, p8⟩ := blk9 hd2
   clear hod hd2 EC2
   go_wp2_with fail
   refine HRET.out _ _ ?_
   refine ret_gen _ fun w9 hw9 => ?_
   have hg9 : w2.grownBy w9 (some (w.heap.size + 1 + 1)) := by rw [hw9]; exact set9_grown _ _ _ _ _ _ _ _ _ _ _
   have hE9 : w9.heap[w.heap.size + 1 + 1]? = some (.cells #[.slice sb q.stack.length sd, .slice K.oa q.out.length K.oc, .int .i64 q.x, .int .i64 q.y, .int .i64 (q.knots : Int), .int .i64 (q.stems : Int), .int .i64 (q.fuel : Int), .int .i64 q.width, .bool q.asked] 52 (0, 0)) := by rw [hw9]; exact set9_blk HEC2.out _ _ _ _ _ _ _ _ _
   clear hw9
   have hb9 : Below B w w9 := HX2.out.bel.grown hg9 (Nat.le_trans HC.out.le HX2.out.le) (fun k hk => by cases hk; have := HC.out.le; omega)
   have hk9 : KeepD w.heap.size w w9 := HX2.out.keep.trans (keepD_new hg9 (by omega))
   refine retx rfl rfl rfl rfl hE9 ?_
   exact exec_err (K := ⟨sb, sd, K.oa, K.oc, K.vs⟩) (s2 := q) HR.out HC.out.font.fit HST.out ((mask_fault (by rw [stemF_81 HQF.out HOD.out]; decide)).trans (stemF_81 HQF.out HOD.out)) (by decide) rfl hb9 hk9
  ·have hev : q.stack.length % 2 = 0 := by omega
   have HEV := Lib.hid hev
   have z1 : (((q.stack.length : Int) % 2) == 1) = false := by simp; omega
   have hwa : wrap64 ((q.stack.length : Int) / 2) = ((q.stack.length / 2 : Nat) : Int) := by have := HQL.out; unfold wrap64; omega
   have hwb : wrap64 ((q.stems : Int) + ((q.stack.length / 2 : Nat) : Int)) = ((q.stems + q.stack.length / 2 : Nat) : Int) := by have := HQL.out; have := HQS.out; unfold wrap64; omega
   have hwc : wrap64 ((q.stems : Int) + (q.stack.length : Int) / 2) = ((q.stems + q.stack.length / 2 : Nat) : Int) := by have := HQL.out; have := HQS.out; unfold wrap64; omega
   obtain ⟨p0, p1, p2, p3, p4, p5, p6, p7, p8⟩ := blk9 hd2
   obtain ⟨y0, y1, y2, y3, y4, y5, y6, y7, y8⟩ := free9 hd2
   have HD2 := Lib.hid hd2
   clear hod hev hd2
   go_upto_region 36 with fail
   refine wp_gen _ fun w3 hw3 => ?_
   have hg3 : w2.grownBy w3 (some (w.heap.size + 1)) := by rw [hw3]; exact grown_trans (grown_set w2 (w.heap.size + 1) 5 _) (grown_set _ (w.heap.size + 1) 0 _)
   have hd3 : w3.heap[w.heap.size + 1]? = some (.cells #[.slice none 0 0, .slice K.oa q.out.length K.oc, .int .i64 q.x, .int .i64 q.y, .int .i64 (q.knots : Int), .int .i64 ((q.stems + q.stack.length / 2 : Nat) : Int), .int .i64 (q.fuel : Int), .int .i64 q.width, .bool q.asked] 52 (0, 0)) := by rw [hw3]; have h := blk_set (blk_set HD2.out 5 (.int .i64 ((q.stems + q.stack.length / 2 : Nat) : Int))) 0 (.slice none 0 0); simp at h; simpa using h
   have hx3 := ExW.turn (s' := { q with stems := q.stems + q.stack.length / 2, stack := [] }) (K' := ⟨none, 0, K.oa, K.oc, K.vs⟩) HX2.out HC.out.le (Below.refl _ _) (KeepD.refl _ _) hg3 hd3 HX2.out.outw (Opds.nil _ _) (Nat.le_refl _)
   have HX3 := Lib.hid hx3
   have HEC3 := Lib.hid hx3.dE
   clear hw3 hg3 hx3 p0 p1 p2 p3 p4 p5 p6 p7 p8 y0 y1 y2 y3 y4 y5 y6 y7 y8 hwa hwb hwc
   by_cases hsb : 96 < q.stems + q.stack.length / 2
   ·have HSB := Lib.hid hsb
    have z2 : (96 : Int) < ((q.stems + q.stack.length / 2 : Nat) : Int) := by omega
    have EC3 := HEC3.out
    obtain ⟨r0, r1, r2, r3, r4, r5, r6, r7, r8⟩ := blk9 EC3
    obtain ⟨u0, u1, u2, u3, u4, u5, u6, u7, u8⟩ := free9 EC3
    obtain ⟨p0, p1, p2, p3, p4, p5, p6, p7, p8⟩ := blk9 hd3
    clear hsb hd3 EC3
    go_wp2_with fail
    refine HRET.out _ _ ?_
    refine ret_gen _ fun w9 hw9 => ?_
    have hg9 : w3.grownBy w9 (some (w.heap.size + 1 + 1)) := by rw [hw9]; exact set9_grown _ _ _ _ _ _ _ _ _ _ _
    have hE9 : w9.heap[w.heap.size + 1 + 1]? = some (.cells #[.slice none 0 0, .slice K.oa q.out.length K.oc, .int .i64 q.x, .int .i64 q.y, .int .i64 (q.knots : Int), .int .i64 ((q.stems + q.stack.length / 2 : Nat) : Int), .int .i64 (q.fuel : Int), .int .i64 q.width, .bool q.asked] 52 (0, 0)) := by rw [hw9]; exact set9_blk HEC3.out _ _ _ _ _ _ _ _ _
    clear hw9
    have hb9 : Below B w w9 := HX3.out.bel.grown hg9 (Nat.le_trans HC.out.le HX3.out.le) (fun k hk => by cases hk; have := HC.out.le; omega)
    have hk9 : KeepD w.heap.size w w9 := HX3.out.keep.trans (keepD_new hg9 (by omega))
    refine retx rfl rfl rfl rfl hE9 ?_
    exact exec_err (K := ⟨none, 0, K.oa, K.oc, K.vs⟩) (s2 := { q with stems := q.stems + q.stack.length / 2, stack := [] }) HR.out HC.out.font.fit HST.out ((mask_fault (by rw [stemF_83 HQF.out HEV.out HSB.out]; decide)).trans (stemF_83 HQF.out HEV.out HSB.out)) (by decide) rfl hb9 hk9
   ·have z2 : ¬ (96 : Int) < ((q.stems + q.stack.length / 2 : Nat) : Int) := by omega
    have HSO := Lib.hid (stemF_ok HEV.out hsb)
    have HNB : Hid (q.stems + q.stack.length / 2 ≤ 96) := by unfold Hid; omega
    obtain ⟨p0, p1, p2, p3, p4, p5, p6, p7, p8⟩ := blk9 hd3
    rw [HSO.out] at HST
    generalize hns : q.stems + q.stack.length / 2 = ns at *
    have HWR := Lib.hid (mask_wraps ns pp HNB.out (Nat.le_trans HT.out.ple HC.out.size))
    have HFU : Hid (s.fuel < q.fuel) := by have := HQU.out; unfold Hid; omega
    by_cases hin : pp + (ns + 7) / 8 ≤ b.size
    ·have z3 : ¬ (b.size : Int) < ((pp + (ns + 7) / 8 : Nat) : Int) := by omega
     have HMI := mask_in (q := { q with stems := ns, stack := [] }) (b := b) (pp := pp) (rest := rest) HQR.out hin
     rw [HMI] at HST
     have HRN : Hid (RunF f s0 b rest (pp + (ns + 7) / 8) { q with stems := ns, stack := [], rows := ⟨b, pp + (ns + 7) / 8, false⟩ :: rest } (k + 1)) := HR.out.next HC.out.font.fit HST.out HQF.out HQE.out rfl
     have HXN : Hid (ExW f B L w { q with stems := ns, stack := [], rows := ⟨b, pp + (ns + 7) / 8, false⟩ :: rest } ⟨none, 0, K.oa, K.oc, K.vs⟩ w3) := ⟨HX3.out.dF, HX3.out.dD, HX3.out.dE, HX3.out.outw, HX3.out.opds, HX3.out.cap, HX3.out.bel, HX3.out.keep⟩
     clear hsb hd3 hin HMI
     generalize hp9 : pp + (ns + 7) / 8 = p9 at *
     clear hp9
     have hwg := HWR.out
     go_wp2_with fail
     exact HN.out _ _ _ _ _ _ HRN.out HXN.out HFU.out ⟨_, _, _, _, _, _, _, _, _, _, _, _, _, _, _, _, _, _, _, _, _, _, _, _, _, _, _, _, _, _, _, _, _, _, _, _, _, _, _, _, _, _, _, _, _, _, _, _, _, _, _, _, _, _, _, _, _, _, _, _, _, _, _, _, _, _, _, _, _, _, _, _, _, _, _, _, _, _, _, _, _, _, _, _, _, _, _, _, _, _, _, _, _, _, _, _, _, _, _, _, _, _, _, _, _, _, _, _, _, _, _, _, _, _, _, _, _, _, _, _, _, _, _, _, _, _, _, _, _, _, _, _, _, _, _, _, _, _, _, _, _, _, _, _, _, _, _, _, _, _, _, _, _, _, _, _, _, _, _, _, _, _, _, _, _, _, _, _, _, _, _, _, _, _, _, _, _, _, _, _, _, _, _, _, _, _, _, _, _, _, _, _, _, _, _, _, _, _, _, _, _, _, _, _, _, _, _, _, _, _, _, _, _, _, _, _, rfl⟩
    ·have z3 : (b.size : Int) < ((pp + (ns + 7) / 8 : Nat) : Int) := by omega
     have HMO := Lib.hid (mask_out (q := { q with stems := ns, stack := [] }) (b := b) (pp := pp) (rest := rest) HQR.out HQF.out (by show b.size < pp + (ns + 7) / 8; omega))
     have EC3 := HEC3.out
     obtain ⟨r0, r1, r2, r3, r4, r5, r6, r7, r8⟩ := blk9 EC3
     obtain ⟨u0, u1, u2, u3, u4, u5, u6, u7, u8⟩ := free9 EC3
     clear hsb hd3 hin EC3
     generalize hp9 : pp + (ns + 7) / 8 = p9 at *
     clear hp9
     have hwg := HWR.out
     go_wp2_with fail
     refine HRET.out _ _ ?_
     refine ret_gen _ fun w9 hw9 => ?_
     have hg9 : w3.grownBy w9 (some (w.heap.size + 1 + 1)) := by rw [hw9]; exact set9_grown _ _ _ _ _ _ _ _ _ _ _
     have hE9 : w9.heap[w.heap.size + 1 + 1]? = some (.cells #[.slice none 0 0, .slice K.oa q.out.length K.oc, .int .i64 q.x, .int .i64 q.y, .int .i64 (q.knots : Int), .int .i64 (ns : Int), .int .i64 (q.fuel : Int), .int .i64 q.width, .bool q.asked] 52 (0, 0)) := by rw [hw9]; exact set9_blk HEC3.out _ _ _ _ _ _ _ _ _
     clear hw9
     have hb9 : Below B w w9 := HX3.out.bel.grown hg9 (Nat.le_trans HC.out.le HX3.out.le) (fun k hk => by cases hk; have := HC.out.le; omega)
     have hk9 : KeepD w.heap.size w w9 := HX3.out.keep.trans (keepD_new hg9 (by omega))
     refine retx rfl rfl rfl rfl hE9 ?_
     exact exec_err (K := ⟨none, 0, K.oa, K.oc, K.vs⟩) (s2 := { q with stems := ns, stack := [] }) HR.out HC.out.font.fit HST.out HMO.out (by decide) rfl hb9 hk9
end Go.Proofs.YtklenppldblbdaaGreat
