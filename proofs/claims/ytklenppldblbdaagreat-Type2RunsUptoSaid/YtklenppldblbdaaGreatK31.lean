import Derived.Test.YtklenppldblbdaaGreatK29
set_option linter.unusedSimpArgs false
set_option linter.unusedVariables false
namespace Go.Proofs.YtklenppldblbdaaGreat
open Go.RowKit Go.PlainAid
variable {x0 x1 x2 x3 x4 x5 x6 x7 x8 x9 x10 x11 x12 x13 x14 x15 x16 x17 x18 x19 x20 x21 x22 x23 x24 x25 x26 x27 x28 x29 x30 x31 x32 x33 x34 x35 x36 x37 x38 x39 x40 x41 x42 x43 x44 x45 x46 x47 x48 x49 x50 x51 x52 x53 x54 x55 x56 x57 x58 x59 x60 x61 x62 x63 x64 x65 x66 x67 x68 x69 x70 x71 x72 x73 x74 x75 x76 x77 x78 x79 x80 x81 x82 x83 x84 x85 x86 x87 x88 x89 x90 x91 x92 x93 x94 x95 x96 x97 x98 x99 x100 x101 x102 x103 x104 x105 x106 x107 x108 x109 x110 x111 x112 x113 x114 x115 x116 x117 x118 x119 x120 x121 x122 x123 x124 x125 x126 x127 x128 x129 x130 x131 x132 x133 x134 x135 x136 x137 x138 x139 x140 x141 x142 x143 x144 x145 x146 x147 x148 x149 x150 x151 x152 x153 x154 x155 x156 x157 x158 x159 x160 x161 x162 x163 x164 x165 x166 x167 x168 x169 x170 x171 x172 x173 x174 x175 x176 x177 x178 x179 x180 x181 x182 x183 x184 x185 x186 x187 x188 x189 x190 x191 x192 x193 x194 x195 x196 x197 x198 x199 x200 x201 x202 x203 x204 x205 x206 x207 x208 x209 x210 x211 x212 x213 x214 x215 x216 x217 x218 x219 x220 x221 x222 x223 x224 x225 x226 x227 : Value}
set_option maxRecDepth 1000000 in
set_option maxHeartbeats 4000000 in
theorem t_end (f : FS) (B : Nat) (L : FLt) (b : ByteArray) (ba : Option Addr) (bc j : Nat) (w wr : World) (s0 : MS) (rest : List Rw) (Q : Exit → Act → World → Prop) (hC : Ctx f B L b ba bc w) (p k : Nat) (s : MS) (K : SLt) (hR : RunF f s0 b rest p s k) (t : MS) (pp : Nat) (hT : StepT f b rest pp s t 14) (hX : ExW f B L w t K wr) (hret : ∀ a' w', RetX (ExecPost f B s0 w) a' w' → Q .ret a' w') :
 Code.wp Tryz.prog t22 Q ⟨#[x0, x1, .slice ba b.size bc, .int .i64 (j : Int), .pointer (some ⟨w.heap.size, 0, none⟩), .pointer (some ⟨w.heap.size + 1, 0, none⟩), x6, x7, .pointer (some ⟨w.heap.size + 1 + 1, 0, none⟩), x9, x10, .int .i64 (pp : Int), x12, x13, .int .i64 14, x15, x16, x17, x18, x19, x20, x21, x22, x23, x24, x25, x26, x27, x28, x29, x30, x31, x32, x33, x34, x35, x36, x37, x38, x39, x40, x41, x42, x43, x44, x45, x46, x47, x48, x49, x50, x51, x52, x53, x54, x55, x56, x57, x58, x59, x60, x61, x62, x63, x64, x65, x66, x67, x68, x69, x70, x71, x72, x73, x74, x75, x76, x77, x78, x79, x80, x81, x82, x83, x84, x85, x86, x87, x88, x89, x90, x91, x92, x93, x94, x95, x96, x97, x98, x99, x100, x101, x102, x103, x104, x105, x106, x107, x108, x109, x110, x111, x112, x113, x114, x115, x116, x117, x118, x119, x120, x121, x122, x123, x124, x125, x126, x127, x128, x129, x130, x131, x132, x133, x134, x135, x136, x137, x138, x139, x140, x141, x142, x143, x144, x145, x146, x147, x148, x149, x150, x151, x152, x153, x154, x155, x156, x157, x158, x159, x160, x161, x162, x163, x164, x165, x166, x167, x168, x169, x170, x171, x172, x173, x174, x175, x176, x177, x178, x179, x180, x181, x182, x183, x184, x185, x186, x187, x188, x189, x190, x191, x192, x193, x194, x195, x196, x197, x198, x199, x200, x201, x202, x203, x204, x205, x206, x207, x208, x209, x210, x211, x212, x213, x214, x215, x216, x217, x218, x219, x220, x221, x222, x223, x224, x225, x226, x227], []⟩ wr := by
 have HX := Lib.hid hX
 have HR := Lib.hid hR
 have HC := Lib.hid hC
 have HT := Lib.hid hT
 have HRET := Lib.hid hret
 have hst := hT.step.trans operate_end
 obtain ⟨many, hmany⟩ : ∃ b, (decide (t.stack.length = 1) || decide (t.stack.length = 5)) = b := ⟨_, rfl⟩
 have hql := behind_list t f.w1 t.stack many
 have hqs := behind_stems t f.w1 t.stack many
 have hcl := told_d (.slice L.za L.zn L.zc) (.slice L.la f.locals.length L.lc) (.slice L.ga f.globals.length L.gc) f.w0 f.w1 K.sa K.sc K.oa K.oc t many wr hX.opds hX.cap (by have := hT.few; omega) (by rw [← hmany]; simp; omega) hT.small ⟨_, _, _, rfl⟩ ⟨_, _, _, rfl⟩ ⟨_, _, _, rfl⟩ hC.font.wid
 obtain ⟨q, hq⟩ : ∃ q : MS, { (t.behind f.w1 t.stack many).2 with stack := (t.behind f.w1 t.stack many).1 } = q := ⟨_, rfl⟩
 have HQO : Hid (q.out = t.out) := by rw [← hq]; exact hqs.2.1
 have HQF : Hid (q.fault = 0) := by rw [← hq]; exact hqs.2.2.2.2.2.2.1.trans hT.fault
 have HQR : Hid (q.rows = ⟨b, pp, false⟩ :: rest) := by rw [← hq]; exact hqs.2.2.2.1.trans hT.rows
 have HQE : Hid (q.ended = false) := by rw [← hq]; exact hqs.2.2.2.2.2.2.2.trans hT.ended
 have HQS : Hid (q.stems ≤ 96) := by rw [← hq]; exact Nat.le_trans (Nat.le_of_eq hqs.1) hT.stems
 have HQU : Hid (q.fuel = s.fuel + 1) := by rw [← hq]; exact hqs.2.2.2.2.2.1.trans hT.fuel
 have HQL : Hid (q.stack.length ≤ 48) := by rw [← hq]; exact Nat.le_trans hql.1 hT.few
 rw [hmany, hq] at hst
 rw [hq] at hcl
 have HST := Lib.hid hst
 have HCL := Lib.hid hcl
 have DC : wr.heap[w.heap.size + 1]? = some (.cells #[.slice K.sa t.stack.length K.sc, .slice K.oa t.out.length K.oc, .int .i64 t.x, .int .i64 t.y, .int .i64 (t.knots : Int), .int .i64 ((t.stems : Nat) : Int), .int .i64 ((t.fuel : Nat) : Int), .int .i64 t.width, .bool t.asked] 52 (0, 0)) := hX.dD
 have HDC := Lib.hid DC
 obtain ⟨d0, d1, d2, d3, d4, d5, d6, d7, d8⟩ := blk9 DC
 obtain ⟨f0, f1, f2, f3, f4, f5, f6, f7, f8⟩ := free9 DC
 have FC := hX.dF
 have h0 := blk_cell FC 0 _ rfl
 have h1 := blk_cell FC 1 _ rfl
 have h2 := blk_cell FC 2 _ rfl
 have h3 := blk_cell FC 3 _ rfl
 have h4 := blk_cell FC 4 _ rfl
 have HEC := Lib.hid hX.dE
 clear hX hR hC hT hret DC FC hql hqs hcl hq hst 
 have hcase : (many = true ∧ ((t.stack.length : Int) == 1) = true) ∨ (many = true ∧ ((t.stack.length : Int) == 1) = false ∧ ((t.stack.length : Int) == 5) = true) ∨ (many = false ∧ ((t.stack.length : Int) == 1) = false ∧ ((t.stack.length : Int) == 5) = false) := by
  rw [← hmany]
  by_cases e1 : t.stack.length = 1
  ·exact .inl ⟨by simp [e1], by simp; omega⟩
  ·by_cases e5 : t.stack.length = 5
   ·exact .inr (.inl ⟨by simp [e5], by simp; omega, by simp; omega⟩)
   ·exact .inr (.inr ⟨by simp [e1, e5], by simp; omega, by simp; omega⟩)
 clear hmany
 rcases hcase with ⟨rfl, m1⟩ | ⟨rfl, m1, m5⟩ | ⟨rfl, m1, m5⟩
 all_goals
  conv => arg 2; whnf
  go_wp2_with fail
  refine HCL.out.mono ?_
  clear HCL
  rintro e w1 ⟨sb, sd, he, ho1, hc1, hb1⟩
  change e = .returned (.agg #[.slice sb q.stack.length sd, .slice K.oa q.out.length K.oc, .int .i64 q.x, .int .i64 q.y, .int .i64 (q.knots : Int), .int .i64 (q.stems : Int), .int .i64 (q.fuel : Int), .int .i64 q.width, .bool q.asked]) at he
  subst he
  have DC1 := blk_below HDC.out hb1
  have HD1 := Lib.hid DC1
  have HO1 := Lib.hid ho1
  have HC1 := Lib.hid hc1
  have HB1 := Lib.hid hb1
  clear d0 d1 d2 d3 d4 d5 d6 d7 d8 f0 f1 f2 f3 f4 f5 f6 f7 f8 h0 h1 h2 h3 h4 ho1 hc1 hb1
  obtain ⟨c0, c1, c2, c3, c4, c5, c6, c7, c8⟩ := blk9 DC1
  obtain ⟨v0, v1, v2, v3, v4, v5, v6, v7, v8⟩ := free9 DC1
  clear DC1
  go_upto_region 67 with fail
  refine wp_gen _ fun w2 hw2 => ?_
  have hg2 : w1.grownBy w2 (some (w.heap.size + 1)) := by rw [hw2]; exact set9_grown _ _ _ _ _ _ _ _ _ _ _
  have hd2 : w2.heap[w.heap.size + 1]? = some (.cells #[.slice sb q.stack.length sd, .slice K.oa q.out.length K.oc, .int .i64 q.x, .int .i64 q.y, .int .i64 (q.knots : Int), .int .i64 (q.stems : Int), .int .i64 (q.fuel : Int), .int .i64 q.width, .bool q.asked] 52 (0, 0)) := by rw [hw2]; exact set9_blk HD1.out _ _ _ _ _ _ _ _ _
  have hx2 := ExW.turn (s' := q) (K' := ⟨sb, sd, K.oa, K.oc, K.vs⟩) HX.out HC.out.le (HB1.out.mono (Nat.le_trans HC.out.le HX.out.le)) (keepD_bel (Nat.le_refl _) HB1.out) hg2 hd2 (by rw [HQO.out]; exact HX.out.outw.below HB1.out) HO1.out HC1.out
  have HX2 := Lib.hid hx2
  have HEC2 := Lib.hid hx2.dE
  have hlt2 : w.heap.size + 1 < w2.heap.size := blk_lt hd2
  clear hw2 hg2 hx2 c0 c1 c2 c3 c4 c5 c6 c7 c8 v0 v1 v2 v3 v4 v5 v6 v7 v8
  by_cases h4 : q.stack.length = 4
  ·have HF : Hid ((endF q).fault = 82) := by unfold Hid endF; rw [if_neg (by omega), if_pos h4]; exact fault_of (s := { q with stack := [] }) HQF.out 82
   have z1 : ((q.stack.length : Int) == 4) = true := by simp; omega
   have EC2 := HEC2.out
   obtain ⟨r0, r1, r2, r3, r4, r5, r6, r7, r8⟩ := blk9 EC2
   obtain ⟨u0, u1, u2, u3, u4, u5, u6, u7, u8⟩ := free9 EC2
   obtain ⟨p0, p1, p2, p3, p4, p5, p6, p7, p8⟩ := blk9 hd2
   clear h4 hd2 EC2
   go_wp2_with fail
   refine HRET.out _ _ ?_
   refine ret_gen _ fun w9 hw9 => ?_
   have hg9 : w2.grownBy w9 (some (w.heap.size + 1 + 1)) := by rw [hw9]; exact set9_grown _ _ _ _ _ _ _ _ _ _ _
   have hE9 : w9.heap[w.heap.size + 1 + 1]? = some (.cells #[.slice sb q.stack.length sd, .slice K.oa q.out.length K.oc, .int .i64 q.x, .int .i64 q.y, .int .i64 (q.knots : Int), .int .i64 (q.stems : Int), .int .i64 (q.fuel : Int), .int .i64 q.width, .bool q.asked] 52 (0, 0)) := by rw [hw9]; exact set9_blk HEC2.out _ _ _ _ _ _ _ _ _
   clear hw9
   have hb9 : Below B w w9 := HX2.out.bel.grown hg9 (Nat.le_trans HC.out.le HX2.out.le) (fun k hk => by cases hk; have := HC.out.le; omega)
   have hk9 : KeepD w.heap.size w w9 := HX2.out.keep.trans (keepD_new hg9 (by omega))
   refine retx rfl rfl rfl rfl hE9 ?_
   exact exec_err (K := ⟨sb, sd, K.oa, K.oc, K.vs⟩) (s2 := q) HR.out HC.out.font.fit HST.out HF.out (by decide) rfl hb9 hk9
  ·have z1 : ((q.stack.length : Int) == 4) = false := by simp; omega
   by_cases h5 : q.stack.length = 0
   ·have HE : Hid (endF q = { q with ended := true, stack := [] }) := by unfold Hid endF; rw [if_pos h5]
    rw [HE.out] at HST
    have z2 : ((q.stack.length : Int) == 0) = true := beq_iff_eq.2 (by omega)
    have HQ0 : Hid (q.stack = []) := List.eq_nil_of_length_eq_zero h5
    have EC2 := HEC2.out
    obtain ⟨r0, r1, r2, r3, r4, r5, r6, r7, r8⟩ := blk9 EC2
    obtain ⟨u0, u1, u2, u3, u4, u5, u6, u7, u8⟩ := free9 EC2
    obtain ⟨p0, p1, p2, p3, p4, p5, p6, p7, p8⟩ := blk9 hd2
    clear h4 h5 hd2 EC2
    go_wp2_with fail
    refine HRET.out _ _ ?_
    refine ret_gen _ fun w9 hw9 => ?_
    have hg9 : w2.grownBy w9 (some (w.heap.size + 1 + 1)) := by rw [hw9]; exact set9_grown _ _ _ _ _ _ _ _ _ _ _
    have hE9 : w9.heap[w.heap.size + 1 + 1]? = some (.cells #[.slice sb q.stack.length sd, .slice K.oa q.out.length K.oc, .int .i64 q.x, .int .i64 q.y, .int .i64 (q.knots : Int), .int .i64 (q.stems : Int), .int .i64 (q.fuel : Int), .int .i64 q.width, .bool q.asked] 52 (0, 0)) := by rw [hw9]; exact set9_blk HEC2.out _ _ _ _ _ _ _ _ _
    clear hw9
    have hb9 : Below B w w9 := HX2.out.bel.grown hg9 (Nat.le_trans HC.out.le HX2.out.le) (fun k hk => by cases hk; have := HC.out.le; omega)
    have hk9 : KeepD w.heap.size w w9 := HX2.out.keep.trans (keepD_new hg9 (by omega))
    refine retx rfl rfl rfl rfl hE9 ?_
    exact exec_ok (K := ⟨sb, sd, K.oa, K.oc, K.vs⟩) HR.out HC.out.font.fit HST.out HQF.out (fun e => by cases e) rfl (by unfold stV; rw [HQ0.out]) (HX2.out.outw.chg hg9 (typ_blk HEC2.out) (by decide) (by decide)) (Opds.nil _ _) (Nat.zero_le _) hb9 hk9
   ·have HF : Hid ((endF q).fault = 81) := by unfold Hid endF; rw [if_neg h5, if_neg h4]; exact fault_of (s := { q with stack := [] }) HQF.out 81
    have z2 : ((q.stack.length : Int) == 0) = false := beq_eq_false_iff_ne.2 (by omega)
    have EC2 := HEC2.out
    obtain ⟨r0, r1, r2, r3, r4, r5, r6, r7, r8⟩ := blk9 EC2
    obtain ⟨u0, u1, u2, u3, u4, u5, u6, u7, u8⟩ := free9 EC2
    obtain ⟨p0, p1, p2, p3, p4, p5, p6, p7, p8⟩ := blk9 hd2
    clear h4 h5 hd2 EC2
    go_wp2_with fail
    refine HRET.out _ _ ?_
    refine ret_gen _ fun w9 hw9 => ?_
    have hg9 : w2.grownBy w9 (some (w.heap.size + 1 + 1)) := by rw [hw9]; exact set9_grown _ _ _ _ _ _ _ _ _ _ _
    have hE9 : w9.heap[w.heap.size + 1 + 1]? = some (.cells #[.slice sb q.stack.length sd, .slice K.oa q.out.length K.oc, .int .i64 q.x, .int .i64 q.y, .int .i64 (q.knots : Int), .int .i64 (q.stems : Int), .int .i64 (q.fuel : Int), .int .i64 q.width, .bool q.asked] 52 (0, 0)) := by rw [hw9]; exact set9_blk HEC2.out _ _ _ _ _ _ _ _ _
    clear hw9
    have hb9 : Below B w w9 := HX2.out.bel.grown hg9 (Nat.le_trans HC.out.le HX2.out.le) (fun k hk => by cases hk; have := HC.out.le; omega)
    have hk9 : KeepD w.heap.size w w9 := HX2.out.keep.trans (keepD_new hg9 (by omega))
    refine retx rfl rfl rfl rfl hE9 ?_
    exact exec_err (K := ⟨sb, sd, K.oa, K.oc, K.vs⟩) (s2 := q) HR.out HC.out.font.fit HST.out HF.out (by decide) rfl hb9 hk9
end Go.Proofs.YtklenppldblbdaaGreat
