import Derived.Test.YtklenppldblbdaaGreatK28
set_option linter.unusedSimpArgs false
set_option linter.unusedVariables false
namespace Go.Proofs.YtklenppldblbdaaGreat
open Go.RowKit Go.PlainAid
variable {x0 x1 x2 x3 x4 x5 x6 x7 x8 x9 x10 x11 x12 x13 x14 x15 x16 x17 x18 x19 x20 x21 x22 x23 x24 x25 x26 x27 x28 x29 x30 x31 x32 x33 x34 x35 x36 x37 x38 x39 x40 x41 x42 x43 x44 x45 x46 x47 x48 x49 x50 x51 x52 x53 x54 x55 x56 x57 x58 x59 x60 x61 x62 x63 x64 x65 x66 x67 x68 x69 x70 x71 x72 x73 x74 x75 x76 x77 x78 x79 x80 x81 x82 x83 x84 x85 x86 x87 x88 x89 x90 x91 x92 x93 x94 x95 x96 x97 x98 x99 x100 x101 x102 x103 x104 x105 x106 x107 x108 x109 x110 x111 x112 x113 x114 x115 x116 x117 x118 x119 x120 x121 x122 x123 x124 x125 x126 x127 x128 x129 x130 x131 x132 x133 x134 x135 x136 x137 x138 x139 x140 x141 x142 x143 x144 x145 x146 x147 x148 x149 x150 x151 x152 x153 x154 x155 x156 x157 x158 x159 x160 x161 x162 x163 x164 x165 x166 x167 x168 x169 x170 x171 x172 x173 x174 x175 x176 x177 x178 x179 x180 x181 x182 x183 x184 x185 x186 x187 x188 x189 x190 x191 x192 x193 x194 x195 x196 x197 x198 x199 x200 x201 x202 x203 x204 x205 x206 x207 x208 x209 x210 x211 x212 x213 x214 x215 x216 x217 x218 x219 x220 x221 x222 x223 x224 x225 x226 x227 : Value}
structure StepT (f : FS) (b : ByteArray) (rest : List Rw) (pp : Nat) (s t : MS) (op : Int) : Prop where
 rows : t.rows = ⟨b, pp, false⟩ :: rest
 fault : t.fault = 0
 ended : t.ended = false
 pen : PenFit t
 few : t.stack.length ≤ 48
 small : Fit32 t.stack
 stems : t.stems ≤ 96
 fuel : t.fuel = s.fuel + 1
 step : s.step f = t.operate f op
 ple : pp ≤ b.size
theorem begin_rest (t : MS) (w1 op : Int) (l : List Int) : (t.begin w1 op l).rows = t.rows ∧ (t.begin w1 op l).ended = t.ended := by
 unfold MS.begin
 simp only []
 generalize (if op = 21 then 2 else 1) = kk
 have hb := behind_stems t w1 l (decide (l.length = kk + 1))
 generalize t.behind w1 l (decide (l.length = kk + 1)) = q at *
 have h1 := hb.2.2.2.1
 have h2 := hb.2.2.2.2.2.2.2
 have hr : ∀ v, Rest q.2 v → v.rows = t.rows ∧ v.ended = t.ended := fun v h => ⟨h.rows.trans h1, h.ended.trans h2⟩
 split
 ·exact hr _ (Rest.refuse _ _)
 split
 ·exact hr _ (Rest.move _ _ _)
 split
 ·exact hr _ (Rest.move _ _ _)
 split
 ·exact hr _ (Rest.move _ _ _)
 ·exact ⟨h1, h2⟩
theorem operate_move {f : FS} {op : Int} {t : MS} (h : op = 21 ∨ op = 22 ∨ op = 4) : t.operate f op = { t.begin f.w1 op t.stack with stack := [] } := by
 rcases h with rfl | rfl | rfl <;> (unfold MS.operate MS.take; simp)
theorem operate_draw {f : FS} {op : Int} {t : MS} (h : ¬ (op = 1 ∨ op = 3 ∨ op = 18 ∨ op = 23 ∨ op = 19 ∨ op = 20 ∨ op = 21 ∨ op = 22 ∨ op = 4 ∨ op = 10 ∨ op = 29 ∨ op = 11 ∨ op = 14)) : t.operate f op = { t.draw op t.stack with stack := [] } := by
 unfold MS.operate MS.take
 rw [if_neg (by omega), if_neg (by omega), if_neg (by omega), if_neg (by omega), if_neg (by omega), if_neg (by omega), if_neg (by omega)]
theorem operate_leave {f : FS} {t : MS} : t.operate f 11 = t.leave := by unfold MS.operate; simp
set_option maxRecDepth 1000000 in
set_option maxHeartbeats 4000000 in
theorem t_return (f : FS) (B : Nat) (L : FLt) (b : ByteArray) (ba : Option Addr) (bc j : Nat) (w wr : World) (s0 : MS) (rest : List Rw) (Q : Exit → Act → World → Prop) (hC : Ctx f B L b ba bc w) (p k : Nat) (s : MS) (K : SLt) (hR : RunF f s0 b rest p s k) (t : MS) (pp : Nat) (hT : StepT f b rest pp s t 11) (hX : ExW f B L w t K wr) (hj : rest.length = j) (hret : ∀ a' w', RetX (ExecPost f B s0 w) a' w' → Q .ret a' w') :
 Code.wp Tryz.prog t22 Q ⟨#[x0, x1, .slice ba b.size bc, .int .i64 (j : Int), .pointer (some ⟨w.heap.size, 0, none⟩), .pointer (some ⟨w.heap.size + 1, 0, none⟩), x6, x7, .pointer (some ⟨w.heap.size + 1 + 1, 0, none⟩), x9, x10, .int .i64 (pp : Int), x12, x13, .int .i64 11, x15, x16, x17, x18, x19, x20, x21, x22, x23, x24, x25, x26, x27, x28, x29, x30, x31, x32, x33, x34, x35, x36, x37, x38, x39, x40, x41, x42, x43, x44, x45, x46, x47, x48, x49, x50, x51, x52, x53, x54, x55, x56, x57, x58, x59, x60, x61, x62, x63, x64, x65, x66, x67, x68, x69, x70, x71, x72, x73, x74, x75, x76, x77, x78, x79, x80, x81, x82, x83, x84, x85, x86, x87, x88, x89, x90, x91, x92, x93, x94, x95, x96, x97, x98, x99, x100, x101, x102, x103, x104, x105, x106, x107, x108, x109, x110, x111, x112, x113, x114, x115, x116, x117, x118, x119, x120, x121, x122, x123, x124, x125, x126, x127, x128, x129, x130, x131, x132, x133, x134, x135, x136, x137, x138, x139, x140, x141, x142, x143, x144, x145, x146, x147, x148, x149, x150, x151, x152, x153, x154, x155, x156, x157, x158, x159, x160, x161, x162, x163, x164, x165, x166, x167, x168, x169, x170, x171, x172, x173, x174, x175, x176, x177, x178, x179, x180, x181, x182, x183, x184, x185, x186, x187, x188, x189, x190, x191, x192, x193, x194, x195, x196, x197, x198, x199, x200, x201, x202, x203, x204, x205, x206, x207, x208, x209, x210, x211, x212, x213, x214, x215, x216, x217, x218, x219, x220, x221, x222, x223, x224, x225, x226, x227], []⟩ wr := by
 have HX := Lib.hid hX
 have HR := Lib.hid hR
 have HC := Lib.hid hC
 have HT := Lib.hid hT
 have HRET := Lib.hid hret
 have hst := hT.step.trans operate_leave
 have DC : wr.heap[w.heap.size + 1]? = some (.cells #[.slice K.sa t.stack.length K.sc, .slice K.oa t.out.length K.oc, .int .i64 t.x, .int .i64 t.y, .int .i64 (t.knots : Int), .int .i64 ((t.stems : Nat) : Int), .int .i64 ((t.fuel : Nat) : Int), .int .i64 t.width, .bool t.asked] 52 (0, 0)) := hX.dD
 have HDC := Lib.hid DC
 obtain ⟨d0, d1, d2, d3, d4, d5, d6, d7, d8⟩ := blk9 DC
 obtain ⟨f0, f1, f2, f3, f4, f5, f6, f7, f8⟩ := free9 DC
 have EC := hX.dE
 have HEC := Lib.hid EC
 obtain ⟨e0, e1, e2, e3, e4, e5, e6, e7, e8⟩ := blk9 EC
 obtain ⟨g0, g1, g2, g3, g4, g5, g6, g7, g8⟩ := free9 EC
 by_cases h0 : j = 0
 ·have hs2 : t.leave = t.refuse 81 := by unfold MS.leave; rw [if_pos (by rw [hT.rows, List.length_cons]; omega)]
  rw [hs2] at hst
  have HS := Lib.hid hst
  subst h0
  clear hX hR hC hT hret hst hs2 DC EC hj
  conv => arg 2; whnf
  go_wp2_with fail
  refine HRET.out _ _ ?_
  refine ret_gen _ fun w9 hw9 => ?_
  have hg9 : wr.grownBy w9 (some (w.heap.size + 1 + 1)) := by rw [hw9]; exact set9_grown _ _ _ _ _ _ _ _ _ _ _
  have hE9 : w9.heap[w.heap.size + 1 + 1]? = some (.cells #[.slice K.sa t.stack.length K.sc, .slice K.oa t.out.length K.oc, .int .i64 t.x, .int .i64 t.y, .int .i64 (t.knots : Int), .int .i64 ((t.stems : Nat) : Int), .int .i64 ((t.fuel : Nat) : Int), .int .i64 t.width, .bool t.asked] 52 (0, 0)) := by rw [hw9]; exact set9_blk HEC.out _ _ _ _ _ _ _ _ _
  clear hw9
  have hb9 : Below B w w9 := HX.out.bel.grown hg9 (Nat.le_trans HC.out.le HX.out.le) (fun k hk => by cases hk; have := HC.out.le; omega)
  have hk9 : KeepD w.heap.size w w9 := HX.out.keep.trans (keepD_new hg9 (by omega))
  refine retx rfl rfl rfl rfl hE9 ?_
  exact exec_err (K := K) (s2 := t) HR.out HC.out.font.fit HS.out (by refine fault_of ?_ 81; exact HT.out.fault) (by decide) rfl hb9 hk9
 ·have hs2 : t.leave = { t with rows := rest } := by unfold MS.leave; rw [if_neg (by rw [hT.rows, List.length_cons]; omega), hT.rows]; rfl
  rw [hs2] at hst
  have HS := Lib.hid hst
  have z1 : ((j : Int) == 0) = false := by simp; omega
  clear hX hR hC hT hret hst hs2 DC EC hj h0
  conv => arg 2; whnf
  go_wp2_with fail
  refine HRET.out _ _ ?_
  refine ret_gen _ fun w9 hw9 => ?_
  have hg9 : wr.grownBy w9 (some (w.heap.size + 1 + 1)) := by rw [hw9]; exact set9_grown _ _ _ _ _ _ _ _ _ _ _
  have hE9 : w9.heap[w.heap.size + 1 + 1]? = some (.cells #[.slice K.sa t.stack.length K.sc, .slice K.oa t.out.length K.oc, .int .i64 t.x, .int .i64 t.y, .int .i64 (t.knots : Int), .int .i64 ((t.stems : Nat) : Int), .int .i64 ((t.fuel : Nat) : Int), .int .i64 t.width, .bool t.asked] 52 (0, 0)) := by rw [hw9]; exact set9_blk HEC.out _ _ _ _ _ _ _ _ _
  clear hw9
  have hb9 : Below B w w9 := HX.out.bel.grown hg9 (Nat.le_trans HC.out.le HX.out.le) (fun k hk => by cases hk; have := HC.out.le; omega)
  have hk9 : KeepD w.heap.size w w9 := HX.out.keep.trans (keepD_new hg9 (by omega))
  refine retx rfl rfl rfl rfl hE9 ?_
  exact exec_ok (K := K) HR.out HC.out.font.fit HS.out HT.out.fault (fun _ => rfl) HT.out.ended rfl (HX.out.outw.chg hg9 (typ_blk HEC.out) (by decide) (by decide)) (HX.out.opds.keep (keep_chg hg9 (typ_blk HEC.out) (by decide))) HX.out.cap hb9 hk9
set_option maxRecDepth 1000000 in
set_option maxHeartbeats 4000000 in
theorem t_move (f : FS) (B : Nat) (L : FLt) (b : ByteArray) (ba : Option Addr) (bc j : Nat) (w wr : World) (s0 : MS) (rest : List Rw) (Q : Exit → Act → World → Prop) (hC : Ctx f B L b ba bc w) (p k : Nat) (s : MS) (K : SLt) (hR : RunF f s0 b rest p s k) (t : MS) (pp : Nat) (op : Int) (hT : StepT f b rest pp s t op) (hX : ExW f B L w t K wr) (hop : op = 21 ∨ op = 22 ∨ op = 4) (hret : ∀ a' w', RetX (ExecPost f B s0 w) a' w' → Q .ret a' w')
 (hN : ∀ (s' : MS) (k' p' : Nat) (K' : SLt) a' w', RunF f s0 b rest p' s' k' → ExW f B L w s' K' w' → s.fuel < s'.fuel → FrameOk w b ba bc j p' x0 x1 x6 x7 x9 x10 a' → Q (.normal) a' w') :
 Code.wp Tryz.prog t22 Q ⟨#[x0, x1, .slice ba b.size bc, .int .i64 (j : Int), .pointer (some ⟨w.heap.size, 0, none⟩), .pointer (some ⟨w.heap.size + 1, 0, none⟩), x6, x7, .pointer (some ⟨w.heap.size + 1 + 1, 0, none⟩), x9, x10, .int .i64 (pp : Int), x12, x13, .int .i64 op, x15, x16, x17, x18, x19, x20, x21, x22, x23, x24, x25, x26, x27, x28, x29, x30, x31, x32, x33, x34, x35, x36, x37, x38, x39, x40, x41, x42, x43, x44, x45, x46, x47, x48, x49, x50, x51, x52, x53, x54, x55, x56, x57, x58, x59, x60, x61, x62, x63, x64, x65, x66, x67, x68, x69, x70, x71, x72, x73, x74, x75, x76, x77, x78, x79, x80, x81, x82, x83, x84, x85, x86, x87, x88, x89, x90, x91, x92, x93, x94, x95, x96, x97, x98, x99, x100, x101, x102, x103, x104, x105, x106, x107, x108, x109, x110, x111, x112, x113, x114, x115, x116, x117, x118, x119, x120, x121, x122, x123, x124, x125, x126, x127, x128, x129, x130, x131, x132, x133, x134, x135, x136, x137, x138, x139, x140, x141, x142, x143, x144, x145, x146, x147, x148, x149, x150, x151, x152, x153, x154, x155, x156, x157, x158, x159, x160, x161, x162, x163, x164, x165, x166, x167, x168, x169, x170, x171, x172, x173, x174, x175, x176, x177, x178, x179, x180, x181, x182, x183, x184, x185, x186, x187, x188, x189, x190, x191, x192, x193, x194, x195, x196, x197, x198, x199, x200, x201, x202, x203, x204, x205, x206, x207, x208, x209, x210, x211, x212, x213, x214, x215, x216, x217, x218, x219, x220, x221, x222, x223, x224, x225, x226, x227], []⟩ wr := by
 have HX := Lib.hid hX
 have HR := Lib.hid hR
 have HC := Lib.hid hC
 have HT := Lib.hid hT
 have HRET := Lib.hid hret
 have HN := Lib.hid hN
 have HS := Lib.hid (hT.step.trans (operate_move hop))
 have HKP : Hid (({ t.begin f.w1 op t.stack with stack := [] } : MS).rows = t.rows ∧ ({ t.begin f.w1 op t.stack with stack := [] } : MS).ended = false) := ⟨(begin_rest t f.w1 op t.stack).1, (begin_rest t f.w1 op t.stack).2.trans hT.ended⟩
 have DC : wr.heap[w.heap.size + 1]? = some (.cells #[.slice K.sa t.stack.length K.sc, .slice K.oa t.out.length K.oc, .int .i64 t.x, .int .i64 t.y, .int .i64 (t.knots : Int), .int .i64 ((t.stems : Nat) : Int), .int .i64 ((t.fuel : Nat) : Int), .int .i64 t.width, .bool t.asked] 52 (0, 0)) := hX.dD
 have HDC := Lib.hid DC
 obtain ⟨d0, d1, d2, d3, d4, d5, d6, d7, d8⟩ := blk9 DC
 obtain ⟨f0, f1, f2, f3, f4, f5, f6, f7, f8⟩ := free9 DC
 have FC := hX.dF
 have h0 := blk_cell FC 0 _ rfl
 have h1 := blk_cell FC 1 _ rfl
 have h2 := blk_cell FC 2 _ rfl
 have h3 := blk_cell FC 3 _ rfl
 have h4 := blk_cell FC 4 _ rfl
 have HEC := Lib.hid hX.dE
 have HCL := Lib.hid (move_d op hop (.slice L.za L.zn L.zc) (.slice L.la f.locals.length L.lc) (.slice L.ga f.globals.length L.gc) f.w0 f.w1 B K.sa K.sc K.oa K.oc K.vs t wr hX.outw (Nat.le_trans hC.le hX.le) hT.pen hT.fault hT.small hX.opds hT.few hX.cap ⟨_, _, _, rfl⟩ ⟨_, _, _, rfl⟩ ⟨_, _, _, rfl⟩ hC.font.wid)
 have hltA : w.heap.size + 1 < wr.heap.size := blk_lt DC
 clear hX hR hC hT hret hN DC FC
 rcases hop with rfl | rfl | rfl
 all_goals
  conv => arg 2; whnf
  go_wp2_with fail
  refine HCL.out.mono ?_
  clear HCL
  rintro e w1 ⟨hok, hbad, hb1, hk1⟩
  have DC1 : w1.heap[w.heap.size + 1]? = _ := hk1 _ _ _ _ (blk_lt HDC.out) (by decide) (by decide) HDC.out
  have HD1 := Lib.hid DC1
  have HE1 : Hid (w1.heap[w.heap.size + 1 + 1]? = _) := hk1 _ _ _ _ (blk_lt HEC.out) (by decide) (by decide) HEC.out
  have HB1 := Lib.hid hb1
  have HK1 := Lib.hid hk1
  have hlt1 : w.heap.size + 1 < w1.heap.size := blk_lt DC1
  clear d0 d1 d2 d3 d4 d5 d6 d7 d8 f0 f1 f2 f3 f4 f5 f6 f7 f8 h0 h1 h2 h3 h4 hltA
  obtain ⟨c0, c1, c2, c3, c4, c5, c6, c7, c8⟩ := blk9 DC1
  obtain ⟨v0, v1, v2, v3, v4, v5, v6, v7, v8⟩ := free9 DC1
  clear DC1 hb1 hk1
  by_cases hf : (s.step f).fault = 0
  ·have hf0 := hf
   rw [HS.out] at hf
   obtain ⟨sa, sc, oa, oc, vs, he, hz1, ho1, hc1⟩ := hok hf
   rw [← HS.out] at he hz1 ho1 hc1
   have HRN : Hid (RunF f s0 b rest pp (s.step f) (k + 1)) := HR.out.next HC.out.font.fit rfl hf0 (by rw [HS.out]; exact HKP.out.2) (by rw [HS.out]; exact HKP.out.1.trans HT.out.rows)
   have HFU : Hid (s.fuel < (s.step f).fuel) := by unfold Hid; rw [step_fuel f hf0 (by rw [HR.out.rows]; simp)]; omega
   clear hok hbad hf hf0 HKP HS
   generalize s.step f = s1 at *
   have HZ1 := Lib.hid hz1
   have HO1 := Lib.hid ho1
   have HC1 := Lib.hid hc1
   change e = .returned (.tuple #[.agg #[.slice sa s1.stack.length sc, .slice oa s1.out.length oc, .int .i64 s1.x, .int .i64 s1.y, .int .i64 (s1.knots : Int), .int .i64 (s1.stems : Int), .int .i64 (s1.fuel : Int), .int .i64 s1.width, .bool s1.asked], .int .i64 0]) at he
   subst he
   clear hz1 ho1 hc1
   go_upto_region 72 with fail
   refine wp_gen _ fun w2 hw2 => ?_
   have hg2 : w1.grownBy w2 (some (w.heap.size + 1)) := by rw [hw2]; exact set9_grown _ _ _ _ _ _ _ _ _ _ _
   have hd2 : w2.heap[w.heap.size + 1]? = some (.cells #[.slice sa s1.stack.length sc, .slice oa s1.out.length oc, .int .i64 s1.x, .int .i64 s1.y, .int .i64 (s1.knots : Int), .int .i64 (s1.stems : Int), .int .i64 (s1.fuel : Int), .int .i64 s1.width, .bool s1.asked] 52 (0, 0)) := by rw [hw2]; exact set9_blk HD1.out _ _ _ _ _ _ _ _ _
   have HXN := Lib.hid (ExW.turn (s' := s1) (K' := ⟨sa, sc, oa, oc, vs⟩) HX.out HC.out.le HB1.out HK1.out hg2 hd2 HZ1.out HO1.out HC1.out)
   clear hw2 hg2 hd2 c0 c1 c2 c3 c4 c5 c6 c7 c8 v0 v1 v2 v3 v4 v5 v6 v7 v8 hlt1
   go_wp2_with fail
   exact HN.out _ _ _ _ _ _ HRN.out HXN.out HFU.out ⟨_, _, _, _, _, _, _, _, _, _, _, _, _, _, _, _, _, _, _, _, _, _, _, _, _, _, _, _, _, _, _, _, _, _, _, _, _, _, _, _, _, _, _, _, _, _, _, _, _, _, _, _, _, _, _, _, _, _, _, _, _, _, _, _, _, _, _, _, _, _, _, _, _, _, _, _, _, _, _, _, _, _, _, _, _, _, _, _, _, _, _, _, _, _, _, _, _, _, _, _, _, _, _, _, _, _, _, _, _, _, _, _, _, _, _, _, _, _, _, _, _, _, _, _, _, _, _, _, _, _, _, _, _, _, _, _, _, _, _, _, _, _, _, _, _, _, _, _, _, _, _, _, _, _, _, _, _, _, _, _, _, _, _, _, _, _, _, _, _, _, _, _, _, _, _, _, _, _, _, _, _, _, _, _, _, _, _, _, _, _, _, _, _, _, _, _, _, _, _, _, _, _, _, _, _, _, _, _, _, _, _, _, _, _, _, _, rfl⟩
  ·have hf0 := hf
   rw [HS.out] at hf
   obtain ⟨sa, sc, oa, oc, s2, he⟩ := hbad hf
   rw [← HS.out] at he
   generalize hsf : (s.step f).fault = er at *
   have HF := Lib.hid hf0
   have HSF := Lib.hid hsf
   have hz : (er == 0) = false := by simpa using hf0
   change e = .returned (.tuple #[.agg #[.slice sa s2.stack.length sc, .slice oa s2.out.length oc, .int .i64 s2.x, .int .i64 s2.y, .int .i64 (s2.knots : Int), .int .i64 (s2.stems : Int), .int .i64 (s2.fuel : Int), .int .i64 s2.width, .bool s2.asked], .int .i64 er]) at he
   subst he
   clear hok hbad hf hf0 hsf
   go_upto_region 72 with fail
   refine wp_gen _ fun w2 hw2 => ?_
   have hg2 : w1.grownBy w2 (some (w.heap.size + 1)) := by rw [hw2]; exact set9_grown _ _ _ _ _ _ _ _ _ _ _
   have hd2 : w2.heap[w.heap.size + 1]? = some (.cells #[.slice sa s2.stack.length sc, .slice oa s2.out.length oc, .int .i64 s2.x, .int .i64 s2.y, .int .i64 (s2.knots : Int), .int .i64 (s2.stems : Int), .int .i64 (s2.fuel : Int), .int .i64 s2.width, .bool s2.asked] 52 (0, 0)) := by rw [hw2]; exact set9_blk HD1.out _ _ _ _ _ _ _ _ _
   have EC2 := (grown_other hg2 (blk_lt HE1.out) (fun e => by have := Option.some.inj e; omega)).trans HE1.out
   have HE2 := Lib.hid EC2
   have hle1 : w.heap.size ≤ w1.heap.size := by omega
   have HB2 : Hid (Below B w w2) := (HX.out.bel.trans HB1.out).grown hg2 (Nat.le_trans HC.out.le hle1) (fun k hk => by cases hk; have := HC.out.le; omega)
   have HK2 : Hid (KeepD w.heap.size w w2) := (HX.out.keep.trans (HK1.out.mono HX.out.le)).trans (keepD_new hg2 (by omega))
   have HL2 : Hid (w.heap.size ≤ w2.heap.size) := Nat.le_trans hle1 hg2.size
   clear hw2 hg2 c0 c1 c2 c3 c4 c5 c6 c7 c8 v0 v1 v2 v3 v4 v5 v6 v7 v8 hlt1 hle1
   obtain ⟨p0, p1, p2, p3, p4, p5, p6, p7, p8⟩ := blk9 hd2
   obtain ⟨r0, r1, r2, r3, r4, r5, r6, r7, r8⟩ := blk9 EC2
   obtain ⟨u0, u1, u2, u3, u4, u5, u6, u7, u8⟩ := free9 EC2
   clear hd2 EC2
   go_wp2_with fail
   refine HRET.out _ _ ?_
   refine ret_gen _ fun w9 hw9 => ?_
   have hg9 : w2.grownBy w9 (some (w.heap.size + 1 + 1)) := by rw [hw9]; exact set9_grown _ _ _ _ _ _ _ _ _ _ _
   have hE9 : w9.heap[w.heap.size + 1 + 1]? = some (.cells #[.slice sa s2.stack.length sc, .slice oa s2.out.length oc, .int .i64 s2.x, .int .i64 s2.y, .int .i64 (s2.knots : Int), .int .i64 (s2.stems : Int), .int .i64 (s2.fuel : Int), .int .i64 s2.width, .bool s2.asked] 52 (0, 0)) := by rw [hw9]; exact set9_blk HE2.out _ _ _ _ _ _ _ _ _
   clear hw9
   have hb9 : Below B w w9 := HB2.out.grown hg9 (Nat.le_trans HC.out.le HL2.out) (fun k hk => by cases hk; have := HC.out.le; omega)
   have hk9 : KeepD w.heap.size w w9 := HK2.out.trans (keepD_new hg9 (by omega))
   refine retx rfl rfl rfl rfl hE9 ?_
   exact exec_err (K := ⟨sa, sc, oa, oc, []⟩) (s2 := s2) HR.out HC.out.font.fit rfl HSF.out HF.out rfl hb9 hk9
set_option maxRecDepth 1000000 in
set_option maxHeartbeats 4000000 in
theorem t_draw (f : FS) (B : Nat) (L : FLt) (b : ByteArray) (ba : Option Addr) (bc j : Nat) (w wr : World) (s0 : MS) (rest : List Rw) (Q : Exit → Act → World → Prop) (hC : Ctx f B L b ba bc w) (p k : Nat) (s : MS) (K : SLt) (hR : RunF f s0 b rest p s k) (t : MS) (pp : Nat) (op : Int) (hT : StepT f b rest pp s t op) (hX : ExW f B L w t K wr) (hop : ¬ (op = 1 ∨ op = 3 ∨ op = 18 ∨ op = 23 ∨ op = 19 ∨ op = 20 ∨ op = 21 ∨ op = 22 ∨ op = 4 ∨ op = 10 ∨ op = 29 ∨ op = 11 ∨ op = 14)) (hret : ∀ a' w', RetX (ExecPost f B s0 w) a' w' → Q .ret a' w')
 (hN : ∀ (s' : MS) (k' p' : Nat) (K' : SLt) a' w', RunF f s0 b rest p' s' k' → ExW f B L w s' K' w' → s.fuel < s'.fuel → FrameOk w b ba bc j p' x0 x1 x6 x7 x9 x10 a' → Q (.normal) a' w') :
 Code.wp Tryz.prog t22 Q ⟨#[x0, x1, .slice ba b.size bc, .int .i64 (j : Int), .pointer (some ⟨w.heap.size, 0, none⟩), .pointer (some ⟨w.heap.size + 1, 0, none⟩), x6, x7, .pointer (some ⟨w.heap.size + 1 + 1, 0, none⟩), x9, x10, .int .i64 (pp : Int), x12, x13, .int .i64 op, x15, x16, x17, x18, x19, x20, x21, x22, x23, x24, x25, x26, x27, x28, x29, x30, x31, x32, x33, x34, x35, x36, x37, x38, x39, x40, x41, x42, x43, x44, x45, x46, x47, x48, x49, x50, x51, x52, x53, x54, x55, x56, x57, x58, x59, x60, x61, x62, x63, x64, x65, x66, x67, x68, x69, x70, x71, x72, x73, x74, x75, x76, x77, x78, x79, x80, x81, x82, x83, x84, x85, x86, x87, x88, x89, x90, x91, x92, x93, x94, x95, x96, x97, x98, x99, x100, x101, x102, x103, x104, x105, x106, x107, x108, x109, x110, x111, x112, x113, x114, x115, x116, x117, x118, x119, x120, x121, x122, x123, x124, x125, x126, x127, x128, x129, x130, x131, x132, x133, x134, x135, x136, x137, x138, x139, x140, x141, x142, x143, x144, x145, x146, x147, x148, x149, x150, x151, x152, x153, x154, x155, x156, x157, x158, x159, x160, x161, x162, x163, x164, x165, x166, x167, x168, x169, x170, x171, x172, x173, x174, x175, x176, x177, x178, x179, x180, x181, x182, x183, x184, x185, x186, x187, x188, x189, x190, x191, x192, x193, x194, x195, x196, x197, x198, x199, x200, x201, x202, x203, x204, x205, x206, x207, x208, x209, x210, x211, x212, x213, x214, x215, x216, x217, x218, x219, x220, x221, x222, x223, x224, x225, x226, x227], []⟩ wr := by
 have HX := Lib.hid hX
 have HR := Lib.hid hR
 have HC := Lib.hid hC
 have HT := Lib.hid hT
 have HRET := Lib.hid hret
 have HN := Lib.hid hN
 have HS := Lib.hid (hT.step.trans (operate_draw hop))
 have HKP : Hid (({ t.draw op t.stack with stack := [] } : MS).rows = t.rows ∧ ({ t.draw op t.stack with stack := [] } : MS).ended = false) := ⟨(Rest.draw t op t.stack).rows, (Rest.draw t op t.stack).ended.trans hT.ended⟩
 have n1 : ¬ op = 1 := by omega
 have n3 : ¬ op = 3 := by omega
 have n18 : ¬ op = 18 := by omega
 have n23 : ¬ op = 23 := by omega
 have n19 : ¬ op = 19 := by omega
 have n20 : ¬ op = 20 := by omega
 have n21 : ¬ op = 21 := by omega
 have n22 : ¬ op = 22 := by omega
 have n4 : ¬ op = 4 := by omega
 have n10 : ¬ op = 10 := by omega
 have n29 : ¬ op = 29 := by omega
 have n11 : ¬ op = 11 := by omega
 have n14 : ¬ op = 14 := by omega
 clear hop
 have DC : wr.heap[w.heap.size + 1]? = some (.cells #[.slice K.sa t.stack.length K.sc, .slice K.oa t.out.length K.oc, .int .i64 t.x, .int .i64 t.y, .int .i64 (t.knots : Int), .int .i64 ((t.stems : Nat) : Int), .int .i64 ((t.fuel : Nat) : Int), .int .i64 t.width, .bool t.asked] 52 (0, 0)) := hX.dD
 have HDC := Lib.hid DC
 obtain ⟨d0, d1, d2, d3, d4, d5, d6, d7, d8⟩ := blk9 DC
 obtain ⟨f0, f1, f2, f3, f4, f5, f6, f7, f8⟩ := free9 DC
 have FC := hX.dF
 have h0 := blk_cell FC 0 _ rfl
 have h1 := blk_cell FC 1 _ rfl
 have h2 := blk_cell FC 2 _ rfl
 have h3 := blk_cell FC 3 _ rfl
 have h4 := blk_cell FC 4 _ rfl
 have HEC := Lib.hid hX.dE
 have HCL := Lib.hid (draw_d B K.sa K.sc K.oa K.oc K.vs t op wr hX.outw (Nat.le_trans hC.le hX.le) hT.pen hT.fault hT.small hX.opds hT.few hX.cap)
 have hltA : w.heap.size + 1 < wr.heap.size := blk_lt DC
 clear hX hR hC hT hret hN DC FC
 conv => arg 2; whnf
 go_wp2_with fail
 refine HCL.out.mono ?_
 clear HCL
 rintro e w1 ⟨hok, hbad, hb1, hk1⟩
 have DC1 : w1.heap[w.heap.size + 1]? = _ := hk1 _ _ _ _ (blk_lt HDC.out) (by decide) (by decide) HDC.out
 have HD1 := Lib.hid DC1
 have HE1 : Hid (w1.heap[w.heap.size + 1 + 1]? = _) := hk1 _ _ _ _ (blk_lt HEC.out) (by decide) (by decide) HEC.out
 have HB1 := Lib.hid hb1
 have HK1 := Lib.hid hk1
 have hlt1 : w.heap.size + 1 < w1.heap.size := blk_lt DC1
 clear d0 d1 d2 d3 d4 d5 d6 d7 d8 f0 f1 f2 f3 f4 f5 f6 f7 f8 h0 h1 h2 h3 h4 hltA
 obtain ⟨c0, c1, c2, c3, c4, c5, c6, c7, c8⟩ := blk9 DC1
 obtain ⟨v0, v1, v2, v3, v4, v5, v6, v7, v8⟩ := free9 DC1
 clear DC1 hb1 hk1
 by_cases hf : (s.step f).fault = 0
 ·have hf0 := hf
  rw [HS.out] at hf
  obtain ⟨sa, sc, oa, oc, vs, he, hz1, ho1, hc1⟩ := hok hf
  rw [← HS.out] at he hz1 ho1 hc1
  have HRN : Hid (RunF f s0 b rest pp (s.step f) (k + 1)) := HR.out.next HC.out.font.fit rfl hf0 (by rw [HS.out]; exact HKP.out.2) (by rw [HS.out]; exact HKP.out.1.trans HT.out.rows)
  have HFU : Hid (s.fuel < (s.step f).fuel) := by unfold Hid; rw [step_fuel f hf0 (by rw [HR.out.rows]; simp)]; omega
  clear hok hbad hf hf0 HKP HS
  generalize s.step f = s1 at *
  have HZ1 := Lib.hid hz1
  have HO1 := Lib.hid ho1
  have HC1 := Lib.hid hc1
  change e = .returned (.tuple #[.agg #[.slice sa s1.stack.length sc, .slice oa s1.out.length oc, .int .i64 s1.x, .int .i64 s1.y, .int .i64 (s1.knots : Int), .int .i64 (s1.stems : Int), .int .i64 (s1.fuel : Int), .int .i64 s1.width, .bool s1.asked], .int .i64 0]) at he
  subst he
  clear hz1 ho1 hc1
  go_upto_region 72 with fail
  refine wp_gen _ fun w2 hw2 => ?_
  have hg2 : w1.grownBy w2 (some (w.heap.size + 1)) := by rw [hw2]; exact set9_grown _ _ _ _ _ _ _ _ _ _ _
  have hd2 : w2.heap[w.heap.size + 1]? = some (.cells #[.slice sa s1.stack.length sc, .slice oa s1.out.length oc, .int .i64 s1.x, .int .i64 s1.y, .int .i64 (s1.knots : Int), .int .i64 (s1.stems : Int), .int .i64 (s1.fuel : Int), .int .i64 s1.width, .bool s1.asked] 52 (0, 0)) := by rw [hw2]; exact set9_blk HD1.out _ _ _ _ _ _ _ _ _
  have HXN := Lib.hid (ExW.turn (s' := s1) (K' := ⟨sa, sc, oa, oc, vs⟩) HX.out HC.out.le HB1.out HK1.out hg2 hd2 HZ1.out HO1.out HC1.out)
  clear hw2 hg2 hd2 c0 c1 c2 c3 c4 c5 c6 c7 c8 v0 v1 v2 v3 v4 v5 v6 v7 v8 hlt1
  go_wp2_with fail
  exact HN.out _ _ _ _ _ _ HRN.out HXN.out HFU.out ⟨_, _, _, _, _, _, _, _, _, _, _, _, _, _, _, _, _, _, _, _, _, _, _, _, _, _, _, _, _, _, _, _, _, _, _, _, _, _, _, _, _, _, _, _, _, _, _, _, _, _, _, _, _, _, _, _, _, _, _, _, _, _, _, _, _, _, _, _, _, _, _, _, _, _, _, _, _, _, _, _, _, _, _, _, _, _, _, _, _, _, _, _, _, _, _, _, _, _, _, _, _, _, _, _, _, _, _, _, _, _, _, _, _, _, _, _, _, _, _, _, _, _, _, _, _, _, _, _, _, _, _, _, _, _, _, _, _, _, _, _, _, _, _, _, _, _, _, _, _, _, _, _, _, _, _, _, _, _, _, _, _, _, _, _, _, _, _, _, _, _, _, _, _, _, _, _, _, _, _, _, _, _, _, _, _, _, _, _, _, _, _, _, _, _, _, _, _, _, _, _, _, _, _, _, _, _, _, _, _, _, _, _, _, _, _, _, rfl⟩
 ·have hf0 := hf
  rw [HS.out] at hf
  obtain ⟨sa, sc, oa, oc, s2, he⟩ := hbad hf
  rw [← HS.out] at he
  generalize hsf : (s.step f).fault = er at *
  have HF := Lib.hid hf0
  have HSF := Lib.hid hsf
  have hz : (er == 0) = false := by simpa using hf0
  change e = .returned (.tuple #[.agg #[.slice sa s2.stack.length sc, .slice oa s2.out.length oc, .int .i64 s2.x, .int .i64 s2.y, .int .i64 (s2.knots : Int), .int .i64 (s2.stems : Int), .int .i64 (s2.fuel : Int), .int .i64 s2.width, .bool s2.asked], .int .i64 er]) at he
  subst he
  clear hok hbad hf hf0 hsf
  go_upto_region 72 with fail
  refine wp_gen _ fun w2 hw2 => ?_
  have hg2 : w1.grownBy w2 (some (w.heap.size + 1)) := by rw [hw2]; exact set9_grown _ _ _ _ _ _ _ _ _ _ _
  have hd2 : w2.heap[w.heap.size + 1]? = some (.cells #[.slice sa s2.stack.length sc, .slice oa s2.out.length oc, .int .i64 s2.x, .int .i64 s2.y, .int .i64 (s2.knots : Int), .int .i64 (s2.stems : Int), .int .i64 (s2.fuel : Int), .int .i64 s2.width, .bool s2.asked] 52 (0, 0)) := by rw [hw2]; exact set9_blk HD1.out _ _ _ _ _ _ _ _ _
  have EC2 := (grown_other hg2 (blk_lt HE1.out) (fun e => by have := Option.some.inj e; omega)).trans HE1.out
  have HE2 := Lib.hid EC2
  have hle1 : w.heap.size ≤ w1.heap.size := by omega
  have HB2 : Hid (Below B w w2) := (HX.out.bel.trans HB1.out).grown hg2 (Nat.le_trans HC.out.le hle1) (fun k hk => by cases hk; have := HC.out.le; omega)
  have HK2 : Hid (KeepD w.heap.size w w2) := (HX.out.keep.trans (HK1.out.mono HX.out.le)).trans (keepD_new hg2 (by omega))
  have HL2 : Hid (w.heap.size ≤ w2.heap.size) := Nat.le_trans hle1 hg2.size
  clear hw2 hg2 c0 c1 c2 c3 c4 c5 c6 c7 c8 v0 v1 v2 v3 v4 v5 v6 v7 v8 hlt1 hle1
  obtain ⟨p0, p1, p2, p3, p4, p5, p6, p7, p8⟩ := blk9 hd2
  obtain ⟨r0, r1, r2, r3, r4, r5, r6, r7, r8⟩ := blk9 EC2
  obtain ⟨u0, u1, u2, u3, u4, u5, u6, u7, u8⟩ := free9 EC2
  clear hd2 EC2
  go_wp2_with fail
  refine HRET.out _ _ ?_
  refine ret_gen _ fun w9 hw9 => ?_
  have hg9 : w2.grownBy w9 (some (w.heap.size + 1 + 1)) := by rw [hw9]; exact set9_grown _ _ _ _ _ _ _ _ _ _ _
  have hE9 : w9.heap[w.heap.size + 1 + 1]? = some (.cells #[.slice sa s2.stack.length sc, .slice oa s2.out.length oc, .int .i64 s2.x, .int .i64 s2.y, .int .i64 (s2.knots : Int), .int .i64 (s2.stems : Int), .int .i64 (s2.fuel : Int), .int .i64 s2.width, .bool s2.asked] 52 (0, 0)) := by rw [hw9]; exact set9_blk HE2.out _ _ _ _ _ _ _ _ _
  clear hw9
  have hb9 : Below B w w9 := HB2.out.grown hg9 (Nat.le_trans HC.out.le HL2.out) (fun k hk => by cases hk; have := HC.out.le; omega)
  have hk9 : KeepD w.heap.size w w9 := HK2.out.trans (keepD_new hg9 (by omega))
  refine retx rfl rfl rfl rfl hE9 ?_
  exact exec_err (K := ⟨sa, sc, oa, oc, []⟩) (s2 := s2) HR.out HC.out.font.fit rfl HSF.out HF.out rfl hb9 hk9
end Go.Proofs.YtklenppldblbdaaGreat
namespace Go.Proofs.YtklenppldblbdaaGreat
open Go.RowKit Go.PlainAid
def stemF (q : MS) : MS := if q.stack.length % 2 ≠ 0 then ({ q with stack := [] } : MS).refuse 81 else if 96 < q.stems + q.stack.length / 2 then ({ q with stems := q.stems + q.stack.length / 2, stack := [] } : MS).refuse 83 else { q with stems := q.stems + q.stack.length / 2, stack := [] }
theorem addStems_bare (t : MS) (w1 : Int) (l : List Int) : { t.addStems w1 l with stack := [] } = stemF { (t.behind w1 l (decide (l.length % 2 = 1))).2 with stack := (t.behind w1 l (decide (l.length % 2 = 1))).1 } := by
 unfold MS.addStems stemF
 simp only []
 generalize t.behind w1 l (decide (l.length % 2 = 1)) = q
 split
 ·exact (refuse_bare _ _).symm
 split
 ·exact (refuse_bare { q.2 with stems := q.2.stems + q.1.length / 2 } _).symm
 ·rfl
theorem mask_bare (t : MS) : { t.passMask with stack := [] } = ({ t with stack := [] } : MS).passMask := by
 rcases t with ⟨out, knots, x, y, fault, rows, stack, fuel, stems, width, asked, ended⟩
 cases rows with
 | nil => rfl
 | cons r rest =>
   unfold MS.passMask
   simp only []
   split
   ·exact (refuse_bare _ _).symm
   ·rfl
theorem mask_fault {s : MS} (h : s.fault ≠ 0) : s.passMask.fault = s.fault := by
 rcases s with ⟨out, knots, x, y, fault, rows, stack, fuel, stems, width, asked, ended⟩
 cases rows with
 | nil => rfl
 | cons r rest =>
   unfold MS.passMask
   simp only []
   split
   ·unfold MS.refuse; rw [if_neg (by exact h)]
   ·rfl
theorem operate_stem {f : FS} {op : Int} {t : MS} (h : op = 1 ∨ op = 3 ∨ op = 18 ∨ op = 23) : t.operate f op = stemF { (t.behind f.w1 t.stack (decide (t.stack.length % 2 = 1))).2 with stack := (t.behind f.w1 t.stack (decide (t.stack.length % 2 = 1))).1 } := by
 rw [← addStems_bare]
 rcases h with rfl | rfl | rfl | rfl <;> (unfold MS.operate MS.take; simp)
theorem operate_mask {f : FS} {op : Int} {t : MS} (h : op = 19 ∨ op = 20) : t.operate f op = (stemF { (t.behind f.w1 t.stack (decide (t.stack.length % 2 = 1))).2 with stack := (t.behind f.w1 t.stack (decide (t.stack.length % 2 = 1))).1 }).passMask := by
 rw [← addStems_bare, ← mask_bare]
 rcases h with rfl | rfl <;> (unfold MS.operate MS.take; simp)
def endF (q : MS) : MS := if q.stack.length = 0 then { q with ended := true, stack := [] } else if q.stack.length = 4 then ({ q with stack := [] } : MS).refuse 82 else ({ q with stack := [] } : MS).refuse 81
theorem operate_end {f : FS} {t : MS} : t.operate f 14 = endF { (t.behind f.w1 t.stack (decide (t.stack.length = 1) || decide (t.stack.length = 5))).2 with stack := (t.behind f.w1 t.stack (decide (t.stack.length = 1) || decide (t.stack.length = 5))).1 } := by
 unfold MS.operate MS.take endF MS.finish
 simp only [Int.reduceEq, or_self, if_false, if_true, or_false, false_or]
 generalize t.behind f.w1 t.stack (decide (t.stack.length = 1) || decide (t.stack.length = 5)) = q
 split
 ·rfl
 split
 ·exact (refuse_bare _ _).symm
 ·exact (refuse_bare _ _).symm
theorem stemF_81 {q : MS} (h : q.fault = 0) (ho : q.stack.length % 2 = 1) : (stemF q).fault = 81 := by
 unfold stemF; rw [if_pos (by omega)]; exact fault_of (s := { q with stack := [] }) h 81
theorem stemF_83 {q : MS} (h : q.fault = 0) (ho : q.stack.length % 2 = 0) (hs : 96 < q.stems + q.stack.length / 2) : (stemF q).fault = 83 := by
 unfold stemF; rw [if_neg (by omega), if_pos hs]; exact fault_of (s := { q with stems := q.stems + q.stack.length / 2, stack := [] }) h 83
theorem stemF_ok {q : MS} (ho : q.stack.length % 2 = 0) (hs : ¬ 96 < q.stems + q.stack.length / 2) : stemF q = { q with stems := q.stems + q.stack.length / 2, stack := [] } := by
 unfold stemF; rw [if_neg (by omega), if_neg hs]
theorem mask_wraps (ns pp : Nat) (h1 : ns ≤ 96) (h2 : pp ≤ 1000000) : wrap64 ((pp : Int) + ((ns : Int) + 7) / 8) = ((pp + (ns + 7) / 8 : Nat) : Int) := by
 unfold wrap64; omega
theorem mask_out {q : MS} {b : ByteArray} {pp : Nat} {rest : List Rw} (hr : q.rows = ⟨b, pp, false⟩ :: rest) (hf : q.fault = 0) (h : b.size < pp + (q.stems + 7) / 8) : q.passMask.fault = 81 := by
 unfold MS.passMask
 rw [hr]
 simp only []
 have hc : ((Rw.mk b pp false).pass ((q.stems + 7) / 8)).c = true := by unfold Rw.pass hasB; simp; omega
 rw [if_pos hc]
 refine fault_of ?_ 81
 exact hf
theorem mask_in {q : MS} {b : ByteArray} {pp : Nat} {rest : List Rw} (hr : q.rows = ⟨b, pp, false⟩ :: rest) (h : pp + (q.stems + 7) / 8 ≤ b.size) : q.passMask = { q with rows := ⟨b, pp + (q.stems + 7) / 8, false⟩ :: rest } := by
 unfold MS.passMask
 rw [hr]
 simp only []
 have hc : (Rw.mk b pp false).pass ((q.stems + 7) / 8) = ⟨b, pp + (q.stems + 7) / 8, false⟩ := by
  unfold Rw.pass hasB; simp; omega
 rw [hc, if_neg (by simp)]
end Go.Proofs.YtklenppldblbdaaGreat
