import Derived.Test.YtklenppldblbdaaGreatK27
set_option linter.unusedSimpArgs false
set_option linter.unusedVariables false
namespace Go.Proofs.YtklenppldblbdaaGreat
open Go.RowKit Go.PlainAid
variable {x0 x1 x2 x3 x4 x5 x6 x7 x8 x9 x10 x11 x12 x13 x14 x15 x16 x17 x18 x19 x20 x21 x22 x23 x24 x25 x26 x27 x28 x29 x30 x31 x32 x33 x34 x35 x36 x37 x38 x39 x40 x41 x42 x43 x44 x45 x46 x47 x48 x49 x50 x51 x52 x53 x54 x55 x56 x57 x58 x59 x60 x61 x62 x63 x64 x65 x66 x67 x68 x69 x70 x71 x72 x73 x74 x75 x76 x77 x78 x79 x80 x81 x82 x83 x84 x85 x86 x87 x88 x89 x90 x91 x92 x93 x94 x95 x96 x97 x98 x99 x100 x101 x102 x103 x104 x105 x106 x107 x108 x109 x110 x111 x112 x113 x114 x115 x116 x117 x118 x119 x120 x121 x122 x123 x124 x125 x126 x127 x128 x129 x130 x131 x132 x133 x134 x135 x136 x137 x138 x139 x140 x141 x142 x143 x144 x145 x146 x147 x148 x149 x150 x151 x152 x153 x154 x155 x156 x157 x158 x159 x160 x161 x162 x163 x164 x165 x166 x167 x168 x169 x170 x171 x172 x173 x174 x175 x176 x177 x178 x179 x180 x181 x182 x183 x184 x185 x186 x187 x188 x189 x190 x191 x192 x193 x194 x195 x196 x197 x198 x199 x200 x201 x202 x203 x204 x205 x206 x207 x208 x209 x210 x211 x212 x213 x214 x215 x216 x217 x218 x219 x220 x221 x222 x223 x224 x225 x226 x227 : Value}
theorem opds_src {w : World} {l : List Int} {a : Option Addr} (h : Opds w l a) : l.length = 0 ∨ ∃ b off, a = some ⟨b, off, none⟩ ∧ Lies w b off (l.map (Value.int .i64)) := by
 by_cases h0 : l.length = 0
 ·exact .inl h0
 ·obtain ⟨g, off, ha, hc⟩ := h.at (by omega)
  refine .inr ⟨g, off, ha, fun j u hj => ?_⟩
  rw [List.getElem?_map] at hj
  obtain ⟨v, hv, rfl⟩ := Option.map_eq_some_iff.1 hj
  exact hc j v hv
theorem InB.byte {B : Nat} {w : World} {a : Option Addr} {len cap : Nat} {s : ByteArray} (h : InB B w a len cap s) {p : Nat} (hp : p < len) : ∃ b off, a = some ⟨b, off, none⟩ ∧ ∀ i, i < len → w.cell? ⟨b, off + i, none⟩ = some (.int .u8 (bt s i)) := by
 obtain ⟨_, _, h3 | ⟨b, off, h3, _, h4⟩⟩ := h
 ·omega
 ·exact ⟨b, off, h3, h4⟩
set_option maxRecDepth 1000000 in
set_option maxHeartbeats 4000000 in
theorem m_bad (f : FS) (B : Nat) (L : FLt) (b : ByteArray) (ba : Option Addr) (bc j : Nat) (w wr : World) (s0 : MS) (rest : List Rw) (Q : Exit → Act → World → Prop) (hC : Ctx f B L b ba bc w) (T : Code) (p k : Nat) (s : MS) (K : SLt) (hR : RunF f s0 b rest p s k) (hX : ExW f B L w { s with fuel := s.fuel + 1 } K wr) (hp : p < b.size) (hw : s.fuel < 20000) (hq : (numD b p).2 = -2) (hret : ∀ a' w', RetX (ExecPost f B s0 w) a' w' → Q .ret a' w') :
 Code.wp Tryz.prog (midC T) Q ⟨#[x0, x1, .slice ba b.size bc, .int .i64 (j : Int), .pointer (some ⟨w.heap.size, 0, none⟩), .pointer (some ⟨w.heap.size + 1, 0, none⟩), x6, x7, .pointer (some ⟨w.heap.size + 1 + 1, 0, none⟩), x9, x10, .int .i64 (p : Int), .int .i64 (numD b p).1, .int .i64 (numD b p).2, x14, x15, x16, x17, x18, x19, x20, x21, x22, x23, x24, x25, x26, x27, x28, x29, x30, x31, x32, x33, x34, x35, x36, x37, x38, x39, x40, x41, x42, x43, x44, x45, x46, x47, x48, x49, x50, x51, x52, x53, x54, x55, x56, x57, x58, x59, x60, x61, x62, x63, x64, x65, x66, x67, x68, x69, x70, x71, x72, x73, x74, x75, x76, x77, x78, x79, x80, x81, x82, x83, x84, x85, x86, x87, x88, x89, x90, x91, x92, x93, x94, x95, x96, x97, x98, x99, x100, x101, x102, x103, x104, x105, x106, x107, x108, x109, x110, x111, x112, x113, x114, x115, x116, x117, x118, x119, x120, x121, x122, x123, x124, x125, x126, x127, x128, x129, x130, x131, x132, x133, x134, x135, x136, x137, x138, x139, x140, x141, x142, x143, x144, x145, x146, x147, x148, x149, x150, x151, x152, x153, x154, x155, x156, x157, x158, x159, x160, x161, x162, x163, x164, x165, x166, x167, x168, x169, x170, x171, x172, x173, x174, x175, x176, x177, x178, x179, x180, x181, x182, x183, x184, x185, x186, x187, x188, x189, x190, x191, x192, x193, x194, x195, x196, x197, x198, x199, x200, x201, x202, x203, x204, x205, x206, x207, x208, x209, x210, x211, x212, x213, x214, x215, x216, x217, x218, x219, x220, x221, x222, x223, x224, x225, x226, x227], []⟩ wr := by
 have HX := Lib.hid hX
 have HR := Lib.hid hR
 have HC := Lib.hid hC
 have HRET := Lib.hid hret
 have HS := Lib.hid (step_broken (f := f) hR.rows hp (by omega) (item_bad hp hq))
 rw [hq]
 clear hq hp hw
 have DC : wr.heap[w.heap.size + 1]? = some (.cells #[.slice K.sa s.stack.length K.sc, .slice K.oa s.out.length K.oc, .int .i64 s.x, .int .i64 s.y, .int .i64 (s.knots : Int), .int .i64 ((s.stems : Nat) : Int), .int .i64 ((s.fuel + 1 : Nat) : Int), .int .i64 s.width, .bool s.asked] 52 (0, 0)) := hX.dD
 have HDC := Lib.hid DC
 obtain ⟨d0, d1, d2, d3, d4, d5, d6, d7, d8⟩ := blk9 DC
 obtain ⟨f0, f1, f2, f3, f4, f5, f6, f7, f8⟩ := free9 DC
 have EC := hX.dE
 have HEC := Lib.hid EC
 obtain ⟨e0, e1, e2, e3, e4, e5, e6, e7, e8⟩ := blk9 EC
 obtain ⟨g0, g1, g2, g3, g4, g5, g6, g7, g8⟩ := free9 EC
 clear hX hR hC hret DC EC
 unfold midC
 conv => arg 2; arg 1; whnf
 conv => arg 2; arg 2; arg 1; whnf
 conv => arg 2; arg 2; arg 2; arg 1; whnf
 conv => arg 2; arg 2; arg 2; arg 2; arg 1; whnf
 conv => arg 2; arg 2; arg 2; arg 2; arg 2; arg 1; whnf
 go_wp2_with fail
 refine HRET.out _ _ ?_
 refine ret_gen _ fun w9 hw9 => ?_
 have hg9 : wr.grownBy w9 (some (w.heap.size + 1 + 1)) := by rw [hw9]; exact set9_grown _ _ _ _ _ _ _ _ _ _ _
 have hE9 : w9.heap[w.heap.size + 1 + 1]? = some (.cells #[.slice K.sa s.stack.length K.sc, .slice K.oa s.out.length K.oc, .int .i64 s.x, .int .i64 s.y, .int .i64 (s.knots : Int), .int .i64 ((s.stems : Nat) : Int), .int .i64 ((s.fuel + 1 : Nat) : Int), .int .i64 s.width, .bool s.asked] 52 (0, 0)) := by rw [hw9]; exact set9_blk HEC.out _ _ _ _ _ _ _ _ _
 clear hw9
 have hb9 : Below B w w9 := HX.out.bel.grown hg9 (Nat.le_trans HC.out.le HX.out.le) (fun k hk => by cases hk; have := HC.out.le; omega)
 have hk9 : KeepD w.heap.size w w9 := HX.out.keep.trans (keepD_new hg9 (by omega))
 refine retx rfl rfl rfl rfl hE9 ?_
 exact exec_err (K := K) (s2 := { s with fuel := s.fuel + 1 }) HR.out HC.out.font.fit HS.out (by refine fault_of ?_ 81; exact HR.out.fault) (by decide) rfl hb9 hk9
set_option maxRecDepth 1000000 in
set_option maxHeartbeats 4000000 in
theorem m_full (f : FS) (B : Nat) (L : FLt) (b : ByteArray) (ba : Option Addr) (bc j : Nat) (w wr : World) (s0 : MS) (rest : List Rw) (Q : Exit → Act → World → Prop) (hC : Ctx f B L b ba bc w) (T : Code) (p k : Nat) (s : MS) (K : SLt) (hR : RunF f s0 b rest p s k) (hX : ExW f B L w { s with fuel := s.fuel + 1 } K wr) (hp : p < b.size) (hw : s.fuel < 20000) (q : Nat) (hq : (numD b p).2 = (q : Int)) (hi : (Rw.mk b p false).item = (((numD b p).1, true), ⟨b, q, false⟩)) (hl : s.stack.length = 48) (hret : ∀ a' w', RetX (ExecPost f B s0 w) a' w' → Q .ret a' w') :
 Code.wp Tryz.prog (midC T) Q ⟨#[x0, x1, .slice ba b.size bc, .int .i64 (j : Int), .pointer (some ⟨w.heap.size, 0, none⟩), .pointer (some ⟨w.heap.size + 1, 0, none⟩), x6, x7, .pointer (some ⟨w.heap.size + 1 + 1, 0, none⟩), x9, x10, .int .i64 (p : Int), .int .i64 (numD b p).1, .int .i64 (numD b p).2, x14, x15, x16, x17, x18, x19, x20, x21, x22, x23, x24, x25, x26, x27, x28, x29, x30, x31, x32, x33, x34, x35, x36, x37, x38, x39, x40, x41, x42, x43, x44, x45, x46, x47, x48, x49, x50, x51, x52, x53, x54, x55, x56, x57, x58, x59, x60, x61, x62, x63, x64, x65, x66, x67, x68, x69, x70, x71, x72, x73, x74, x75, x76, x77, x78, x79, x80, x81, x82, x83, x84, x85, x86, x87, x88, x89, x90, x91, x92, x93, x94, x95, x96, x97, x98, x99, x100, x101, x102, x103, x104, x105, x106, x107, x108, x109, x110, x111, x112, x113, x114, x115, x116, x117, x118, x119, x120, x121, x122, x123, x124, x125, x126, x127, x128, x129, x130, x131, x132, x133, x134, x135, x136, x137, x138, x139, x140, x141, x142, x143, x144, x145, x146, x147, x148, x149, x150, x151, x152, x153, x154, x155, x156, x157, x158, x159, x160, x161, x162, x163, x164, x165, x166, x167, x168, x169, x170, x171, x172, x173, x174, x175, x176, x177, x178, x179, x180, x181, x182, x183, x184, x185, x186, x187, x188, x189, x190, x191, x192, x193, x194, x195, x196, x197, x198, x199, x200, x201, x202, x203, x204, x205, x206, x207, x208, x209, x210, x211, x212, x213, x214, x215, x216, x217, x218, x219, x220, x221, x222, x223, x224, x225, x226, x227], []⟩ wr := by
 have HX := Lib.hid hX
 have HR := Lib.hid hR
 have HC := Lib.hid hC
 have HRET := Lib.hid hret
 have hst := step_item (f := f) hR.rows hp (by omega) (by rw [hi])
 rw [hi] at hst
 have hpu : ({ s with fuel := s.fuel + 1, rows := ⟨b, q, false⟩ :: rest } : MS).push (numD b p).1 = ({ s with fuel := s.fuel + 1, rows := ⟨b, q, false⟩ :: rest } : MS).refuse 83 := by unfold MS.push; rw [if_pos (by exact hl)]
 simp only [if_true] at hst
 rw [hpu] at hst
 have HS := Lib.hid hst
 rw [hq]
 have z1 : ((q : Int) == -2) = false := by (simp <;> omega)
 have z2 : (0 : Int) ≤ (q : Int) := by omega
 have z3 : (48 : Int) ≤ (s.stack.length : Int) := by omega
 clear hq hp hw hi hl hst hpu
 have DC : wr.heap[w.heap.size + 1]? = some (.cells #[.slice K.sa s.stack.length K.sc, .slice K.oa s.out.length K.oc, .int .i64 s.x, .int .i64 s.y, .int .i64 (s.knots : Int), .int .i64 ((s.stems : Nat) : Int), .int .i64 ((s.fuel + 1 : Nat) : Int), .int .i64 s.width, .bool s.asked] 52 (0, 0)) := hX.dD
 have HDC := Lib.hid DC
 obtain ⟨d0, d1, d2, d3, d4, d5, d6, d7, d8⟩ := blk9 DC
 obtain ⟨f0, f1, f2, f3, f4, f5, f6, f7, f8⟩ := free9 DC
 have EC := hX.dE
 have HEC := Lib.hid EC
 obtain ⟨e0, e1, e2, e3, e4, e5, e6, e7, e8⟩ := blk9 EC
 obtain ⟨g0, g1, g2, g3, g4, g5, g6, g7, g8⟩ := free9 EC
 clear hX hR hC hret DC EC
 unfold midC
 conv => arg 2; arg 1; whnf
 conv => arg 2; arg 2; arg 1; whnf
 conv => arg 2; arg 2; arg 2; arg 1; whnf
 conv => arg 2; arg 2; arg 2; arg 2; arg 1; whnf
 conv => arg 2; arg 2; arg 2; arg 2; arg 2; arg 1; whnf
 go_wp2_with fail
 refine HRET.out _ _ ?_
 refine ret_gen _ fun w9 hw9 => ?_
 have hg9 : wr.grownBy w9 (some (w.heap.size + 1 + 1)) := by rw [hw9]; exact set9_grown _ _ _ _ _ _ _ _ _ _ _
 have hE9 : w9.heap[w.heap.size + 1 + 1]? = some (.cells #[.slice K.sa s.stack.length K.sc, .slice K.oa s.out.length K.oc, .int .i64 s.x, .int .i64 s.y, .int .i64 (s.knots : Int), .int .i64 ((s.stems : Nat) : Int), .int .i64 ((s.fuel + 1 : Nat) : Int), .int .i64 s.width, .bool s.asked] 52 (0, 0)) := by rw [hw9]; exact set9_blk HEC.out _ _ _ _ _ _ _ _ _
 clear hw9
 have hb9 : Below B w w9 := HX.out.bel.grown hg9 (Nat.le_trans HC.out.le HX.out.le) (fun k hk => by cases hk; have := HC.out.le; omega)
 have hk9 : KeepD w.heap.size w w9 := HX.out.keep.trans (keepD_new hg9 (by omega))
 refine retx rfl rfl rfl rfl hE9 ?_
 exact exec_err (K := K) (s2 := { s with fuel := s.fuel + 1 }) HR.out HC.out.font.fit HS.out (by refine fault_of ?_ 83; exact HR.out.fault) (by decide) rfl hb9 hk9
set_option maxRecDepth 1000000 in
set_option maxHeartbeats 4000000 in
theorem m_push (f : FS) (B : Nat) (L : FLt) (b : ByteArray) (ba : Option Addr) (bc j : Nat) (w wr : World) (s0 : MS) (rest : List Rw) (Q : Exit → Act → World → Prop) (hC : Ctx f B L b ba bc w) (T : Code) (p k : Nat) (s : MS) (K : SLt) (hR : RunF f s0 b rest p s k) (hX : ExW f B L w { s with fuel := s.fuel + 1 } K wr) (hp : p < b.size) (hw : s.fuel < 20000) (q : Nat) (hq : (numD b p).2 = (q : Int)) (hi : (Rw.mk b p false).item = (((numD b p).1, true), ⟨b, q, false⟩)) (hl : s.stack.length < 48) (hN : ∀ (s' : MS) (k' p' : Nat) (K' : SLt) a' w', RunF f s0 b rest p' s' k' → ExW f B L w s' K' w' → s.fuel < s'.fuel → FrameOk w b ba bc j p' x0 x1 x6 x7 x9 x10 a' → Q (.exit 1) a' w') :
 Code.wp Tryz.prog (midC T) Q ⟨#[x0, x1, .slice ba b.size bc, .int .i64 (j : Int), .pointer (some ⟨w.heap.size, 0, none⟩), .pointer (some ⟨w.heap.size + 1, 0, none⟩), x6, x7, .pointer (some ⟨w.heap.size + 1 + 1, 0, none⟩), x9, x10, .int .i64 (p : Int), .int .i64 (numD b p).1, .int .i64 (numD b p).2, x14, x15, x16, x17, x18, x19, x20, x21, x22, x23, x24, x25, x26, x27, x28, x29, x30, x31, x32, x33, x34, x35, x36, x37, x38, x39, x40, x41, x42, x43, x44, x45, x46, x47, x48, x49, x50, x51, x52, x53, x54, x55, x56, x57, x58, x59, x60, x61, x62, x63, x64, x65, x66, x67, x68, x69, x70, x71, x72, x73, x74, x75, x76, x77, x78, x79, x80, x81, x82, x83, x84, x85, x86, x87, x88, x89, x90, x91, x92, x93, x94, x95, x96, x97, x98, x99, x100, x101, x102, x103, x104, x105, x106, x107, x108, x109, x110, x111, x112, x113, x114, x115, x116, x117, x118, x119, x120, x121, x122, x123, x124, x125, x126, x127, x128, x129, x130, x131, x132, x133, x134, x135, x136, x137, x138, x139, x140, x141, x142, x143, x144, x145, x146, x147, x148, x149, x150, x151, x152, x153, x154, x155, x156, x157, x158, x159, x160, x161, x162, x163, x164, x165, x166, x167, x168, x169, x170, x171, x172, x173, x174, x175, x176, x177, x178, x179, x180, x181, x182, x183, x184, x185, x186, x187, x188, x189, x190, x191, x192, x193, x194, x195, x196, x197, x198, x199, x200, x201, x202, x203, x204, x205, x206, x207, x208, x209, x210, x211, x212, x213, x214, x215, x216, x217, x218, x219, x220, x221, x222, x223, x224, x225, x226, x227], []⟩ wr := by
 have HX := Lib.hid hX
 have HR := Lib.hid hR
 have HC := Lib.hid hC
 have HN := Lib.hid hN
 have hst := step_item (f := f) hR.rows hp (by omega) (by rw [hi])
 rw [hi] at hst
 have hpu : ({ s with fuel := s.fuel + 1, rows := ⟨b, q, false⟩ :: rest } : MS).push (numD b p).1 = { s with fuel := s.fuel + 1, rows := ⟨b, q, false⟩ :: rest, stack := s.stack ++ [(numD b p).1] } := by unfold MS.push; rw [if_neg (by show ¬ s.stack.length = 48; omega)]
 simp only [if_true] at hst
 rw [hpu] at hst
 have HRN : Hid (RunF f s0 b rest q { s with fuel := s.fuel + 1, rows := ⟨b, q, false⟩ :: rest, stack := s.stack ++ [(numD b p).1] } (k + 1)) := hR.next hC.font.fit hst hR.fault hR.ended rfl
 rw [hq]
 have z1 : ((q : Int) == -2) = false := by (simp <;> omega)
 have z2 : (0 : Int) ≤ (q : Int) := by omega
 have z3 : ¬ (48 : Int) ≤ (s.stack.length : Int) := by omega
 have HLN : Hid (s.stack.length ≤ 47) := by unfold Hid; omega
 have HP0 : Hid ((wr.alloc (.cells #[] 3)).ownsRow wr.heap.size 3 1 (.slice (some ⟨wr.heap.size, 0, none⟩) 0 0) 0 []) := World.ownsRow_lit (base := wr.heap.size) (e := 3) (size := 1) wr #[] 0 (Nat.le_refl _) (by decide) rfl
 have HBA := Lib.hid (bel_al wr (.cells #[] 3))
 have HSR := Lib.hid (opds_src (hX.opds.keep (keep_bel HBA.out)))
 have DC : wr.heap[w.heap.size + 1]? = some (.cells #[.slice K.sa s.stack.length K.sc, .slice K.oa s.out.length K.oc, .int .i64 s.x, .int .i64 s.y, .int .i64 (s.knots : Int), .int .i64 ((s.stems : Nat) : Int), .int .i64 ((s.fuel + 1 : Nat) : Int), .int .i64 s.width, .bool s.asked] 52 (0, 0)) := hX.dD
 have d0 := blk_cell DC 0 _ rfl
 have hlt : w.heap.size + 1 < wr.heap.size := blk_lt DC
 generalize (numD b p).1 = nv at *
 clear hX hR hC hN DC hq hp hw hi hl hst hpu
 unfold midC
 conv => arg 2; arg 1; whnf
 conv => arg 2; arg 2; arg 1; whnf
 conv => arg 2; arg 2; arg 2; arg 1; whnf
 conv => arg 2; arg 2; arg 2; arg 2; arg 1; whnf
 conv => arg 2; arg 2; arg 2; arg 2; arg 2; arg 1; whnf
 go_wp2_with (at_builtin; first
  | (refine wpList_app elI rfl _ _ rfl (wr.alloc (.cells #[] 3)) wr.heap.size wr.heap.size 0 0 [] K.sa s.stack.length K.sc (s.stack.map (Value.int .i64)) rfl rfl HP0.out (by simp) HSR.out (ints_one _) (by have := HLN.out; omega) (by have := HLN.out; omega) HBA.out.size ?_
     intro g9 c9 w9 ho9 hg9 hat9
     rw [Nat.zero_add, List.nil_append] at ho9
     have HB9 : Hid (Below wr.heap.size wr w9) := Below.trans HBA.out ⟨hg9.os, hg9.tape, hg9.output, hg9.size, fun j hj => hg9.block j (Nat.lt_of_lt_of_le hj HBA.out.size) (fun e => by have := Option.some.inj e; omega)⟩
     have HO9 := Lib.hid ho9
     clear ho9 hg9 hat9)
  | (refine wpList_app elI rfl _ _ rfl (w9.alloc (.cells #[.int .i64 nv] 3)) wr.heap.size g9 c9 s.stack.length (s.stack.map (Value.int .i64)) (some ⟨w9.heap.size, 0, none⟩) 1 1 ([nv].map (Value.int .i64)) rfl rfl (own_below HO9.out (bel_al _ _)) rfl (.inr ⟨_, 0, rfl, lies_new⟩) (ints_one _) (by have := HLN.out; omega) (by have := HLN.out; omega) (HB9.out.alloc HB9.out.size _).size ?_
     intro g11 c11 w11 ho11 hg11 hat11
     have HB10 := Lib.hid (HB9.out.alloc HB9.out.size (.cells #[.int .i64 nv] 3))
     have HB11 : Hid (Below wr.heap.size wr w11) := Below.trans HB10.out ⟨hg11.os, hg11.tape, hg11.output, hg11.size, fun j hj => hg11.block j (Nat.lt_of_lt_of_le hj HB10.out.size) (fun e => by have := Option.some.inj e; have := (ownsRow_cap HO9.out).2.1; omega)⟩
     have HO11 := Lib.hid ho11
     have DC := (HX.out.up HC.out.le HB11.out).dD
     have HD11 := Lib.hid DC
     have p0 := blk_cell DC 0 _ rfl
     have r0 := blk_free DC 0
     clear ho11 hg11 hat11 DC))
 have hg12 := grown_set w11 (w.heap.size + 1) 0 (.slice (some ⟨g11, 0, none⟩) (s.stack.length + 1) c11)
 have hd12 : (w11.setCell ⟨w.heap.size + 1, 0, none⟩ (.slice (some ⟨g11, 0, none⟩) (s.stack.length + 1) c11)).heap[w.heap.size + 1]? = some (.cells (stV (some ⟨g11, 0, none⟩) c11 K.oa K.oc { s with fuel := s.fuel + 1, rows := ⟨b, q, false⟩ :: rest, stack := s.stack ++ [nv] }) 52 (0, 0)) := by
  have h := blk_set HD11.out 0 (.slice (some ⟨g11, 0, none⟩) (s.stack.length + 1) c11)
  rw [h]
  unfold stV
  simp
 have HXN := Lib.hid (ExW.turn (s' := { s with fuel := s.fuel + 1, rows := ⟨b, q, false⟩ :: rest, stack := s.stack ++ [nv] }) (K' := ⟨some ⟨g11, 0, none⟩, c11, K.oa, K.oc, K.vs⟩) HX.out HC.out.le (HB11.out.mono (Nat.le_trans HC.out.le HX.out.le)) (keepD_bel (Nat.le_refl _) HB11.out) hg12 hd12 (HX.out.outw.below HB11.out) (opds_own (by rw [List.map_append]; exact HO11.out)) (by show (s.stack ++ [nv]).length ≤ c11; have := (ownsRow_cap HO11.out).1; simp; omega))
 exact HN.out _ _ _ _ _ _ HRN.out HXN.out (Nat.lt_succ_self _) ⟨_, _, _, _, _, _, _, _, _, _, _, _, _, _, _, _, _, _, _, _, _, _, _, _, _, _, _, _, _, _, _, _, _, _, _, _, _, _, _, _, _, _, _, _, _, _, _, _, _, _, _, _, _, _, _, _, _, _, _, _, _, _, _, _, _, _, _, _, _, _, _, _, _, _, _, _, _, _, _, _, _, _, _, _, _, _, _, _, _, _, _, _, _, _, _, _, _, _, _, _, _, _, _, _, _, _, _, _, _, _, _, _, _, _, _, _, _, _, _, _, _, _, _, _, _, _, _, _, _, _, _, _, _, _, _, _, _, _, _, _, _, _, _, _, _, _, _, _, _, _, _, _, _, _, _, _, _, _, _, _, _, _, _, _, _, _, _, _, _, _, _, _, _, _, _, _, _, _, _, _, _, _, _, _, _, _, _, _, _, _, _, _, _, _, _, _, _, _, _, _, _, _, _, _, _, _, _, _, _, _, _, _, _, _, _, _, rfl⟩
set_option maxRecDepth 1000000 in
set_option maxHeartbeats 4000000 in
theorem m_op (f : FS) (B : Nat) (L : FLt) (b : ByteArray) (ba : Option Addr) (bc j : Nat) (w wr : World) (s0 : MS) (rest : List Rw) (Q : Exit → Act → World → Prop) (hC : Ctx f B L b ba bc w) (T : Code) (p k : Nat) (s : MS) (K : SLt) (hR : RunF f s0 b rest p s k) (hX : ExW f B L w { s with fuel := s.fuel + 1 } K wr) (hp : p < b.size) (hq : (numD b p).2 = -1) (h12 : bt b p ≠ 12)
 (hT : ∀ (y12 y13 y39 y40 y41 y42 y43 y44 y45 y46 y47 y48 y49 y50 y51 y52 y53 y54 y55 y56 y57 y58 y59 y60 y61 y62 y63 y64 y65 y66 y67 y68 y69 y70 y71 y72 y73 y74 y75 y76 y77 y78 y79 : Value) (V : World), ExW f B L w { s with fuel := s.fuel + 1 } K V → Code.wp Tryz.prog T Q ⟨#[x0, x1, .slice ba b.size bc, .int .i64 (j : Int), .pointer (some ⟨w.heap.size, 0, none⟩), .pointer (some ⟨w.heap.size + 1, 0, none⟩), x6, x7, .pointer (some ⟨w.heap.size + 1 + 1, 0, none⟩), x9, x10, .int .i64 (((p + 1 : Nat) : Int)), y12, y13, .int .i64 (bt b p), x15, x16, x17, x18, x19, x20, x21, x22, x23, x24, x25, x26, x27, x28, x29, x30, x31, x32, x33, x34, x35, x36, x37, x38, y39, y40, y41, y42, y43, y44, y45, y46, y47, y48, y49, y50, y51, y52, y53, y54, y55, y56, y57, y58, y59, y60, y61, y62, y63, y64, y65, y66, y67, y68, y69, y70, y71, y72, y73, y74, y75, y76, y77, y78, y79, x80, x81, x82, x83, x84, x85, x86, x87, x88, x89, x90, x91, x92, x93, x94, x95, x96, x97, x98, x99, x100, x101, x102, x103, x104, x105, x106, x107, x108, x109, x110, x111, x112, x113, x114, x115, x116, x117, x118, x119, x120, x121, x122, x123, x124, x125, x126, x127, x128, x129, x130, x131, x132, x133, x134, x135, x136, x137, x138, x139, x140, x141, x142, x143, x144, x145, x146, x147, x148, x149, x150, x151, x152, x153, x154, x155, x156, x157, x158, x159, x160, x161, x162, x163, x164, x165, x166, x167, x168, x169, x170, x171, x172, x173, x174, x175, x176, x177, x178, x179, x180, x181, x182, x183, x184, x185, x186, x187, x188, x189, x190, x191, x192, x193, x194, x195, x196, x197, x198, x199, x200, x201, x202, x203, x204, x205, x206, x207, x208, x209, x210, x211, x212, x213, x214, x215, x216, x217, x218, x219, x220, x221, x222, x223, x224, x225, x226, x227], []⟩ V) :
 Code.wp Tryz.prog (midC T) Q ⟨#[x0, x1, .slice ba b.size bc, .int .i64 (j : Int), .pointer (some ⟨w.heap.size, 0, none⟩), .pointer (some ⟨w.heap.size + 1, 0, none⟩), x6, x7, .pointer (some ⟨w.heap.size + 1 + 1, 0, none⟩), x9, x10, .int .i64 (p : Int), .int .i64 (numD b p).1, .int .i64 (numD b p).2, x14, x15, x16, x17, x18, x19, x20, x21, x22, x23, x24, x25, x26, x27, x28, x29, x30, x31, x32, x33, x34, x35, x36, x37, x38, x39, x40, x41, x42, x43, x44, x45, x46, x47, x48, x49, x50, x51, x52, x53, x54, x55, x56, x57, x58, x59, x60, x61, x62, x63, x64, x65, x66, x67, x68, x69, x70, x71, x72, x73, x74, x75, x76, x77, x78, x79, x80, x81, x82, x83, x84, x85, x86, x87, x88, x89, x90, x91, x92, x93, x94, x95, x96, x97, x98, x99, x100, x101, x102, x103, x104, x105, x106, x107, x108, x109, x110, x111, x112, x113, x114, x115, x116, x117, x118, x119, x120, x121, x122, x123, x124, x125, x126, x127, x128, x129, x130, x131, x132, x133, x134, x135, x136, x137, x138, x139, x140, x141, x142, x143, x144, x145, x146, x147, x148, x149, x150, x151, x152, x153, x154, x155, x156, x157, x158, x159, x160, x161, x162, x163, x164, x165, x166, x167, x168, x169, x170, x171, x172, x173, x174, x175, x176, x177, x178, x179, x180, x181, x182, x183, x184, x185, x186, x187, x188, x189, x190, x191, x192, x193, x194, x195, x196, x197, x198, x199, x200, x201, x202, x203, x204, x205, x206, x207, x208, x209, x210, x211, x212, x213, x214, x215, x216, x217, x218, x219, x220, x221, x222, x223, x224, x225, x226, x227], []⟩ wr := by
 have HX := Lib.hid hX
 have HR := Lib.hid hR
 have HC := Lib.hid hC
 have HT := Lib.hid hT
 rw [hq]
 have z0 : (0 : Int) ≤ (p : Int) := by omega
 have z1 : (p : Int) < (b.size : Int) := by omega
 have hw1 : wrap64 ((p : Int) + 1) = ((p + 1 : Nat) : Int) := by have := hC.size; unfold wrap64; omega
 obtain ⟨bb, off, hba, hcell⟩ := (hC.code.kept hX.bel).byte hp
 subst hba
 have k0 := hcell p hp
 have hb0 := bt_nonneg b p
 have hb1 := bt_le b p
 have z2 : (bt b p == 12) = false := by simpa using h12
 clear hX hR hC hT hcell hq h12 hp
 generalize bt b p = o at *
 unfold midC
 conv => arg 2; arg 1; whnf
 conv => arg 2; arg 2; arg 1; whnf
 conv => arg 2; arg 2; arg 2; arg 1; whnf
 conv => arg 2; arg 2; arg 2; arg 2; arg 1; whnf
 conv => arg 2; arg 2; arg 2; arg 2; arg 2; arg 1; whnf
 go_wp2_with fail
 exact HT.out _ _ _ _ _ _ _ _ _ _ _ _ _ _ _ _ _ _ _ _ _ _ _ _ _ _ _ _ _ _ _ _ _ _ _ _ _ _ _ _ _ _ _ _ HX.out
set_option maxRecDepth 1000000 in
set_option maxHeartbeats 4000000 in
theorem m_twelve (f : FS) (B : Nat) (L : FLt) (b : ByteArray) (ba : Option Addr) (bc j : Nat) (w wr : World) (s0 : MS) (rest : List Rw) (Q : Exit → Act → World → Prop) (hC : Ctx f B L b ba bc w) (T : Code) (p k : Nat) (s : MS) (K : SLt) (hR : RunF f s0 b rest p s k) (hX : ExW f B L w { s with fuel := s.fuel + 1 } K wr) (hp : p + 1 < b.size) (hq : (numD b p).2 = -1) (h12 : bt b p = 12)
 (hT : ∀ (y12 y13 y39 y40 y41 y42 y43 y44 y45 y46 y47 y48 y49 y50 y51 y52 y53 y54 y55 y56 y57 y58 y59 y60 y61 y62 y63 y64 y65 y66 y67 y68 y69 y70 y71 y72 y73 y74 y75 y76 y77 y78 y79 : Value) (V : World), ExW f B L w { s with fuel := s.fuel + 1 } K V → Code.wp Tryz.prog T Q ⟨#[x0, x1, .slice ba b.size bc, .int .i64 (j : Int), .pointer (some ⟨w.heap.size, 0, none⟩), .pointer (some ⟨w.heap.size + 1, 0, none⟩), x6, x7, .pointer (some ⟨w.heap.size + 1 + 1, 0, none⟩), x9, x10, .int .i64 (((p + 2 : Nat) : Int)), y12, y13, .int .i64 (1200 + bt b (p + 1)), x15, x16, x17, x18, x19, x20, x21, x22, x23, x24, x25, x26, x27, x28, x29, x30, x31, x32, x33, x34, x35, x36, x37, x38, y39, y40, y41, y42, y43, y44, y45, y46, y47, y48, y49, y50, y51, y52, y53, y54, y55, y56, y57, y58, y59, y60, y61, y62, y63, y64, y65, y66, y67, y68, y69, y70, y71, y72, y73, y74, y75, y76, y77, y78, y79, x80, x81, x82, x83, x84, x85, x86, x87, x88, x89, x90, x91, x92, x93, x94, x95, x96, x97, x98, x99, x100, x101, x102, x103, x104, x105, x106, x107, x108, x109, x110, x111, x112, x113, x114, x115, x116, x117, x118, x119, x120, x121, x122, x123, x124, x125, x126, x127, x128, x129, x130, x131, x132, x133, x134, x135, x136, x137, x138, x139, x140, x141, x142, x143, x144, x145, x146, x147, x148, x149, x150, x151, x152, x153, x154, x155, x156, x157, x158, x159, x160, x161, x162, x163, x164, x165, x166, x167, x168, x169, x170, x171, x172, x173, x174, x175, x176, x177, x178, x179, x180, x181, x182, x183, x184, x185, x186, x187, x188, x189, x190, x191, x192, x193, x194, x195, x196, x197, x198, x199, x200, x201, x202, x203, x204, x205, x206, x207, x208, x209, x210, x211, x212, x213, x214, x215, x216, x217, x218, x219, x220, x221, x222, x223, x224, x225, x226, x227], []⟩ V) :
 Code.wp Tryz.prog (midC T) Q ⟨#[x0, x1, .slice ba b.size bc, .int .i64 (j : Int), .pointer (some ⟨w.heap.size, 0, none⟩), .pointer (some ⟨w.heap.size + 1, 0, none⟩), x6, x7, .pointer (some ⟨w.heap.size + 1 + 1, 0, none⟩), x9, x10, .int .i64 (p : Int), .int .i64 (numD b p).1, .int .i64 (numD b p).2, x14, x15, x16, x17, x18, x19, x20, x21, x22, x23, x24, x25, x26, x27, x28, x29, x30, x31, x32, x33, x34, x35, x36, x37, x38, x39, x40, x41, x42, x43, x44, x45, x46, x47, x48, x49, x50, x51, x52, x53, x54, x55, x56, x57, x58, x59, x60, x61, x62, x63, x64, x65, x66, x67, x68, x69, x70, x71, x72, x73, x74, x75, x76, x77, x78, x79, x80, x81, x82, x83, x84, x85, x86, x87, x88, x89, x90, x91, x92, x93, x94, x95, x96, x97, x98, x99, x100, x101, x102, x103, x104, x105, x106, x107, x108, x109, x110, x111, x112, x113, x114, x115, x116, x117, x118, x119, x120, x121, x122, x123, x124, x125, x126, x127, x128, x129, x130, x131, x132, x133, x134, x135, x136, x137, x138, x139, x140, x141, x142, x143, x144, x145, x146, x147, x148, x149, x150, x151, x152, x153, x154, x155, x156, x157, x158, x159, x160, x161, x162, x163, x164, x165, x166, x167, x168, x169, x170, x171, x172, x173, x174, x175, x176, x177, x178, x179, x180, x181, x182, x183, x184, x185, x186, x187, x188, x189, x190, x191, x192, x193, x194, x195, x196, x197, x198, x199, x200, x201, x202, x203, x204, x205, x206, x207, x208, x209, x210, x211, x212, x213, x214, x215, x216, x217, x218, x219, x220, x221, x222, x223, x224, x225, x226, x227], []⟩ wr := by
 have HX := Lib.hid hX
 have HR := Lib.hid hR
 have HC := Lib.hid hC
 have HT := Lib.hid hT
 rw [hq]
 have z0 : (0 : Int) ≤ (p : Int) := by omega
 have z1 : (p : Int) < (b.size : Int) := by omega
 have hw1 : wrap64 ((p : Int) + 1) = ((p + 1 : Nat) : Int) := by have := hC.size; unfold wrap64; omega
 obtain ⟨bb, off, hba, hcell⟩ := (hC.code.kept hX.bel).byte (show p < b.size by omega)
 subst hba
 have k0 := hcell p (by omega)
 have hb0 := bt_nonneg b p
 have hb1 := bt_le b p
 have k1 := hcell (p + 1) hp
 rw [h12] at k0
 have z3 : ((p + 1 : Nat) : Int) < (b.size : Int) := by omega
 have z4 : (0 : Int) ≤ ((p + 1 : Nat) : Int) := by omega
 have z5 : ¬ (b.size : Int) ≤ ((p + 1 : Nat) : Int) := by omega
 have hw2 : wrap64 (((p + 1 : Nat) : Int) + 1) = ((p + 2 : Nat) : Int) := by have := hC.size; unfold wrap64; omega
 have hb2 := bt_nonneg b (p + 1)
 have hb3 := bt_le b (p + 1)
 clear hX hR hC hT hcell hq h12 hp hb0 hb1
 generalize bt b (p + 1) = o at *
 generalize hpp : p + 1 = pp at *
 have k1' : wr.cell? ⟨bb, off + pp, none⟩ = some (.int .u8 o) := k1
 unfold midC
 conv => arg 2; arg 1; whnf
 conv => arg 2; arg 2; arg 1; whnf
 conv => arg 2; arg 2; arg 2; arg 1; whnf
 conv => arg 2; arg 2; arg 2; arg 2; arg 1; whnf
 conv => arg 2; arg 2; arg 2; arg 2; arg 2; arg 1; whnf
 go_wp2_with fail
 exact HT.out _ _ _ _ _ _ _ _ _ _ _ _ _ _ _ _ _ _ _ _ _ _ _ _ _ _ _ _ _ _ _ _ _ _ _ _ _ _ _ _ _ _ _ _ HX.out
set_option maxRecDepth 1000000 in
set_option maxHeartbeats 4000000 in
theorem m_miss (f : FS) (B : Nat) (L : FLt) (b : ByteArray) (ba : Option Addr) (bc j : Nat) (w wr : World) (s0 : MS) (rest : List Rw) (Q : Exit → Act → World → Prop) (hC : Ctx f B L b ba bc w) (T : Code) (p k : Nat) (s : MS) (K : SLt) (hR : RunF f s0 b rest p s k) (hX : ExW f B L w { s with fuel := s.fuel + 1 } K wr) (hp : p < b.size) (hw : s.fuel < 20000) (hq : (numD b p).2 = -1) (h12 : bt b p = 12) (hs : b.size ≤ p + 1) (hret : ∀ a' w', RetX (ExecPost f B s0 w) a' w' → Q .ret a' w') :
 Code.wp Tryz.prog (midC T) Q ⟨#[x0, x1, .slice ba b.size bc, .int .i64 (j : Int), .pointer (some ⟨w.heap.size, 0, none⟩), .pointer (some ⟨w.heap.size + 1, 0, none⟩), x6, x7, .pointer (some ⟨w.heap.size + 1 + 1, 0, none⟩), x9, x10, .int .i64 (p : Int), .int .i64 (numD b p).1, .int .i64 (numD b p).2, x14, x15, x16, x17, x18, x19, x20, x21, x22, x23, x24, x25, x26, x27, x28, x29, x30, x31, x32, x33, x34, x35, x36, x37, x38, x39, x40, x41, x42, x43, x44, x45, x46, x47, x48, x49, x50, x51, x52, x53, x54, x55, x56, x57, x58, x59, x60, x61, x62, x63, x64, x65, x66, x67, x68, x69, x70, x71, x72, x73, x74, x75, x76, x77, x78, x79, x80, x81, x82, x83, x84, x85, x86, x87, x88, x89, x90, x91, x92, x93, x94, x95, x96, x97, x98, x99, x100, x101, x102, x103, x104, x105, x106, x107, x108, x109, x110, x111, x112, x113, x114, x115, x116, x117, x118, x119, x120, x121, x122, x123, x124, x125, x126, x127, x128, x129, x130, x131, x132, x133, x134, x135, x136, x137, x138, x139, x140, x141, x142, x143, x144, x145, x146, x147, x148, x149, x150, x151, x152, x153, x154, x155, x156, x157, x158, x159, x160, x161, x162, x163, x164, x165, x166, x167, x168, x169, x170, x171, x172, x173, x174, x175, x176, x177, x178, x179, x180, x181, x182, x183, x184, x185, x186, x187, x188, x189, x190, x191, x192, x193, x194, x195, x196, x197, x198, x199, x200, x201, x202, x203, x204, x205, x206, x207, x208, x209, x210, x211, x212, x213, x214, x215, x216, x217, x218, x219, x220, x221, x222, x223, x224, x225, x226, x227], []⟩ wr := by
 have HX := Lib.hid hX
 have HR := Lib.hid hR
 have HC := Lib.hid hC
 have HRET := Lib.hid hret
 have HS := Lib.hid (step_broken (f := f) hR.rows hp (by omega) ((item_op hp hq).2.2 h12 hs))
 rw [hq]
 have z0 : (0 : Int) ≤ (p : Int) := by omega
 have z1 : (p : Int) < (b.size : Int) := by omega
 have hw1 : wrap64 ((p : Int) + 1) = ((p + 1 : Nat) : Int) := by have := hC.size; unfold wrap64; omega
 obtain ⟨bb, off, hba, hcell⟩ := (hC.code.kept hX.bel).byte hp
 subst hba
 have k0 := hcell p hp
 have hb0 := bt_nonneg b p
 have hb1 := bt_le b p
 rw [h12] at k0
 have z3 : (b.size : Int) ≤ ((p + 1 : Nat) : Int) := by omega
 have DC : wr.heap[w.heap.size + 1]? = some (.cells #[.slice K.sa s.stack.length K.sc, .slice K.oa s.out.length K.oc, .int .i64 s.x, .int .i64 s.y, .int .i64 (s.knots : Int), .int .i64 ((s.stems : Nat) : Int), .int .i64 ((s.fuel + 1 : Nat) : Int), .int .i64 s.width, .bool s.asked] 52 (0, 0)) := hX.dD
 have HDC := Lib.hid DC
 obtain ⟨d0, d1, d2, d3, d4, d5, d6, d7, d8⟩ := blk9 DC
 obtain ⟨f0, f1, f2, f3, f4, f5, f6, f7, f8⟩ := free9 DC
 have EC := hX.dE
 have HEC := Lib.hid EC
 obtain ⟨e0, e1, e2, e3, e4, e5, e6, e7, e8⟩ := blk9 EC
 obtain ⟨g0, g1, g2, g3, g4, g5, g6, g7, g8⟩ := free9 EC
 clear hX hR hC hret hcell hq h12 hp hw hs DC EC hb0 hb1
 generalize p + 1 = pp at *
 unfold midC
 conv => arg 2; arg 1; whnf
 conv => arg 2; arg 2; arg 1; whnf
 conv => arg 2; arg 2; arg 2; arg 1; whnf
 conv => arg 2; arg 2; arg 2; arg 2; arg 1; whnf
 conv => arg 2; arg 2; arg 2; arg 2; arg 2; arg 1; whnf
 go_wp2_with fail
 refine HRET.out _ _ ?_
 refine ret_gen _ fun w9 hw9 => ?_
 have hg9 : wr.grownBy w9 (some (w.heap.size + 1 + 1)) := by rw [hw9]; exact set9_grown _ _ _ _ _ _ _ _ _ _ _
 have hE9 : w9.heap[w.heap.size + 1 + 1]? = some (.cells #[.slice K.sa s.stack.length K.sc, .slice K.oa s.out.length K.oc, .int .i64 s.x, .int .i64 s.y, .int .i64 (s.knots : Int), .int .i64 ((s.stems : Nat) : Int), .int .i64 ((s.fuel + 1 : Nat) : Int), .int .i64 s.width, .bool s.asked] 52 (0, 0)) := by rw [hw9]; exact set9_blk HEC.out _ _ _ _ _ _ _ _ _
 clear hw9
 have hb9 : Below B w w9 := HX.out.bel.grown hg9 (Nat.le_trans HC.out.le HX.out.le) (fun k hk => by cases hk; have := HC.out.le; omega)
 have hk9 : KeepD w.heap.size w w9 := HX.out.keep.trans (keepD_new hg9 (by omega))
 refine retx rfl rfl rfl rfl hE9 ?_
 exact exec_err (K := K) (s2 := { s with fuel := s.fuel + 1 }) HR.out HC.out.font.fit HS.out (by refine fault_of ?_ 81; exact HR.out.fault) (by decide) rfl hb9 hk9
end Go.Proofs.YtklenppldblbdaaGreat
