import Derived.Test.YtklenppldblbdaaGreatK29
import Derived.Test.YtklenppldblbdaaGreatK30
import Derived.Test.YtklenppldblbdaaGreatK31
import Derived.Test.YtklenppldblbdaaGreatK33
import Derived.Test.YtklenppldblbdaaGreatK34
import Derived.Deep.LoopGhost
set_option linter.unusedSimpArgs false
set_option linter.unusedVariables false
namespace Go.Proofs.YtklenppldblbdaaGreat
open Go.RowKit Go.PlainAid
variable {x0 x1 x2 x3 x4 x5 x6 x7 x8 x9 x10 x11 x12 x13 x14 x15 x16 x17 x18 x19 x20 x21 x22 x23 x24 x25 x26 x27 x28 x29 x30 x31 x32 x33 x34 x35 x36 x37 x38 x39 x40 x41 x42 x43 x44 x45 x46 x47 x48 x49 x50 x51 x52 x53 x54 x55 x56 x57 x58 x59 x60 x61 x62 x63 x64 x65 x66 x67 x68 x69 x70 x71 x72 x73 x74 x75 x76 x77 x78 x79 x80 x81 x82 x83 x84 x85 x86 x87 x88 x89 x90 x91 x92 x93 x94 x95 x96 x97 x98 x99 x100 x101 x102 x103 x104 x105 x106 x107 x108 x109 x110 x111 x112 x113 x114 x115 x116 x117 x118 x119 x120 x121 x122 x123 x124 x125 x126 x127 x128 x129 x130 x131 x132 x133 x134 x135 x136 x137 x138 x139 x140 x141 x142 x143 x144 x145 x146 x147 x148 x149 x150 x151 x152 x153 x154 x155 x156 x157 x158 x159 x160 x161 x162 x163 x164 x165 x166 x167 x168 x169 x170 x171 x172 x173 x174 x175 x176 x177 x178 x179 x180 x181 x182 x183 x184 x185 x186 x187 x188 x189 x190 x191 x192 x193 x194 x195 x196 x197 x198 x199 x200 x201 x202 x203 x204 x205 x206 x207 x208 x209 x210 x211 x212 x213 x214 x215 x216 x217 x218 x219 x220 x221 x222 x223 x224 x225 x226 x227 : Value}
set_option maxRecDepth 1000000 in
set_option maxHeartbeats 4000000 in
theorem t_all (f : FS) (B : Nat) (L : FLt) (b : ByteArray) (ba : Option Addr) (bc j : Nat) (w wr : World) (s0 : MS) (rest : List Rw) (Q : Exit → Act → World → Prop) (hC : Ctx f B L b ba bc w) (p k : Nat) (s : MS) (K : SLt) (hR : RunF f s0 b rest p s k) (t : MS) (pp : Nat) (op : Int) (hT : StepT f b rest pp s t op) (hX : ExW f B L w t K wr) (hj : rest.length = j) (hE : ExecOk (j + 1)) (hret : ∀ a' w', RetX (ExecPost f B s0 w) a' w' → Q .ret a' w')
 (hN : ∀ (s' : MS) (k' p' : Nat) (K' : SLt) a' w', RunF f s0 b rest p' s' k' → ExW f B L w s' K' w' → s.fuel < s'.fuel → FrameOk w b ba bc j p' x0 x1 x6 x7 x9 x10 a' → Q (.normal) a' w') :
 Code.wp Tryz.prog t22 Q ⟨#[x0, x1, .slice ba b.size bc, .int .i64 (j : Int), .pointer (some ⟨w.heap.size, 0, none⟩), .pointer (some ⟨w.heap.size + 1, 0, none⟩), x6, x7, .pointer (some ⟨w.heap.size + 1 + 1, 0, none⟩), x9, x10, .int .i64 (pp : Int), x12, x13, .int .i64 op, x15, x16, x17, x18, x19, x20, x21, x22, x23, x24, x25, x26, x27, x28, x29, x30, x31, x32, x33, x34, x35, x36, x37, x38, x39, x40, x41, x42, x43, x44, x45, x46, x47, x48, x49, x50, x51, x52, x53, x54, x55, x56, x57, x58, x59, x60, x61, x62, x63, x64, x65, x66, x67, x68, x69, x70, x71, x72, x73, x74, x75, x76, x77, x78, x79, x80, x81, x82, x83, x84, x85, x86, x87, x88, x89, x90, x91, x92, x93, x94, x95, x96, x97, x98, x99, x100, x101, x102, x103, x104, x105, x106, x107, x108, x109, x110, x111, x112, x113, x114, x115, x116, x117, x118, x119, x120, x121, x122, x123, x124, x125, x126, x127, x128, x129, x130, x131, x132, x133, x134, x135, x136, x137, x138, x139, x140, x141, x142, x143, x144, x145, x146, x147, x148, x149, x150, x151, x152, x153, x154, x155, x156, x157, x158, x159, x160, x161, x162, x163, x164, x165, x166, x167, x168, x169, x170, x171, x172, x173, x174, x175, x176, x177, x178, x179, x180, x181, x182, x183, x184, x185, x186, x187, x188, x189, x190, x191, x192, x193, x194, x195, x196, x197, x198, x199, x200, x201, x202, x203, x204, x205, x206, x207, x208, x209, x210, x211, x212, x213, x214, x215, x216, x217, x218, x219, x220, x221, x222, x223, x224, x225, x226, x227], []⟩ wr := by
 by_cases hs : op = 1 ∨ op = 3 ∨ op = 18 ∨ op = 23
 ·exact t_stem f B L b ba bc j w wr s0 rest Q hC p k s K hR t pp op hT hX hs hret hN
 by_cases hk : op = 19 ∨ op = 20
 ·exact t_mask f B L b ba bc j w wr s0 rest Q hC p k s K hR t pp op hT hX hk hret hN
 by_cases hm : op = 21 ∨ op = 22 ∨ op = 4
 ·exact t_move f B L b ba bc j w wr s0 rest Q hC p k s K hR t pp op hT hX hm hret hN
 by_cases h10 : op = 10
 ·subst h10; exact t_call10 f B L b ba bc j w wr s0 rest Q hC p k s K hR t pp hT hX hj hE hret hN
 by_cases h29 : op = 29
 ·subst h29; exact t_call29 f B L b ba bc j w wr s0 rest Q hC p k s K hR t pp hT hX hj hE hret hN
 by_cases h11 : op = 11
 ·subst h11; exact t_return f B L b ba bc j w wr s0 rest Q hC p k s K hR t pp hT hX hj hret
 by_cases h14 : op = 14
 ·subst h14
  exact t_end f B L b ba bc j w wr s0 rest Q hC p k s K hR t pp hT hX hret
 exact t_draw f B L b ba bc j w wr s0 rest Q hC p k s K hR t pp op hT hX (by omega) hret hN
set_option maxRecDepth 1000000 in
set_option maxHeartbeats 4000000 in
theorem m_all (f : FS) (B : Nat) (L : FLt) (b : ByteArray) (ba : Option Addr) (bc j : Nat) (w wr : World) (s0 : MS) (rest : List Rw) (Q : Exit → Act → World → Prop) (hC : Ctx f B L b ba bc w) (p k : Nat) (s : MS) (K : SLt) (hR : RunF f s0 b rest p s k) (hX : ExW f B L w { s with fuel := s.fuel + 1 } K wr) (hp : p < b.size) (hw : s.fuel < 20000) (hj : rest.length = j) (hE : ExecOk (j + 1)) (hret : ∀ a' w', RetX (ExecPost f B s0 w) a' w' → Q .ret a' w')
 (hN : ∀ (s' : MS) (k' p' : Nat) (K' : SLt) a' w', RunF f s0 b rest p' s' k' → ExW f B L w s' K' w' → s.fuel < s'.fuel → FrameOk w b ba bc j p' x0 x1 x6 x7 x9 x10 a' → Q (.normal) a' w')
 (hx1 : ∀ (s' : MS) (k' p' : Nat) (K' : SLt) a' w', RunF f s0 b rest p' s' k' → ExW f B L w s' K' w' → s.fuel < s'.fuel → FrameOk w b ba bc j p' x0 x1 x6 x7 x9 x10 a' → Q (.exit 1) a' w') :
 Code.wp Tryz.prog (midC t22) Q ⟨#[x0, x1, .slice ba b.size bc, .int .i64 (j : Int), .pointer (some ⟨w.heap.size, 0, none⟩), .pointer (some ⟨w.heap.size + 1, 0, none⟩), x6, x7, .pointer (some ⟨w.heap.size + 1 + 1, 0, none⟩), x9, x10, .int .i64 (p : Int), .int .i64 (numD b p).1, .int .i64 (numD b p).2, x14, x15, x16, x17, x18, x19, x20, x21, x22, x23, x24, x25, x26, x27, x28, x29, x30, x31, x32, x33, x34, x35, x36, x37, x38, x39, x40, x41, x42, x43, x44, x45, x46, x47, x48, x49, x50, x51, x52, x53, x54, x55, x56, x57, x58, x59, x60, x61, x62, x63, x64, x65, x66, x67, x68, x69, x70, x71, x72, x73, x74, x75, x76, x77, x78, x79, x80, x81, x82, x83, x84, x85, x86, x87, x88, x89, x90, x91, x92, x93, x94, x95, x96, x97, x98, x99, x100, x101, x102, x103, x104, x105, x106, x107, x108, x109, x110, x111, x112, x113, x114, x115, x116, x117, x118, x119, x120, x121, x122, x123, x124, x125, x126, x127, x128, x129, x130, x131, x132, x133, x134, x135, x136, x137, x138, x139, x140, x141, x142, x143, x144, x145, x146, x147, x148, x149, x150, x151, x152, x153, x154, x155, x156, x157, x158, x159, x160, x161, x162, x163, x164, x165, x166, x167, x168, x169, x170, x171, x172, x173, x174, x175, x176, x177, x178, x179, x180, x181, x182, x183, x184, x185, x186, x187, x188, x189, x190, x191, x192, x193, x194, x195, x196, x197, x198, x199, x200, x201, x202, x203, x204, x205, x206, x207, x208, x209, x210, x211, x212, x213, x214, x215, x216, x217, x218, x219, x220, x221, x222, x223, x224, x225, x226, x227], []⟩ wr := by
 by_cases hneg : (numD b p).2 = -2
 ·exact m_bad f B L b ba bc j w wr s0 rest Q hC t22 p k s K hR hX hp hw hneg hret
 by_cases hop : (numD b p).2 = -1
 ·obtain ⟨i1, i2, i3⟩ := item_op hp hop
  by_cases h12 : bt b p = 12
  ·by_cases hs : b.size ≤ p + 1
   ·exact m_miss f B L b ba bc j w wr s0 rest Q hC t22 p k s K hR hX hp hw hop h12 hs hret
   ·refine m_twelve f B L b ba bc j w wr s0 rest Q hC t22 p k s K hR hX (by omega) hop h12 (fun y12 y13 y39 y40 y41 y42 y43 y44 y45 y46 y47 y48 y49 y50 y51 y52 y53 y54 y55 y56 y57 y58 y59 y60 y61 y62 y63 y64 y65 y66 y67 y68 y69 y70 y71 y72 y73 y74 y75 y76 y77 y78 y79 V hV => ?_)
    have hi := i2 h12 (by omega)
    refine t_all f B L b ba bc j w V s0 rest Q hC p k s K hR { s with fuel := s.fuel + 1, rows := ⟨b, p + 2, false⟩ :: rest } (p + 2) (1200 + bt b (p + 1)) ⟨rfl, hR.fault, hR.ended, hR.fit.pen, hR.fit.few, hR.fit.small, hR.fit.stems0 hR.fault, rfl, ?_, by omega⟩ ⟨hV.dF, hV.dD, hV.dE, hV.outw, hV.opds, hV.cap, hV.bel, hV.keep⟩ hj hE hret hN
    have h := step_item (f := f) hR.rows hp (by omega) (by rw [hi])
    rw [hi] at h
    exact h
  ·refine m_op f B L b ba bc j w wr s0 rest Q hC t22 p k s K hR hX hp hop h12 (fun y12 y13 y39 y40 y41 y42 y43 y44 y45 y46 y47 y48 y49 y50 y51 y52 y53 y54 y55 y56 y57 y58 y59 y60 y61 y62 y63 y64 y65 y66 y67 y68 y69 y70 y71 y72 y73 y74 y75 y76 y77 y78 y79 V hV => ?_)
   have hi := i1 h12
   refine t_all f B L b ba bc j w V s0 rest Q hC p k s K hR { s with fuel := s.fuel + 1, rows := ⟨b, p + 1, false⟩ :: rest } (p + 1) (bt b p) ⟨rfl, hR.fault, hR.ended, hR.fit.pen, hR.fit.few, hR.fit.small, hR.fit.stems0 hR.fault, rfl, ?_, by omega⟩ ⟨hV.dF, hV.dD, hV.dE, hV.outw, hV.opds, hV.cap, hV.bel, hV.keep⟩ hj hE hret hN
   have h := step_item (f := f) hR.rows hp (by omega) (by rw [hi])
   rw [hi] at h
   exact h
 ·have hge : 0 ≤ (numD b p).2 := by
   rcases num_cases hp with ⟨q, h1, _⟩ | ⟨h1, _⟩ | ⟨h1, _⟩ <;> omega
  obtain ⟨q, hq, _, hqs, hi⟩ := item_num hp hge
  by_cases hl : s.stack.length = 48
  ·exact m_full f B L b ba bc j w wr s0 rest Q hC t22 p k s K hR hX hp hw q hq hi hl hret
  ·exact m_push f B L b ba bc j w wr s0 rest Q hC t22 p k s K hR hX hp hw q hq hi (by have := hR.fit.few; omega) hx1
set_option maxRecDepth 1000000 in
set_option maxHeartbeats 4000000 in
theorem h_all (f : FS) (B : Nat) (L : FLt) (b : ByteArray) (ba : Option Addr) (bc j : Nat) (w wr : World) (s0 : MS) (rest : List Rw) (Q : Exit → Act → World → Prop) (hC : Ctx f B L b ba bc w) (p k : Nat) (s : MS) (K : SLt) (hR : RunF f s0 b rest p s k) (hX : ExW f B L w s K wr) (hj : rest.length = j) (hE : ExecOk (j + 1)) (hret : ∀ a' w', RetX (ExecPost f B s0 w) a' w' → Q .ret a' w')
 (hN : ∀ (s' : MS) (k' p' : Nat) (K' : SLt) a' w', RunF f s0 b rest p' s' k' → ExW f B L w s' K' w' → s.fuel < s'.fuel → FrameOk w b ba bc j p' x0 x1 x6 x7 x9 x10 a' → Q (.normal) a' w')
 (hx1 : ∀ (s' : MS) (k' p' : Nat) (K' : SLt) a' w', RunF f s0 b rest p' s' k' → ExW f B L w s' K' w' → s.fuel < s'.fuel → FrameOk w b ba bc j p' x0 x1 x6 x7 x9 x10 a' → Q (.exit 1) a' w') :
 Code.wp Tryz.prog (headC (midC t22)) Q ⟨#[x0, x1, .slice ba b.size bc, .int .i64 (j : Int), .pointer (some ⟨w.heap.size, 0, none⟩), .pointer (some ⟨w.heap.size + 1, 0, none⟩), x6, x7, .pointer (some ⟨w.heap.size + 1 + 1, 0, none⟩), x9, x10, .int .i64 (p : Int), x12, x13, x14, x15, x16, x17, x18, x19, x20, x21, x22, x23, x24, x25, x26, x27, x28, x29, x30, x31, x32, x33, x34, x35, x36, x37, x38, x39, x40, x41, x42, x43, x44, x45, x46, x47, x48, x49, x50, x51, x52, x53, x54, x55, x56, x57, x58, x59, x60, x61, x62, x63, x64, x65, x66, x67, x68, x69, x70, x71, x72, x73, x74, x75, x76, x77, x78, x79, x80, x81, x82, x83, x84, x85, x86, x87, x88, x89, x90, x91, x92, x93, x94, x95, x96, x97, x98, x99, x100, x101, x102, x103, x104, x105, x106, x107, x108, x109, x110, x111, x112, x113, x114, x115, x116, x117, x118, x119, x120, x121, x122, x123, x124, x125, x126, x127, x128, x129, x130, x131, x132, x133, x134, x135, x136, x137, x138, x139, x140, x141, x142, x143, x144, x145, x146, x147, x148, x149, x150, x151, x152, x153, x154, x155, x156, x157, x158, x159, x160, x161, x162, x163, x164, x165, x166, x167, x168, x169, x170, x171, x172, x173, x174, x175, x176, x177, x178, x179, x180, x181, x182, x183, x184, x185, x186, x187, x188, x189, x190, x191, x192, x193, x194, x195, x196, x197, x198, x199, x200, x201, x202, x203, x204, x205, x206, x207, x208, x209, x210, x211, x212, x213, x214, x215, x216, x217, x218, x219, x220, x221, x222, x223, x224, x225, x226, x227], []⟩ wr := by
 by_cases hp : b.size ≤ p
 ·exact h_end f B L b ba bc j w wr s0 rest Q hC (midC t22) p k s K hR hX hp hret
 by_cases hw : s.fuel = 20000
 ·exact h_worn f B L b ba bc j w wr s0 rest Q hC (midC t22) p k s K hR hX (by omega) hw hret
 have hw2 : s.fuel < 20000 := by have := hR.fit.fuel; omega
 exact h_num f B L b ba bc j w wr s0 rest Q hC (midC t22) p k s K hR hX (by omega) hw2 (fun y20 y21 y22 y23 y24 y25 y26 y27 y28 y29 y30 y31 y32 y33 y34 y35 y36 y37 y38 V hV => m_all f B L b ba bc j w V s0 rest Q hC p k s K hR hV (by omega) hw2 hj hE hret hN hx1)
theorem inBlock_exit {n : Nat} {Q : Exit → Act → World → Prop} {a : Act} {w : World} (h : Q .normal a w) : Exit.inBlock n Q (.exit n) a w := by
 unfold Exit.inBlock
 simp only [if_true]
 exact h
def WIx (f : FS) (B : Nat) (L : FLt) (b : ByteArray) (ba : Option Addr) (bc j : Nat) (w : World) (s0 : MS) (rest : List Rw) (x0 x1 x6 x7 x9 x10 : Value) (a : Act) (wr : World) : Prop :=
 ∃ (s : MS) (k p : Nat) (K : SLt), RunF f s0 b rest p s k ∧ ExW f B L w s K wr ∧ FrameOk w b ba bc j p x0 x1 x6 x7 x9 x10 a
def Wmx (A : Nat) (_ : Act) (wr : World) : Nat := match wr.cell? ⟨A + 1, 6, none⟩ with
 | some v => 20000 - (intOf v).toNat
 | none => 0
theorem wmx_eq {f : FS} {B : Nat} {L : FLt} {w : World} {s : MS} {K : SLt} {wr : World} (h : ExW f B L w s K wr) (a : Act) : Wmx w.heap.size a wr = 20000 - s.fuel := by
 have := blk_cell h.dD 6 (.int .i64 (s.fuel : Int)) rfl
 unfold Wmx
 rw [this]
 simp [intOf]
set_option maxRecDepth 1000000 in
set_option maxHeartbeats 4000000 in
theorem round16 (f : FS) (B : Nat) (L : FLt) (b : ByteArray) (ba : Option Addr) (bc j : Nat) (w : World) (s0 : MS) (rest : List Rw) (Q0 : Exit → Act → World → Prop) (hC : Ctx f B L b ba bc w) (hj : rest.length = j) (hE : ExecOk (j + 1)) (hret : ∀ a' w', RetX (ExecPost f B s0 w) a' w' → Q0 .ret a' w') (a : Act) (wr : World) (hI : WIx f B L b ba bc j w s0 rest x0 x1 x6 x7 x9 x10 a wr) :
 Code.wp Tryz.prog body16 (Exit.then (fun a' w' => WIx f B L b ba bc j w s0 rest x0 x1 x6 x7 x9 x10 a' w' ∧ Wmx w.heap.size a' w' < Wmx w.heap.size a wr) Q0) a wr := by
 obtain ⟨s, k, p, K, hR, hX, hF⟩ := hI
 rw [wmx_eq hX a]
 unfold FrameOk at hF
 obtain ⟨x12, hF⟩ := hF
 obtain ⟨x13, hF⟩ := hF
 obtain ⟨x14, hF⟩ := hF
 obtain ⟨x15, hF⟩ := hF
 obtain ⟨x16, hF⟩ := hF
 obtain ⟨x17, hF⟩ := hF
 obtain ⟨x18, hF⟩ := hF
 obtain ⟨x19, hF⟩ := hF
 obtain ⟨x20, hF⟩ := hF
 obtain ⟨x21, hF⟩ := hF
 obtain ⟨x22, hF⟩ := hF
 obtain ⟨x23, hF⟩ := hF
 obtain ⟨x24, hF⟩ := hF
 obtain ⟨x25, hF⟩ := hF
 obtain ⟨x26, hF⟩ := hF
 obtain ⟨x27, hF⟩ := hF
 obtain ⟨x28, hF⟩ := hF
 obtain ⟨x29, hF⟩ := hF
 obtain ⟨x30, hF⟩ := hF
 obtain ⟨x31, hF⟩ := hF
 obtain ⟨x32, hF⟩ := hF
 obtain ⟨x33, hF⟩ := hF
 obtain ⟨x34, hF⟩ := hF
 obtain ⟨x35, hF⟩ := hF
 obtain ⟨x36, hF⟩ := hF
 obtain ⟨x37, hF⟩ := hF
 obtain ⟨x38, hF⟩ := hF
 obtain ⟨x39, hF⟩ := hF
 obtain ⟨x40, hF⟩ := hF
 obtain ⟨x41, hF⟩ := hF
 obtain ⟨x42, hF⟩ := hF
 obtain ⟨x43, hF⟩ := hF
 obtain ⟨x44, hF⟩ := hF
 obtain ⟨x45, hF⟩ := hF
 obtain ⟨x46, hF⟩ := hF
 obtain ⟨x47, hF⟩ := hF
 obtain ⟨x48, hF⟩ := hF
 obtain ⟨x49, hF⟩ := hF
 obtain ⟨x50, hF⟩ := hF
 obtain ⟨x51, hF⟩ := hF
 obtain ⟨x52, hF⟩ := hF
 obtain ⟨x53, hF⟩ := hF
 obtain ⟨x54, hF⟩ := hF
 obtain ⟨x55, hF⟩ := hF
 obtain ⟨x56, hF⟩ := hF
 obtain ⟨x57, hF⟩ := hF
 obtain ⟨x58, hF⟩ := hF
 obtain ⟨x59, hF⟩ := hF
 obtain ⟨x60, hF⟩ := hF
 obtain ⟨x61, hF⟩ := hF
 obtain ⟨x62, hF⟩ := hF
 obtain ⟨x63, hF⟩ := hF
 obtain ⟨x64, hF⟩ := hF
 obtain ⟨x65, hF⟩ := hF
 obtain ⟨x66, hF⟩ := hF
 obtain ⟨x67, hF⟩ := hF
 obtain ⟨x68, hF⟩ := hF
 obtain ⟨x69, hF⟩ := hF
 obtain ⟨x70, hF⟩ := hF
 obtain ⟨x71, hF⟩ := hF
 obtain ⟨x72, hF⟩ := hF
 obtain ⟨x73, hF⟩ := hF
 obtain ⟨x74, hF⟩ := hF
 obtain ⟨x75, hF⟩ := hF
 obtain ⟨x76, hF⟩ := hF
 obtain ⟨x77, hF⟩ := hF
 obtain ⟨x78, hF⟩ := hF
 obtain ⟨x79, hF⟩ := hF
 obtain ⟨x80, hF⟩ := hF
 obtain ⟨x81, hF⟩ := hF
 obtain ⟨x82, hF⟩ := hF
 obtain ⟨x83, hF⟩ := hF
 obtain ⟨x84, hF⟩ := hF
 obtain ⟨x85, hF⟩ := hF
 obtain ⟨x86, hF⟩ := hF
 obtain ⟨x87, hF⟩ := hF
 obtain ⟨x88, hF⟩ := hF
 obtain ⟨x89, hF⟩ := hF
 obtain ⟨x90, hF⟩ := hF
 obtain ⟨x91, hF⟩ := hF
 obtain ⟨x92, hF⟩ := hF
 obtain ⟨x93, hF⟩ := hF
 obtain ⟨x94, hF⟩ := hF
 obtain ⟨x95, hF⟩ := hF
 obtain ⟨x96, hF⟩ := hF
 obtain ⟨x97, hF⟩ := hF
 obtain ⟨x98, hF⟩ := hF
 obtain ⟨x99, hF⟩ := hF
 obtain ⟨x100, hF⟩ := hF
 obtain ⟨x101, hF⟩ := hF
 obtain ⟨x102, hF⟩ := hF
 obtain ⟨x103, hF⟩ := hF
 obtain ⟨x104, hF⟩ := hF
 obtain ⟨x105, hF⟩ := hF
 obtain ⟨x106, hF⟩ := hF
 obtain ⟨x107, hF⟩ := hF
 obtain ⟨x108, hF⟩ := hF
 obtain ⟨x109, hF⟩ := hF
 obtain ⟨x110, hF⟩ := hF
 obtain ⟨x111, hF⟩ := hF
 obtain ⟨x112, hF⟩ := hF
 obtain ⟨x113, hF⟩ := hF
 obtain ⟨x114, hF⟩ := hF
 obtain ⟨x115, hF⟩ := hF
 obtain ⟨x116, hF⟩ := hF
 obtain ⟨x117, hF⟩ := hF
 obtain ⟨x118, hF⟩ := hF
 obtain ⟨x119, hF⟩ := hF
 obtain ⟨x120, hF⟩ := hF
 obtain ⟨x121, hF⟩ := hF
 obtain ⟨x122, hF⟩ := hF
 obtain ⟨x123, hF⟩ := hF
 obtain ⟨x124, hF⟩ := hF
 obtain ⟨x125, hF⟩ := hF
 obtain ⟨x126, hF⟩ := hF
 obtain ⟨x127, hF⟩ := hF
 obtain ⟨x128, hF⟩ := hF
 obtain ⟨x129, hF⟩ := hF
 obtain ⟨x130, hF⟩ := hF
 obtain ⟨x131, hF⟩ := hF
 obtain ⟨x132, hF⟩ := hF
 obtain ⟨x133, hF⟩ := hF
 obtain ⟨x134, hF⟩ := hF
 obtain ⟨x135, hF⟩ := hF
 obtain ⟨x136, hF⟩ := hF
 obtain ⟨x137, hF⟩ := hF
 obtain ⟨x138, hF⟩ := hF
 obtain ⟨x139, hF⟩ := hF
 obtain ⟨x140, hF⟩ := hF
 obtain ⟨x141, hF⟩ := hF
 obtain ⟨x142, hF⟩ := hF
 obtain ⟨x143, hF⟩ := hF
 obtain ⟨x144, hF⟩ := hF
 obtain ⟨x145, hF⟩ := hF
 obtain ⟨x146, hF⟩ := hF
 obtain ⟨x147, hF⟩ := hF
 obtain ⟨x148, hF⟩ := hF
 obtain ⟨x149, hF⟩ := hF
 obtain ⟨x150, hF⟩ := hF
 obtain ⟨x151, hF⟩ := hF
 obtain ⟨x152, hF⟩ := hF
 obtain ⟨x153, hF⟩ := hF
 obtain ⟨x154, hF⟩ := hF
 obtain ⟨x155, hF⟩ := hF
 obtain ⟨x156, hF⟩ := hF
 obtain ⟨x157, hF⟩ := hF
 obtain ⟨x158, hF⟩ := hF
 obtain ⟨x159, hF⟩ := hF
 obtain ⟨x160, hF⟩ := hF
 obtain ⟨x161, hF⟩ := hF
 obtain ⟨x162, hF⟩ := hF
 obtain ⟨x163, hF⟩ := hF
 obtain ⟨x164, hF⟩ := hF
 obtain ⟨x165, hF⟩ := hF
 obtain ⟨x166, hF⟩ := hF
 obtain ⟨x167, hF⟩ := hF
 obtain ⟨x168, hF⟩ := hF
 obtain ⟨x169, hF⟩ := hF
 obtain ⟨x170, hF⟩ := hF
 obtain ⟨x171, hF⟩ := hF
 obtain ⟨x172, hF⟩ := hF
 obtain ⟨x173, hF⟩ := hF
 obtain ⟨x174, hF⟩ := hF
 obtain ⟨x175, hF⟩ := hF
 obtain ⟨x176, hF⟩ := hF
 obtain ⟨x177, hF⟩ := hF
 obtain ⟨x178, hF⟩ := hF
 obtain ⟨x179, hF⟩ := hF
 obtain ⟨x180, hF⟩ := hF
 obtain ⟨x181, hF⟩ := hF
 obtain ⟨x182, hF⟩ := hF
 obtain ⟨x183, hF⟩ := hF
 obtain ⟨x184, hF⟩ := hF
 obtain ⟨x185, hF⟩ := hF
 obtain ⟨x186, hF⟩ := hF
 obtain ⟨x187, hF⟩ := hF
 obtain ⟨x188, hF⟩ := hF
 obtain ⟨x189, hF⟩ := hF
 obtain ⟨x190, hF⟩ := hF
 obtain ⟨x191, hF⟩ := hF
 obtain ⟨x192, hF⟩ := hF
 obtain ⟨x193, hF⟩ := hF
 obtain ⟨x194, hF⟩ := hF
 obtain ⟨x195, hF⟩ := hF
 obtain ⟨x196, hF⟩ := hF
 obtain ⟨x197, hF⟩ := hF
 obtain ⟨x198, hF⟩ := hF
 obtain ⟨x199, hF⟩ := hF
 obtain ⟨x200, hF⟩ := hF
 obtain ⟨x201, hF⟩ := hF
 obtain ⟨x202, hF⟩ := hF
 obtain ⟨x203, hF⟩ := hF
 obtain ⟨x204, hF⟩ := hF
 obtain ⟨x205, hF⟩ := hF
 obtain ⟨x206, hF⟩ := hF
 obtain ⟨x207, hF⟩ := hF
 obtain ⟨x208, hF⟩ := hF
 obtain ⟨x209, hF⟩ := hF
 obtain ⟨x210, hF⟩ := hF
 obtain ⟨x211, hF⟩ := hF
 obtain ⟨x212, hF⟩ := hF
 obtain ⟨x213, hF⟩ := hF
 obtain ⟨x214, hF⟩ := hF
 obtain ⟨x215, hF⟩ := hF
 obtain ⟨x216, hF⟩ := hF
 obtain ⟨x217, hF⟩ := hF
 obtain ⟨x218, hF⟩ := hF
 obtain ⟨x219, hF⟩ := hF
 obtain ⟨x220, hF⟩ := hF
 obtain ⟨x221, hF⟩ := hF
 obtain ⟨x222, hF⟩ := hF
 obtain ⟨x223, hF⟩ := hF
 obtain ⟨x224, hF⟩ := hF
 obtain ⟨x225, hF⟩ := hF
 obtain ⟨x226, hF⟩ := hF
 obtain ⟨x227, hF⟩ := hF
 subst hF
 rw [body16_is]
 obtain ⟨Q, hQr, hQn, hQx, hQ⟩ : ∃ Q : Exit → Act → World → Prop, (∀ a' w', RetX (ExecPost f B s0 w) a' w' → Q .ret a' w') ∧ (∀ a' w', WIx f B L b ba bc j w s0 rest x0 x1 x6 x7 x9 x10 a' w' → Wmx w.heap.size a' w' < 20000 - s.fuel → Q .normal a' w') ∧ (∀ a' w', WIx f B L b ba bc j w s0 rest x0 x1 x6 x7 x9 x10 a' w' → Wmx w.heap.size a' w' < 20000 - s.fuel → Q (.exit 1) a' w') ∧ Exit.inBlock 1 (Exit.then (fun a' w' => WIx f B L b ba bc j w s0 rest x0 x1 x6 x7 x9 x10 a' w' ∧ Wmx w.heap.size a' w' < 20000 - s.fuel) Q0) = Q :=
  ⟨Exit.inBlock 1 (Exit.then (fun a' w' => WIx f B L b ba bc j w s0 rest x0 x1 x6 x7 x9 x10 a' w' ∧ Wmx w.heap.size a' w' < 20000 - s.fuel) Q0), fun a' w' h => hret a' w' h, fun a' w' h1 h2 => ⟨h1, h2⟩, fun a' w' h1 h2 => inBlock_exit ⟨h1, h2⟩, rfl⟩
 refine wp_block ?_
 rw [hQ]
 exact h_all f B L b ba bc j w wr s0 rest Q hC p k s K hR hX hj hE hQr (fun s' k' p' K' a' w' h1 h2 h3 h4 => hQn a' w' ⟨s', k', p', K', h1, h2, h4⟩ (by rw [wmx_eq h2 a']; have := h1.fit.fuel; omega)) (fun s' k' p' K' a' w' h1 h2 h3 h4 => hQx a' w' ⟨s', k', p', K', h1, h2, h4⟩ (by rw [wmx_eq h2 a']; have := h1.fit.fuel; omega))
set_option maxRecDepth 1000000 in
set_option maxHeartbeats 4000000 in
theorem loop16 (f : FS) (B : Nat) (L : FLt) (b : ByteArray) (ba : Option Addr) (bc j : Nat) (w : World) (s0 : MS) (rest : List Rw) (Q0 : Exit → Act → World → Prop) (hC : Ctx f B L b ba bc w) (hj : rest.length = j) (hE : ExecOk (j + 1)) (hret : ∀ a' w', RetX (ExecPost f B s0 w) a' w' → Q0 .ret a' w') (wr : World) (s : MS) (k p : Nat) (K : SLt) (hR : RunF f s0 b rest p s k) (hX : ExW f B L w s K wr) :
 Code.wp Tryz.prog (.loop body16) Q0 ⟨#[x0, x1, .slice ba b.size bc, .int .i64 (j : Int), .pointer (some ⟨w.heap.size, 0, none⟩), .pointer (some ⟨w.heap.size + 1, 0, none⟩), x6, x7, .pointer (some ⟨w.heap.size + 1 + 1, 0, none⟩), x9, x10, .int .i64 (p : Int), x12, x13, x14, x15, x16, x17, x18, x19, x20, x21, x22, x23, x24, x25, x26, x27, x28, x29, x30, x31, x32, x33, x34, x35, x36, x37, x38, x39, x40, x41, x42, x43, x44, x45, x46, x47, x48, x49, x50, x51, x52, x53, x54, x55, x56, x57, x58, x59, x60, x61, x62, x63, x64, x65, x66, x67, x68, x69, x70, x71, x72, x73, x74, x75, x76, x77, x78, x79, x80, x81, x82, x83, x84, x85, x86, x87, x88, x89, x90, x91, x92, x93, x94, x95, x96, x97, x98, x99, x100, x101, x102, x103, x104, x105, x106, x107, x108, x109, x110, x111, x112, x113, x114, x115, x116, x117, x118, x119, x120, x121, x122, x123, x124, x125, x126, x127, x128, x129, x130, x131, x132, x133, x134, x135, x136, x137, x138, x139, x140, x141, x142, x143, x144, x145, x146, x147, x148, x149, x150, x151, x152, x153, x154, x155, x156, x157, x158, x159, x160, x161, x162, x163, x164, x165, x166, x167, x168, x169, x170, x171, x172, x173, x174, x175, x176, x177, x178, x179, x180, x181, x182, x183, x184, x185, x186, x187, x188, x189, x190, x191, x192, x193, x194, x195, x196, x197, x198, x199, x200, x201, x202, x203, x204, x205, x206, x207, x208, x209, x210, x211, x212, x213, x214, x215, x216, x217, x218, x219, x220, x221, x222, x223, x224, x225, x226, x227], []⟩ wr :=
 wp_loop (WIx f B L b ba bc j w s0 rest x0 x1 x6 x7 x9 x10) (Wmx w.heap.size) ⟨s, k, p, K, hR, hX, _, _, _, _, _, _, _, _, _, _, _, _, _, _, _, _, _, _, _, _, _, _, _, _, _, _, _, _, _, _, _, _, _, _, _, _, _, _, _, _, _, _, _, _, _, _, _, _, _, _, _, _, _, _, _, _, _, _, _, _, _, _, _, _, _, _, _, _, _, _, _, _, _, _, _, _, _, _, _, _, _, _, _, _, _, _, _, _, _, _, _, _, _, _, _, _, _, _, _, _, _, _, _, _, _, _, _, _, _, _, _, _, _, _, _, _, _, _, _, _, _, _, _, _, _, _, _, _, _, _, _, _, _, _, _, _, _, _, _, _, _, _, _, _, _, _, _, _, _, _, _, _, _, _, _, _, _, _, _, _, _, _, _, _, _, _, _, _, _, _, _, _, _, _, _, _, _, _, _, _, _, _, _, _, _, _, _, _, _, _, _, _, _, _, _, _, _, _, _, _, _, _, _, _, _, _, _, _, _, _, _, _, _, _, _, _, rfl⟩ (fun a wr hI => round16 f B L b ba bc j w s0 rest Q0 hC hj hE hret a wr hI)
theorem RetX.ret {post : Ending → World → Prop} {a : Act} {w' : World} (h : RetX post a w') : bodyPost Tryz.prog Tryz.f16 post .ret a w' := by
 obtain ⟨hd, v, hv, hp⟩ := h
 exact bodyPost_ret (v := v) hv hd hp
set_option maxRecDepth 1000000 in
set_option maxHeartbeats 4000000 in
theorem exec_step (j : Nat) (hE : ExecOk (j + 1)) : ExecOk j := by
 intro f B L b ba bc K s w rest hC hr hj h0 he hfit hz ho hc
 have hR : RunF f s b rest 0 s 0 := ⟨hr, by rw [hr]; rfl, h0, he, hfit, GoM.refl f s, by omega⟩
 have h3 := alloc3 w (.cells #[.slice L.za L.zn L.zc, .slice L.la f.locals.length L.lc, .slice L.ga f.globals.length L.gc, .int .i64 f.w0, .int .i64 f.w1] 29) (.cells #[.slice K.sa s.stack.length K.sc, .slice K.oa s.out.length K.oc, .int .i64 s.x, .int .i64 s.y, .int .i64 (s.knots : Int), .int .i64 ((s.stems : Nat) : Int), .int .i64 ((s.fuel : Nat) : Int), .int .i64 s.width, .bool s.asked] 52) (.cells #[.slice none 0 0, .slice none 0 0, .int .i64 0, .int .i64 0, .int .i64 0, .int .i64 0, .int .i64 0, .int .i64 0, .bool false] 52)
 have hX : ExW f B L w s K (((w.alloc (.cells #[.slice L.za L.zn L.zc, .slice L.la f.locals.length L.lc, .slice L.ga f.globals.length L.gc, .int .i64 f.w0, .int .i64 f.w1] 29)).alloc (.cells #[.slice K.sa s.stack.length K.sc, .slice K.oa s.out.length K.oc, .int .i64 s.x, .int .i64 s.y, .int .i64 (s.knots : Int), .int .i64 ((s.stems : Nat) : Int), .int .i64 ((s.fuel : Nat) : Int), .int .i64 s.width, .bool s.asked] 52)).alloc (.cells #[.slice none 0 0, .slice none 0 0, .int .i64 0, .int .i64 0, .int .i64 0, .int .i64 0, .int .i64 0, .int .i64 0, .bool false] 52)) :=
  ⟨h3.1, h3.2.1, h3.2.2.1, hz.below h3.2.2.2, ho.keep (keep_bel h3.2.2.2), hc, h3.2.2.2.mono hC.le, keepD_bel (Nat.le_refl _) h3.2.2.2⟩
 have HX := Lib.hid hX
 have HR := Lib.hid hR
 have HC := Lib.hid hC
 have HJ := Lib.hid hj
 have HE := Lib.hid hE
 clear hX hR hC hj hE h3 hr h0 he hfit hz ho hc
 unfold stV
 go_enter Tryz.func16, Tryz.ntmps16
 go_wp2_with fail
 refine loop16 f B L b ba bc j w s rest _ HC.out HJ.out HE.out ?_ _ s 0 0 K HR.out HX.out
 intro a' w' h
 exact h.ret
theorem exec_d (j : Nat) (hj : j ≤ 11) : ExecOk j := by
 obtain ⟨d, hd⟩ : ∃ d, j + d = 11 := ⟨11 - j, by omega⟩
 clear hj
 induction d generalizing j with
 | zero =>
   intro f B L b ba bc K s w rest hC hr hj h0 he hfit hz ho hc
   have := hfit.open'.2
   rw [hr, List.length_cons] at this
   omega
 | succ d ih => exact exec_step j (ih (j + 1) (by omega))
end Go.Proofs.YtklenppldblbdaaGreat
