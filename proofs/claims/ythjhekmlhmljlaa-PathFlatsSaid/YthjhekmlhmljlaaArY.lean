/-
  Arcs of the document's answer: its third loop, its second one, its answers (L3J to ArD joined).
-/
import Derived.Test.YthjhekmlhmljlaaArX
namespace Go.Proofs.Ythjhekmlhmljlaa
open Go.RowKit Go.PlainAid
set_option linter.unusedSimpArgs false
set_option linter.unusedVariables false

section
variable {w w8 wr V : World} {st : Sp} {g na ca gk ga gc cc : Nat} {zs : List ArcZ} {k : Kn}
theorem bel_four (wr : World) (k : Kn) : Below wr.heap.size wr ((((wr.alloc (.cells #[.int .i64 k.x, .int .i64 k.y, .int .i64 k.k] 37)).alloc (.cells #[.int .i64 k.x, .int .i64 k.y] 47)).alloc (.cells #[.int .i64 k.x, .int .i64 k.y] 47)).alloc (.cells #[.slice (some ⟨wr.heap.size + 1 + 1, 0, none⟩) 1 1, .int .i64 0, .int .i64 0] 72)) := (((((Below.refl _ _).alloc (Nat.le_refl _) _).alloc (by simp) _).alloc (by simp; omega) _).alloc (by simp; omega) _)
theorem tailW_one (hpre : PreW w wr st) (harcs : ArcsAt wr w8.heap.size g na ca zs) (hbel : Below w8.heap.size w8 wr) (hws : w.heap.size + 1 < w8.heap.size) :
    TailW w w8 wr ((((wr.alloc (.cells #[.int .i64 k.x, .int .i64 k.y, .int .i64 k.k] 37)).alloc (.cells #[.int .i64 k.x, .int .i64 k.y] 47)).alloc (.cells #[.int .i64 k.x, .int .i64 k.y] 47)).alloc (.cells #[.slice (some ⟨wr.heap.size + 1 + 1, 0, none⟩) 1 1, .int .i64 0, .int .i64 0] 72)) st g na ca zs k [k.sp] wr.heap.size (wr.heap.size + 1 + 1 + 1) (wr.heap.size + 1 + 1) 1 := by
  refine ⟨hpre, harcs, hbel, hws, bel_four wr k, Nat.le_refl _, by omega, by omega, by omega, by omega, by simp [go_sem], by simp [go_sem], by simp [go_sem], by simp [go_sem], by simp [go_sem], by simp [go_sem], by simp [go_sem], by simp [go_sem], ?_⟩
  intro j u hj
  match j, hj with
  | 0, hj => simp [clS] at hj; subst hj; simp [go_sem, Kn.sp]
  | 1, hj => simp [clS] at hj; subst hj; simp [go_sem, Kn.sp]
theorem own_one (hbel : Below w8.heap.size w8 wr) : (((((wr.alloc (.cells #[.int .i64 k.x, .int .i64 k.y, .int .i64 k.k] 37)).alloc (.cells #[.int .i64 k.x, .int .i64 k.y] 47)).alloc (.cells #[.int .i64 k.x, .int .i64 k.y] 47)).alloc (.cells #[.slice (some ⟨wr.heap.size + 1 + 1, 0, none⟩) 1 1, .int .i64 0, .int .i64 0] 72))).ownsRow w8.heap.size 47 2 (.slice (some ⟨wr.heap.size + 1 + 1, 0, none⟩) 1 1) 1 [.int .i64 k.x, .int .i64 k.y] := by
  have h := World.ownsRow_lit (base := w8.heap.size) (e := 47) (size := 2) ((wr.alloc (.cells #[.int .i64 k.x, .int .i64 k.y, .int .i64 k.k] 37)).alloc (.cells #[.int .i64 k.x, .int .i64 k.y] 47)) #[.int .i64 k.x, .int .i64 k.y] 1 (by have := hbel.size; simp; omega) (by decide) rfl
  rw [show (((wr.alloc (.cells #[.int .i64 k.x, .int .i64 k.y, .int .i64 k.k] 37)).alloc (.cells #[.int .i64 k.x, .int .i64 k.y] 47))).heap.size = wr.heap.size + 1 + 1 by simp] at h
  exact own_below h ((Below.refl _ _).alloc (Nat.le_refl _) _)
theorem TailW.more {p d : Sp} {g9 c9 : Nat} {w9 : World} (h : TailW w w8 wr V st g na ca zs k [p] gk ga gc cc) (hkc : gk ≠ gc) (ho9 : w9.ownsRow w8.heap.size 47 2 (.slice (some ⟨g9, 0, none⟩) (1 + 1) c9) (1 + 1) ([.int .i64 p.x, .int .i64 p.y] ++ [.int .i64 d.x, .int .i64 d.y])) (hg9 : ((V.alloc (.cells #[.int .i64 d.x, .int .i64 d.y] 47)).drew).grownBy w9 (some gc)) (hat9 : g9 = gc ∨ g9 = V.heap.size + 1) :
    TailW w w8 wr (w9.setCell ⟨ga, 0, none⟩ (.slice (some ⟨g9, 0, none⟩) (1 + 1) c9)) st g na ca zs k [p, d] gk ga g9 c9 := by
  have hal : Below V.heap.size V ((V.alloc (.cells #[.int .i64 d.x, .int .i64 d.y] 47)).drew) := (show Below V.heap.size V (V.alloc (.cells #[.int .i64 d.x, .int .i64 d.y] 47)) from (Below.refl _ _).alloc (Nat.le_refl _) _) |> fun h => ⟨h.os, h.tape, h.output, h.size, h.block⟩
  have hga : ga < V.heap.size := World.block_lt_of_cell? V _ h.a0
  have hne : ga ≠ g9 := by rcases hat9 with e | e; rw [e]; exact Ne.symm h.cc'; omega
  have hup : Below wr.heap.size wr w9 := belGrown (bel_next h.up hal) hg9 h.hc (bel_next h.up hal).size
  have hc9 : wr.heap.size ≤ g9 := by have := h.hc; have := h.up.size; rcases hat9 with e | e <;> omega
  have c {b o : Nat} {v : Value} (hb : b ≠ gc) (hv : V.cell? ⟨b, o, none⟩ = some v) : w9.cell? ⟨b, o, none⟩ = some v := grown_cell hg9 (keepC hal hv) hb
  have f {b o : Nat} {v : Value} (hb : b ≠ gc) (hv : V.cell? ⟨b, o, none⟩ = some v) (hf : V.frozen? ⟨b, o, none⟩ = false) : w9.frozen? ⟨b, o, none⟩ = false := grownF hg9 (keepC hal hv) (keepF hal hv hf) hb
  have hac := Ne.symm h.cc'
  have c0 := c hac h.a0
  have c1 := c hac h.a1
  have c2 := c hac h.a2
  have d1 := f hac h.a1 h.f1
  have d2 := f hac h.a2 h.f2
  refine ⟨h.pre, h.arcs, h.bel, h.ws, bel_set hup h.ha _, h.hk, h.ha, hc9, h.ka, Ne.symm hne, ?_, ?_, ?_, ?_, ?_, ?_, ?_, ?_, ?_⟩
  · rw [keepS (Ne.symm h.ka)]; exact c hkc h.k0
  · rw [keepS (Ne.symm h.ka)]; exact c hkc h.k1
  · rw [keepS (Ne.symm h.ka)]; exact c hkc h.k2
  · simp [go_sem, c0]
  · simp [go_sem, c1]
  · simp [go_sem, c2]
  · simp [go_sem, d1]
  · simp [go_sem, d2]
  · intro j u hj
    rw [keepS hne]
    exact own_lies ho9 j u (by simpa [clS] using hj)
end

end Go.Proofs.Ythjhekmlhmljlaa

namespace Go.Proofs.Ythjhekmlhmljlaa
open Go.RowKit Go.PlainAid
set_option linter.unusedSimpArgs false
set_option linter.unusedVariables false

set_option maxRecDepth 1000000 in
set_option maxHeartbeats 4000000 in
theorem h_exit {x0 x1 x3 x4 x5 x6 x7 x8 x11 x13 x14 x15 x16 x17 x18 x19 x20 x21 x22 x23 x24 x25 x26 x27 x28 x29 x30 x31 x32 x33 x34 x35 x36 x37 x38 x39 x40 x41 x42 x43 x44 x45 x46 x47 x48 x49 x50 x51 x52 x53 x54 x55 x56 x57 x58 x59 x60 x61 x62 x63 x64 x65 x66 x67 x68 x69 x70 x71 x72 x73 x74 x75 x76 x77 x78 x79 x80 x81 x82 x83 x84 x85 x86 x87 x88 x89 x90 x91 x92 x93 x94 x95 x96 x97 x98 x99 x100 x101 x102 x103 x104 x105 x106 x107 x108 x109 x110 x111 x112 x113 x114 x115 x116 x117 x118 x119 x120 x121 x122 x123 x124 x125 x126 x127 x128 x129 x130 x131 x132 x133 x134 x135 x136 x137 x138 x139 x140 x141 x142 x143 x144 x145 x146 x147 x148 x149 x150 x151 x152 x153 x154 x155 x156 x157 x158 x159 x160 x161 x162 x163 x164 x165 x166 x167 x168 x169 x170 x171 x172 x173 x174 x175 x176 x177 x178 x179 x180 x181 x182 x183 x184 : Value} (w w8 wr : World) (st : Sp) (L : List Kn) (g na ca : Nat) (zs : List ArcZ) (T : Code) (Q : Exit → Act → World → Prop) (hpre : PreW w wr st) (hws : w.heap.size + 1 < w8.heap.size) (al : Option Addr) (cl : Nat) (hexit : ∀ y81 y82 y83 : Value, Q (.exit 4) ⟨#[x0, x1, .pointer (some ⟨w.heap.size, 0, none⟩), x3, x4, x5, x6, x7, x8, .pointer (some ⟨(w.heap.size + 1), 0, none⟩), .slice al 0 cl, x11, .slice (some ⟨g, 0, none⟩) na ca, x13, x14, x15, x16, x17, x18, x19, x20, x21, x22, x23, x24, x25, x26, x27, x28, x29, x30, x31, x32, x33, x34, x35, x36, x37, x38, x39, x40, x41, x42, x43, x44, x45, x46, x47, x48, x49, x50, x51, x52, x53, x54, x55, x56, x57, x58, x59, x60, x61, x62, x63, x64, x65, x66, x67, x68, x69, x70, x71, x72, x73, x74, x75, x76, x77, x78, x79, x80, y81, y82, y83, x84, x85, x86, x87, x88, x89, x90, x91, x92, x93, x94, x95, x96, x97, x98, x99, x100, x101, x102, x103, x104, x105, x106, x107, x108, x109, x110, x111, x112, x113, x114, x115, x116, x117, x118, x119, x120, x121, x122, x123, x124, x125, x126, x127, x128, x129, x130, x131, x132, x133, x134, x135, x136, x137, x138, x139, x140, x141, x142, x143, x144, x145, x146, x147, x148, x149, x150, x151, x152, x153, x154, x155, x156, x157, x158, x159, x160, x161, x162, x163, x164, x165, x166, x167, x168, x169, x170, x171, x172, x173, x174, x175, x176, x177, x178, x179, x180, x181, x182, x183, x184], []⟩ wr) :
    Code.wp Try.prog (headC T) Q ⟨#[x0, x1, .pointer (some ⟨w.heap.size, 0, none⟩), x3, x4, x5, x6, x7, x8, .pointer (some ⟨(w.heap.size + 1), 0, none⟩), .slice al 0 cl, x11, .slice (some ⟨g, 0, none⟩) na ca, x13, x14, x15, x16, x17, x18, x19, x20, x21, x22, x23, x24, x25, x26, x27, x28, x29, x30, x31, x32, x33, x34, x35, x36, x37, x38, x39, x40, x41, x42, x43, x44, x45, x46, x47, x48, x49, x50, x51, x52, x53, x54, x55, x56, x57, x58, x59, x60, x61, x62, x63, x64, x65, x66, x67, x68, x69, x70, x71, x72, x73, x74, x75, x76, x77, x78, x79, x80, x81, x82, x83, x84, x85, x86, x87, x88, x89, x90, x91, x92, x93, x94, x95, x96, x97, x98, x99, x100, x101, x102, x103, x104, x105, x106, x107, x108, x109, x110, x111, x112, x113, x114, x115, x116, x117, x118, x119, x120, x121, x122, x123, x124, x125, x126, x127, x128, x129, x130, x131, x132, x133, x134, x135, x136, x137, x138, x139, x140, x141, x142, x143, x144, x145, x146, x147, x148, x149, x150, x151, x152, x153, x154, x155, x156, x157, x158, x159, x160, x161, x162, x163, x164, x165, x166, x167, x168, x169, x170, x171, x172, x173, x174, x175, x176, x177, x178, x179, x180, x181, x182, x183, x184], []⟩ wr := by
  have HX := Lib.hid hexit
  clear hexit hpre
  unfold headC
  conv => arg 2; arg 1; whnf
  conv => arg 2; arg 2; arg 2; arg 1; whnf
  conv => arg 2; arg 2; arg 2; arg 2; arg 1; whnf
  conv => arg 2; arg 2; arg 2; arg 2; arg 2; arg 1; whnf
  conv => arg 2; arg 2; arg 2; arg 2; arg 2; arg 2; arg 1; whnf
  conv => arg 2; arg 2; arg 2; arg 2; arg 2; arg 2; arg 2; arg 1; whnf
  conv => arg 2; arg 2; arg 2; arg 2; arg 2; arg 2; arg 2; arg 2; arg 1; whnf
  go_wp2_with fail
  exact HX.out _ _ _

set_option maxRecDepth 1000000 in
set_option maxHeartbeats 4000000 in
theorem h_line1 {x0 x1 x3 x4 x5 x6 x7 x8 x11 x13 x14 x15 x16 x17 x18 x19 x20 x21 x22 x23 x24 x25 x26 x27 x28 x29 x30 x31 x32 x33 x34 x35 x36 x37 x38 x39 x40 x41 x42 x43 x44 x45 x46 x47 x48 x49 x50 x51 x52 x53 x54 x55 x56 x57 x58 x59 x60 x61 x62 x63 x64 x65 x66 x67 x68 x69 x70 x71 x72 x73 x74 x75 x76 x77 x78 x79 x80 x81 x82 x83 x84 x85 x86 x87 x88 x89 x90 x91 x92 x93 x94 x95 x96 x97 x98 x99 x100 x101 x102 x103 x104 x105 x106 x107 x108 x109 x110 x111 x112 x113 x114 x115 x116 x117 x118 x119 x120 x121 x122 x123 x124 x125 x126 x127 x128 x129 x130 x131 x132 x133 x134 x135 x136 x137 x138 x139 x140 x141 x142 x143 x144 x145 x146 x147 x148 x149 x150 x151 x152 x153 x154 x155 x156 x157 x158 x159 x160 x161 x162 x163 x164 x165 x166 x167 x168 x169 x170 x171 x172 x173 x174 x175 x176 x177 x178 x179 x180 x181 x182 x183 x184 : Value} (w w8 wr : World) (st : Sp) (L : List Kn) (g na ca : Nat) (zs : List ArcZ) (T : Code) (Q : Exit → Act → World → Prop) (hpre : PreW w wr st) (hws : w.heap.size + 1 < w8.heap.size) (k : Kn) (r : List Kn) (b off m cl : Nat) (hR : Rel3 w8 st L wr (k :: r) (some ⟨b, off, none⟩) (m + 1) cl g na ca zs) (hc1 : ¬ cl = 1) (e1 : k.k = 1) (hN : ∀ a' w', WI w w8 st L x0 x1 x3 x4 x5 x6 x7 x8 x11 x16 x17 x18 x19 x20 x21 x22 x23 x24 x25 x26 x27 x28 x29 x30 x31 x32 x33 x34 x35 x36 x37 x38 x39 x40 x41 x42 x43 x44 x45 x46 x47 x48 x49 x50 x51 x52 x53 x54 x55 x56 x57 x58 x59 x60 x61 x62 x63 x64 x65 x66 x67 x68 x69 x70 x71 x72 x73 x74 x75 x76 x77 x78 x79 x80 x183 x184 a' w' → Wmu a' w' ≤ m → Q .normal a' w') :
    Code.wp Try.prog (headC T) Q ⟨#[x0, x1, .pointer (some ⟨w.heap.size, 0, none⟩), x3, x4, x5, x6, x7, x8, .pointer (some ⟨(w.heap.size + 1), 0, none⟩), .slice (some ⟨b, off, none⟩) (m + 1) cl, x11, .slice (some ⟨g, 0, none⟩) na ca, x13, x14, x15, x16, x17, x18, x19, x20, x21, x22, x23, x24, x25, x26, x27, x28, x29, x30, x31, x32, x33, x34, x35, x36, x37, x38, x39, x40, x41, x42, x43, x44, x45, x46, x47, x48, x49, x50, x51, x52, x53, x54, x55, x56, x57, x58, x59, x60, x61, x62, x63, x64, x65, x66, x67, x68, x69, x70, x71, x72, x73, x74, x75, x76, x77, x78, x79, x80, x81, x82, x83, x84, x85, x86, x87, x88, x89, x90, x91, x92, x93, x94, x95, x96, x97, x98, x99, x100, x101, x102, x103, x104, x105, x106, x107, x108, x109, x110, x111, x112, x113, x114, x115, x116, x117, x118, x119, x120, x121, x122, x123, x124, x125, x126, x127, x128, x129, x130, x131, x132, x133, x134, x135, x136, x137, x138, x139, x140, x141, x142, x143, x144, x145, x146, x147, x148, x149, x150, x151, x152, x153, x154, x155, x156, x157, x158, x159, x160, x161, x162, x163, x164, x165, x166, x167, x168, x169, x170, x171, x172, x173, x174, x175, x176, x177, x178, x179, x180, x181, x182, x183, x184], []⟩ wr := by
  have HR := Lib.hid hR
  have HPR := Lib.hid hpre
  have HWS := Lib.hid hws
  obtain ⟨b', off', hbb, k0, k1, k2⟩ := (hR.isR.below hR.bel).knot (i := 0) (k := k) rfl
  cases hbb
  simp only [Nat.zero_mul, Nat.add_zero] at k0 k1 k2
  have e1' : (k.k == 1) = true := by simpa using e1
  have HA1 : Hid (arc1 st (k :: r) = some (⟨[], k.sp⟩, r, false)) := by unfold Hid arc1; simp [e1]
  have HN2 : Hid (Below wr.heap.size wr (((wr.alloc (.cells #[.int .i64 k.x, .int .i64 k.y, .int .i64 k.k] 37)).alloc (.cells #[.int .i64 k.x, .int .i64 k.y] 47)).alloc (.cells #[.slice none 0 0, .int .i64 k.x, .int .i64 k.y] 72))) := ((((Below.refl _ _).alloc (Nat.le_refl _) _).alloc (by simp) _).alloc (by simp; omega) _)
  have HSL : Hid (Lies (((wr.alloc (.cells #[.int .i64 k.x, .int .i64 k.y, .int .i64 k.k] 37)).alloc (.cells #[.int .i64 k.x, .int .i64 k.y] 47)).alloc (.cells #[.slice none 0 0, .int .i64 k.x, .int .i64 k.y] 72)) (wr.heap.size + 1 + 1) 0 [.slice none 0 0, .int .i64 k.x, .int .i64 k.y]) := by
    have h := lies_new (w := ((wr.alloc (.cells #[.int .i64 k.x, .int .i64 k.y, .int .i64 k.k] 37)).alloc (.cells #[.int .i64 k.x, .int .i64 k.y] 47))) (cs := #[.slice none 0 0, .int .i64 k.x, .int .i64 k.y]) (T := 72)
    rwa [show (((wr.alloc (.cells #[.int .i64 k.x, .int .i64 k.y, .int .i64 k.k] 37)).alloc (.cells #[.int .i64 k.x, .int .i64 k.y] 47))).heap.size = wr.heap.size + 1 + 1 by simp] at h
  have HA2 := Lib.hid (hR.arcs.below HN2.out)
  have HB2 := Lib.hid (bel_to hR.bel HN2.out hR.bel.size)
  have HNX := Lib.hid hN
  have hm0 : (0 : Int) < ((m : Int) + 1) := by omega
  clear hR hN hpre hws e1
  unfold headC
  conv => arg 2; arg 1; whnf
  conv => arg 2; arg 2; arg 2; arg 1; whnf
  conv => arg 2; arg 2; arg 2; arg 2; arg 1; whnf
  conv => arg 2; arg 2; arg 2; arg 2; arg 2; arg 1; whnf
  conv => arg 2; arg 2; arg 2; arg 2; arg 2; arg 2; arg 1; whnf
  conv => arg 2; arg 2; arg 2; arg 2; arg 2; arg 2; arg 2; arg 1; whnf
  conv => arg 2; arg 2; arg 2; arg 2; arg 2; arg 2; arg 2; arg 2; arg 1; whnf
  go_wp2_with (at_builtin; refine wpList_app elA rfl _ _ rfl (((wr.alloc (.cells #[.int .i64 k.x, .int .i64 k.y, .int .i64 k.k] 37)).alloc (.cells #[.int .i64 k.x, .int .i64 k.y] 47)).alloc (.cells #[.slice none 0 0, .int .i64 k.x, .int .i64 k.y] 72)) w8.heap.size g ca na (zs.flatMap arcC) (some ⟨wr.heap.size + 1 + 1, 0, none⟩) 1 1 [.slice none 0 0, .int .i64 k.x, .int .i64 k.y] rfl rfl HA2.out.own rfl (.inr ⟨_, 0, rfl, HSL.out⟩) (by simp [Value.oneCell']) (by have := HR.out.few; omega) (by have := HR.out.few; omega) HB2.out.size ?_; intro g9 c9 w9 ho9 hg9 hat9)
  have HA9 : Hid (ArcsAt w9 w8.heap.size g9 (na + 1) c9 (zs ++ [⟨⟨[], k.sp⟩, none, 0⟩])) := HA2.out.snoc (z := ⟨⟨[], k.sp⟩, none, 0⟩) (.inl rfl) ho9 hg9 hat9
  have HB9 : Hid (Below w8.heap.size w8 w9) := belGrown HB2.out hg9 (ownsRow_cap HR.out.arcs.own).2.1 HB2.out.size
  have HU9 := Lib.hid (HR.out.up.step (z := ⟨⟨[], k.sp⟩, none, 0⟩) HA1.out)
  clear ho9 hg9 hat9
  go_wp2_with fail
  refine HNX.out _ _ ⟨r, _, _, _, _, _, _, zs ++ [⟨⟨[], k.sp⟩, none, 0⟩], ?rel, _, _, _, _, _, _, _, _, _, _, _, _, _, _, _, _, _, _, _, _, _, _, _, _, _, _, _, _, _, _, _, _, _, _, _, _, _, _, _, _, _, _, _, _, _, _, _, _, _, _, _, _, _, _, _, _, _, _, _, _, _, _, _, _, _, _, _, _, _, _, _, _, _, _, _, _, _, _, _, _, _, _, _, _, _, _, _, _, _, _, _, _, _, _, _, _, _, _, _, _, _, _, _, _, _, rfl⟩ ?mu
  case rel => exact ⟨by simpa using HR.out.len, by have := HR.out.room; omega, by have := HR.out.few; omega, isR_tail HR.out.isR, goodK_tail HR.out.good, HA9.out, HU9.out, HB9.out⟩
  case mu => simp only [Wmu, sliceLen]; simp

set_option maxRecDepth 1000000 in
set_option maxHeartbeats 4000000 in
theorem h_line0 {x0 x1 x3 x4 x5 x6 x7 x8 x11 x13 x14 x15 x16 x17 x18 x19 x20 x21 x22 x23 x24 x25 x26 x27 x28 x29 x30 x31 x32 x33 x34 x35 x36 x37 x38 x39 x40 x41 x42 x43 x44 x45 x46 x47 x48 x49 x50 x51 x52 x53 x54 x55 x56 x57 x58 x59 x60 x61 x62 x63 x64 x65 x66 x67 x68 x69 x70 x71 x72 x73 x74 x75 x76 x77 x78 x79 x80 x81 x82 x83 x84 x85 x86 x87 x88 x89 x90 x91 x92 x93 x94 x95 x96 x97 x98 x99 x100 x101 x102 x103 x104 x105 x106 x107 x108 x109 x110 x111 x112 x113 x114 x115 x116 x117 x118 x119 x120 x121 x122 x123 x124 x125 x126 x127 x128 x129 x130 x131 x132 x133 x134 x135 x136 x137 x138 x139 x140 x141 x142 x143 x144 x145 x146 x147 x148 x149 x150 x151 x152 x153 x154 x155 x156 x157 x158 x159 x160 x161 x162 x163 x164 x165 x166 x167 x168 x169 x170 x171 x172 x173 x174 x175 x176 x177 x178 x179 x180 x181 x182 x183 x184 : Value} (w w8 wr : World) (st : Sp) (L : List Kn) (g na ca : Nat) (zs : List ArcZ) (T : Code) (Q : Exit → Act → World → Prop) (hpre : PreW w wr st) (hws : w.heap.size + 1 < w8.heap.size) (k : Kn) (b off : Nat) (hR : Rel3 w8 st L wr (k :: []) (some ⟨b, off, none⟩) (0 + 1) 1 g na ca zs) (e1 : k.k = 1) (hN : ∀ a' w', WI w w8 st L x0 x1 x3 x4 x5 x6 x7 x8 x11 x16 x17 x18 x19 x20 x21 x22 x23 x24 x25 x26 x27 x28 x29 x30 x31 x32 x33 x34 x35 x36 x37 x38 x39 x40 x41 x42 x43 x44 x45 x46 x47 x48 x49 x50 x51 x52 x53 x54 x55 x56 x57 x58 x59 x60 x61 x62 x63 x64 x65 x66 x67 x68 x69 x70 x71 x72 x73 x74 x75 x76 x77 x78 x79 x80 x183 x184 a' w' → Wmu a' w' ≤ 0 → Q .normal a' w') :
    Code.wp Try.prog (headC T) Q ⟨#[x0, x1, .pointer (some ⟨w.heap.size, 0, none⟩), x3, x4, x5, x6, x7, x8, .pointer (some ⟨(w.heap.size + 1), 0, none⟩), .slice (some ⟨b, off, none⟩) (0 + 1) 1, x11, .slice (some ⟨g, 0, none⟩) na ca, x13, x14, x15, x16, x17, x18, x19, x20, x21, x22, x23, x24, x25, x26, x27, x28, x29, x30, x31, x32, x33, x34, x35, x36, x37, x38, x39, x40, x41, x42, x43, x44, x45, x46, x47, x48, x49, x50, x51, x52, x53, x54, x55, x56, x57, x58, x59, x60, x61, x62, x63, x64, x65, x66, x67, x68, x69, x70, x71, x72, x73, x74, x75, x76, x77, x78, x79, x80, x81, x82, x83, x84, x85, x86, x87, x88, x89, x90, x91, x92, x93, x94, x95, x96, x97, x98, x99, x100, x101, x102, x103, x104, x105, x106, x107, x108, x109, x110, x111, x112, x113, x114, x115, x116, x117, x118, x119, x120, x121, x122, x123, x124, x125, x126, x127, x128, x129, x130, x131, x132, x133, x134, x135, x136, x137, x138, x139, x140, x141, x142, x143, x144, x145, x146, x147, x148, x149, x150, x151, x152, x153, x154, x155, x156, x157, x158, x159, x160, x161, x162, x163, x164, x165, x166, x167, x168, x169, x170, x171, x172, x173, x174, x175, x176, x177, x178, x179, x180, x181, x182, x183, x184], []⟩ wr := by
  have HR := Lib.hid hR
  have HPR := Lib.hid hpre
  have HWS := Lib.hid hws
  obtain ⟨b', off', hbb, k0, k1, k2⟩ := (hR.isR.below hR.bel).knot (i := 0) (k := k) rfl
  cases hbb
  simp only [Nat.zero_mul, Nat.add_zero] at k0 k1 k2
  have e1' : (k.k == 1) = true := by simpa using e1
  have HA1 : Hid (arc1 st (k :: []) = some (⟨[], k.sp⟩, [], false)) := by unfold Hid arc1; simp [e1]
  have HN2 : Hid (Below wr.heap.size wr (((wr.alloc (.cells #[.int .i64 k.x, .int .i64 k.y, .int .i64 k.k] 37)).alloc (.cells #[.int .i64 k.x, .int .i64 k.y] 47)).alloc (.cells #[.slice none 0 0, .int .i64 k.x, .int .i64 k.y] 72))) := ((((Below.refl _ _).alloc (Nat.le_refl _) _).alloc (by simp) _).alloc (by simp; omega) _)
  have HSL : Hid (Lies (((wr.alloc (.cells #[.int .i64 k.x, .int .i64 k.y, .int .i64 k.k] 37)).alloc (.cells #[.int .i64 k.x, .int .i64 k.y] 47)).alloc (.cells #[.slice none 0 0, .int .i64 k.x, .int .i64 k.y] 72)) (wr.heap.size + 1 + 1) 0 [.slice none 0 0, .int .i64 k.x, .int .i64 k.y]) := by
    have h := lies_new (w := ((wr.alloc (.cells #[.int .i64 k.x, .int .i64 k.y, .int .i64 k.k] 37)).alloc (.cells #[.int .i64 k.x, .int .i64 k.y] 47))) (cs := #[.slice none 0 0, .int .i64 k.x, .int .i64 k.y]) (T := 72)
    rwa [show (((wr.alloc (.cells #[.int .i64 k.x, .int .i64 k.y, .int .i64 k.k] 37)).alloc (.cells #[.int .i64 k.x, .int .i64 k.y] 47))).heap.size = wr.heap.size + 1 + 1 by simp] at h
  have HA2 := Lib.hid (hR.arcs.below HN2.out)
  have HB2 := Lib.hid (bel_to hR.bel HN2.out hR.bel.size)
  have HNX := Lib.hid hN
  skip
  clear hR hN hpre hws e1
  unfold headC
  conv => arg 2; arg 1; whnf
  conv => arg 2; arg 2; arg 2; arg 1; whnf
  conv => arg 2; arg 2; arg 2; arg 2; arg 1; whnf
  conv => arg 2; arg 2; arg 2; arg 2; arg 2; arg 1; whnf
  conv => arg 2; arg 2; arg 2; arg 2; arg 2; arg 2; arg 1; whnf
  conv => arg 2; arg 2; arg 2; arg 2; arg 2; arg 2; arg 2; arg 1; whnf
  conv => arg 2; arg 2; arg 2; arg 2; arg 2; arg 2; arg 2; arg 2; arg 1; whnf
  go_wp2_with (at_builtin; refine wpList_app elA rfl _ _ rfl (((wr.alloc (.cells #[.int .i64 k.x, .int .i64 k.y, .int .i64 k.k] 37)).alloc (.cells #[.int .i64 k.x, .int .i64 k.y] 47)).alloc (.cells #[.slice none 0 0, .int .i64 k.x, .int .i64 k.y] 72)) w8.heap.size g ca na (zs.flatMap arcC) (some ⟨wr.heap.size + 1 + 1, 0, none⟩) 1 1 [.slice none 0 0, .int .i64 k.x, .int .i64 k.y] rfl rfl HA2.out.own rfl (.inr ⟨_, 0, rfl, HSL.out⟩) (by simp [Value.oneCell']) (by have := HR.out.few; omega) (by have := HR.out.few; omega) HB2.out.size ?_; intro g9 c9 w9 ho9 hg9 hat9)
  have HA9 : Hid (ArcsAt w9 w8.heap.size g9 (na + 1) c9 (zs ++ [⟨⟨[], k.sp⟩, none, 0⟩])) := HA2.out.snoc (z := ⟨⟨[], k.sp⟩, none, 0⟩) (.inl rfl) ho9 hg9 hat9
  have HB9 : Hid (Below w8.heap.size w8 w9) := belGrown HB2.out hg9 (ownsRow_cap HR.out.arcs.own).2.1 HB2.out.size
  have HU9 := Lib.hid (HR.out.up.step (z := ⟨⟨[], k.sp⟩, none, 0⟩) HA1.out)
  clear ho9 hg9 hat9
  go_wp2_with fail
  refine HNX.out _ _ ⟨[], _, _, _, _, _, _, zs ++ [⟨⟨[], k.sp⟩, none, 0⟩], ?rel, _, _, _, _, _, _, _, _, _, _, _, _, _, _, _, _, _, _, _, _, _, _, _, _, _, _, _, _, _, _, _, _, _, _, _, _, _, _, _, _, _, _, _, _, _, _, _, _, _, _, _, _, _, _, _, _, _, _, _, _, _, _, _, _, _, _, _, _, _, _, _, _, _, _, _, _, _, _, _, _, _, _, _, _, _, _, _, _, _, _, _, _, _, _, _, _, _, _, _, _, _, _, _, _, _, rfl⟩ ?mu
  case rel => exact ⟨rfl, Nat.le_refl _, by have := HR.out.few; omega, .inl rfl, goodK_tail HR.out.good, HA9.out, HU9.out, HB9.out⟩
  case mu => simp only [Wmu, sliceLen]; simp

end Go.Proofs.Ythjhekmlhmljlaa

namespace Go.Proofs.Ythjhekmlhmljlaa
open Go.RowKit Go.PlainAid
set_option linter.unusedSimpArgs false
set_option linter.unusedVariables false

set_option maxRecDepth 1000000 in
set_option maxHeartbeats 4000000 in
theorem h_fail1 {x0 x1 x3 x4 x5 x6 x7 x8 x11 x13 x14 x15 x16 x17 x18 x19 x20 x21 x22 x23 x24 x25 x26 x27 x28 x29 x30 x31 x32 x33 x34 x35 x36 x37 x38 x39 x40 x41 x42 x43 x44 x45 x46 x47 x48 x49 x50 x51 x52 x53 x54 x55 x56 x57 x58 x59 x60 x61 x62 x63 x64 x65 x66 x67 x68 x69 x70 x71 x72 x73 x74 x75 x76 x77 x78 x79 x80 x81 x82 x83 x84 x85 x86 x87 x88 x89 x90 x91 x92 x93 x94 x95 x96 x97 x98 x99 x100 x101 x102 x103 x104 x105 x106 x107 x108 x109 x110 x111 x112 x113 x114 x115 x116 x117 x118 x119 x120 x121 x122 x123 x124 x125 x126 x127 x128 x129 x130 x131 x132 x133 x134 x135 x136 x137 x138 x139 x140 x141 x142 x143 x144 x145 x146 x147 x148 x149 x150 x151 x152 x153 x154 x155 x156 x157 x158 x159 x160 x161 x162 x163 x164 x165 x166 x167 x168 x169 x170 x171 x172 x173 x174 x175 x176 x177 x178 x179 x180 x181 x182 x183 x184 : Value} (w w8 wr : World) (st : Sp) (L : List Kn) (g na ca : Nat) (zs : List ArcZ) (T : Code) (Q : Exit → Act → World → Prop) (hpre : PreW w wr st) (hws : w.heap.size + 1 < w8.heap.size) (k : Kn) (b off cl : Nat) (hR : Rel3 w8 st L wr (k :: []) (some ⟨b, off, none⟩) (0 + 1) cl g na ca zs) (hc1 : ¬ cl = 1) (e3 : k.k = 3) (hL : arcsL st L = none) (hret : ∀ a' w', RetP w st L a' w' → Q .ret a' w') :
    Code.wp Try.prog (headC T) Q ⟨#[x0, x1, .pointer (some ⟨w.heap.size, 0, none⟩), x3, x4, x5, x6, x7, x8, .pointer (some ⟨(w.heap.size + 1), 0, none⟩), .slice (some ⟨b, off, none⟩) (0 + 1) cl, x11, .slice (some ⟨g, 0, none⟩) na ca, x13, x14, x15, x16, x17, x18, x19, x20, x21, x22, x23, x24, x25, x26, x27, x28, x29, x30, x31, x32, x33, x34, x35, x36, x37, x38, x39, x40, x41, x42, x43, x44, x45, x46, x47, x48, x49, x50, x51, x52, x53, x54, x55, x56, x57, x58, x59, x60, x61, x62, x63, x64, x65, x66, x67, x68, x69, x70, x71, x72, x73, x74, x75, x76, x77, x78, x79, x80, x81, x82, x83, x84, x85, x86, x87, x88, x89, x90, x91, x92, x93, x94, x95, x96, x97, x98, x99, x100, x101, x102, x103, x104, x105, x106, x107, x108, x109, x110, x111, x112, x113, x114, x115, x116, x117, x118, x119, x120, x121, x122, x123, x124, x125, x126, x127, x128, x129, x130, x131, x132, x133, x134, x135, x136, x137, x138, x139, x140, x141, x142, x143, x144, x145, x146, x147, x148, x149, x150, x151, x152, x153, x154, x155, x156, x157, x158, x159, x160, x161, x162, x163, x164, x165, x166, x167, x168, x169, x170, x171, x172, x173, x174, x175, x176, x177, x178, x179, x180, x181, x182, x183, x184], []⟩ wr := by
  have HR := Lib.hid hR
  have HPR := Lib.hid hpre
  have HWS := Lib.hid hws
  obtain ⟨b', off', hbb, k0, k1, k2⟩ := (hR.isR.below hR.bel).knot (i := 0) (k := k) rfl
  cases hbb
  simp only [Nat.zero_mul, Nat.add_zero] at k0 k1 k2
  have e1' : (k.k == 1) = false := by rw [e3]; rfl
  have e3' : (k.k == 3) = true := by simpa using e3
  have HP4 := Lib.hid (hpre.below (bel_four wr k))
  obtain ⟨s0, s1, z0, z1, r0, r1, f0, f1, bel⟩ := HP4.out
  have HL := Lib.hid hL
  have HRET := Lib.hid hret
  skip
  clear z0 z1 bel e3 hR hpre hws hL hret
  unfold headC
  conv => arg 2; arg 1; whnf
  conv => arg 2; arg 2; arg 2; arg 1; whnf
  conv => arg 2; arg 2; arg 2; arg 2; arg 1; whnf
  conv => arg 2; arg 2; arg 2; arg 2; arg 2; arg 1; whnf
  conv => arg 2; arg 2; arg 2; arg 2; arg 2; arg 2; arg 1; whnf
  conv => arg 2; arg 2; arg 2; arg 2; arg 2; arg 2; arg 2; arg 1; whnf
  conv => arg 2; arg 2; arg 2; arg 2; arg 2; arg 2; arg 2; arg 2; arg 1; whnf
  go_wp2_with fail
  refine HRET.out _ _ (ret_none rfl HP4.out HL.out ?_)
  simp [results, Try.results37, go_sem, r0, r1]

set_option maxRecDepth 1000000 in
set_option maxHeartbeats 4000000 in
theorem h_fail0 {x0 x1 x3 x4 x5 x6 x7 x8 x11 x13 x14 x15 x16 x17 x18 x19 x20 x21 x22 x23 x24 x25 x26 x27 x28 x29 x30 x31 x32 x33 x34 x35 x36 x37 x38 x39 x40 x41 x42 x43 x44 x45 x46 x47 x48 x49 x50 x51 x52 x53 x54 x55 x56 x57 x58 x59 x60 x61 x62 x63 x64 x65 x66 x67 x68 x69 x70 x71 x72 x73 x74 x75 x76 x77 x78 x79 x80 x81 x82 x83 x84 x85 x86 x87 x88 x89 x90 x91 x92 x93 x94 x95 x96 x97 x98 x99 x100 x101 x102 x103 x104 x105 x106 x107 x108 x109 x110 x111 x112 x113 x114 x115 x116 x117 x118 x119 x120 x121 x122 x123 x124 x125 x126 x127 x128 x129 x130 x131 x132 x133 x134 x135 x136 x137 x138 x139 x140 x141 x142 x143 x144 x145 x146 x147 x148 x149 x150 x151 x152 x153 x154 x155 x156 x157 x158 x159 x160 x161 x162 x163 x164 x165 x166 x167 x168 x169 x170 x171 x172 x173 x174 x175 x176 x177 x178 x179 x180 x181 x182 x183 x184 : Value} (w w8 wr : World) (st : Sp) (L : List Kn) (g na ca : Nat) (zs : List ArcZ) (T : Code) (Q : Exit → Act → World → Prop) (hpre : PreW w wr st) (hws : w.heap.size + 1 < w8.heap.size) (k : Kn) (b off : Nat) (hR : Rel3 w8 st L wr (k :: []) (some ⟨b, off, none⟩) (0 + 1) 1 g na ca zs) (e3 : k.k = 3) (hL : arcsL st L = none) (hret : ∀ a' w', RetP w st L a' w' → Q .ret a' w') :
    Code.wp Try.prog (headC T) Q ⟨#[x0, x1, .pointer (some ⟨w.heap.size, 0, none⟩), x3, x4, x5, x6, x7, x8, .pointer (some ⟨(w.heap.size + 1), 0, none⟩), .slice (some ⟨b, off, none⟩) (0 + 1) 1, x11, .slice (some ⟨g, 0, none⟩) na ca, x13, x14, x15, x16, x17, x18, x19, x20, x21, x22, x23, x24, x25, x26, x27, x28, x29, x30, x31, x32, x33, x34, x35, x36, x37, x38, x39, x40, x41, x42, x43, x44, x45, x46, x47, x48, x49, x50, x51, x52, x53, x54, x55, x56, x57, x58, x59, x60, x61, x62, x63, x64, x65, x66, x67, x68, x69, x70, x71, x72, x73, x74, x75, x76, x77, x78, x79, x80, x81, x82, x83, x84, x85, x86, x87, x88, x89, x90, x91, x92, x93, x94, x95, x96, x97, x98, x99, x100, x101, x102, x103, x104, x105, x106, x107, x108, x109, x110, x111, x112, x113, x114, x115, x116, x117, x118, x119, x120, x121, x122, x123, x124, x125, x126, x127, x128, x129, x130, x131, x132, x133, x134, x135, x136, x137, x138, x139, x140, x141, x142, x143, x144, x145, x146, x147, x148, x149, x150, x151, x152, x153, x154, x155, x156, x157, x158, x159, x160, x161, x162, x163, x164, x165, x166, x167, x168, x169, x170, x171, x172, x173, x174, x175, x176, x177, x178, x179, x180, x181, x182, x183, x184], []⟩ wr := by
  have HR := Lib.hid hR
  have HPR := Lib.hid hpre
  have HWS := Lib.hid hws
  obtain ⟨b', off', hbb, k0, k1, k2⟩ := (hR.isR.below hR.bel).knot (i := 0) (k := k) rfl
  cases hbb
  simp only [Nat.zero_mul, Nat.add_zero] at k0 k1 k2
  have e1' : (k.k == 1) = false := by rw [e3]; rfl
  have e3' : (k.k == 3) = true := by simpa using e3
  have HP4 := Lib.hid (hpre.below (bel_four wr k))
  obtain ⟨s0, s1, z0, z1, r0, r1, f0, f1, bel⟩ := HP4.out
  have HL := Lib.hid hL
  have HRET := Lib.hid hret
  skip
  clear z0 z1 bel e3 hR hpre hws hL hret
  unfold headC
  conv => arg 2; arg 1; whnf
  conv => arg 2; arg 2; arg 2; arg 1; whnf
  conv => arg 2; arg 2; arg 2; arg 2; arg 1; whnf
  conv => arg 2; arg 2; arg 2; arg 2; arg 2; arg 1; whnf
  conv => arg 2; arg 2; arg 2; arg 2; arg 2; arg 2; arg 1; whnf
  conv => arg 2; arg 2; arg 2; arg 2; arg 2; arg 2; arg 2; arg 1; whnf
  conv => arg 2; arg 2; arg 2; arg 2; arg 2; arg 2; arg 2; arg 2; arg 1; whnf
  go_wp2_with fail
  refine HRET.out _ _ (ret_none rfl HP4.out HL.out ?_)
  simp [results, Try.results37, go_sem, r0, r1]

set_option maxRecDepth 1000000 in
set_option maxHeartbeats 4000000 in
theorem h_faild {x0 x1 x3 x4 x5 x6 x7 x8 x11 x13 x14 x15 x16 x17 x18 x19 x20 x21 x22 x23 x24 x25 x26 x27 x28 x29 x30 x31 x32 x33 x34 x35 x36 x37 x38 x39 x40 x41 x42 x43 x44 x45 x46 x47 x48 x49 x50 x51 x52 x53 x54 x55 x56 x57 x58 x59 x60 x61 x62 x63 x64 x65 x66 x67 x68 x69 x70 x71 x72 x73 x74 x75 x76 x77 x78 x79 x80 x81 x82 x83 x84 x85 x86 x87 x88 x89 x90 x91 x92 x93 x94 x95 x96 x97 x98 x99 x100 x101 x102 x103 x104 x105 x106 x107 x108 x109 x110 x111 x112 x113 x114 x115 x116 x117 x118 x119 x120 x121 x122 x123 x124 x125 x126 x127 x128 x129 x130 x131 x132 x133 x134 x135 x136 x137 x138 x139 x140 x141 x142 x143 x144 x145 x146 x147 x148 x149 x150 x151 x152 x153 x154 x155 x156 x157 x158 x159 x160 x161 x162 x163 x164 x165 x166 x167 x168 x169 x170 x171 x172 x173 x174 x175 x176 x177 x178 x179 x180 x181 x182 x183 x184 : Value} (w w8 wr : World) (st : Sp) (L : List Kn) (g na ca : Nat) (zs : List ArcZ) (T : Code) (Q : Exit → Act → World → Prop) (hpre : PreW w wr st) (hws : w.heap.size + 1 < w8.heap.size) (k d : Kn) (r : List Kn) (b off m cl : Nat) (hR : Rel3 w8 st L wr (k :: d :: r) (some ⟨b, off, none⟩) (m + 1 + 1) cl g na ca zs) (hc1 : ¬ cl = 1) (e3 : k.k = 3) (hd : ¬ d.k = 3) (hL : arcsL st L = none) (hret : ∀ a' w', RetP w st L a' w' → Q .ret a' w') :
    Code.wp Try.prog (headC T) Q ⟨#[x0, x1, .pointer (some ⟨w.heap.size, 0, none⟩), x3, x4, x5, x6, x7, x8, .pointer (some ⟨(w.heap.size + 1), 0, none⟩), .slice (some ⟨b, off, none⟩) (m + 1 + 1) cl, x11, .slice (some ⟨g, 0, none⟩) na ca, x13, x14, x15, x16, x17, x18, x19, x20, x21, x22, x23, x24, x25, x26, x27, x28, x29, x30, x31, x32, x33, x34, x35, x36, x37, x38, x39, x40, x41, x42, x43, x44, x45, x46, x47, x48, x49, x50, x51, x52, x53, x54, x55, x56, x57, x58, x59, x60, x61, x62, x63, x64, x65, x66, x67, x68, x69, x70, x71, x72, x73, x74, x75, x76, x77, x78, x79, x80, x81, x82, x83, x84, x85, x86, x87, x88, x89, x90, x91, x92, x93, x94, x95, x96, x97, x98, x99, x100, x101, x102, x103, x104, x105, x106, x107, x108, x109, x110, x111, x112, x113, x114, x115, x116, x117, x118, x119, x120, x121, x122, x123, x124, x125, x126, x127, x128, x129, x130, x131, x132, x133, x134, x135, x136, x137, x138, x139, x140, x141, x142, x143, x144, x145, x146, x147, x148, x149, x150, x151, x152, x153, x154, x155, x156, x157, x158, x159, x160, x161, x162, x163, x164, x165, x166, x167, x168, x169, x170, x171, x172, x173, x174, x175, x176, x177, x178, x179, x180, x181, x182, x183, x184], []⟩ wr := by
  have HR := Lib.hid hR
  have HPR := Lib.hid hpre
  have HWS := Lib.hid hws
  obtain ⟨b', off', hbb, k0, k1, k2⟩ := (hR.isR.below hR.bel).knot (i := 0) (k := k) rfl
  cases hbb
  simp only [Nat.zero_mul, Nat.add_zero] at k0 k1 k2
  have e1' : (k.k == 1) = false := by rw [e3]; rfl
  have e3' : (k.k == 3) = true := by simpa using e3
  have HP4 := Lib.hid (hpre.below (bel_four wr k))
  obtain ⟨s0, s1, z0, z1, r0, r1, f0, f1, bel⟩ := HP4.out
  have HL := Lib.hid hL
  have HRET := Lib.hid hret
  obtain ⟨b', off', hbb, d0, d1, d2⟩ := ((isR_tail hR.isR).below hR.bel).knot (i := 0) (k := d) rfl
  cases hbb
  simp only [Nat.zero_mul, Nat.add_zero] at d0 d1 d2
  have d2' := keepC (bel_four wr k) d2
  have hm0 : (0 : Int) < ((m : Int) + 1) := by omega
  have hm1 : (0 : Int) < ((m : Int) + 1 + 1) := by omega
  have hmz : ((m : Int) + 1 == 0) = false := by simp; omega
  have hd' : (d.k == 3) = false := by simpa using hd
  clear z0 z1 bel e3 hR hpre hws hL hret
  unfold headC
  conv => arg 2; arg 1; whnf
  conv => arg 2; arg 2; arg 2; arg 1; whnf
  conv => arg 2; arg 2; arg 2; arg 2; arg 1; whnf
  conv => arg 2; arg 2; arg 2; arg 2; arg 2; arg 1; whnf
  conv => arg 2; arg 2; arg 2; arg 2; arg 2; arg 2; arg 1; whnf
  conv => arg 2; arg 2; arg 2; arg 2; arg 2; arg 2; arg 2; arg 1; whnf
  conv => arg 2; arg 2; arg 2; arg 2; arg 2; arg 2; arg 2; arg 2; arg 1; whnf
  go_wp2_with fail
  refine HRET.out _ _ (ret_none rfl HP4.out HL.out ?_)
  simp [results, Try.results37, go_sem, r0, r1]

end Go.Proofs.Ythjhekmlhmljlaa

namespace Go.Proofs.Ythjhekmlhmljlaa
open Go.RowKit Go.PlainAid
set_option linter.unusedSimpArgs false
set_option linter.unusedVariables false

set_option maxRecDepth 1000000 in
set_option maxHeartbeats 4000000 in
theorem h_quad1 {x0 x1 x3 x4 x5 x6 x7 x8 x11 x13 x14 x15 x16 x17 x18 x19 x20 x21 x22 x23 x24 x25 x26 x27 x28 x29 x30 x31 x32 x33 x34 x35 x36 x37 x38 x39 x40 x41 x42 x43 x44 x45 x46 x47 x48 x49 x50 x51 x52 x53 x54 x55 x56 x57 x58 x59 x60 x61 x62 x63 x64 x65 x66 x67 x68 x69 x70 x71 x72 x73 x74 x75 x76 x77 x78 x79 x80 x81 x82 x83 x84 x85 x86 x87 x88 x89 x90 x91 x92 x93 x94 x95 x96 x97 x98 x99 x100 x101 x102 x103 x104 x105 x106 x107 x108 x109 x110 x111 x112 x113 x114 x115 x116 x117 x118 x119 x120 x121 x122 x123 x124 x125 x126 x127 x128 x129 x130 x131 x132 x133 x134 x135 x136 x137 x138 x139 x140 x141 x142 x143 x144 x145 x146 x147 x148 x149 x150 x151 x152 x153 x154 x155 x156 x157 x158 x159 x160 x161 x162 x163 x164 x165 x166 x167 x168 x169 x170 x171 x172 x173 x174 x175 x176 x177 x178 x179 x180 x181 x182 x183 x184 : Value} (w w8 wr : World) (st : Sp) (L : List Kn) (g na ca : Nat) (zs : List ArcZ) (T : Code) (Q : Exit → Act → World → Prop) (hpre : PreW w wr st) (hws : w.heap.size + 1 < w8.heap.size) (k : Kn) (r : List Kn) (b off m cl : Nat) (hR : Rel3 w8 st L wr (k :: r) (some ⟨b, off, none⟩) (m + 1) cl g na ca zs) (hc1 : ¬ cl = 1) (e1 : ¬ k.k = 1) (e3 : ¬ k.k = 3) (hTail : ∀ (V : World) (gk ga gc cc : Nat) (y14 y81 y82 y83 y84 y85 y86 y87 y88 y89 y90 y91 y92 y93 y94 y95 y96 y97 y98 y99 y100 y101 y102 y103 y104 y105 y106 y107 y108 y109 y110 y111 y112 y113 y114 y115 y116 y117 y118 y119 y120 y121 y122 y123 y124 y125 y126 y127 y128 y129 y130 y131 y132 y133 y134 : Value), TailW w w8 wr V st g na ca zs k [k.sp] gk ga gc cc → Code.wp Try.prog T (Exit.inBlock 5 Q) ⟨#[x0, x1, .pointer (some ⟨w.heap.size, 0, none⟩), x3, x4, x5, x6, x7, x8, .pointer (some ⟨(w.heap.size + 1), 0, none⟩), .slice (some ⟨b, off + 3, none⟩) m (cl - 1), x11, .slice (some ⟨g, 0, none⟩) na ca, .pointer (some ⟨gk, 0, none⟩), y14, .pointer (some ⟨ga, 0, none⟩), x16, x17, x18, x19, x20, x21, x22, x23, x24, x25, x26, x27, x28, x29, x30, x31, x32, x33, x34, x35, x36, x37, x38, x39, x40, x41, x42, x43, x44, x45, x46, x47, x48, x49, x50, x51, x52, x53, x54, x55, x56, x57, x58, x59, x60, x61, x62, x63, x64, x65, x66, x67, x68, x69, x70, x71, x72, x73, x74, x75, x76, x77, x78, x79, x80, y81, y82, y83, y84, y85, y86, y87, y88, y89, y90, y91, y92, y93, y94, y95, y96, y97, y98, y99, y100, y101, y102, y103, y104, y105, y106, y107, y108, y109, y110, y111, y112, y113, y114, y115, y116, y117, y118, y119, y120, y121, y122, y123, y124, y125, y126, y127, y128, y129, y130, y131, y132, y133, y134, x135, x136, x137, x138, x139, x140, x141, x142, x143, x144, x145, x146, x147, x148, x149, x150, x151, x152, x153, x154, x155, x156, x157, x158, x159, x160, x161, x162, x163, x164, x165, x166, x167, x168, x169, x170, x171, x172, x173, x174, x175, x176, x177, x178, x179, x180, x181, x182, x183, x184], []⟩ V) :
    Code.wp Try.prog (headC T) Q ⟨#[x0, x1, .pointer (some ⟨w.heap.size, 0, none⟩), x3, x4, x5, x6, x7, x8, .pointer (some ⟨(w.heap.size + 1), 0, none⟩), .slice (some ⟨b, off, none⟩) (m + 1) cl, x11, .slice (some ⟨g, 0, none⟩) na ca, x13, x14, x15, x16, x17, x18, x19, x20, x21, x22, x23, x24, x25, x26, x27, x28, x29, x30, x31, x32, x33, x34, x35, x36, x37, x38, x39, x40, x41, x42, x43, x44, x45, x46, x47, x48, x49, x50, x51, x52, x53, x54, x55, x56, x57, x58, x59, x60, x61, x62, x63, x64, x65, x66, x67, x68, x69, x70, x71, x72, x73, x74, x75, x76, x77, x78, x79, x80, x81, x82, x83, x84, x85, x86, x87, x88, x89, x90, x91, x92, x93, x94, x95, x96, x97, x98, x99, x100, x101, x102, x103, x104, x105, x106, x107, x108, x109, x110, x111, x112, x113, x114, x115, x116, x117, x118, x119, x120, x121, x122, x123, x124, x125, x126, x127, x128, x129, x130, x131, x132, x133, x134, x135, x136, x137, x138, x139, x140, x141, x142, x143, x144, x145, x146, x147, x148, x149, x150, x151, x152, x153, x154, x155, x156, x157, x158, x159, x160, x161, x162, x163, x164, x165, x166, x167, x168, x169, x170, x171, x172, x173, x174, x175, x176, x177, x178, x179, x180, x181, x182, x183, x184], []⟩ wr := by
  have HR := Lib.hid hR
  have HPR := Lib.hid hpre
  have HWS := Lib.hid hws
  obtain ⟨b', off', hbb, k0, k1, k2⟩ := (hR.isR.below hR.bel).knot (i := 0) (k := k) rfl
  cases hbb
  simp only [Nat.zero_mul, Nat.add_zero] at k0 k1 k2
  have HTW := Lib.hid (tailW_one (k := k) hpre hR.arcs hR.bel hws)
  have HTL := Lib.hid hTail
  have e1' : (k.k == 1) = false := by simpa using e1
  have e3' : (k.k == 3) = false := by simpa using e3
  have hm0 : (0 : Int) < ((m : Int) + 1) := by omega
  clear hR hpre hws e1 e3 hTail
  unfold headC
  conv => arg 2; arg 1; whnf
  conv => arg 2; arg 2; arg 2; arg 1; whnf
  conv => arg 2; arg 2; arg 2; arg 2; arg 1; whnf
  conv => arg 2; arg 2; arg 2; arg 2; arg 2; arg 1; whnf
  conv => arg 2; arg 2; arg 2; arg 2; arg 2; arg 2; arg 1; whnf
  conv => arg 2; arg 2; arg 2; arg 2; arg 2; arg 2; arg 2; arg 1; whnf
  conv => arg 2; arg 2; arg 2; arg 2; arg 2; arg 2; arg 2; arg 2; arg 1; whnf
  go_wp2_with fail
  exact HTL.out _ _ _ _ _ _ _ _ _ _ _ _ _ _ _ _ _ _ _ _ _ _ _ _ _ _ _ _ _ _ _ _ _ _ _ _ _ _ _ _ _ _ _ _ _ _ _ _ _ _ _ _ _ _ _ _ _ _ _ _ HTW.out

set_option maxRecDepth 1000000 in
set_option maxHeartbeats 4000000 in
theorem h_quad0 {x0 x1 x3 x4 x5 x6 x7 x8 x11 x13 x14 x15 x16 x17 x18 x19 x20 x21 x22 x23 x24 x25 x26 x27 x28 x29 x30 x31 x32 x33 x34 x35 x36 x37 x38 x39 x40 x41 x42 x43 x44 x45 x46 x47 x48 x49 x50 x51 x52 x53 x54 x55 x56 x57 x58 x59 x60 x61 x62 x63 x64 x65 x66 x67 x68 x69 x70 x71 x72 x73 x74 x75 x76 x77 x78 x79 x80 x81 x82 x83 x84 x85 x86 x87 x88 x89 x90 x91 x92 x93 x94 x95 x96 x97 x98 x99 x100 x101 x102 x103 x104 x105 x106 x107 x108 x109 x110 x111 x112 x113 x114 x115 x116 x117 x118 x119 x120 x121 x122 x123 x124 x125 x126 x127 x128 x129 x130 x131 x132 x133 x134 x135 x136 x137 x138 x139 x140 x141 x142 x143 x144 x145 x146 x147 x148 x149 x150 x151 x152 x153 x154 x155 x156 x157 x158 x159 x160 x161 x162 x163 x164 x165 x166 x167 x168 x169 x170 x171 x172 x173 x174 x175 x176 x177 x178 x179 x180 x181 x182 x183 x184 : Value} (w w8 wr : World) (st : Sp) (L : List Kn) (g na ca : Nat) (zs : List ArcZ) (T : Code) (Q : Exit → Act → World → Prop) (hpre : PreW w wr st) (hws : w.heap.size + 1 < w8.heap.size) (k : Kn) (b off : Nat) (hR : Rel3 w8 st L wr (k :: []) (some ⟨b, off, none⟩) (0 + 1) 1 g na ca zs) (e1 : ¬ k.k = 1) (e3 : ¬ k.k = 3) (hTail : ∀ (V : World) (gk ga gc cc : Nat) (y14 y81 y82 y83 y84 y85 y86 y87 y88 y89 y90 y91 y92 y93 y94 y95 y96 y97 y98 y99 y100 y101 y102 y103 y104 y105 y106 y107 y108 y109 y110 y111 y112 y113 y114 y115 y116 y117 y118 y119 y120 y121 y122 y123 y124 y125 y126 y127 y128 y129 y130 y131 y132 y133 y134 : Value), TailW w w8 wr V st g na ca zs k [k.sp] gk ga gc cc → Code.wp Try.prog T (Exit.inBlock 5 Q) ⟨#[x0, x1, .pointer (some ⟨w.heap.size, 0, none⟩), x3, x4, x5, x6, x7, x8, .pointer (some ⟨(w.heap.size + 1), 0, none⟩), .slice (some ⟨b, off, none⟩) 0 0, x11, .slice (some ⟨g, 0, none⟩) na ca, .pointer (some ⟨gk, 0, none⟩), y14, .pointer (some ⟨ga, 0, none⟩), x16, x17, x18, x19, x20, x21, x22, x23, x24, x25, x26, x27, x28, x29, x30, x31, x32, x33, x34, x35, x36, x37, x38, x39, x40, x41, x42, x43, x44, x45, x46, x47, x48, x49, x50, x51, x52, x53, x54, x55, x56, x57, x58, x59, x60, x61, x62, x63, x64, x65, x66, x67, x68, x69, x70, x71, x72, x73, x74, x75, x76, x77, x78, x79, x80, y81, y82, y83, y84, y85, y86, y87, y88, y89, y90, y91, y92, y93, y94, y95, y96, y97, y98, y99, y100, y101, y102, y103, y104, y105, y106, y107, y108, y109, y110, y111, y112, y113, y114, y115, y116, y117, y118, y119, y120, y121, y122, y123, y124, y125, y126, y127, y128, y129, y130, y131, y132, y133, y134, x135, x136, x137, x138, x139, x140, x141, x142, x143, x144, x145, x146, x147, x148, x149, x150, x151, x152, x153, x154, x155, x156, x157, x158, x159, x160, x161, x162, x163, x164, x165, x166, x167, x168, x169, x170, x171, x172, x173, x174, x175, x176, x177, x178, x179, x180, x181, x182, x183, x184], []⟩ V) :
    Code.wp Try.prog (headC T) Q ⟨#[x0, x1, .pointer (some ⟨w.heap.size, 0, none⟩), x3, x4, x5, x6, x7, x8, .pointer (some ⟨(w.heap.size + 1), 0, none⟩), .slice (some ⟨b, off, none⟩) (0 + 1) 1, x11, .slice (some ⟨g, 0, none⟩) na ca, x13, x14, x15, x16, x17, x18, x19, x20, x21, x22, x23, x24, x25, x26, x27, x28, x29, x30, x31, x32, x33, x34, x35, x36, x37, x38, x39, x40, x41, x42, x43, x44, x45, x46, x47, x48, x49, x50, x51, x52, x53, x54, x55, x56, x57, x58, x59, x60, x61, x62, x63, x64, x65, x66, x67, x68, x69, x70, x71, x72, x73, x74, x75, x76, x77, x78, x79, x80, x81, x82, x83, x84, x85, x86, x87, x88, x89, x90, x91, x92, x93, x94, x95, x96, x97, x98, x99, x100, x101, x102, x103, x104, x105, x106, x107, x108, x109, x110, x111, x112, x113, x114, x115, x116, x117, x118, x119, x120, x121, x122, x123, x124, x125, x126, x127, x128, x129, x130, x131, x132, x133, x134, x135, x136, x137, x138, x139, x140, x141, x142, x143, x144, x145, x146, x147, x148, x149, x150, x151, x152, x153, x154, x155, x156, x157, x158, x159, x160, x161, x162, x163, x164, x165, x166, x167, x168, x169, x170, x171, x172, x173, x174, x175, x176, x177, x178, x179, x180, x181, x182, x183, x184], []⟩ wr := by
  have HR := Lib.hid hR
  have HPR := Lib.hid hpre
  have HWS := Lib.hid hws
  obtain ⟨b', off', hbb, k0, k1, k2⟩ := (hR.isR.below hR.bel).knot (i := 0) (k := k) rfl
  cases hbb
  simp only [Nat.zero_mul, Nat.add_zero] at k0 k1 k2
  have HTW := Lib.hid (tailW_one (k := k) hpre hR.arcs hR.bel hws)
  have HTL := Lib.hid hTail
  have e1' : (k.k == 1) = false := by simpa using e1
  have e3' : (k.k == 3) = false := by simpa using e3
  skip
  clear hR hpre hws e1 e3 hTail
  unfold headC
  conv => arg 2; arg 1; whnf
  conv => arg 2; arg 2; arg 2; arg 1; whnf
  conv => arg 2; arg 2; arg 2; arg 2; arg 1; whnf
  conv => arg 2; arg 2; arg 2; arg 2; arg 2; arg 1; whnf
  conv => arg 2; arg 2; arg 2; arg 2; arg 2; arg 2; arg 1; whnf
  conv => arg 2; arg 2; arg 2; arg 2; arg 2; arg 2; arg 2; arg 1; whnf
  conv => arg 2; arg 2; arg 2; arg 2; arg 2; arg 2; arg 2; arg 2; arg 1; whnf
  go_wp2_with fail
  exact HTL.out _ _ _ _ _ _ _ _ _ _ _ _ _ _ _ _ _ _ _ _ _ _ _ _ _ _ _ _ _ _ _ _ _ _ _ _ _ _ _ _ _ _ _ _ _ _ _ _ _ _ _ _ _ _ _ _ _ _ _ _ HTW.out

end Go.Proofs.Ythjhekmlhmljlaa

namespace Go.Proofs.Ythjhekmlhmljlaa
open Go.RowKit Go.PlainAid
set_option linter.unusedSimpArgs false
set_option linter.unusedVariables false

set_option maxRecDepth 1000000 in
set_option maxHeartbeats 4000000 in
theorem h_cub1 {x0 x1 x3 x4 x5 x6 x7 x8 x11 x13 x14 x15 x16 x17 x18 x19 x20 x21 x22 x23 x24 x25 x26 x27 x28 x29 x30 x31 x32 x33 x34 x35 x36 x37 x38 x39 x40 x41 x42 x43 x44 x45 x46 x47 x48 x49 x50 x51 x52 x53 x54 x55 x56 x57 x58 x59 x60 x61 x62 x63 x64 x65 x66 x67 x68 x69 x70 x71 x72 x73 x74 x75 x76 x77 x78 x79 x80 x81 x82 x83 x84 x85 x86 x87 x88 x89 x90 x91 x92 x93 x94 x95 x96 x97 x98 x99 x100 x101 x102 x103 x104 x105 x106 x107 x108 x109 x110 x111 x112 x113 x114 x115 x116 x117 x118 x119 x120 x121 x122 x123 x124 x125 x126 x127 x128 x129 x130 x131 x132 x133 x134 x135 x136 x137 x138 x139 x140 x141 x142 x143 x144 x145 x146 x147 x148 x149 x150 x151 x152 x153 x154 x155 x156 x157 x158 x159 x160 x161 x162 x163 x164 x165 x166 x167 x168 x169 x170 x171 x172 x173 x174 x175 x176 x177 x178 x179 x180 x181 x182 x183 x184 : Value} (w w8 wr : World) (st : Sp) (L : List Kn) (g na ca : Nat) (zs : List ArcZ) (T : Code) (Q : Exit → Act → World → Prop) (hpre : PreW w wr st) (hws : w.heap.size + 1 < w8.heap.size) (k d : Kn) (r : List Kn) (b off m cl : Nat) (hR : Rel3 w8 st L wr (k :: d :: r) (some ⟨b, off, none⟩) (m + 1 + 1) cl g na ca zs) (hc1 : ¬ cl = 1) (hc2 : ¬ cl - 1 = 1) (e3 : k.k = 3) (hd : d.k = 3) (hTail : ∀ (V : World) (gk ga gc cc : Nat) (y14 y81 y82 y83 y84 y85 y86 y87 y88 y89 y90 y91 y92 y93 y94 y95 y96 y97 y98 y99 y100 y101 y102 y103 y104 y105 y106 y107 y108 y109 y110 y111 y112 y113 y114 y115 y116 y117 y118 y119 y120 y121 y122 y123 y124 y125 y126 y127 y128 y129 y130 y131 y132 y133 y134 : Value), TailW w w8 wr V st g na ca zs k [k.sp, d.sp] gk ga gc cc → Code.wp Try.prog T (Exit.inBlock 5 Q) ⟨#[x0, x1, .pointer (some ⟨w.heap.size, 0, none⟩), x3, x4, x5, x6, x7, x8, .pointer (some ⟨(w.heap.size + 1), 0, none⟩), .slice (some ⟨b, off + 3 + 3, none⟩) m (cl - 1 - 1), x11, .slice (some ⟨g, 0, none⟩) na ca, .pointer (some ⟨gk, 0, none⟩), y14, .pointer (some ⟨ga, 0, none⟩), x16, x17, x18, x19, x20, x21, x22, x23, x24, x25, x26, x27, x28, x29, x30, x31, x32, x33, x34, x35, x36, x37, x38, x39, x40, x41, x42, x43, x44, x45, x46, x47, x48, x49, x50, x51, x52, x53, x54, x55, x56, x57, x58, x59, x60, x61, x62, x63, x64, x65, x66, x67, x68, x69, x70, x71, x72, x73, x74, x75, x76, x77, x78, x79, x80, y81, y82, y83, y84, y85, y86, y87, y88, y89, y90, y91, y92, y93, y94, y95, y96, y97, y98, y99, y100, y101, y102, y103, y104, y105, y106, y107, y108, y109, y110, y111, y112, y113, y114, y115, y116, y117, y118, y119, y120, y121, y122, y123, y124, y125, y126, y127, y128, y129, y130, y131, y132, y133, y134, x135, x136, x137, x138, x139, x140, x141, x142, x143, x144, x145, x146, x147, x148, x149, x150, x151, x152, x153, x154, x155, x156, x157, x158, x159, x160, x161, x162, x163, x164, x165, x166, x167, x168, x169, x170, x171, x172, x173, x174, x175, x176, x177, x178, x179, x180, x181, x182, x183, x184], []⟩ V) :
    Code.wp Try.prog (headC T) Q ⟨#[x0, x1, .pointer (some ⟨w.heap.size, 0, none⟩), x3, x4, x5, x6, x7, x8, .pointer (some ⟨(w.heap.size + 1), 0, none⟩), .slice (some ⟨b, off, none⟩) (m + 1 + 1) cl, x11, .slice (some ⟨g, 0, none⟩) na ca, x13, x14, x15, x16, x17, x18, x19, x20, x21, x22, x23, x24, x25, x26, x27, x28, x29, x30, x31, x32, x33, x34, x35, x36, x37, x38, x39, x40, x41, x42, x43, x44, x45, x46, x47, x48, x49, x50, x51, x52, x53, x54, x55, x56, x57, x58, x59, x60, x61, x62, x63, x64, x65, x66, x67, x68, x69, x70, x71, x72, x73, x74, x75, x76, x77, x78, x79, x80, x81, x82, x83, x84, x85, x86, x87, x88, x89, x90, x91, x92, x93, x94, x95, x96, x97, x98, x99, x100, x101, x102, x103, x104, x105, x106, x107, x108, x109, x110, x111, x112, x113, x114, x115, x116, x117, x118, x119, x120, x121, x122, x123, x124, x125, x126, x127, x128, x129, x130, x131, x132, x133, x134, x135, x136, x137, x138, x139, x140, x141, x142, x143, x144, x145, x146, x147, x148, x149, x150, x151, x152, x153, x154, x155, x156, x157, x158, x159, x160, x161, x162, x163, x164, x165, x166, x167, x168, x169, x170, x171, x172, x173, x174, x175, x176, x177, x178, x179, x180, x181, x182, x183, x184], []⟩ wr := by
  have HR := Lib.hid hR
  have HPR := Lib.hid hpre
  have HWS := Lib.hid hws
  obtain ⟨b', off', hbb, k0, k1, k2⟩ := (hR.isR.below hR.bel).knot (i := 0) (k := k) rfl
  cases hbb
  simp only [Nat.zero_mul, Nat.add_zero] at k0 k1 k2
  have HTW := Lib.hid (tailW_one (k := k) hpre hR.arcs hR.bel hws)
  have HOW := Lib.hid (own_one (k := k) hR.bel)
  have HTL := Lib.hid hTail
  have e1' : (k.k == 1) = false := by rw [e3]; rfl
  have e3' : (k.k == 3) = true := by simpa using e3
  have hd' : (d.k == 3) = true := by simpa using hd
  obtain ⟨b', off', hbb, d0, d1, d2⟩ := ((isR_tail hR.isR).below hR.bel).knot (i := 0) (k := d) rfl
  cases hbb
  simp only [Nat.zero_mul, Nat.add_zero] at d0 d1 d2
  have d2' := keepC (bel_four wr k) d2
  have hm0 : (0 : Int) < ((m : Int) + 1) := by omega
  have hm1 : (0 : Int) < ((m : Int) + 1 + 1) := by omega
  have hmz : ((m : Int) + 1 == 0) = false := by simp; omega
  have HD0 := Lib.hid (keepC (bel_four wr k) d0)
  have HD1 := Lib.hid (keepC (bel_four wr k) d1)
  have HSZ : Hid (w8.heap.size ≤ (((((wr.alloc (.cells #[.int .i64 k.x, .int .i64 k.y, .int .i64 k.k] 37)).alloc (.cells #[.int .i64 k.x, .int .i64 k.y] 47)).alloc (.cells #[.int .i64 k.x, .int .i64 k.y] 47)).alloc (.cells #[.slice (some ⟨wr.heap.size + 1 + 1, 0, none⟩) 1 1, .int .i64 0, .int .i64 0] 72))).heap.size) := Nat.le_trans hR.bel.size (bel_four wr k).size
  have HBW : Hid (b < wr.heap.size) := World.block_lt_of_cell? wr _ k0
  clear hR hpre hws e3 hTail hd
  unfold headC
  conv => arg 2; arg 1; whnf
  conv => arg 2; arg 2; arg 2; arg 1; whnf
  conv => arg 2; arg 2; arg 2; arg 2; arg 1; whnf
  conv => arg 2; arg 2; arg 2; arg 2; arg 2; arg 1; whnf
  conv => arg 2; arg 2; arg 2; arg 2; arg 2; arg 2; arg 1; whnf
  conv => arg 2; arg 2; arg 2; arg 2; arg 2; arg 2; arg 2; arg 1; whnf
  conv => arg 2; arg 2; arg 2; arg 2; arg 2; arg 2; arg 2; arg 2; arg 1; whnf
  go_wp2_with fail
  have HF0 : Hid ((((((wr.alloc (.cells #[.int .i64 k.x, .int .i64 k.y, .int .i64 k.k] 37)).alloc (.cells #[.int .i64 k.x, .int .i64 k.y] 47)).alloc (.cells #[.int .i64 k.x, .int .i64 k.y] 47)).alloc (.cells #[.slice (some ⟨wr.heap.size + 1 + 1, 0, none⟩) 1 1, .int .i64 0, .int .i64 0] 72))).frozen? ⟨wr.heap.size + 1 + 1 + 1, 0, none⟩ = false) := by simp [Hid, go_sem]
  clear k0 k1 k2 d0 d1 d2 d2'
  generalize ((((wr.alloc (.cells #[.int .i64 k.x, .int .i64 k.y, .int .i64 k.k] 37)).alloc (.cells #[.int .i64 k.x, .int .i64 k.y] 47)).alloc (.cells #[.int .i64 k.x, .int .i64 k.y] 47)).alloc (.cells #[.slice (some ⟨wr.heap.size + 1 + 1, 0, none⟩) 1 1, .int .i64 0, .int .i64 0] 72)) = V at *
  refine reg31 b (off + 3) m (cl - 1) (wr.heap.size + 1 + 1 + 1) (wr.heap.size + 1 + 1) w8.heap.size d [.int .i64 k.x, .int .i64 k.y] V _ HD0.out HD1.out HTW.out.a0 HF0.out HOW.out HSZ.out (by omega) (by have := HBW.out; omega) ?_
  intro y119 y120 y121 y122 y123 y124 y125 y126 y127 y128 y129 y130 y131 y132 g9 c9 w9 ho9 hg9 hat9
  have HTM := Lib.hid (HTW.out.more (d := d.sp) (by omega) ho9 hg9 hat9)
  clear ho9 hg9 hat9 HTW HOW HD0 HD1
  have HTM' : Hid (TailW w w8 wr (w9.setCell ⟨wr.heap.size + 1 + 1 + 1, 0, none⟩ (.slice (some ⟨g9, 0, none⟩) (1 + 1) c9)) st g na ca zs k [k.sp, d.sp] wr.heap.size (wr.heap.size + 1 + 1 + 1) g9 c9) := HTM
  clear HTM
  generalize w9.setCell ⟨wr.heap.size + 1 + 1 + 1, 0, none⟩ (.slice (some ⟨g9, 0, none⟩) (1 + 1) c9) = V5 at *
  go_wp2_with fail
  exact HTL.out _ _ _ _ _ _ _ _ _ _ _ _ _ _ _ _ _ _ _ _ _ _ _ _ _ _ _ _ _ _ _ _ _ _ _ _ _ _ _ _ _ _ _ _ _ _ _ _ _ _ _ _ _ _ _ _ _ _ _ _ HTM'.out

set_option maxRecDepth 1000000 in
set_option maxHeartbeats 4000000 in
theorem h_cub0 {x0 x1 x3 x4 x5 x6 x7 x8 x11 x13 x14 x15 x16 x17 x18 x19 x20 x21 x22 x23 x24 x25 x26 x27 x28 x29 x30 x31 x32 x33 x34 x35 x36 x37 x38 x39 x40 x41 x42 x43 x44 x45 x46 x47 x48 x49 x50 x51 x52 x53 x54 x55 x56 x57 x58 x59 x60 x61 x62 x63 x64 x65 x66 x67 x68 x69 x70 x71 x72 x73 x74 x75 x76 x77 x78 x79 x80 x81 x82 x83 x84 x85 x86 x87 x88 x89 x90 x91 x92 x93 x94 x95 x96 x97 x98 x99 x100 x101 x102 x103 x104 x105 x106 x107 x108 x109 x110 x111 x112 x113 x114 x115 x116 x117 x118 x119 x120 x121 x122 x123 x124 x125 x126 x127 x128 x129 x130 x131 x132 x133 x134 x135 x136 x137 x138 x139 x140 x141 x142 x143 x144 x145 x146 x147 x148 x149 x150 x151 x152 x153 x154 x155 x156 x157 x158 x159 x160 x161 x162 x163 x164 x165 x166 x167 x168 x169 x170 x171 x172 x173 x174 x175 x176 x177 x178 x179 x180 x181 x182 x183 x184 : Value} (w w8 wr : World) (st : Sp) (L : List Kn) (g na ca : Nat) (zs : List ArcZ) (T : Code) (Q : Exit → Act → World → Prop) (hpre : PreW w wr st) (hws : w.heap.size + 1 < w8.heap.size) (k d : Kn) (b off : Nat) (hR : Rel3 w8 st L wr (k :: [d]) (some ⟨b, off, none⟩) (0 + 1 + 1) 2 g na ca zs) (e3 : k.k = 3) (hd : d.k = 3) (hTail : ∀ (V : World) (gk ga gc cc : Nat) (y14 y81 y82 y83 y84 y85 y86 y87 y88 y89 y90 y91 y92 y93 y94 y95 y96 y97 y98 y99 y100 y101 y102 y103 y104 y105 y106 y107 y108 y109 y110 y111 y112 y113 y114 y115 y116 y117 y118 y119 y120 y121 y122 y123 y124 y125 y126 y127 y128 y129 y130 y131 y132 y133 y134 : Value), TailW w w8 wr V st g na ca zs k [k.sp, d.sp] gk ga gc cc → Code.wp Try.prog T (Exit.inBlock 5 Q) ⟨#[x0, x1, .pointer (some ⟨w.heap.size, 0, none⟩), x3, x4, x5, x6, x7, x8, .pointer (some ⟨(w.heap.size + 1), 0, none⟩), .slice (some ⟨b, off + 3, none⟩) 0 0, x11, .slice (some ⟨g, 0, none⟩) na ca, .pointer (some ⟨gk, 0, none⟩), y14, .pointer (some ⟨ga, 0, none⟩), x16, x17, x18, x19, x20, x21, x22, x23, x24, x25, x26, x27, x28, x29, x30, x31, x32, x33, x34, x35, x36, x37, x38, x39, x40, x41, x42, x43, x44, x45, x46, x47, x48, x49, x50, x51, x52, x53, x54, x55, x56, x57, x58, x59, x60, x61, x62, x63, x64, x65, x66, x67, x68, x69, x70, x71, x72, x73, x74, x75, x76, x77, x78, x79, x80, y81, y82, y83, y84, y85, y86, y87, y88, y89, y90, y91, y92, y93, y94, y95, y96, y97, y98, y99, y100, y101, y102, y103, y104, y105, y106, y107, y108, y109, y110, y111, y112, y113, y114, y115, y116, y117, y118, y119, y120, y121, y122, y123, y124, y125, y126, y127, y128, y129, y130, y131, y132, y133, y134, x135, x136, x137, x138, x139, x140, x141, x142, x143, x144, x145, x146, x147, x148, x149, x150, x151, x152, x153, x154, x155, x156, x157, x158, x159, x160, x161, x162, x163, x164, x165, x166, x167, x168, x169, x170, x171, x172, x173, x174, x175, x176, x177, x178, x179, x180, x181, x182, x183, x184], []⟩ V) :
    Code.wp Try.prog (headC T) Q ⟨#[x0, x1, .pointer (some ⟨w.heap.size, 0, none⟩), x3, x4, x5, x6, x7, x8, .pointer (some ⟨(w.heap.size + 1), 0, none⟩), .slice (some ⟨b, off, none⟩) (0 + 1 + 1) 2, x11, .slice (some ⟨g, 0, none⟩) na ca, x13, x14, x15, x16, x17, x18, x19, x20, x21, x22, x23, x24, x25, x26, x27, x28, x29, x30, x31, x32, x33, x34, x35, x36, x37, x38, x39, x40, x41, x42, x43, x44, x45, x46, x47, x48, x49, x50, x51, x52, x53, x54, x55, x56, x57, x58, x59, x60, x61, x62, x63, x64, x65, x66, x67, x68, x69, x70, x71, x72, x73, x74, x75, x76, x77, x78, x79, x80, x81, x82, x83, x84, x85, x86, x87, x88, x89, x90, x91, x92, x93, x94, x95, x96, x97, x98, x99, x100, x101, x102, x103, x104, x105, x106, x107, x108, x109, x110, x111, x112, x113, x114, x115, x116, x117, x118, x119, x120, x121, x122, x123, x124, x125, x126, x127, x128, x129, x130, x131, x132, x133, x134, x135, x136, x137, x138, x139, x140, x141, x142, x143, x144, x145, x146, x147, x148, x149, x150, x151, x152, x153, x154, x155, x156, x157, x158, x159, x160, x161, x162, x163, x164, x165, x166, x167, x168, x169, x170, x171, x172, x173, x174, x175, x176, x177, x178, x179, x180, x181, x182, x183, x184], []⟩ wr := by
  have HR := Lib.hid hR
  have HPR := Lib.hid hpre
  have HWS := Lib.hid hws
  obtain ⟨b', off', hbb, k0, k1, k2⟩ := (hR.isR.below hR.bel).knot (i := 0) (k := k) rfl
  cases hbb
  simp only [Nat.zero_mul, Nat.add_zero] at k0 k1 k2
  have HTW := Lib.hid (tailW_one (k := k) hpre hR.arcs hR.bel hws)
  have HOW := Lib.hid (own_one (k := k) hR.bel)
  have HTL := Lib.hid hTail
  have e1' : (k.k == 1) = false := by rw [e3]; rfl
  have e3' : (k.k == 3) = true := by simpa using e3
  have hd' : (d.k == 3) = true := by simpa using hd
  obtain ⟨b', off', hbb, d0, d1, d2⟩ := ((isR_tail hR.isR).below hR.bel).knot (i := 0) (k := d) rfl
  cases hbb
  simp only [Nat.zero_mul, Nat.add_zero] at d0 d1 d2
  have d2' := keepC (bel_four wr k) d2
  have HD0 := Lib.hid (keepC (bel_four wr k) d0)
  have HD1 := Lib.hid (keepC (bel_four wr k) d1)
  have HSZ : Hid (w8.heap.size ≤ (((((wr.alloc (.cells #[.int .i64 k.x, .int .i64 k.y, .int .i64 k.k] 37)).alloc (.cells #[.int .i64 k.x, .int .i64 k.y] 47)).alloc (.cells #[.int .i64 k.x, .int .i64 k.y] 47)).alloc (.cells #[.slice (some ⟨wr.heap.size + 1 + 1, 0, none⟩) 1 1, .int .i64 0, .int .i64 0] 72))).heap.size) := Nat.le_trans hR.bel.size (bel_four wr k).size
  have HBW : Hid (b < wr.heap.size) := World.block_lt_of_cell? wr _ k0
  clear hR hpre hws e3 hTail hd
  unfold headC
  conv => arg 2; arg 1; whnf
  conv => arg 2; arg 2; arg 2; arg 1; whnf
  conv => arg 2; arg 2; arg 2; arg 2; arg 1; whnf
  conv => arg 2; arg 2; arg 2; arg 2; arg 2; arg 1; whnf
  conv => arg 2; arg 2; arg 2; arg 2; arg 2; arg 2; arg 1; whnf
  conv => arg 2; arg 2; arg 2; arg 2; arg 2; arg 2; arg 2; arg 1; whnf
  conv => arg 2; arg 2; arg 2; arg 2; arg 2; arg 2; arg 2; arg 2; arg 1; whnf
  go_wp2_with fail
  have HF0 : Hid ((((((wr.alloc (.cells #[.int .i64 k.x, .int .i64 k.y, .int .i64 k.k] 37)).alloc (.cells #[.int .i64 k.x, .int .i64 k.y] 47)).alloc (.cells #[.int .i64 k.x, .int .i64 k.y] 47)).alloc (.cells #[.slice (some ⟨wr.heap.size + 1 + 1, 0, none⟩) 1 1, .int .i64 0, .int .i64 0] 72))).frozen? ⟨wr.heap.size + 1 + 1 + 1, 0, none⟩ = false) := by simp [Hid, go_sem]
  clear k0 k1 k2 d0 d1 d2 d2'
  generalize ((((wr.alloc (.cells #[.int .i64 k.x, .int .i64 k.y, .int .i64 k.k] 37)).alloc (.cells #[.int .i64 k.x, .int .i64 k.y] 47)).alloc (.cells #[.int .i64 k.x, .int .i64 k.y] 47)).alloc (.cells #[.slice (some ⟨wr.heap.size + 1 + 1, 0, none⟩) 1 1, .int .i64 0, .int .i64 0] 72)) = V at *
  refine reg31 b (off + 3) 0 1 (wr.heap.size + 1 + 1 + 1) (wr.heap.size + 1 + 1) w8.heap.size d [.int .i64 k.x, .int .i64 k.y] V _ HD0.out HD1.out HTW.out.a0 HF0.out HOW.out HSZ.out (by omega) (by have := HBW.out; omega) ?_
  intro y119 y120 y121 y122 y123 y124 y125 y126 y127 y128 y129 y130 y131 y132 g9 c9 w9 ho9 hg9 hat9
  have HTM := Lib.hid (HTW.out.more (d := d.sp) (by omega) ho9 hg9 hat9)
  clear ho9 hg9 hat9 HTW HOW HD0 HD1
  have HTM' : Hid (TailW w w8 wr (w9.setCell ⟨wr.heap.size + 1 + 1 + 1, 0, none⟩ (.slice (some ⟨g9, 0, none⟩) (1 + 1) c9)) st g na ca zs k [k.sp, d.sp] wr.heap.size (wr.heap.size + 1 + 1 + 1) g9 c9) := HTM
  clear HTM
  generalize w9.setCell ⟨wr.heap.size + 1 + 1 + 1, 0, none⟩ (.slice (some ⟨g9, 0, none⟩) (1 + 1) c9) = V5 at *
  go_wp2_with fail
  exact HTL.out _ _ _ _ _ _ _ _ _ _ _ _ _ _ _ _ _ _ _ _ _ _ _ _ _ _ _ _ _ _ _ _ _ _ _ _ _ _ _ _ _ _ _ _ _ _ _ _ _ _ _ _ _ _ _ _ _ _ _ _ HTM'.out

end Go.Proofs.Ythjhekmlhmljlaa

namespace Go.Proofs.Ythjhekmlhmljlaa
open Go.RowKit Go.PlainAid
set_option linter.unusedSimpArgs false
set_option linter.unusedVariables false

set_option maxRecDepth 1000000 in
set_option maxHeartbeats 4000000 in
theorem round3 {x0 x1 x3 x4 x5 x6 x7 x8 x11 x16 x17 x18 x19 x20 x21 x22 x23 x24 x25 x26 x27 x28 x29 x30 x31 x32 x33 x34 x35 x36 x37 x38 x39 x40 x41 x42 x43 x44 x45 x46 x47 x48 x49 x50 x51 x52 x53 x54 x55 x56 x57 x58 x59 x60 x61 x62 x63 x64 x65 x66 x67 x68 x69 x70 x71 x72 x73 x74 x75 x76 x77 x78 x79 x80 x183 x184 : Value} (w w8 : World) (st : Sp) (L : List Kn) (Q0 : Exit → Act → World → Prop) (hpre8 : PreW w w8 st) (hret : ∀ a' w', RetP w st L a' w' → Q0 .ret a' w')
    (hexit : ∀ (x13 x14 x15 x81 x82 x83 x84 x85 x86 x87 x88 x89 x90 x91 x92 x93 x94 x95 x96 x97 x98 x99 x100 x101 x102 x103 x104 x105 x106 x107 x108 x109 x110 x111 x112 x113 x114 x115 x116 x117 x118 x119 x120 x121 x122 x123 x124 x125 x126 x127 x128 x129 x130 x131 x132 x133 x134 x135 x136 x137 x138 x139 x140 x141 x142 x143 x144 x145 x146 x147 x148 x149 x150 x151 x152 x153 x154 x155 x156 x157 x158 x159 x160 x161 x162 x163 x164 x165 x166 x167 x168 x169 x170 x171 x172 x173 x174 x175 x176 x177 x178 x179 x180 x181 x182 : Value) (al : Option Addr) (cl g na ca : Nat) (zs : List ArcZ) (wr : World), Rel3 w8 st L wr [] al 0 cl g na ca zs → Q0 (.exit 4) ⟨#[x0, x1, .pointer (some ⟨w.heap.size, 0, none⟩), x3, x4, x5, x6, x7, x8, .pointer (some ⟨(w.heap.size + 1), 0, none⟩), .slice al 0 cl, x11, .slice (some ⟨g, 0, none⟩) na ca, x13, x14, x15, x16, x17, x18, x19, x20, x21, x22, x23, x24, x25, x26, x27, x28, x29, x30, x31, x32, x33, x34, x35, x36, x37, x38, x39, x40, x41, x42, x43, x44, x45, x46, x47, x48, x49, x50, x51, x52, x53, x54, x55, x56, x57, x58, x59, x60, x61, x62, x63, x64, x65, x66, x67, x68, x69, x70, x71, x72, x73, x74, x75, x76, x77, x78, x79, x80, x81, x82, x83, x84, x85, x86, x87, x88, x89, x90, x91, x92, x93, x94, x95, x96, x97, x98, x99, x100, x101, x102, x103, x104, x105, x106, x107, x108, x109, x110, x111, x112, x113, x114, x115, x116, x117, x118, x119, x120, x121, x122, x123, x124, x125, x126, x127, x128, x129, x130, x131, x132, x133, x134, x135, x136, x137, x138, x139, x140, x141, x142, x143, x144, x145, x146, x147, x148, x149, x150, x151, x152, x153, x154, x155, x156, x157, x158, x159, x160, x161, x162, x163, x164, x165, x166, x167, x168, x169, x170, x171, x172, x173, x174, x175, x176, x177, x178, x179, x180, x181, x182, x183, x184], []⟩ wr) (a : Act) (wr : World) (hI : WI w w8 st L x0 x1 x3 x4 x5 x6 x7 x8 x11 x16 x17 x18 x19 x20 x21 x22 x23 x24 x25 x26 x27 x28 x29 x30 x31 x32 x33 x34 x35 x36 x37 x38 x39 x40 x41 x42 x43 x44 x45 x46 x47 x48 x49 x50 x51 x52 x53 x54 x55 x56 x57 x58 x59 x60 x61 x62 x63 x64 x65 x66 x67 x68 x69 x70 x71 x72 x73 x74 x75 x76 x77 x78 x79 x80 x183 x184 a wr) :
    Code.wp Try.prog body3 (Exit.then (fun a' w' => WI w w8 st L x0 x1 x3 x4 x5 x6 x7 x8 x11 x16 x17 x18 x19 x20 x21 x22 x23 x24 x25 x26 x27 x28 x29 x30 x31 x32 x33 x34 x35 x36 x37 x38 x39 x40 x41 x42 x43 x44 x45 x46 x47 x48 x49 x50 x51 x52 x53 x54 x55 x56 x57 x58 x59 x60 x61 x62 x63 x64 x65 x66 x67 x68 x69 x70 x71 x72 x73 x74 x75 x76 x77 x78 x79 x80 x183 x184 a' w' ∧ Wmu a' w' < Wmu a wr) Q0) a wr := by
  obtain ⟨l, al, m, cl, g, na, ca, zs, hR, hI⟩ := hI
  obtain ⟨x13, hI⟩ := hI
  obtain ⟨x14, hI⟩ := hI
  obtain ⟨x15, hI⟩ := hI
  obtain ⟨x81, hI⟩ := hI
  obtain ⟨x82, hI⟩ := hI
  obtain ⟨x83, hI⟩ := hI
  obtain ⟨x84, hI⟩ := hI
  obtain ⟨x85, hI⟩ := hI
  obtain ⟨x86, hI⟩ := hI
  obtain ⟨x87, hI⟩ := hI
  obtain ⟨x88, hI⟩ := hI
  obtain ⟨x89, hI⟩ := hI
  obtain ⟨x90, hI⟩ := hI
  obtain ⟨x91, hI⟩ := hI
  obtain ⟨x92, hI⟩ := hI
  obtain ⟨x93, hI⟩ := hI
  obtain ⟨x94, hI⟩ := hI
  obtain ⟨x95, hI⟩ := hI
  obtain ⟨x96, hI⟩ := hI
  obtain ⟨x97, hI⟩ := hI
  obtain ⟨x98, hI⟩ := hI
  obtain ⟨x99, hI⟩ := hI
  obtain ⟨x100, hI⟩ := hI
  obtain ⟨x101, hI⟩ := hI
  obtain ⟨x102, hI⟩ := hI
  obtain ⟨x103, hI⟩ := hI
  obtain ⟨x104, hI⟩ := hI
  obtain ⟨x105, hI⟩ := hI
  obtain ⟨x106, hI⟩ := hI
  obtain ⟨x107, hI⟩ := hI
  obtain ⟨x108, hI⟩ := hI
  obtain ⟨x109, hI⟩ := hI
  obtain ⟨x110, hI⟩ := hI
  obtain ⟨x111, hI⟩ := hI
  obtain ⟨x112, hI⟩ := hI
  obtain ⟨x113, hI⟩ := hI
  obtain ⟨x114, hI⟩ := hI
  obtain ⟨x115, hI⟩ := hI
  obtain ⟨x116, hI⟩ := hI
  obtain ⟨x117, hI⟩ := hI
  obtain ⟨x118, hI⟩ := hI
  obtain ⟨x119, hI⟩ := hI
  obtain ⟨x120, hI⟩ := hI
  obtain ⟨x121, hI⟩ := hI
  obtain ⟨x122, hI⟩ := hI
  obtain ⟨x123, hI⟩ := hI
  obtain ⟨x124, hI⟩ := hI
  obtain ⟨x125, hI⟩ := hI
  obtain ⟨x126, hI⟩ := hI
  obtain ⟨x127, hI⟩ := hI
  obtain ⟨x128, hI⟩ := hI
  obtain ⟨x129, hI⟩ := hI
  obtain ⟨x130, hI⟩ := hI
  obtain ⟨x131, hI⟩ := hI
  obtain ⟨x132, hI⟩ := hI
  obtain ⟨x133, hI⟩ := hI
  obtain ⟨x134, hI⟩ := hI
  obtain ⟨x135, hI⟩ := hI
  obtain ⟨x136, hI⟩ := hI
  obtain ⟨x137, hI⟩ := hI
  obtain ⟨x138, hI⟩ := hI
  obtain ⟨x139, hI⟩ := hI
  obtain ⟨x140, hI⟩ := hI
  obtain ⟨x141, hI⟩ := hI
  obtain ⟨x142, hI⟩ := hI
  obtain ⟨x143, hI⟩ := hI
  obtain ⟨x144, hI⟩ := hI
  obtain ⟨x145, hI⟩ := hI
  obtain ⟨x146, hI⟩ := hI
  obtain ⟨x147, hI⟩ := hI
  obtain ⟨x148, hI⟩ := hI
  obtain ⟨x149, hI⟩ := hI
  obtain ⟨x150, hI⟩ := hI
  obtain ⟨x151, hI⟩ := hI
  obtain ⟨x152, hI⟩ := hI
  obtain ⟨x153, hI⟩ := hI
  obtain ⟨x154, hI⟩ := hI
  obtain ⟨x155, hI⟩ := hI
  obtain ⟨x156, hI⟩ := hI
  obtain ⟨x157, hI⟩ := hI
  obtain ⟨x158, hI⟩ := hI
  obtain ⟨x159, hI⟩ := hI
  obtain ⟨x160, hI⟩ := hI
  obtain ⟨x161, hI⟩ := hI
  obtain ⟨x162, hI⟩ := hI
  obtain ⟨x163, hI⟩ := hI
  obtain ⟨x164, hI⟩ := hI
  obtain ⟨x165, hI⟩ := hI
  obtain ⟨x166, hI⟩ := hI
  obtain ⟨x167, hI⟩ := hI
  obtain ⟨x168, hI⟩ := hI
  obtain ⟨x169, hI⟩ := hI
  obtain ⟨x170, hI⟩ := hI
  obtain ⟨x171, hI⟩ := hI
  obtain ⟨x172, hI⟩ := hI
  obtain ⟨x173, hI⟩ := hI
  obtain ⟨x174, hI⟩ := hI
  obtain ⟨x175, hI⟩ := hI
  obtain ⟨x176, hI⟩ := hI
  obtain ⟨x177, hI⟩ := hI
  obtain ⟨x178, hI⟩ := hI
  obtain ⟨x179, hI⟩ := hI
  obtain ⟨x180, hI⟩ := hI
  obtain ⟨x181, hI⟩ := hI
  obtain ⟨x182, hI⟩ := hI
  have hmu : Wmu a wr = m := by rw [hI]; rfl
  rw [hmu]
  clear hmu
  subst hI
  have hpre : PreW w wr st := hpre8.below hR.bel
  have hws : w.heap.size + 1 < w8.heap.size := World.block_lt_of_cell? w8 _ hpre8.s0
  obtain ⟨Q, hQr, hQn, hQx, hQ⟩ : ∃ Q : Exit → Act → World → Prop, (∀ a' w', RetP w st L a' w' → Q .ret a' w') ∧ (∀ a' w', WI w w8 st L x0 x1 x3 x4 x5 x6 x7 x8 x11 x16 x17 x18 x19 x20 x21 x22 x23 x24 x25 x26 x27 x28 x29 x30 x31 x32 x33 x34 x35 x36 x37 x38 x39 x40 x41 x42 x43 x44 x45 x46 x47 x48 x49 x50 x51 x52 x53 x54 x55 x56 x57 x58 x59 x60 x61 x62 x63 x64 x65 x66 x67 x68 x69 x70 x71 x72 x73 x74 x75 x76 x77 x78 x79 x80 x183 x184 a' w' → Wmu a' w' < m → Q .normal a' w') ∧ (∀ e a' w', Q0 (.exit e) a' w' → Q (.exit e) a' w') ∧ Exit.then (fun a' w' => WI w w8 st L x0 x1 x3 x4 x5 x6 x7 x8 x11 x16 x17 x18 x19 x20 x21 x22 x23 x24 x25 x26 x27 x28 x29 x30 x31 x32 x33 x34 x35 x36 x37 x38 x39 x40 x41 x42 x43 x44 x45 x46 x47 x48 x49 x50 x51 x52 x53 x54 x55 x56 x57 x58 x59 x60 x61 x62 x63 x64 x65 x66 x67 x68 x69 x70 x71 x72 x73 x74 x75 x76 x77 x78 x79 x80 x183 x184 a' w' ∧ Wmu a' w' < m) Q0 = Q := ⟨Exit.then (fun a' w' => WI w w8 st L x0 x1 x3 x4 x5 x6 x7 x8 x11 x16 x17 x18 x19 x20 x21 x22 x23 x24 x25 x26 x27 x28 x29 x30 x31 x32 x33 x34 x35 x36 x37 x38 x39 x40 x41 x42 x43 x44 x45 x46 x47 x48 x49 x50 x51 x52 x53 x54 x55 x56 x57 x58 x59 x60 x61 x62 x63 x64 x65 x66 x67 x68 x69 x70 x71 x72 x73 x74 x75 x76 x77 x78 x79 x80 x183 x184 a' w' ∧ Wmu a' w' < m) Q0, fun a' w' h => hret a' w' h, fun a' w' h1 h2 => And.intro h1 h2, fun e a' w' h => h, rfl⟩
  rw [hQ, body3_is]
  clear hQ hret
  cases l with
  | nil =>
    obtain rfl : m = 0 := by simpa using hR.len.symm
    exact h_exit w w8 wr st L g na ca zs tail3 Q hpre hws al cl (fun y81 y82 y83 => hQx 4 _ _ (hexit x13 x14 x15 y81 y82 y83 x84 x85 x86 x87 x88 x89 x90 x91 x92 x93 x94 x95 x96 x97 x98 x99 x100 x101 x102 x103 x104 x105 x106 x107 x108 x109 x110 x111 x112 x113 x114 x115 x116 x117 x118 x119 x120 x121 x122 x123 x124 x125 x126 x127 x128 x129 x130 x131 x132 x133 x134 x135 x136 x137 x138 x139 x140 x141 x142 x143 x144 x145 x146 x147 x148 x149 x150 x151 x152 x153 x154 x155 x156 x157 x158 x159 x160 x161 x162 x163 x164 x165 x166 x167 x168 x169 x170 x171 x172 x173 x174 x175 x176 x177 x178 x179 x180 x181 x182 al cl g na ca zs wr hR))
  | cons k r =>
    obtain ⟨b, off, rfl⟩ : ∃ b off, al = some ⟨b, off, none⟩ := by
      rcases hR.isR with h | ⟨b, off, h, _⟩
      · cases h
      · exact ⟨b, off, h⟩
    cases r with
    | nil =>
      obtain rfl : m = 0 + 1 := by simpa using hR.len.symm
      by_cases e1 : k.k = 1
      · by_cases hc : cl = 1
        · subst hc
          exact h_line0 w w8 wr st L g na ca zs tail3 Q hpre hws k b off hR e1 (fun a' w' h1 h2 => hQn a' w' h1 (by omega))
        · exact h_line1 w w8 wr st L g na ca zs tail3 Q hpre hws k [] b off 0 cl hR hc e1 (fun a' w' h1 h2 => hQn a' w' h1 (by omega))
      · by_cases e3 : k.k = 3
        · have hA : arc1 st [k] = none := by unfold arc1; simp [e3]
          have hL := hR.up.fail (by simp) hA
          by_cases hc : cl = 1
          · subst hc
            exact h_fail0 w w8 wr st L g na ca zs tail3 Q hpre hws k b off hR e3 hL hQr
          · exact h_fail1 w w8 wr st L g na ca zs tail3 Q hpre hws k b off cl hR hc e3 hL hQr
        · have hA : arc1 st [k] = some (⟨[k.sp], st⟩, [], true) := by unfold arc1; simp [e1, e3]
          have hna : na ≤ 4096 := by have := hR.few; omega
          by_cases hc : cl = 1
          · subst hc
            exact h_quad0 w w8 wr st L g na ca zs tail3 Q hpre hws k b off hR e1 e3 (fun V gk ga gc cc y14 y81 y82 y83 y84 y85 y86 y87 y88 y89 y90 y91 y92 y93 y94 y95 y96 y97 y98 y99 y100 y101 y102 y103 y104 y105 y106 y107 y108 y109 y110 y111 y112 y113 y114 y115 y116 y117 y118 y119 y120 y121 y122 y123 y124 y125 y126 y127 y128 y129 y130 y131 y132 y133 y134 hT =>  t_close w w8 wr V st L g na ca zs k [k.sp] gk ga gc cc (Exit.inBlock 5 Q) hT _ _ hna (hR.up.close (z := ⟨⟨[k.sp], st⟩, some ⟨gc, 0, none⟩, cc⟩) hA) (fun a' w' h => hQr a' w' h))
          · exact h_quad1 w w8 wr st L g na ca zs tail3 Q hpre hws k [] b off 0 cl hR hc e1 e3 (fun V gk ga gc cc y14 y81 y82 y83 y84 y85 y86 y87 y88 y89 y90 y91 y92 y93 y94 y95 y96 y97 y98 y99 y100 y101 y102 y103 y104 y105 y106 y107 y108 y109 y110 y111 y112 y113 y114 y115 y116 y117 y118 y119 y120 y121 y122 y123 y124 y125 y126 y127 y128 y129 y130 y131 y132 y133 y134 hT =>  t_close w w8 wr V st L g na ca zs k [k.sp] gk ga gc cc (Exit.inBlock 5 Q) hT _ _ hna (hR.up.close (z := ⟨⟨[k.sp], st⟩, some ⟨gc, 0, none⟩, cc⟩) hA) (fun a' w' h => hQr a' w' h))
    | cons d r =>
      obtain ⟨m, rfl⟩ : ∃ m', m = m' + 1 + 1 := ⟨r.length, by simpa using hR.len.symm⟩
      have hm : r.length = m := by have := hR.len; simp at this; omega
      have hroom := hR.room
      have hfew := hR.few
      have hc : ¬ cl = 1 := by omega
      have hR1 := isR_tail hR.isR
      have hG1 := goodK_tail hR.good
      by_cases e1 : k.k = 1
      · exact h_line1 w w8 wr st L g na ca zs tail3 Q hpre hws k (d :: r) b off (m + 1) cl hR hc e1 (fun a' w' h1 h2 => hQn a' w' h1 (by omega))
      · by_cases e3 : k.k = 3
        · have hk2 : ¬ k.k = 2 := by omega
          by_cases hd : d.k = 3
          · cases r with
            | nil =>
              obtain rfl : m = 0 := by simpa using hm.symm
              have hA : arc1 st [k, d] = some (⟨[k.sp, d.sp], st⟩, [], true) := by unfold arc1; simp [e3, hd]
              have hna : na ≤ 4096 := by omega
              by_cases hc2 : cl - 1 = 1
              · obtain rfl : cl = 2 := by omega
                exact h_cub0 w w8 wr st L g na ca zs tail3 Q hpre hws k d b off hR e3 hd (fun V gk ga gc cc y14 y81 y82 y83 y84 y85 y86 y87 y88 y89 y90 y91 y92 y93 y94 y95 y96 y97 y98 y99 y100 y101 y102 y103 y104 y105 y106 y107 y108 y109 y110 y111 y112 y113 y114 y115 y116 y117 y118 y119 y120 y121 y122 y123 y124 y125 y126 y127 y128 y129 y130 y131 y132 y133 y134 hT =>  t_close w w8 wr V st L g na ca zs k [k.sp, d.sp] gk ga gc cc (Exit.inBlock 5 Q) hT _ _ hna (hR.up.close (z := ⟨⟨[k.sp, d.sp], st⟩, some ⟨gc, 0, none⟩, cc⟩) hA) (fun a' w' h => hQr a' w' h))
              · exact h_cub1 w w8 wr st L g na ca zs tail3 Q hpre hws k d [] b off 0 cl hR hc hc2 e3 hd (fun V gk ga gc cc y14 y81 y82 y83 y84 y85 y86 y87 y88 y89 y90 y91 y92 y93 y94 y95 y96 y97 y98 y99 y100 y101 y102 y103 y104 y105 y106 y107 y108 y109 y110 y111 y112 y113 y114 y115 y116 y117 y118 y119 y120 y121 y122 y123 y124 y125 y126 y127 y128 y129 y130 y131 y132 y133 y134 hT =>  t_close w w8 wr V st L g na ca zs k [k.sp, d.sp] gk ga gc cc (Exit.inBlock 5 Q) hT _ _ hna (hR.up.close (z := ⟨⟨[k.sp, d.sp], st⟩, some ⟨gc, 0, none⟩, cc⟩) hA) (fun a' w' h => hQr a' w' h))
            | cons e r =>
              obtain ⟨m, rfl⟩ : ∃ m', m = m' + 1 := ⟨r.length, by simpa using hm.symm⟩
              have hm3 : r.length = m := by simpa using hm
              have hc2 : ¬ cl - 1 = 1 := by omega
              have hR2 := isR_tail hR1
              have hG2 := goodK_tail hG1
              by_cases he : e.k = 1
              · have hA : arc1 st (k :: d :: e :: r) = some (⟨[k.sp, d.sp], e.sp⟩, r, false) := by unfold arc1; simp [e3, hd, he]
                by_cases hc3 : cl - 1 - 1 = 1
                · obtain rfl : cl = 3 := by omega
                  obtain rfl : m = 0 := by omega
                  obtain rfl : r = [] := List.eq_nil_of_length_eq_zero hm3
                  exact h_cub1 w w8 wr st L g na ca zs tail3 Q hpre hws k d [e] b off (0 + 1) 3 hR hc hc2 e3 hd (fun V gk ga gc cc y14 y81 y82 y83 y84 y85 y86 y87 y88 y89 y90 y91 y92 y93 y94 y95 y96 y97 y98 y99 y100 y101 y102 y103 y104 y105 y106 y107 y108 y109 y110 y111 y112 y113 y114 y115 y116 y117 y118 y119 y120 y121 y122 y123 y124 y125 y126 y127 y128 y129 y130 y131 y132 y133 y134 hT =>  t_on0 w w8 wr V st L g na ca zs k [k.sp, d.sp] gk ga gc cc (Exit.inBlock 5 Q) hT e b (off + 3 + 3) hR2 (by omega) he (hR.up.step (z := ⟨⟨[k.sp, d.sp], e.sp⟩, some ⟨gc, 0, none⟩, cc⟩) hA) (fun a' w' h1 h2 => hQn a' w' h1 (by omega)))
                · exact h_cub1 w w8 wr st L g na ca zs tail3 Q hpre hws k d (e :: r) b off (m + 1) cl hR hc hc2 e3 hd (fun V gk ga gc cc y14 y81 y82 y83 y84 y85 y86 y87 y88 y89 y90 y91 y92 y93 y94 y95 y96 y97 y98 y99 y100 y101 y102 y103 y104 y105 y106 y107 y108 y109 y110 y111 y112 y113 y114 y115 y116 y117 y118 y119 y120 y121 y122 y123 y124 y125 y126 y127 y128 y129 y130 y131 y132 y133 y134 hT =>  t_on1 w w8 wr V st L g na ca zs k [k.sp, d.sp] gk ga gc cc (Exit.inBlock 5 Q) hT e r b (off + 3 + 3) m (cl - 1 - 1) hR2 hm3 (by omega) hc3 (by omega) hG2 he (hR.up.step (z := ⟨⟨[k.sp, d.sp], e.sp⟩, some ⟨gc, 0, none⟩, cc⟩) hA) (fun a' w' h1 h2 => hQn a' w' h1 (by omega)))
              · have hA : arc1 st (k :: d :: e :: r) = none := by unfold arc1; simp [e3, hd, he]
                have hL := hR.up.fail (by simp) hA
                exact h_cub1 w w8 wr st L g na ca zs tail3 Q hpre hws k d (e :: r) b off (m + 1) cl hR hc hc2 e3 hd (fun V gk ga gc cc y14 y81 y82 y83 y84 y85 y86 y87 y88 y89 y90 y91 y92 y93 y94 y95 y96 y97 y98 y99 y100 y101 y102 y103 y104 y105 y106 y107 y108 y109 y110 y111 y112 y113 y114 y115 y116 y117 y118 y119 y120 y121 y122 y123 y124 y125 y126 y127 y128 y129 y130 y131 y132 y133 y134 hT =>  t_failc w w8 wr V st L g na ca zs k [k.sp, d.sp] gk ga gc cc (Exit.inBlock 5 Q) hT e r b (off + 3 + 3) m (cl - 1 - 1) hR2 he hk2 hL (fun a' w' h => hQr a' w' h))
          · have hA : arc1 st (k :: d :: r) = none := by unfold arc1; simp [e3, hd]
            have hL := hR.up.fail (by simp) hA
            exact h_faild w w8 wr st L g na ca zs tail3 Q hpre hws k d r b off m cl hR hc e3 hd hL hQr
        · have hk2 : k.k = 2 := by have := (hR.good k (by simp)).1; omega
          by_cases hd : d.k = 1
          · have hA : arc1 st (k :: d :: r) = some (⟨[k.sp], d.sp⟩, r, false) := by unfold arc1; simp [e1, e3, hd]
            by_cases hc2 : cl - 1 = 1
            · obtain rfl : cl = 2 := by omega
              obtain rfl : m = 0 := by omega
              obtain rfl : r = [] := List.eq_nil_of_length_eq_zero hm
              exact h_quad1 w w8 wr st L g na ca zs tail3 Q hpre hws k [d] b off (0 + 1) 2 hR hc e1 e3 (fun V gk ga gc cc y14 y81 y82 y83 y84 y85 y86 y87 y88 y89 y90 y91 y92 y93 y94 y95 y96 y97 y98 y99 y100 y101 y102 y103 y104 y105 y106 y107 y108 y109 y110 y111 y112 y113 y114 y115 y116 y117 y118 y119 y120 y121 y122 y123 y124 y125 y126 y127 y128 y129 y130 y131 y132 y133 y134 hT =>  t_on0 w w8 wr V st L g na ca zs k [k.sp] gk ga gc cc (Exit.inBlock 5 Q) hT d b (off + 3) hR1 (by omega) hd (hR.up.step (z := ⟨⟨[k.sp], d.sp⟩, some ⟨gc, 0, none⟩, cc⟩) hA) (fun a' w' h1 h2 => hQn a' w' h1 (by omega)))
            · exact h_quad1 w w8 wr st L g na ca zs tail3 Q hpre hws k (d :: r) b off (m + 1) cl hR hc e1 e3 (fun V gk ga gc cc y14 y81 y82 y83 y84 y85 y86 y87 y88 y89 y90 y91 y92 y93 y94 y95 y96 y97 y98 y99 y100 y101 y102 y103 y104 y105 y106 y107 y108 y109 y110 y111 y112 y113 y114 y115 y116 y117 y118 y119 y120 y121 y122 y123 y124 y125 y126 y127 y128 y129 y130 y131 y132 y133 y134 hT =>  t_on1 w w8 wr V st L g na ca zs k [k.sp] gk ga gc cc (Exit.inBlock 5 Q) hT d r b (off + 3) m (cl - 1) hR1 hm (by omega) hc2 (by omega) hG1 hd (hR.up.step (z := ⟨⟨[k.sp], d.sp⟩, some ⟨gc, 0, none⟩, cc⟩) hA) (fun a' w' h1 h2 => hQn a' w' h1 (by omega)))
          · by_cases hd2 : d.k = 2
            · have hA : arc1 st (k :: d :: r) = some (⟨[k.sp], mid k.sp d.sp⟩, d :: r, false) := by unfold arc1; simp [e1, e3, hd2]
              have hfk := (hR.good k (by simp)).2
              exact h_quad1 w w8 wr st L g na ca zs tail3 Q hpre hws k (d :: r) b off (m + 1) cl hR hc e1 e3 (fun V gk ga gc cc y14 y81 y82 y83 y84 y85 y86 y87 y88 y89 y90 y91 y92 y93 y94 y95 y96 y97 y98 y99 y100 y101 y102 y103 y104 y105 y106 y107 y108 y109 y110 y111 y112 y113 y114 y115 y116 y117 y118 y119 y120 y121 y122 y123 y124 y125 y126 y127 y128 y129 y130 y131 y132 y133 y134 hT =>  t_mid w w8 wr V st L g na ca zs k [k.sp] gk ga gc cc (Exit.inBlock 5 Q) hT d r b (off + 3) m (cl - 1) hR1 hm (by omega) (mid k.sp d.sp) (by omega) hG1 hfk rfl hk2 hd2 (hR.up.step (z := ⟨⟨[k.sp], mid k.sp d.sp⟩, some ⟨gc, 0, none⟩, cc⟩) hA) (fun a' w' h1 h2 => hQn a' w' h1 (by omega)))
            · have hA : arc1 st (k :: d :: r) = none := by unfold arc1; simp [e1, e3, hd, hd2]
              have hL := hR.up.fail (by simp) hA
              exact h_quad1 w w8 wr st L g na ca zs tail3 Q hpre hws k (d :: r) b off (m + 1) cl hR hc e1 e3 (fun V gk ga gc cc y14 y81 y82 y83 y84 y85 y86 y87 y88 y89 y90 y91 y92 y93 y94 y95 y96 y97 y98 y99 y100 y101 y102 y103 y104 y105 y106 y107 y108 y109 y110 y111 y112 y113 y114 y115 y116 y117 y118 y119 y120 y121 y122 y123 y124 y125 y126 y127 y128 y129 y130 y131 y132 y133 y134 hT =>  t_failq w w8 wr V st L g na ca zs k [k.sp] gk ga gc cc (Exit.inBlock 5 Q) hT d r b (off + 3) m (cl - 1) hR1 hd hk2 hd2 hL (fun a' w' h => hQr a' w' h))

set_option maxRecDepth 1000000 in
set_option maxHeartbeats 4000000 in
theorem loop3 {x0 x1 x3 x4 x5 x6 x7 x8 x11 x13 x14 x15 x16 x17 x18 x19 x20 x21 x22 x23 x24 x25 x26 x27 x28 x29 x30 x31 x32 x33 x34 x35 x36 x37 x38 x39 x40 x41 x42 x43 x44 x45 x46 x47 x48 x49 x50 x51 x52 x53 x54 x55 x56 x57 x58 x59 x60 x61 x62 x63 x64 x65 x66 x67 x68 x69 x70 x71 x72 x73 x74 x75 x76 x77 x78 x79 x80 x81 x82 x83 x84 x85 x86 x87 x88 x89 x90 x91 x92 x93 x94 x95 x96 x97 x98 x99 x100 x101 x102 x103 x104 x105 x106 x107 x108 x109 x110 x111 x112 x113 x114 x115 x116 x117 x118 x119 x120 x121 x122 x123 x124 x125 x126 x127 x128 x129 x130 x131 x132 x133 x134 x135 x136 x137 x138 x139 x140 x141 x142 x143 x144 x145 x146 x147 x148 x149 x150 x151 x152 x153 x154 x155 x156 x157 x158 x159 x160 x161 x162 x163 x164 x165 x166 x167 x168 x169 x170 x171 x172 x173 x174 x175 x176 x177 x178 x179 x180 x181 x182 x183 x184 : Value} (w w8 wr : World) (st : Sp) (L : List Kn) (Q0 : Exit → Act → World → Prop) (hpre8 : PreW w w8 st) (l : List Kn) (al : Option Addr) (m cl g na ca : Nat) (zs : List ArcZ) (hR : Rel3 w8 st L wr l al m cl g na ca zs) (hret : ∀ a' w', RetP w st L a' w' → Q0 .ret a' w')
    (hexit : ∀ (x13 x14 x15 x81 x82 x83 x84 x85 x86 x87 x88 x89 x90 x91 x92 x93 x94 x95 x96 x97 x98 x99 x100 x101 x102 x103 x104 x105 x106 x107 x108 x109 x110 x111 x112 x113 x114 x115 x116 x117 x118 x119 x120 x121 x122 x123 x124 x125 x126 x127 x128 x129 x130 x131 x132 x133 x134 x135 x136 x137 x138 x139 x140 x141 x142 x143 x144 x145 x146 x147 x148 x149 x150 x151 x152 x153 x154 x155 x156 x157 x158 x159 x160 x161 x162 x163 x164 x165 x166 x167 x168 x169 x170 x171 x172 x173 x174 x175 x176 x177 x178 x179 x180 x181 x182 : Value) (al : Option Addr) (cl g na ca : Nat) (zs : List ArcZ) (wr : World), Rel3 w8 st L wr [] al 0 cl g na ca zs → Q0 (.exit 4) ⟨#[x0, x1, .pointer (some ⟨w.heap.size, 0, none⟩), x3, x4, x5, x6, x7, x8, .pointer (some ⟨(w.heap.size + 1), 0, none⟩), .slice al 0 cl, x11, .slice (some ⟨g, 0, none⟩) na ca, x13, x14, x15, x16, x17, x18, x19, x20, x21, x22, x23, x24, x25, x26, x27, x28, x29, x30, x31, x32, x33, x34, x35, x36, x37, x38, x39, x40, x41, x42, x43, x44, x45, x46, x47, x48, x49, x50, x51, x52, x53, x54, x55, x56, x57, x58, x59, x60, x61, x62, x63, x64, x65, x66, x67, x68, x69, x70, x71, x72, x73, x74, x75, x76, x77, x78, x79, x80, x81, x82, x83, x84, x85, x86, x87, x88, x89, x90, x91, x92, x93, x94, x95, x96, x97, x98, x99, x100, x101, x102, x103, x104, x105, x106, x107, x108, x109, x110, x111, x112, x113, x114, x115, x116, x117, x118, x119, x120, x121, x122, x123, x124, x125, x126, x127, x128, x129, x130, x131, x132, x133, x134, x135, x136, x137, x138, x139, x140, x141, x142, x143, x144, x145, x146, x147, x148, x149, x150, x151, x152, x153, x154, x155, x156, x157, x158, x159, x160, x161, x162, x163, x164, x165, x166, x167, x168, x169, x170, x171, x172, x173, x174, x175, x176, x177, x178, x179, x180, x181, x182, x183, x184], []⟩ wr) :
    Code.wp Try.prog (.loop body3) Q0 ⟨#[x0, x1, .pointer (some ⟨w.heap.size, 0, none⟩), x3, x4, x5, x6, x7, x8, .pointer (some ⟨(w.heap.size + 1), 0, none⟩), .slice al m cl, x11, .slice (some ⟨g, 0, none⟩) na ca, x13, x14, x15, x16, x17, x18, x19, x20, x21, x22, x23, x24, x25, x26, x27, x28, x29, x30, x31, x32, x33, x34, x35, x36, x37, x38, x39, x40, x41, x42, x43, x44, x45, x46, x47, x48, x49, x50, x51, x52, x53, x54, x55, x56, x57, x58, x59, x60, x61, x62, x63, x64, x65, x66, x67, x68, x69, x70, x71, x72, x73, x74, x75, x76, x77, x78, x79, x80, x81, x82, x83, x84, x85, x86, x87, x88, x89, x90, x91, x92, x93, x94, x95, x96, x97, x98, x99, x100, x101, x102, x103, x104, x105, x106, x107, x108, x109, x110, x111, x112, x113, x114, x115, x116, x117, x118, x119, x120, x121, x122, x123, x124, x125, x126, x127, x128, x129, x130, x131, x132, x133, x134, x135, x136, x137, x138, x139, x140, x141, x142, x143, x144, x145, x146, x147, x148, x149, x150, x151, x152, x153, x154, x155, x156, x157, x158, x159, x160, x161, x162, x163, x164, x165, x166, x167, x168, x169, x170, x171, x172, x173, x174, x175, x176, x177, x178, x179, x180, x181, x182, x183, x184], []⟩ wr :=
  wp_loop (WI w w8 st L x0 x1 x3 x4 x5 x6 x7 x8 x11 x16 x17 x18 x19 x20 x21 x22 x23 x24 x25 x26 x27 x28 x29 x30 x31 x32 x33 x34 x35 x36 x37 x38 x39 x40 x41 x42 x43 x44 x45 x46 x47 x48 x49 x50 x51 x52 x53 x54 x55 x56 x57 x58 x59 x60 x61 x62 x63 x64 x65 x66 x67 x68 x69 x70 x71 x72 x73 x74 x75 x76 x77 x78 x79 x80 x183 x184) Wmu ⟨l, al, m, cl, g, na, ca, zs, hR, _, _, _, _, _, _, _, _, _, _, _, _, _, _, _, _, _, _, _, _, _, _, _, _, _, _, _, _, _, _, _, _, _, _, _, _, _, _, _, _, _, _, _, _, _, _, _, _, _, _, _, _, _, _, _, _, _, _, _, _, _, _, _, _, _, _, _, _, _, _, _, _, _, _, _, _, _, _, _, _, _, _, _, _, _, _, _, _, _, _, _, _, _, _, _, _, _, _, _, _, _, _, _, _, _, rfl⟩ (fun a wr hI => round3 w w8 st L Q0 hpre8 hret hexit a wr hI)

end Go.Proofs.Ythjhekmlhmljlaa

namespace Go.Proofs.Ythjhekmlhmljlaa
open Go.RowKit Go.PlainAid
set_option linter.unusedSimpArgs false
set_option linter.unusedVariables false

noncomputable def body0 : Code := (Try.f37.body).getD .skip
noncomputable def els10 : Code := els (rgt (lft (rgt (rgt (rgt (rgt (rgt (rgt body0))))))))
noncomputable def r15 : Code := lft els10
noncomputable def lp2 : Code := inn (rgt (rgt els10))
theorem run_some {w w8 : World} {st : Sp} {L : List Kn} {g9 n9 c9 : Nat} {zs : List ArcZ} {w9 : World} {cl : Bool} (hws : w.heap.size < w8.heap.size) (hp : PreW w w9 st) (ha : ArcsAt w9 w8.heap.size g9 n9 c9 zs) (hL : arcsL st L = some (zs.map ArcZ.r, cl)) :
    RunArcs w st (arcsL st L) (.returned (.tuple #[.agg #[.int .i64 st.x, .int .i64 st.y], .slice (some ⟨g9, 0, none⟩) n9 c9, .bool cl, .bool true])) ((w9.setCell ⟨w.heap.size, 0, none⟩ (.int .i64 st.x)).setCell ⟨w.heap.size, 1, none⟩ (.int .i64 st.y)) := by
  unfold RunArcs
  rw [hL]
  exact ⟨g9, n9, c9, zs, rfl, rfl, ((ha.low hws _).low hws _).base (Nat.le_of_lt hws), bel_set (bel_set hp.bel (Nat.le_refl _) _) (Nat.le_refl _) _⟩

set_option maxRecDepth 1000000 in
set_option maxHeartbeats 4000000 in
theorem reg15 {x1 x2 x3 x4 x5 x6 x8 x10 x11 x12 x13 x14 x15 x16 x17 x18 x19 x20 x21 x22 x23 x24 x25 x26 x27 x28 x29 x30 x31 x32 x33 x34 x35 x36 x37 x38 x39 x40 x41 x42 x43 x44 x45 x46 x47 x48 x49 x50 x51 x52 x53 x54 x55 x56 x57 x58 x59 x60 x61 x62 x63 x64 x65 x66 x67 x68 x69 x70 x71 x72 x73 x74 x75 x76 x77 x78 x79 x80 x81 x82 x83 x84 x85 x86 x87 x88 x89 x90 x91 x92 x93 x94 x95 x96 x97 x98 x99 x100 x101 x102 x103 x104 x105 x106 x107 x108 x109 x110 x111 x112 x113 x114 x115 x116 x117 x118 x119 x120 x121 x122 x123 x124 x125 x126 x127 x128 x129 x130 x131 x132 x133 x134 x135 x136 x137 x138 x139 x140 x141 x142 x143 x144 x145 x146 x147 x148 x149 x150 x151 x152 x153 x154 x155 x156 x157 x158 x159 x160 x161 x162 x163 x164 x165 x166 x167 x168 x169 x170 x171 x172 x173 x174 x175 x176 x177 x178 x179 x180 x181 x182 x183 x184 : Value} (b off n cap f gs : Nat) (k : Kn) (st : Sp) (V : World) (Q : Exit → Act → World → Prop) (hfn : f < n) (k0 : V.cell? ⟨b, off + f * 3, none⟩ = some (.int .i64 k.x)) (k1 : V.cell? ⟨b, off + f * 3 + 1, none⟩ = some (.int .i64 k.y)) (a1 : V.cell? ⟨gs, 0, none⟩ = some (.int .i64 st.x)) (a2 : V.cell? ⟨gs, 1, none⟩ = some (.int .i64 st.y)) (f1 : V.frozen? ⟨gs, 0, none⟩ = false) (f2 : V.frozen? ⟨gs, 1, none⟩ = false)
    (h : ∀ y53 y54 y55 y56 y57 y58 y59 y60 y61 y62 y63 : Value, Q .normal ⟨#[.slice (some ⟨b, off, none⟩) n cap, x1, x2, x3, x4, x5, x6, .int .i64 f, x8, .pointer (some ⟨gs, 0, none⟩), x10, x11, x12, x13, x14, x15, x16, x17, x18, x19, x20, x21, x22, x23, x24, x25, x26, x27, x28, x29, x30, x31, x32, x33, x34, x35, x36, x37, x38, x39, x40, x41, x42, x43, x44, x45, x46, x47, x48, x49, x50, x51, x52, y53, y54, y55, y56, y57, y58, y59, y60, y61, y62, y63, x64, x65, x66, x67, x68, x69, x70, x71, x72, x73, x74, x75, x76, x77, x78, x79, x80, x81, x82, x83, x84, x85, x86, x87, x88, x89, x90, x91, x92, x93, x94, x95, x96, x97, x98, x99, x100, x101, x102, x103, x104, x105, x106, x107, x108, x109, x110, x111, x112, x113, x114, x115, x116, x117, x118, x119, x120, x121, x122, x123, x124, x125, x126, x127, x128, x129, x130, x131, x132, x133, x134, x135, x136, x137, x138, x139, x140, x141, x142, x143, x144, x145, x146, x147, x148, x149, x150, x151, x152, x153, x154, x155, x156, x157, x158, x159, x160, x161, x162, x163, x164, x165, x166, x167, x168, x169, x170, x171, x172, x173, x174, x175, x176, x177, x178, x179, x180, x181, x182, x183, x184], []⟩ (((V.setCell ⟨gs, 0, none⟩ (.int .i64 k.x)).setCell ⟨gs, 1, none⟩ (.int .i64 k.y)).drew)) :
    Code.wp Try.prog r15 Q ⟨#[.slice (some ⟨b, off, none⟩) n cap, x1, x2, x3, x4, x5, x6, .int .i64 f, x8, .pointer (some ⟨gs, 0, none⟩), x10, x11, x12, x13, x14, x15, x16, x17, x18, x19, x20, x21, x22, x23, x24, x25, x26, x27, x28, x29, x30, x31, x32, x33, x34, x35, x36, x37, x38, x39, x40, x41, x42, x43, x44, x45, x46, x47, x48, x49, x50, x51, x52, x53, x54, x55, x56, x57, x58, x59, x60, x61, x62, x63, x64, x65, x66, x67, x68, x69, x70, x71, x72, x73, x74, x75, x76, x77, x78, x79, x80, x81, x82, x83, x84, x85, x86, x87, x88, x89, x90, x91, x92, x93, x94, x95, x96, x97, x98, x99, x100, x101, x102, x103, x104, x105, x106, x107, x108, x109, x110, x111, x112, x113, x114, x115, x116, x117, x118, x119, x120, x121, x122, x123, x124, x125, x126, x127, x128, x129, x130, x131, x132, x133, x134, x135, x136, x137, x138, x139, x140, x141, x142, x143, x144, x145, x146, x147, x148, x149, x150, x151, x152, x153, x154, x155, x156, x157, x158, x159, x160, x161, x162, x163, x164, x165, x166, x167, x168, x169, x170, x171, x172, x173, x174, x175, x176, x177, x178, x179, x180, x181, x182, x183, x184], []⟩ V := by
  refine only_on ?_
  have hf0 : (0 : Int) ≤ (f : Int) := by omega
  have hf1 : (f : Int) < (n : Int) := by omega
  have H := Lib.hid h
  clear h
  generalize Q .normal = K at *
  conv => arg 2; whnf
  go_region
  all_goals exact H.out _ _ _ _ _ _ _ _ _ _ _

set_option maxRecDepth 1000000 in
set_option maxHeartbeats 4000000 in
theorem lp2_run {x1 x2 x3 x4 x5 x8 x9 x12 x13 x14 x15 x16 x17 x18 x19 x20 x21 x22 x23 x24 x25 x26 x27 x28 x29 x30 x31 x32 x33 x34 x35 x36 x37 x38 x39 x40 x41 x42 x43 x44 x45 x46 x47 x48 x49 x50 x51 x52 x53 x54 x55 x56 x57 x58 x59 x60 x61 x62 x63 x64 x65 x66 x67 x68 x69 x70 x71 x72 x73 x74 x75 x76 x77 x78 x79 x80 x81 x82 x83 x84 x85 x86 x87 x88 x89 x90 x91 x92 x93 x94 x95 x96 x97 x98 x99 x100 x101 x102 x103 x104 x105 x106 x107 x108 x109 x110 x111 x112 x113 x114 x115 x116 x117 x118 x119 x120 x121 x122 x123 x124 x125 x126 x127 x128 x129 x130 x131 x132 x133 x134 x135 x136 x137 x138 x139 x140 x141 x142 x143 x144 x145 x146 x147 x148 x149 x150 x151 x152 x153 x154 x155 x156 x157 x158 x159 x160 x161 x162 x163 x164 x165 x166 x167 x168 x169 x170 x171 x172 x173 x174 x175 x176 x177 x178 x179 x180 x181 x182 x183 x184 : Value} (w V : World) (b off n cap f j0 : Nat) (c : List Kn) (st : Sp) (Q : Exit → Act → World → Prop) (hr : IsR clK w (some ⟨b, off, none⟩) c) (hcn : c.length = n) (hj : n = j0 + 1) (hn : n ≤ 4096) (hf : f < n) (hpre : PreW w V st) (hown : V.ownsRow (w.heap.size + 2) 37 3 (.slice (some ⟨w.heap.size + 1 + 1, 0, none⟩) 0 0) 0 [])
    (h : ∀ (y11 y64 y65 y66 y67 y68 y69 y70 y71 y72 y73 y74 y75 y76 y77 y78 y79 : Value) (g8 c8 : Nat) (w8 : World), PreW w w8 st → w8.ownsRow (w.heap.size + 2) 37 3 (.slice (some ⟨g8, 0, none⟩) j0 c8) j0 ((c.drop (f + 1) ++ c.take f).flatMap clK) → Q (.exit 2) ⟨#[.slice (some ⟨b, off, none⟩) n cap, x1, x2, x3, x4, x5, .int .i64 n, .int .i64 f, x8, x9, .slice (some ⟨g8, 0, none⟩) j0 c8, y11, x12, x13, x14, x15, x16, x17, x18, x19, x20, x21, x22, x23, x24, x25, x26, x27, x28, x29, x30, x31, x32, x33, x34, x35, x36, x37, x38, x39, x40, x41, x42, x43, x44, x45, x46, x47, x48, x49, x50, x51, x52, x53, x54, x55, x56, x57, x58, x59, x60, x61, x62, x63, y64, y65, y66, y67, y68, y69, y70, y71, y72, y73, y74, y75, y76, y77, y78, y79, x80, x81, x82, x83, x84, x85, x86, x87, x88, x89, x90, x91, x92, x93, x94, x95, x96, x97, x98, x99, x100, x101, x102, x103, x104, x105, x106, x107, x108, x109, x110, x111, x112, x113, x114, x115, x116, x117, x118, x119, x120, x121, x122, x123, x124, x125, x126, x127, x128, x129, x130, x131, x132, x133, x134, x135, x136, x137, x138, x139, x140, x141, x142, x143, x144, x145, x146, x147, x148, x149, x150, x151, x152, x153, x154, x155, x156, x157, x158, x159, x160, x161, x162, x163, x164, x165, x166, x167, x168, x169, x170, x171, x172, x173, x174, x175, x176, x177, x178, x179, x180, x181, x182, x183, x184], []⟩ w8) :
    Code.wp Try.prog lp2 Q ⟨#[.slice (some ⟨b, off, none⟩) n cap, x1, x2, x3, x4, x5, .int .i64 n, .int .i64 f, x8, x9, .slice (some ⟨w.heap.size + 1 + 1, 0, none⟩) 0 0, .int .i64 1, x12, x13, x14, x15, x16, x17, x18, x19, x20, x21, x22, x23, x24, x25, x26, x27, x28, x29, x30, x31, x32, x33, x34, x35, x36, x37, x38, x39, x40, x41, x42, x43, x44, x45, x46, x47, x48, x49, x50, x51, x52, x53, x54, x55, x56, x57, x58, x59, x60, x61, x62, x63, x64, x65, x66, x67, x68, x69, x70, x71, x72, x73, x74, x75, x76, x77, x78, x79, x80, x81, x82, x83, x84, x85, x86, x87, x88, x89, x90, x91, x92, x93, x94, x95, x96, x97, x98, x99, x100, x101, x102, x103, x104, x105, x106, x107, x108, x109, x110, x111, x112, x113, x114, x115, x116, x117, x118, x119, x120, x121, x122, x123, x124, x125, x126, x127, x128, x129, x130, x131, x132, x133, x134, x135, x136, x137, x138, x139, x140, x141, x142, x143, x144, x145, x146, x147, x148, x149, x150, x151, x152, x153, x154, x155, x156, x157, x158, x159, x160, x161, x162, x163, x164, x165, x166, x167, x168, x169, x170, x171, x172, x173, x174, x175, x176, x177, x178, x179, x180, x181, x182, x183, x184], []⟩ V := by
  have H := Lib.hid h
  have HR := Lib.hid hr
  have HCN := Lib.hid hcn
  have HJ0 := Lib.hid hj
  have HN4 := Lib.hid hn
  have HFN := Lib.hid hf
  have HPW := Lib.hid hpre
  have HOW := Lib.hid hown
  have HRL : Hid (((c.drop (f + 1) ++ c.take f)).length = j0) := by unfold Hid; rw [List.length_append, List.length_drop, List.length_take]; omega
  clear h hr hcn hj hn hf hpre hown
  conv => arg 2; whnf
  conv => arg 4; zeta
  go_loopw [10, 11] (fun v i wr => ∃ j g cc : Nat, j ≤ j0 ∧ v = .slice (some ⟨g, 0, none⟩) j cc ∧ i = .int .i64 ((j : Int) + 1) ∧ Hid (wr.ownsRow (w.heap.size + 2) 37 3 (.slice (some ⟨g, 0, none⟩) j cc) j (((c.drop (f + 1) ++ c.take f).take j).flatMap clK)) ∧ Hid (PreW w wr st)) (fun v _ _ => j0 - sliceLen v)
  case atStart => exact ⟨0, _, 0, Nat.zero_le _, rfl, rfl, by rw [List.take_zero]; exact HOW, HPW⟩
  case round =>
    obtain ⟨j, g, cc, hjn, rfl, rfl, HO, HP⟩ := hrel
    by_cases hlt : j < j0
    · have hlt' : (j : Int) + 1 < (n : Int) := by have := HJ0.out; omega
      obtain ⟨q, hq1, hq2⟩ := rot_at (c := c) (f := f) (i := j + 1) (by rw [HCN.out]; exact HFN.out) (by omega) (by rw [HCN.out, HJ0.out]; omega)
      rw [HCN.out] at hq2
      rw [Nat.add_sub_cancel] at hq1
      obtain ⟨s, HS⟩ : ∃ s, Hid (f + (j + 1) = s) := ⟨_, rfl⟩
      rw [HS.out] at hq2
      obtain ⟨t, HT⟩ : ∃ t, Hid (s % n = t) := ⟨_, rfl⟩
      rw [HT.out] at hq2
      obtain ⟨b', off', hbb, q0, q1, q2⟩ := (HR.out.below HP.out.bel).knot hq2
      cases hbb
      have hsum : wrap64 ((f : Int) + ((j : Int) + 1)) = (s : Int) := by have := HS.out; have := HN4.out; have := HFN.out; have := HJ0.out; unfold wrap64; omega
      have hrem : Int.tmod (s : Int) (n : Int) = (t : Int) := by rw [← HT.out]; rfl
      have htn : (t : Int) < (n : Int) := by have := Nat.mod_lt s (show 0 < n by have := HJ0.out; omega); rw [HT.out] at this; omega
      have hn0 : ¬ (n : Int) = 0 := by have := HJ0.out; omega
      have hn1 : ((n : Int) == 0) = false := by simp; have := HJ0.out; omega
      have ht0 : (0 : Int) ≤ (t : Int) := by omega
      have HNX : Hid (wrap64 ((j : Int) + 1 + 1) = ((j + 1 : Nat) : Int) + 1) := by have := HJ0.out; have := HN4.out; unfold Hid wrap64; omega
      have HND : Hid (Below wr.heap.size wr (wr.alloc (.cells #[.int .i64 q.x, .int .i64 q.y, .int .i64 q.k] 37))) := (Below.refl _ _).alloc (Nat.le_refl _) _
      have HOD := Lib.hid (own_below HO.out HND.out)
      have HSD : Hid (Lies (wr.alloc (.cells #[.int .i64 q.x, .int .i64 q.y, .int .i64 q.k] 37)) wr.heap.size 0 [.int .i64 q.x, .int .i64 q.y, .int .i64 q.k]) := lies_new (w := wr) (cs := #[.int .i64 q.x, .int .i64 q.y, .int .i64 q.k]) (T := 37)
      have HSZ : Hid (w.heap.size + 2 ≤ (wr.alloc (.cells #[.int .i64 q.x, .int .i64 q.y, .int .i64 q.k] 37)).heap.size) := by have := ownsRow_cap HOD.out; unfold Hid; omega
      have HJ4 : Hid (j ≤ 4096) := by have := HJ0.out; have := HN4.out; unfold Hid; omega
      have HQ1 := Lib.hid hq1
      have HLT := Lib.hid hlt
      clear hq1 hq2 hlt hjn
      go_wp2_with (at_builtin; refine wpList_app elK rfl _ _ rfl (wr.alloc (.cells #[.int .i64 q.x, .int .i64 q.y, .int .i64 q.k] 37)) (w.heap.size + 2) g cc j (((c.drop (f + 1) ++ c.take f).take j).flatMap clK) (some ⟨wr.heap.size, 0, none⟩) 1 1 [.int .i64 q.x, .int .i64 q.y, .int .i64 q.k] rfl rfl HOD.out rfl (.inr ⟨_, 0, rfl, HSD.out⟩) (by simp [Value.oneCell']) (by have := HJ4.out; omega) (by have := HJ4.out; omega) HSZ.out ?_; intro g9 c9 w9 ho9 hg9 hat9)
      have HP9 := Lib.hid ((HP.out.below HND.out).grown hg9 (ownsRow_cap HOD.out).2.1)
      have HO9 : Hid (w9.ownsRow (w.heap.size + 2) 37 3 (.slice (some ⟨g9, 0, none⟩) (j + 1) c9) (j + 1) (((c.drop (f + 1) ++ c.take f).take (j + 1)).flatMap clK)) := by
        unfold Hid
        rw [List.take_add_one, HQ1.out, Option.toList_some, List.flatMap_append]
        simpa [clK] using ho9
      clear ho9 hg9 hat9
      go_wp2_with fail
      go_roundw
      case rel => exact ⟨j + 1, g9, c9, HLT.out, rfl, by first | rw [HNX.out] | rfl, HO9, HP9⟩
      case measure => have := HLT.out; simp only [sliceLen]; omega
    · have hlt' : ¬ (j : Int) + 1 < (n : Int) := by have := HJ0.out; omega
      obtain rfl : j = j0 := by omega
      have HO2 : Hid (wr.ownsRow (w.heap.size + 2) 37 3 (.slice (some ⟨g, 0, none⟩) j cc) j (((c.drop (f + 1) ++ c.take f)).flatMap clK)) := by
        have h := HO.out
        rwa [List.take_of_length_le (by rw [HRL.out]; exact Nat.le_refl _)] at h
      clear hlt HO
      go_wp2_with fail
      exact H.out _ _ _ _ _ _ _ _ _ _ _ _ _ _ _ _ _ _ _ _ HP.out HO2.out

end Go.Proofs.Ythjhekmlhmljlaa

namespace Go.Proofs.Ythjhekmlhmljlaa
open Go.RowKit Go.PlainAid
set_option linter.unusedSimpArgs false
set_option linter.unusedVariables false

set_option maxRecDepth 20000 in
set_option maxHeartbeats 8000000 in
theorem arcs_err (a : Option Addr) (cap : Nat) (c : List Kn) (w : World) (hr : IsR clK w a c) (hn : c.length ≤ 4096) (hpos : 0 < c.length) (hcap : c.length ≤ cap) (k : Kn) (hf : firstOn c = none) (hk : c[0]? = some k) (h3 : k.k = 3) :
    Calls Try.prog 37 #[.slice a c.length cap] w (NoArcs w) := by
  have HR := Lib.hid hr
  have HCP := Lib.hid hcap
  obtain ⟨n, HN⟩ : ∃ n, Hid (c.length = n) := ⟨_, rfl⟩
  have HN4 : Hid (n ≤ 4096) := by unfold Hid; rw [← HN.out]; exact hn
  have HNP : Hid (0 < n) := by unfold Hid; rw [← HN.out]; exact hpos
  have HB1 : Hid (Below w.heap.size w (w.alloc (.cells #[.int .i64 0, .int .i64 0] 47))) := (Below.refl _ _).alloc (Nat.le_refl _) _
  have HF0 : Hid (fiI c n = -1) := by unfold Hid; rw [← HN.out]; exact fiI_end c
  obtain ⟨j0, HJ0⟩ : ∃ j, Hid (n = j + 1) := ⟨n - 1, by have := HNP.out; unfold Hid; omega⟩
  rw [HN.out]
  have q0 : wrap64 ((n : Int) - 1) = (j0 : Int) := by have := HN4.out; have := HJ0.out; unfold wrap64; omega
  clear hr hn hpos hcap
  go_enter Try.func37, Try.ntmps37
  go_wp2_with fail
  have HQ0 := Lib.hid q0
  clear q0
  go_loop [7, 8] (fun f x => ∃ j : Nat, ∃ F : Int, j ≤ n ∧ f = .int .i64 F ∧ Hid (fiI c j = F) ∧ ((j = 0 ∧ x = .int .i64 (-1)) ∨ ∃ i : Nat, j = i + 1 ∧ x = .int .i64 i)) (fun _ x => (intOf x + 1).toNat)
  case atStart => exact ⟨n, -1, Nat.le_refl _, rfl, HF0, .inr ⟨j0, HJ0.out, by first | rw [HQ0.out] | rfl⟩⟩
  case round =>
    obtain ⟨j, F, hjn, rfl, HF, hx⟩ := hrel
    rcases hx with ⟨rfl, rfl⟩ | ⟨i, rfl, rfl⟩
    rotate_left
    · have hi0 : (0 : Int) ≤ (i : Int) := by omega
      have hin : (i : Int) < (n : Int) := by omega
      obtain ⟨k, hk⟩ := get_of (show i < c.length by rw [HN.out]; omega)
      obtain ⟨b, off, rfl, k0, k1, k2⟩ := (HR.out.below HB1.out).knot hk
      have HS := Lib.hid (fiI_step hk)
      have HIN : Hid (i + 1 ≤ n) := hjn
      have hpw : wrap64 ((i : Int) - 1) = (i : Int) - 1 := pred64 (by have := HN4.out; omega)
      clear hk k0 k1 hjn
      by_cases h1 : k.k = 1
      · have h1' : (k.k == 1) = true := by simpa using h1
        have HV : Hid (fiI c i = (i : Int)) := by unfold Hid; rw [HS.out, if_pos h1]
        clear h1
        go_wp2_with fail
        go_round
        case rel =>
          refine ⟨i, (i : Int), by have := HIN.out; omega, rfl, HV, ?_⟩
          by_cases hz : i = 0
          · left; subst hz; exact ⟨rfl, by first | rfl | (rw [hpw]; rfl) | simp⟩
          · right; exact ⟨i - 1, by omega, by first | (rw [hpw]; congr 1; omega) | (congr 1; omega)⟩
        case measure => (try rw [hpw]); simp only [intOf]; omega
      · have h1' : (k.k == 1) = false := by simpa using h1
        have HV : Hid (fiI c i = F) := by unfold Hid; rw [HS.out, if_neg h1, HF.out]
        clear h1
        go_wp2_with fail
        go_round
        case rel =>
          refine ⟨i, F, by have := HIN.out; omega, rfl, HV, ?_⟩
          by_cases hz : i = 0
          · left; subst hz; exact ⟨rfl, by first | rfl | (rw [hpw]; rfl) | simp⟩
          · right; exact ⟨i - 1, by omega, by first | (rw [hpw]; congr 1; omega) | (congr 1; omega)⟩
        case measure => (try rw [hpw]); simp only [intOf]; omega
    · clear hjn
      have HF1 : Hid (fiI c 0 = -1) := fiI_none hf
      have hF : F = -1 := by rw [← HF.out, HF1.out]
      subst hF
      clear hf
      obtain ⟨b, off, rfl, k0, k1, k2⟩ := ((HR.out.below HB1.out).below ((Below.refl _ _).alloc (Nat.le_refl _) (.cells #[.int .i64 0, .int .i64 0] 47))).below ((Below.refl _ _).alloc (Nat.le_refl _) (.cells #[] 37)) |>.knot hk
      simp only [Nat.zero_mul, Nat.add_zero] at k0 k1 k2
      have h3' : (k.k == 3) = true := by simpa using h3
      have hn0 : (0 : Int) < (n : Int) := by have := HNP.out; omega
      have HB3 : Hid (Below w.heap.size w (((w.alloc (.cells #[.int .i64 0, .int .i64 0] 47)).alloc (.cells #[.int .i64 0, .int .i64 0] 47)).alloc (.cells #[] 37))) := bel_alloc (bel_alloc HB1.out _) _
      clear hk h3 k0 k1
      go_wp2_with fail
      refine bodyPost_ret (v := .tuple #[.agg #[.int .i64 0, .int .i64 0], .slice none 0 0, .bool false, .bool false]) (by simp [results, Try.results37, go_sem]) rfl ⟨⟨0, 0⟩, rfl, ?_⟩
      exact HB3.out

end Go.Proofs.Ythjhekmlhmljlaa

namespace Go.Proofs.Ythjhekmlhmljlaa
open Go.RowKit Go.PlainAid
set_option linter.unusedSimpArgs false
set_option linter.unusedVariables false

set_option maxRecDepth 20000 in
set_option maxHeartbeats 8000000 in
theorem arcs_off (a : Option Addr) (cap : Nat) (c : List Kn) (w : World) (hr : IsR clK w a c) (hn : c.length ≤ 4096) (hpos : 0 < c.length) (hcap : c.length ≤ cap) (k l : Kn) (hf : firstOn c = none) (hk : c[0]? = some k) (hl : c[c.length - 1]? = some l) (h3 : ¬ k.k = 3) (hfk : FixS k.sp) (hfl : FixS l.sp) (hgc : GoodK c) :
    Calls Try.prog 37 #[.slice a c.length cap] w (RunArcs w (mid l.sp k.sp) (arcsL (mid l.sp k.sp) c)) := by
  have HR := Lib.hid hr
  have HCP := Lib.hid hcap
  obtain ⟨n, HN⟩ : ∃ n, Hid (c.length = n) := ⟨_, rfl⟩
  have HN4 : Hid (n ≤ 4096) := by unfold Hid; rw [← HN.out]; exact hn
  have HNP : Hid (0 < n) := by unfold Hid; rw [← HN.out]; exact hpos
  have HB1 : Hid (Below w.heap.size w (w.alloc (.cells #[.int .i64 0, .int .i64 0] 47))) := (Below.refl _ _).alloc (Nat.le_refl _) _
  have HF0 : Hid (fiI c n = -1) := by unfold Hid; rw [← HN.out]; exact fiI_end c
  obtain ⟨j0, HJ0⟩ : ∃ j, Hid (n = j + 1) := ⟨n - 1, by have := HNP.out; unfold Hid; omega⟩
  rw [HN.out]
  have q0 : wrap64 ((n : Int) - 1) = (j0 : Int) := by have := HN4.out; have := HJ0.out; unfold wrap64; omega
  clear hr hn hpos hcap
  go_enter Try.func37, Try.ntmps37
  go_wp2_with fail
  have HQ0 := Lib.hid q0
  clear q0
  go_loop [7, 8] (fun f x => ∃ j : Nat, ∃ F : Int, j ≤ n ∧ f = .int .i64 F ∧ Hid (fiI c j = F) ∧ ((j = 0 ∧ x = .int .i64 (-1)) ∨ ∃ i : Nat, j = i + 1 ∧ x = .int .i64 i)) (fun _ x => (intOf x + 1).toNat)
  case atStart => exact ⟨n, -1, Nat.le_refl _, rfl, HF0, .inr ⟨j0, HJ0.out, by first | rw [HQ0.out] | rfl⟩⟩
  case round =>
    obtain ⟨j, F, hjn, rfl, HF, hx⟩ := hrel
    rcases hx with ⟨rfl, rfl⟩ | ⟨i, rfl, rfl⟩
    rotate_left
    · have hi0 : (0 : Int) ≤ (i : Int) := by omega
      have hin : (i : Int) < (n : Int) := by omega
      obtain ⟨k, hk⟩ := get_of (show i < c.length by rw [HN.out]; omega)
      obtain ⟨b, off, rfl, k0, k1, k2⟩ := (HR.out.below HB1.out).knot hk
      have HS := Lib.hid (fiI_step hk)
      have HIN : Hid (i + 1 ≤ n) := hjn
      have hpw : wrap64 ((i : Int) - 1) = (i : Int) - 1 := pred64 (by have := HN4.out; omega)
      clear hk k0 k1 hjn
      by_cases h1 : k.k = 1
      · have h1' : (k.k == 1) = true := by simpa using h1
        have HV : Hid (fiI c i = (i : Int)) := by unfold Hid; rw [HS.out, if_pos h1]
        clear h1
        go_wp2_with fail
        go_round
        case rel =>
          refine ⟨i, (i : Int), by have := HIN.out; omega, rfl, HV, ?_⟩
          by_cases hz : i = 0
          · left; subst hz; exact ⟨rfl, by first | rfl | (rw [hpw]; rfl) | simp⟩
          · right; exact ⟨i - 1, by omega, by first | (rw [hpw]; congr 1; omega) | (congr 1; omega)⟩
        case measure => (try rw [hpw]); simp only [intOf]; omega
      · have h1' : (k.k == 1) = false := by simpa using h1
        have HV : Hid (fiI c i = F) := by unfold Hid; rw [HS.out, if_neg h1, HF.out]
        clear h1
        go_wp2_with fail
        go_round
        case rel =>
          refine ⟨i, F, by have := HIN.out; omega, rfl, HV, ?_⟩
          by_cases hz : i = 0
          · left; subst hz; exact ⟨rfl, by first | rfl | (rw [hpw]; rfl) | simp⟩
          · right; exact ⟨i - 1, by omega, by first | (rw [hpw]; congr 1; omega) | (congr 1; omega)⟩
        case measure => (try rw [hpw]); simp only [intOf]; omega
    · clear hjn
      obtain ⟨st, HST⟩ : ∃ s, Hid (mid l.sp k.sp = s) := ⟨_, rfl⟩
      rw [HST.out]
      have HF1 : Hid (fiI c 0 = -1) := fiI_none hf
      have hF : F = -1 := by rw [← HF.out, HF1.out]
      subst hF
      clear hf
      have HB3 : Hid (Below w.heap.size w (((w.alloc (.cells #[.int .i64 0, .int .i64 0] 47)).alloc (.cells #[.int .i64 0, .int .i64 0] 47)).alloc (.cells #[] 37))) := bel_alloc (bel_alloc HB1.out _) _
      have HPW : Hid (PreW w (((w.alloc (.cells #[.int .i64 0, .int .i64 0] 47)).alloc (.cells #[.int .i64 0, .int .i64 0] 47)).alloc (.cells #[] 37)) ⟨0, 0⟩) := ⟨by simp [go_sem], by simp [go_sem], by simp [go_sem], by simp [go_sem], by simp [go_sem], by simp [go_sem], by simp [go_sem], by simp [go_sem], HB3.out⟩
      have HLO : Hid (((((w.alloc (.cells #[.int .i64 0, .int .i64 0] 47)).alloc (.cells #[.int .i64 0, .int .i64 0] 47)).alloc (.cells #[] 37))).ownsRow (w.heap.size + 2) 37 3 (.slice (some ⟨w.heap.size + 1 + 1, 0, none⟩) 0 0) 0 []) := by
        have h := World.ownsRow_lit (base := w.heap.size + 2) (e := 37) (size := 3) ((w.alloc (.cells #[.int .i64 0, .int .i64 0] 47)).alloc (.cells #[.int .i64 0, .int .i64 0] 47)) #[] 0 (by simp) (by decide) rfl
        rwa [show ((w.alloc (.cells #[.int .i64 0, .int .i64 0] 47)).alloc (.cells #[.int .i64 0, .int .i64 0] 47)).heap.size = w.heap.size + 1 + 1 by simp] at h
      obtain ⟨b, off, rfl, k0, k1, k2⟩ := (HR.out.below HB3.out).knot hk
      obtain ⟨b', off', hbb, l0, l1, l2⟩ := (HR.out.below HB3.out).knot hl
      cases hbb
      simp only [Nat.zero_mul, Nat.add_zero] at k0 k1 k2
      rw [HN.out] at l0 l1 l2
      have h3' : (k.k == 3) = false := by simpa using h3
      have hn0 : (0 : Int) < (n : Int) := by have := HNP.out; omega
      have HFK := Lib.hid hfk
      have HGC := Lib.hid hgc
      have HFL := Lib.hid hfl
      have hpw : wrap64 ((n : Int) - 1) = (j0 : Int) := HQ0.out
      have hj0 : (0 : Int) ≤ (j0 : Int) := by omega
      have hjn : (j0 : Int) < (n : Int) := by have := HJ0.out; omega
      have hnj : n - 1 = j0 := by have := HJ0.out; omega
      rw [hnj] at l0 l1 l2
      clear hk hl h3 hfk hfl hnj hgc
      go_wp2_with fail
      generalize (((w.alloc (.cells #[.int .i64 0, .int .i64 0] 47)).alloc (.cells #[.int .i64 0, .int .i64 0] 47)).alloc (.cells #[] 37)) = u at *
      have hpw2 : IntKind.i64.wrap ((n : Int) - 1) = (j0 : Int) := (i64_is _).trans HQ0.out
      have hn1 : 0 < n := HNP.out
      go_cut [] (fun wx => Hid (PreW w wx st) ∧ Hid (wx.ownsRow (w.heap.size + 2) 37 3 (.slice (some ⟨w.heap.size + 1 + 1, 0, none⟩) 0 0) 0 []))
      case first =>
        go_region_law (go_simp; go_at_call 53; refine (refmid_v l k st _ HFL.out HFK.out HST.out).mono ?_; rintro e w6 ⟨rfl, hb6⟩; have HP6 := Lib.hid (HPW.out.drew.below hb6); have t0 := HP6.out.s0; have t1 := HP6.out.s1; have t2 := HP6.out.z0; have t3 := HP6.out.z1; have HL6 := Lib.hid (own_below (show u.drew.ownsRow _ _ _ _ _ _ from own_keep HLO.out (fun _ _ => rfl)) hb6))
        all_goals
          have HV : Hid (Hid (PreW w ((w6.setCell ⟨w.heap.size + 1, 0, none⟩ (.int .i64 st.x)).setCell ⟨w.heap.size + 1, 1, none⟩ (.int .i64 st.y)) st) ∧ Hid (((w6.setCell ⟨w.heap.size + 1, 0, none⟩ (.int .i64 st.x)).setCell ⟨w.heap.size + 1, 1, none⟩ (.int .i64 st.y)).ownsRow (w.heap.size + 2) 37 3 (.slice (some ⟨w.heap.size + 1 + 1, 0, none⟩) 0 0) 0 [])) := ⟨HP6.out.start, own_set (own_set HL6.out _ _ (by show w.heap.size + 1 ≠ w.heap.size + 1 + 1; omega)) _ _ (by show w.heap.size + 1 ≠ w.heap.size + 1 + 1; omega)⟩
          go_wp2_with fail
          go_meet
          exact HV.out
      case rest =>
        obtain ⟨HPW2, HLO2⟩ := hcut
        clear k0 k1 k2 l0 l1 l2 HPW HLO hpw hpw2 hn1 hj0 hjn h3' hn0
        have HRC := Lib.hid (HR.out.below HPW2.out.bel)
        have HCL : Hid (c.length = n) := HN
        go_wp2_with (at_builtin; refine wpList_app elK rfl _ _ rfl wc (w.heap.size + 2) (w.heap.size + 1 + 1) 0 0 [] (some ⟨b, off, none⟩) n cap (c.flatMap clK) rfl rfl HLO2.out (by rw [← HN.out]; exact flat_length clK_length c) (by rw [← HN.out]; exact isR_src HRC.out) clK_one (by have := HN4.out; omega) (by have := HN4.out; omega) (by have := (ownsRow_cap HLO2.out).2; omega) ?_; intro g8 c8 w8 ho8 hg8 hat8)
        rw [Nat.zero_add, List.nil_append] at ho8
        have HPB := Lib.hid (HPW2.out.grown hg8 (by omega))
        have HLR : Hid (IsR clK w8 (some ⟨g8, 0, none⟩) c) := own_isR HN.out.symm ho8
        have HLC : Hid (n ≤ c8) := (ownsRow_cap ho8).1
        obtain ⟨L, HLL⟩ : ∃ L, Hid (c = L) := ⟨_, rfl⟩
        have HLN : Hid (L.length = n) := by unfold Hid; rw [← HLL.out]; exact HN.out
        have HGK : Hid (GoodK L) := by unfold Hid; rw [← HLL.out]; exact HGC.out
        rw [HLL.out] at HLR
        rw [HLL.out]
        clear ho8 hg8 hat8
        go_wp2_with fail
        refine loop3 w w8 _ st L _ HPB.out L (some ⟨g8, 0, none⟩) n c8 _ 0 0 [] ⟨HLN.out, HLC.out, by have := HN4.out; omega, HLR.out, HGK.out, arcsAt_nil w8 _ (Nat.le_refl _), upto_start st L, (Below.refl _ _).alloc (Nat.le_refl _) _⟩ ?ret ?exit
        case ret =>
          rintro a' w' ⟨hd, v, hr, hp⟩
          refine bodyPost_ret hr hd ?_
          (try rw [HLL.out])
          (try rw [HST.out])
          exact hp
        case exit =>
          intro x13 x14 x15 x81 x82 x83 x84 x85 x86 x87 x88 x89 x90 x91 x92 x93 x94 x95 x96 x97 x98 x99 x100 x101 x102 x103 x104 x105 x106 x107 x108 x109 x110 x111 x112 x113 x114 x115 x116 x117 x118 x119 x120 x121 x122 x123 x124 x125 x126 x127 x128 x129 x130 x131 x132 x133 x134 x135 x136 x137 x138 x139 x140 x141 x142 x143 x144 x145 x146 x147 x148 x149 x150 x151 x152 x153 x154 x155 x156 x157 x158 x159 x160 x161 x162 x163 x164 x165 x166 x167 x168 x169 x170 x171 x172 x173 x174 x175 x176 x177 x178 x179 x180 x181 x182 al cl g na ca zs wr hR
          have HR3 := Lib.hid hR
          have HWS : Hid (w.heap.size < w8.heap.size) := World.block_lt_of_cell? w8 _ HPB.out.r0
          have HPr := Lib.hid (HPB.out.below hR.bel)
          obtain ⟨s0, s1, z0, z1, r0, r1, f0, f1, bel⟩ := HPr.out
          clear hR z0 z1 bel
          go_wp2_with fail
          refine bodyPost_ret (v := .tuple #[.agg #[.int .i64 st.x, .int .i64 st.y], .slice (some ⟨g, 0, none⟩) na ca, .bool false, .bool true]) (by simp [results, Try.results37, go_sem, r0, r1]) rfl ?_
          (try rw [HLL.out])
          (try rw [HST.out])
          exact run_some HWS.out HPr.out HR3.out.arcs HR3.out.up.done

end Go.Proofs.Ythjhekmlhmljlaa

namespace Go.Proofs.Ythjhekmlhmljlaa
open Go.RowKit Go.PlainAid
set_option linter.unusedSimpArgs false
set_option linter.unusedVariables false

set_option maxRecDepth 20000 in
set_option maxHeartbeats 8000000 in
theorem arcs_on (a : Option Addr) (cap : Nat) (c : List Kn) (w : World) (hr : IsR clK w a c) (hn : c.length ≤ 4096) (hpos : 0 < c.length) (hcap : c.length ≤ cap) (k : Kn) (f : Nat) (hf : firstOn c = some f) (hk : c[f]? = some k) (hgc : GoodK c) :
    Calls Try.prog 37 #[.slice a c.length cap] w (RunArcs w k.sp (arcsL k.sp (c.drop (f + 1) ++ c.take f))) := by
  have HR := Lib.hid hr
  have HCP := Lib.hid hcap
  obtain ⟨n, HN⟩ : ∃ n, Hid (c.length = n) := ⟨_, rfl⟩
  have HN4 : Hid (n ≤ 4096) := by unfold Hid; rw [← HN.out]; exact hn
  have HNP : Hid (0 < n) := by unfold Hid; rw [← HN.out]; exact hpos
  have HB1 : Hid (Below w.heap.size w (w.alloc (.cells #[.int .i64 0, .int .i64 0] 47))) := (Below.refl _ _).alloc (Nat.le_refl _) _
  have HF0 : Hid (fiI c n = -1) := by unfold Hid; rw [← HN.out]; exact fiI_end c
  obtain ⟨j0, HJ0⟩ : ∃ j, Hid (n = j + 1) := ⟨n - 1, by have := HNP.out; unfold Hid; omega⟩
  rw [HN.out]
  have q0 : wrap64 ((n : Int) - 1) = (j0 : Int) := by have := HN4.out; have := HJ0.out; unfold wrap64; omega
  clear hr hn hpos hcap
  go_enter Try.func37, Try.ntmps37
  go_wp2_with fail
  have HQ0 := Lib.hid q0
  clear q0
  go_loop [7, 8] (fun f x => ∃ j : Nat, ∃ F : Int, j ≤ n ∧ f = .int .i64 F ∧ Hid (fiI c j = F) ∧ ((j = 0 ∧ x = .int .i64 (-1)) ∨ ∃ i : Nat, j = i + 1 ∧ x = .int .i64 i)) (fun _ x => (intOf x + 1).toNat)
  case atStart => exact ⟨n, -1, Nat.le_refl _, rfl, HF0, .inr ⟨j0, HJ0.out, by first | rw [HQ0.out] | rfl⟩⟩
  case round =>
    obtain ⟨j, F, hjn, rfl, HF, hx⟩ := hrel
    rcases hx with ⟨rfl, rfl⟩ | ⟨i, rfl, rfl⟩
    rotate_left
    · have hi0 : (0 : Int) ≤ (i : Int) := by omega
      have hin : (i : Int) < (n : Int) := by omega
      obtain ⟨k, hk⟩ := get_of (show i < c.length by rw [HN.out]; omega)
      obtain ⟨b, off, rfl, k0, k1, k2⟩ := (HR.out.below HB1.out).knot hk
      have HS := Lib.hid (fiI_step hk)
      have HIN : Hid (i + 1 ≤ n) := hjn
      have hpw : wrap64 ((i : Int) - 1) = (i : Int) - 1 := pred64 (by have := HN4.out; omega)
      clear hk k0 k1 hjn
      by_cases h1 : k.k = 1
      · have h1' : (k.k == 1) = true := by simpa using h1
        have HV : Hid (fiI c i = (i : Int)) := by unfold Hid; rw [HS.out, if_pos h1]
        clear h1
        go_wp2_with fail
        go_round
        case rel =>
          refine ⟨i, (i : Int), by have := HIN.out; omega, rfl, HV, ?_⟩
          by_cases hz : i = 0
          · left; subst hz; exact ⟨rfl, by first | rfl | (rw [hpw]; rfl) | simp⟩
          · right; exact ⟨i - 1, by omega, by first | (rw [hpw]; congr 1; omega) | (congr 1; omega)⟩
        case measure => (try rw [hpw]); simp only [intOf]; omega
      · have h1' : (k.k == 1) = false := by simpa using h1
        have HV : Hid (fiI c i = F) := by unfold Hid; rw [HS.out, if_neg h1, HF.out]
        clear h1
        go_wp2_with fail
        go_round
        case rel =>
          refine ⟨i, F, by have := HIN.out; omega, rfl, HV, ?_⟩
          by_cases hz : i = 0
          · left; subst hz; exact ⟨rfl, by first | rfl | (rw [hpw]; rfl) | simp⟩
          · right; exact ⟨i - 1, by omega, by first | (rw [hpw]; congr 1; omega) | (congr 1; omega)⟩
        case measure => (try rw [hpw]); simp only [intOf]; omega
    · clear hjn
      have HF1 : Hid (fiI c 0 = (f : Int)) := fiI_some hf
      have hF : F = (f : Int) := by rw [← HF.out, HF1.out]
      subst hF
      clear hf
      have HB3 : Hid (Below w.heap.size w (((w.alloc (.cells #[.int .i64 0, .int .i64 0] 47)).alloc (.cells #[.int .i64 0, .int .i64 0] 47)).alloc (.cells #[] 37))) := bel_alloc (bel_alloc HB1.out _) _
      have HPW : Hid (PreW w (((w.alloc (.cells #[.int .i64 0, .int .i64 0] 47)).alloc (.cells #[.int .i64 0, .int .i64 0] 47)).alloc (.cells #[] 37)) ⟨0, 0⟩) := ⟨by simp [go_sem], by simp [go_sem], by simp [go_sem], by simp [go_sem], by simp [go_sem], by simp [go_sem], by simp [go_sem], by simp [go_sem], HB3.out⟩
      have HLO : Hid (((((w.alloc (.cells #[.int .i64 0, .int .i64 0] 47)).alloc (.cells #[.int .i64 0, .int .i64 0] 47)).alloc (.cells #[] 37))).ownsRow (w.heap.size + 2) 37 3 (.slice (some ⟨w.heap.size + 1 + 1, 0, none⟩) 0 0) 0 []) := by
        have h := World.ownsRow_lit (base := w.heap.size + 2) (e := 37) (size := 3) ((w.alloc (.cells #[.int .i64 0, .int .i64 0] 47)).alloc (.cells #[.int .i64 0, .int .i64 0] 47)) #[] 0 (by simp) (by decide) rfl
        rwa [show ((w.alloc (.cells #[.int .i64 0, .int .i64 0] 47)).alloc (.cells #[.int .i64 0, .int .i64 0] 47)).heap.size = w.heap.size + 1 + 1 by simp] at h
      obtain ⟨b, off, rfl, k0, k1, k2⟩ := (HR.out.below HB3.out).knot hk
      have HFN : Hid (f < n) := by unfold Hid; rw [← HN.out]; exact (List.getElem?_eq_some_iff.1 hk).1
      have hf0 : ¬ (f : Int) < 0 := by omega
      have HGC := Lib.hid hgc
      clear hk hgc k2
      go_wp2_with fail
      generalize (((w.alloc (.cells #[.int .i64 0, .int .i64 0] 47)).alloc (.cells #[.int .i64 0, .int .i64 0] 47)).alloc (.cells #[] 37)) = u at *
      refine reg15 b off n cap f (w.heap.size + 1) k ⟨0, 0⟩ u _ HFN.out k0 k1 HPW.out.s0 HPW.out.s1 HPW.out.z0 HPW.out.z1 ?_
      intro y53 y54 y55 y56 y57 y58 y59 y60 y61 y62 y63
      obtain ⟨st, HST⟩ : ∃ s, Hid (k.sp = s) := ⟨_, rfl⟩
      have HPX : Hid (PreW w (((u.setCell ⟨w.heap.size + 1, 0, none⟩ (.int .i64 k.x)).setCell ⟨w.heap.size + 1, 1, none⟩ (.int .i64 k.y)).drew) st) := by
        have h := (HPW.out.start (s := k.sp)).drew
        rw [HST.out] at h
        rw [← HST.out] at h ⊢
        exact h
      have HOX : Hid ((((u.setCell ⟨w.heap.size + 1, 0, none⟩ (.int .i64 k.x)).setCell ⟨w.heap.size + 1, 1, none⟩ (.int .i64 k.y)).drew).ownsRow (w.heap.size + 2) 37 3 (.slice (some ⟨w.heap.size + 1 + 1, 0, none⟩) 0 0) 0 []) := own_keep (own_set (own_set HLO.out _ _ (by show w.heap.size + 1 ≠ w.heap.size + 1 + 1; omega)) _ _ (by show w.heap.size + 1 ≠ w.heap.size + 1 + 1; omega)) (fun _ _ => rfl)
      clear k0 k1 HPW HLO
      generalize ((u.setCell ⟨w.heap.size + 1, 0, none⟩ (.int .i64 k.x)).setCell ⟨w.heap.size + 1, 1, none⟩ (.int .i64 k.y)).drew = u2 at *
      go_wp2_with fail
      refine lp2_run w u2 b off n cap f j0 c st _ HR.out HN.out HJ0.out HN4.out HFN.out HPX.out HOX.out ?_
      intro y11 y64 y65 y66 y67 y68 y69 y70 y71 y72 y73 y74 y75 y76 y77 y78 y79 g8 c8 w8 hp8 ho8
      obtain ⟨L, HLL⟩ : ∃ L, Hid (c.drop (f + 1) ++ c.take f = L) := ⟨_, rfl⟩
      rw [HLL.out] at ho8
      have HPB := Lib.hid hp8
      have HLN : Hid (L.length = j0) := by have := HN.out; have := HJ0.out; have := HFN.out; unfold Hid; rw [← HLL.out, List.length_append, List.length_drop, List.length_take]; omega
      have HLR : Hid (IsR clK w8 (some ⟨g8, 0, none⟩) L) := own_isR HLN.out.symm ho8
      have HLC : Hid (j0 ≤ c8) := (ownsRow_cap ho8).1
      have HGK : Hid (GoodK L) := by
        unfold Hid
        rw [← HLL.out]
        intro x hx
        rcases List.mem_append.1 hx with h | h
        · exact HGC.out x (List.mem_of_mem_drop h)
        · exact HGC.out x (List.mem_of_mem_take h)
      have HN5 := Lib.hid HN4.out
      clear hp8 ho8 HN4
      have HN4 : Hid (j0 ≤ 4096) := by have := HN5.out; have := HJ0.out; unfold Hid; omega
      go_wp2_with fail
      refine loop3 w w8 _ st L _ HPB.out L (some ⟨g8, 0, none⟩) j0 c8 _ 0 0 [] ⟨HLN.out, HLC.out, by have := HN4.out; omega, HLR.out, HGK.out, arcsAt_nil w8 _ (Nat.le_refl _), upto_start st L, (Below.refl _ _).alloc (Nat.le_refl _) _⟩ ?ret ?exit
      case ret =>
        rintro a' w' ⟨hd, v, hr, hp⟩
        refine bodyPost_ret hr hd ?_
        (try rw [HLL.out])
        (try rw [HST.out])
        exact hp
      case exit =>
        intro x13 x14 x15 x81 x82 x83 x84 x85 x86 x87 x88 x89 x90 x91 x92 x93 x94 x95 x96 x97 x98 x99 x100 x101 x102 x103 x104 x105 x106 x107 x108 x109 x110 x111 x112 x113 x114 x115 x116 x117 x118 x119 x120 x121 x122 x123 x124 x125 x126 x127 x128 x129 x130 x131 x132 x133 x134 x135 x136 x137 x138 x139 x140 x141 x142 x143 x144 x145 x146 x147 x148 x149 x150 x151 x152 x153 x154 x155 x156 x157 x158 x159 x160 x161 x162 x163 x164 x165 x166 x167 x168 x169 x170 x171 x172 x173 x174 x175 x176 x177 x178 x179 x180 x181 x182 al cl g na ca zs wr hR
        have HR3 := Lib.hid hR
        have HWS : Hid (w.heap.size < w8.heap.size) := World.block_lt_of_cell? w8 _ HPB.out.r0
        have HPr := Lib.hid (HPB.out.below hR.bel)
        obtain ⟨s0, s1, z0, z1, r0, r1, f0, f1, bel⟩ := HPr.out
        clear hR z0 z1 bel
        go_wp2_with fail
        refine bodyPost_ret (v := .tuple #[.agg #[.int .i64 st.x, .int .i64 st.y], .slice (some ⟨g, 0, none⟩) na ca, .bool false, .bool true]) (by simp [results, Try.results37, go_sem, r0, r1]) rfl ?_
        (try rw [HLL.out])
        (try rw [HST.out])
        exact run_some HWS.out HPr.out HR3.out.arcs HR3.out.up.done

end Go.Proofs.Ythjhekmlhmljlaa
