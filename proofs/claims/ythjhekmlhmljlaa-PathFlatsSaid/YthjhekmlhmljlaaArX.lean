/-
  Arcs of the document's answer, its third loop: pieces, regions, behind the controls (L3A to L3I joined).
-/
import Derived.Test.YthjhekmlhmljlaaPtM
import Derived.Test.YthjhekmlhmljlaaPtD
import Derived.Test.YthjhekmlhmljlaaPtO
import Derived.Test.YthjhekmlhmljlaaReg
import Derived.Deep.DeepCutAuto
import Derived.Test.YthjhekmlhmljlaaArA
namespace Go.Proofs.Ythjhekmlhmljlaa
open Go.RowKit Go.PlainAid
set_option linter.unusedSimpArgs false
set_option linter.unusedVariables false

def loopsOf : Code → List Code
  | .loop c => [c]
  | .seq a b => loopsOf a ++ loopsOf b
  | .block _ c => loopsOf c
  | .scope c => loopsOf c
  | .cond _ a b => loopsOf a ++ loopsOf b
  | _ => []
def lft : Code → Code
  | .seq a _ => a
  | c => c
def rgt : Code → Code
  | .seq _ b => b
  | c => c
def inn : Code → Code
  | .block _ c => c
  | c => c
def thn : Code → Code
  | .cond _ a _ => a
  | c => c
def els : Code → Code
  | .cond _ _ b => b
  | c => c
noncomputable def body3 : Code := ((Try.f37.body.map loopsOf).getD []).getD 2 .skip
noncomputable def blk5 : Code := inn (rgt body3)
noncomputable def tail3 : Code := rgt (rgt (rgt (rgt (rgt (rgt blk5)))))
noncomputable def p21 : Code := lft body3
noncomputable def p22 : Code := lft blk5
noncomputable def p23 : Code := lft (rgt blk5)
noncomputable def p24 : Code := lft (rgt (rgt blk5))
noncomputable def pX : Code := lft (rgt (rgt (rgt blk5)))
noncomputable def p27 : Code := lft (rgt (rgt (rgt (rgt blk5))))
noncomputable def pY : Code := lft (rgt (rgt (rgt (rgt (rgt blk5)))))
noncomputable def r31 : Code := lft (rgt (thn (rgt pY)))
noncomputable def r35 : Code := lft (rgt (thn (rgt (lft tail3))))
noncomputable def p36 : Code := lft (rgt tail3)
noncomputable def r37 : Code := lft (thn (rgt p36))
noncomputable def r40 : Code := thn (rgt (els (rgt p36)))
noncomputable def headC (T : Code) : Code := .seq p21 (.block 5 (.seq p22 (.seq p23 (.seq p24 (.seq pX (.seq p27 (.seq pY T)))))))
set_option maxRecDepth 1000000 in
theorem body3_is : body3 = headC tail3 := by rfl
/-- A piece of code that only goes on. -/
theorem only_on {P : Program} {c : Code} {Q : Exit → Act → World → Prop} {a : Act} {w : World} (h : c.wp P (Exit.then (Q .normal) (fun _ _ _ => False)) a w) : c.wp P Q a w :=
  wp_mono h fun e a w h => by cases e <;> first | exact h | exact h.elim

end Go.Proofs.Ythjhekmlhmljlaa

namespace Go.Proofs.Ythjhekmlhmljlaa
open Go.RowKit Go.PlainAid
set_option linter.unusedSimpArgs false
set_option linter.unusedVariables false

set_option maxRecDepth 1000000 in
set_option maxHeartbeats 4000000 in
theorem reg37 {x0 x1 x2 x3 x4 x5 x6 x7 x8 x9 x11 x12 x13 x14 x16 x17 x18 x19 x20 x21 x22 x23 x24 x25 x26 x27 x28 x29 x30 x31 x32 x33 x34 x35 x36 x37 x38 x39 x40 x41 x42 x43 x44 x45 x46 x47 x48 x49 x50 x51 x52 x53 x54 x55 x56 x57 x58 x59 x60 x61 x62 x63 x64 x65 x66 x67 x68 x69 x70 x71 x72 x73 x74 x75 x76 x77 x78 x79 x80 x81 x82 x83 x84 x85 x86 x87 x88 x89 x90 x91 x92 x93 x94 x95 x96 x97 x98 x99 x100 x101 x102 x103 x104 x105 x106 x107 x108 x109 x110 x111 x112 x113 x114 x115 x116 x117 x118 x119 x120 x121 x122 x123 x124 x125 x126 x127 x128 x129 x130 x131 x132 x133 x134 x135 x136 x137 x138 x139 x140 x141 x142 x143 x144 x145 x146 x147 x148 x149 x150 x151 x152 x153 x154 x155 x156 x157 x158 x159 x160 x161 x162 x163 x164 x165 x166 x167 x168 x169 x170 x171 x172 x173 x174 x175 x176 x177 x178 x179 x180 x181 x182 x183 x184 : Value} (b off m cl ga : Nat) (e : Kn) (V : World) (Q : Exit → Act → World → Prop) (k0 : V.cell? ⟨b, off, none⟩ = some (.int .i64 e.x)) (k1 : V.cell? ⟨b, off + 1, none⟩ = some (.int .i64 e.y)) (a1 : V.cell? ⟨ga, 1, none⟩ = some (.int .i64 0)) (a2 : V.cell? ⟨ga, 2, none⟩ = some (.int .i64 0)) (f1 : V.frozen? ⟨ga, 1, none⟩ = false) (f2 : V.frozen? ⟨ga, 2, none⟩ = false)
    (h : ∀ y150 y151 y152 y153 y154 y155 y156 y157 y158 y159 : Value, Q .normal ⟨#[x0, x1, x2, x3, x4, x5, x6, x7, x8, x9, .slice (some ⟨b, off, none⟩) (m + 1) cl, x11, x12, x13, x14, .pointer (some ⟨ga, 0, none⟩), x16, x17, x18, x19, x20, x21, x22, x23, x24, x25, x26, x27, x28, x29, x30, x31, x32, x33, x34, x35, x36, x37, x38, x39, x40, x41, x42, x43, x44, x45, x46, x47, x48, x49, x50, x51, x52, x53, x54, x55, x56, x57, x58, x59, x60, x61, x62, x63, x64, x65, x66, x67, x68, x69, x70, x71, x72, x73, x74, x75, x76, x77, x78, x79, x80, x81, x82, x83, x84, x85, x86, x87, x88, x89, x90, x91, x92, x93, x94, x95, x96, x97, x98, x99, x100, x101, x102, x103, x104, x105, x106, x107, x108, x109, x110, x111, x112, x113, x114, x115, x116, x117, x118, x119, x120, x121, x122, x123, x124, x125, x126, x127, x128, x129, x130, x131, x132, x133, x134, x135, x136, x137, x138, x139, x140, x141, x142, x143, x144, x145, x146, x147, x148, x149, y150, y151, y152, y153, y154, y155, y156, y157, y158, y159, x160, x161, x162, x163, x164, x165, x166, x167, x168, x169, x170, x171, x172, x173, x174, x175, x176, x177, x178, x179, x180, x181, x182, x183, x184], []⟩ (((V.setCell ⟨ga, 1, none⟩ (.int .i64 e.x)).setCell ⟨ga, 2, none⟩ (.int .i64 e.y)).drew)) :
    Code.wp Try.prog r37 Q ⟨#[x0, x1, x2, x3, x4, x5, x6, x7, x8, x9, .slice (some ⟨b, off, none⟩) (m + 1) cl, x11, x12, x13, x14, .pointer (some ⟨ga, 0, none⟩), x16, x17, x18, x19, x20, x21, x22, x23, x24, x25, x26, x27, x28, x29, x30, x31, x32, x33, x34, x35, x36, x37, x38, x39, x40, x41, x42, x43, x44, x45, x46, x47, x48, x49, x50, x51, x52, x53, x54, x55, x56, x57, x58, x59, x60, x61, x62, x63, x64, x65, x66, x67, x68, x69, x70, x71, x72, x73, x74, x75, x76, x77, x78, x79, x80, x81, x82, x83, x84, x85, x86, x87, x88, x89, x90, x91, x92, x93, x94, x95, x96, x97, x98, x99, x100, x101, x102, x103, x104, x105, x106, x107, x108, x109, x110, x111, x112, x113, x114, x115, x116, x117, x118, x119, x120, x121, x122, x123, x124, x125, x126, x127, x128, x129, x130, x131, x132, x133, x134, x135, x136, x137, x138, x139, x140, x141, x142, x143, x144, x145, x146, x147, x148, x149, x150, x151, x152, x153, x154, x155, x156, x157, x158, x159, x160, x161, x162, x163, x164, x165, x166, x167, x168, x169, x170, x171, x172, x173, x174, x175, x176, x177, x178, x179, x180, x181, x182, x183, x184], []⟩ V := by
  refine only_on ?_
  have hm0 : (0 : Int) < ((m : Int) + 1) := by omega
  have H := Lib.hid h
  clear h
  generalize Q .normal = K at *
  conv => arg 2; whnf
  go_region
  all_goals exact H.out _ _ _ _ _ _ _ _ _ _

end Go.Proofs.Ythjhekmlhmljlaa

namespace Go.Proofs.Ythjhekmlhmljlaa
open Go.RowKit Go.PlainAid
set_option linter.unusedSimpArgs false
set_option linter.unusedVariables false

theorem grownF {w a : World} {g b o : Nat} {v : Value} {f : Bool} (h : w.grownBy a (some g)) (hc : w.cell? ⟨b, o, none⟩ = some v) (hf : w.frozen? ⟨b, o, none⟩ = f) (hb : b ≠ g) : a.frozen? ⟨b, o, none⟩ = f := by
  rw [World.frozen?_of_block (a := ⟨b, o, none⟩) (h.block b (World.block_lt_of_cell? w _ hc) (fun e => hb (by cases e; rfl)))]; exact hf

set_option maxRecDepth 1000000 in
set_option maxHeartbeats 4000000 in
theorem reg35 {x0 x1 x3 x4 x5 x6 x7 x8 x10 x11 x13 x14 x16 x17 x18 x19 x20 x21 x22 x23 x24 x25 x26 x27 x28 x29 x30 x31 x32 x33 x34 x35 x36 x37 x38 x39 x40 x41 x42 x43 x44 x45 x46 x47 x48 x49 x50 x51 x52 x53 x54 x55 x56 x57 x58 x59 x60 x61 x62 x63 x64 x65 x66 x67 x68 x69 x70 x71 x72 x73 x74 x75 x76 x77 x78 x79 x80 x81 x82 x83 x84 x85 x86 x87 x88 x89 x90 x91 x92 x93 x94 x95 x96 x97 x98 x99 x100 x101 x102 x103 x104 x105 x106 x107 x108 x109 x110 x111 x112 x113 x114 x115 x116 x117 x118 x119 x120 x121 x122 x123 x124 x125 x126 x127 x128 x129 x130 x131 x132 x133 x134 x135 x136 x137 x138 x139 x140 x141 x142 x143 x144 x145 x146 x147 x148 x149 x150 x151 x152 x153 x154 x155 x156 x157 x158 x159 x160 x161 x162 x163 x164 x165 x166 x167 x168 x169 x170 x171 x172 x173 x174 x175 x176 x177 x178 x179 x180 x181 x182 x183 x184 : Value} (hEl : ElT 68 72 3 40) (gr gs ga g na ca B : Nat) (st : Sp) (sv : Value) (xs : List Value) (V : World) (Q : Exit → Act → World → Prop) (s0 : V.cell? ⟨gs, 0, none⟩ = some (.int .i64 st.x)) (s1 : V.cell? ⟨gs, 1, none⟩ = some (.int .i64 st.y)) (r0 : V.cell? ⟨gr, 0, none⟩ = some (.int .i64 0)) (r1 : V.cell? ⟨gr, 1, none⟩ = some (.int .i64 0)) (f0 : V.frozen? ⟨gr, 0, none⟩ = false) (f1 : V.frozen? ⟨gr, 1, none⟩ = false) (a0 : V.cell? ⟨ga, 0, none⟩ = some sv) (hsv : sv.oneCell' = true) (a1 : V.cell? ⟨ga, 1, none⟩ = some (.int .i64 st.x)) (a2 : V.cell? ⟨ga, 2, none⟩ = some (.int .i64 st.y)) (hown : V.ownsRow B 72 3 (.slice (some ⟨g, 0, none⟩) na ca) na xs) (hB : B ≤ V.heap.size) (hna : na ≤ 4096) (hg1 : gr ≠ g) (hg2 : gs ≠ g) (hg3 : ga ≠ g) (hr2 : gr ≠ gs) (hr3 : gr ≠ ga)
    (h : ∀ (y140 y141 y142 y143 y144 : Value) (g' c' : Nat) (w' : World), w'.ownsRow B 72 3 (.slice (some ⟨g', 0, none⟩) (na + 1) c') (na + 1) (xs ++ [sv, .int .i64 st.x, .int .i64 st.y]) → ((V.alloc (.cells #[sv, .int .i64 st.x, .int .i64 st.y] 72)).drew).grownBy w' (some g) → (g' = g ∨ g' = V.heap.size + 1) → Q .normal ⟨#[x0, x1, .pointer (some ⟨gr, 0, none⟩), .slice (some ⟨g', 0, none⟩) (na + 1) c', .bool true, .bool true, x6, x7, x8, .pointer (some ⟨gs, 0, none⟩), x10, x11, .slice (some ⟨g, 0, none⟩) na ca, x13, x14, .pointer (some ⟨ga, 0, none⟩), x16, x17, x18, x19, x20, x21, x22, x23, x24, x25, x26, x27, x28, x29, x30, x31, x32, x33, x34, x35, x36, x37, x38, x39, x40, x41, x42, x43, x44, x45, x46, x47, x48, x49, x50, x51, x52, x53, x54, x55, x56, x57, x58, x59, x60, x61, x62, x63, x64, x65, x66, x67, x68, x69, x70, x71, x72, x73, x74, x75, x76, x77, x78, x79, x80, x81, x82, x83, x84, x85, x86, x87, x88, x89, x90, x91, x92, x93, x94, x95, x96, x97, x98, x99, x100, x101, x102, x103, x104, x105, x106, x107, x108, x109, x110, x111, x112, x113, x114, x115, x116, x117, x118, x119, x120, x121, x122, x123, x124, x125, x126, x127, x128, x129, x130, x131, x132, x133, x134, x135, x136, x137, x138, x139, y140, y141, y142, y143, y144, x145, x146, x147, x148, x149, x150, x151, x152, x153, x154, x155, x156, x157, x158, x159, x160, x161, x162, x163, x164, x165, x166, x167, x168, x169, x170, x171, x172, x173, x174, x175, x176, x177, x178, x179, x180, x181, x182, x183, x184], []⟩ ((w'.setCell ⟨gr, 0, none⟩ (.int .i64 st.x)).setCell ⟨gr, 1, none⟩ (.int .i64 st.y))) :
    Code.wp Try.prog r35 Q ⟨#[x0, x1, .pointer (some ⟨gr, 0, none⟩), x3, x4, x5, x6, x7, x8, .pointer (some ⟨gs, 0, none⟩), x10, x11, .slice (some ⟨g, 0, none⟩) na ca, x13, x14, .pointer (some ⟨ga, 0, none⟩), x16, x17, x18, x19, x20, x21, x22, x23, x24, x25, x26, x27, x28, x29, x30, x31, x32, x33, x34, x35, x36, x37, x38, x39, x40, x41, x42, x43, x44, x45, x46, x47, x48, x49, x50, x51, x52, x53, x54, x55, x56, x57, x58, x59, x60, x61, x62, x63, x64, x65, x66, x67, x68, x69, x70, x71, x72, x73, x74, x75, x76, x77, x78, x79, x80, x81, x82, x83, x84, x85, x86, x87, x88, x89, x90, x91, x92, x93, x94, x95, x96, x97, x98, x99, x100, x101, x102, x103, x104, x105, x106, x107, x108, x109, x110, x111, x112, x113, x114, x115, x116, x117, x118, x119, x120, x121, x122, x123, x124, x125, x126, x127, x128, x129, x130, x131, x132, x133, x134, x135, x136, x137, x138, x139, x140, x141, x142, x143, x144, x145, x146, x147, x148, x149, x150, x151, x152, x153, x154, x155, x156, x157, x158, x159, x160, x161, x162, x163, x164, x165, x166, x167, x168, x169, x170, x171, x172, x173, x174, x175, x176, x177, x178, x179, x180, x181, x182, x183, x184], []⟩ V := by
  refine only_on ?_
  have H := Lib.hid h
  clear h
  generalize Q .normal = K at *
  have HND : Hid (Below V.heap.size V ((V.alloc (.cells #[sv, .int .i64 st.x, .int .i64 st.y] 72)).drew)) := (show Below V.heap.size V (V.alloc (.cells #[sv, .int .i64 st.x, .int .i64 st.y] 72)) from (Below.refl _ _).alloc (Nat.le_refl _) _) |> fun h => ⟨h.os, h.tape, h.output, h.size, h.block⟩
  have HOD := Lib.hid (own_below hown HND.out)
  have HBD : Hid (B ≤ ((V.alloc (.cells #[sv, .int .i64 st.x, .int .i64 st.y] 72)).drew).heap.size) := Nat.le_trans hB HND.out.size
  have HSD : Hid (Lies ((V.alloc (.cells #[sv, .int .i64 st.x, .int .i64 st.y] 72)).drew) V.heap.size 0 [sv, .int .i64 st.x, .int .i64 st.y]) := lies_new (w := V) (cs := #[sv, .int .i64 st.x, .int .i64 st.y]) (T := 72)
  have HNA := Lib.hid hna
  have HOC : Hid (∀ u ∈ [sv, .int .i64 st.x, .int .i64 st.y], u.oneCell' = true) := by intro u hu; simp at hu; rcases hu with rfl | rfl | rfl <;> first | exact hsv | rfl
  have HR : Hid ((V.alloc (.cells #[sv, .int .i64 st.x, .int .i64 st.y] 72)).drew.cell? ⟨gr, 0, none⟩ = some (.int .i64 0) ∧ (V.alloc (.cells #[sv, .int .i64 st.x, .int .i64 st.y] 72)).drew.cell? ⟨gr, 1, none⟩ = some (.int .i64 0) ∧ (V.alloc (.cells #[sv, .int .i64 st.x, .int .i64 st.y] 72)).drew.frozen? ⟨gr, 0, none⟩ = false ∧ (V.alloc (.cells #[sv, .int .i64 st.x, .int .i64 st.y] 72)).drew.frozen? ⟨gr, 1, none⟩ = false) := ⟨keepC HND.out r0, keepC HND.out r1, keepF HND.out r0 f0, keepF HND.out r1 f1⟩
  have HSA : Hid ((fun V => V.cell? ⟨gs, 0, none⟩ = some (.int .i64 st.x) ∧ V.cell? ⟨gs, 1, none⟩ = some (.int .i64 st.y) ∧ V.cell? ⟨ga, 0, none⟩ = some sv ∧ V.cell? ⟨ga, 1, none⟩ = some (.int .i64 st.x) ∧ V.cell? ⟨ga, 2, none⟩ = some (.int .i64 st.y)) ((V.alloc (.cells #[sv, .int .i64 st.x, .int .i64 st.y] 72)).drew)) := ⟨keepC HND.out s0, keepC HND.out s1, keepC HND.out a0, keepC HND.out a1, keepC HND.out a2⟩
  conv => arg 2; whnf
  refine wp_region_upto (fun V => V.cell? ⟨gs, 0, none⟩ = some (.int .i64 st.x) ∧ V.cell? ⟨gs, 1, none⟩ = some (.int .i64 st.y) ∧ V.cell? ⟨ga, 0, none⟩ = some sv ∧ V.cell? ⟨ga, 1, none⟩ = some (.int .i64 st.x) ∧ V.cell? ⟨ga, 2, none⟩ = some (.int .i64 st.y)) 8 (by kernel_rfl) ⟨s0, s1, a0, a1, a2⟩ (fun hH => ?_)
  clear hown hB hna
  refine wpUpto_take (i := 0) (v := (.agg #[.int .i64 st.x, .int .i64 st.y])) rfl (by kernel_rfl) (by kernel_rfl) (by kernel_rfl) (by kernel_rfl) (fun _ _ _ h => h) (Or.inl ⟨by rfl, fun V hV => by obtain ⟨h0, h1, h2, h3, h4⟩ := hV; go_simp⟩) hH ?_
  try simp only [Act.put, List.setIfInBounds_toArray, List.set_cons_zero, List.set_cons_succ]
  refine wpUpto_take (i := 1) (v := (.slice (some ⟨g, 0, none⟩) na ca)) rfl (by kernel_rfl) (by kernel_rfl) (by kernel_rfl) (by kernel_rfl) (fun _ _ _ h => h) (Or.inl ⟨by rfl, fun V hV => by go_simp⟩) hH ?_
  try simp only [Act.put, List.setIfInBounds_toArray, List.set_cons_zero, List.set_cons_succ]
  refine wpUpto_take (i := 2) (v := (.agg #[sv, .int .i64 st.x, .int .i64 st.y])) rfl (by kernel_rfl) (by kernel_rfl) (by kernel_rfl) (by kernel_rfl) (fun _ _ _ h => h) (Or.inl ⟨by rfl, fun V hV => by obtain ⟨h0, h1, h2, h3, h4⟩ := hV; go_simp⟩) hH ?_
  try simp only [Act.put, List.setIfInBounds_toArray, List.set_cons_zero, List.set_cons_succ]
  clear hH
  refine wpUpto_one (i := 3) (by kernel_rfl) rfl (fun K' hK => ?_)
  go_simp
  refine hK.out _ _ (fun _ => HSA.out) ?_
  clear hK K'
  try simp only [Act.put, List.setIfInBounds_toArray, List.set_cons_zero, List.set_cons_succ]
  refine wpUpto_one (i := 4) (by kernel_rfl) rfl (fun K' hK => ?_)
  refine step_app hEl rfl _ _ rfl ((V.alloc (.cells #[sv, .int .i64 st.x, .int .i64 st.y] 72)).drew) B g ca na xs (some ⟨V.heap.size, 0, none⟩) 1 1 [sv, .int .i64 st.x, .int .i64 st.y] rfl rfl HOD.out rfl (.inr ⟨_, 0, rfl, HSD.out⟩) HOC.out (by have := HNA.out; omega) (by have := HNA.out; omega) HBD.out ?_
  intro g9 c9 w9 ho9 hg9 hat9
  have HS9 : Hid ((fun V => V.cell? ⟨gs, 0, none⟩ = some (.int .i64 st.x) ∧ V.cell? ⟨gs, 1, none⟩ = some (.int .i64 st.y) ∧ V.cell? ⟨ga, 0, none⟩ = some sv ∧ V.cell? ⟨ga, 1, none⟩ = some (.int .i64 st.x) ∧ V.cell? ⟨ga, 2, none⟩ = some (.int .i64 st.y)) w9) := ⟨grown_cell hg9 HSA.out.1 hg2, grown_cell hg9 HSA.out.2.1 hg2, grown_cell hg9 HSA.out.2.2.1 hg3, grown_cell hg9 HSA.out.2.2.2.1 hg3, grown_cell hg9 HSA.out.2.2.2.2 hg3⟩
  refine hK.out _ _ (fun _ => HS9.out) ?_
  clear hK K'
  have HFF : Hid (w9.frozen? ⟨gr, 0, none⟩ = false ∧ w9.frozen? ⟨gr, 1, none⟩ = false) := ⟨grownF hg9 HR.out.1 HR.out.2.2.1 hg1, grownF hg9 HR.out.2.1 HR.out.2.2.2 hg1⟩
  obtain ⟨y2, y3⟩ := HFF.out
  have y0 := grown_cell hg9 HR.out.1 hg1
  have y1 := grown_cell hg9 HR.out.2.1 hg1
  have HSX : Hid ((fun V => V.cell? ⟨gs, 0, none⟩ = some (.int .i64 st.x) ∧ V.cell? ⟨gs, 1, none⟩ = some (.int .i64 st.y) ∧ V.cell? ⟨ga, 0, none⟩ = some sv ∧ V.cell? ⟨ga, 1, none⟩ = some (.int .i64 st.x) ∧ V.cell? ⟨ga, 2, none⟩ = some (.int .i64 st.y)) ((w9.setCell ⟨gr, 0, none⟩ (.int .i64 st.x)).setCell ⟨gr, 1, none⟩ (.int .i64 st.y))) := by
    obtain ⟨h0, h1, h2, h3, h4⟩ := HS9.out
    exact ⟨by rw [keepS hr2, keepS hr2]; exact h0, by rw [keepS hr2, keepS hr2]; exact h1, by rw [keepS hr3, keepS hr3]; exact h2, by rw [keepS hr3, keepS hr3]; exact h3, by rw [keepS hr3, keepS hr3]; exact h4⟩
  have HEND := Lib.hid (fun y140 y141 y142 y143 y144 => H.out y140 y141 y142 y143 y144 g9 c9 w9 ho9 hg9 (by rcases hat9 with h | h; exact .inl h; exact .inr (by simpa using h)))
  clear H ho9 hg9 hat9 HOD HBD HSD HNA HOC HR HSA HS9 HFF s0 s1 r0 r1 f0 f1 a0 a1 a2 hsv hg1 hg2 hg3 hr2 hr3 HND
  try simp only [Act.put, List.setIfInBounds_toArray, List.set_cons_zero, List.set_cons_succ]
  refine wpUpto_one (i := 5) (by kernel_rfl) rfl (fun K' hK => ?_)
  go_simp
  refine hK.out _ _ (fun _ => HSX.out) ?_
  clear hK K'
  try simp only [Act.put, List.setIfInBounds_toArray, List.set_cons_zero, List.set_cons_succ]
  refine wpUpto_one (i := 6) (by kernel_rfl) rfl (fun K' hK => ?_)
  go_simp
  refine hK.out _ _ (fun _ => HSX.out) ?_
  clear hK K'
  try simp only [Act.put, List.setIfInBounds_toArray, List.set_cons_zero, List.set_cons_succ]
  refine wpUpto_one (i := 7) (by kernel_rfl) rfl (fun K' hK => ?_)
  go_simp
  refine hK.out _ _ (fun _ => HSX.out) ?_
  clear hK K'
  try simp only [Act.put, List.setIfInBounds_toArray, List.set_cons_zero, List.set_cons_succ]
  refine wpUpto_one (i := 8) (by kernel_rfl) rfl (fun K' hK => ?_)
  go_simp
  refine hK.out _ _ (fun h => absurd rfl h) ?_
  clear hK K'
  try simp only [Act.put, List.setIfInBounds_toArray, List.set_cons_zero, List.set_cons_succ]
  refine wpUpto_done (by kernel_rfl) ?_ _
  exact HEND.out _ _ _ _ _

end Go.Proofs.Ythjhekmlhmljlaa

namespace Go.Proofs.Ythjhekmlhmljlaa
open Go.RowKit Go.PlainAid
set_option linter.unusedSimpArgs false
set_option linter.unusedVariables false

set_option maxRecDepth 1000000 in
set_option maxHeartbeats 4000000 in
theorem reg31 {x0 x1 x2 x3 x4 x5 x6 x7 x8 x9 x11 x12 x13 x14 x16 x17 x18 x19 x20 x21 x22 x23 x24 x25 x26 x27 x28 x29 x30 x31 x32 x33 x34 x35 x36 x37 x38 x39 x40 x41 x42 x43 x44 x45 x46 x47 x48 x49 x50 x51 x52 x53 x54 x55 x56 x57 x58 x59 x60 x61 x62 x63 x64 x65 x66 x67 x68 x69 x70 x71 x72 x73 x74 x75 x76 x77 x78 x79 x80 x81 x82 x83 x84 x85 x86 x87 x88 x89 x90 x91 x92 x93 x94 x95 x96 x97 x98 x99 x100 x101 x102 x103 x104 x105 x106 x107 x108 x109 x110 x111 x112 x113 x114 x115 x116 x117 x118 x119 x120 x121 x122 x123 x124 x125 x126 x127 x128 x129 x130 x131 x132 x133 x134 x135 x136 x137 x138 x139 x140 x141 x142 x143 x144 x145 x146 x147 x148 x149 x150 x151 x152 x153 x154 x155 x156 x157 x158 x159 x160 x161 x162 x163 x164 x165 x166 x167 x168 x169 x170 x171 x172 x173 x174 x175 x176 x177 x178 x179 x180 x181 x182 x183 x184 : Value} (b off m cl ga gc B : Nat) (d : Kn) (xs : List Value) (V : World) (Q : Exit → Act → World → Prop) (k0 : V.cell? ⟨b, off, none⟩ = some (.int .i64 d.x)) (k1 : V.cell? ⟨b, off + 1, none⟩ = some (.int .i64 d.y)) (a0 : V.cell? ⟨ga, 0, none⟩ = some (.slice (some ⟨gc, 0, none⟩) 1 1)) (f0 : V.frozen? ⟨ga, 0, none⟩ = false) (hown : V.ownsRow B 47 2 (.slice (some ⟨gc, 0, none⟩) 1 1) 1 xs) (hB : B ≤ V.heap.size) (hg1 : ga ≠ gc) (hg2 : b ≠ gc)
    (h : ∀ (y119 y120 y121 y122 y123 y124 y125 y126 y127 y128 y129 y130 y131 y132 : Value) (g' c' : Nat) (w' : World), w'.ownsRow B 47 2 (.slice (some ⟨g', 0, none⟩) (1 + 1) c') (1 + 1) (xs ++ [.int .i64 d.x, .int .i64 d.y]) → ((V.alloc (.cells #[.int .i64 d.x, .int .i64 d.y] 47)).drew).grownBy w' (some gc) → (g' = gc ∨ g' = V.heap.size + 1) → Q .normal ⟨#[x0, x1, x2, x3, x4, x5, x6, x7, x8, x9, .slice (some ⟨b, off, none⟩) (m + 1) cl, x11, x12, x13, x14, .pointer (some ⟨ga, 0, none⟩), x16, x17, x18, x19, x20, x21, x22, x23, x24, x25, x26, x27, x28, x29, x30, x31, x32, x33, x34, x35, x36, x37, x38, x39, x40, x41, x42, x43, x44, x45, x46, x47, x48, x49, x50, x51, x52, x53, x54, x55, x56, x57, x58, x59, x60, x61, x62, x63, x64, x65, x66, x67, x68, x69, x70, x71, x72, x73, x74, x75, x76, x77, x78, x79, x80, x81, x82, x83, x84, x85, x86, x87, x88, x89, x90, x91, x92, x93, x94, x95, x96, x97, x98, x99, x100, x101, x102, x103, x104, x105, x106, x107, x108, x109, x110, x111, x112, x113, x114, x115, x116, x117, x118, y119, y120, y121, y122, y123, y124, y125, y126, y127, y128, y129, y130, y131, y132, x133, x134, x135, x136, x137, x138, x139, x140, x141, x142, x143, x144, x145, x146, x147, x148, x149, x150, x151, x152, x153, x154, x155, x156, x157, x158, x159, x160, x161, x162, x163, x164, x165, x166, x167, x168, x169, x170, x171, x172, x173, x174, x175, x176, x177, x178, x179, x180, x181, x182, x183, x184], []⟩ (w'.setCell ⟨ga, 0, none⟩ (.slice (some ⟨g', 0, none⟩) (1 + 1) c'))) :
    Code.wp Try.prog r31 Q ⟨#[x0, x1, x2, x3, x4, x5, x6, x7, x8, x9, .slice (some ⟨b, off, none⟩) (m + 1) cl, x11, x12, x13, x14, .pointer (some ⟨ga, 0, none⟩), x16, x17, x18, x19, x20, x21, x22, x23, x24, x25, x26, x27, x28, x29, x30, x31, x32, x33, x34, x35, x36, x37, x38, x39, x40, x41, x42, x43, x44, x45, x46, x47, x48, x49, x50, x51, x52, x53, x54, x55, x56, x57, x58, x59, x60, x61, x62, x63, x64, x65, x66, x67, x68, x69, x70, x71, x72, x73, x74, x75, x76, x77, x78, x79, x80, x81, x82, x83, x84, x85, x86, x87, x88, x89, x90, x91, x92, x93, x94, x95, x96, x97, x98, x99, x100, x101, x102, x103, x104, x105, x106, x107, x108, x109, x110, x111, x112, x113, x114, x115, x116, x117, x118, x119, x120, x121, x122, x123, x124, x125, x126, x127, x128, x129, x130, x131, x132, x133, x134, x135, x136, x137, x138, x139, x140, x141, x142, x143, x144, x145, x146, x147, x148, x149, x150, x151, x152, x153, x154, x155, x156, x157, x158, x159, x160, x161, x162, x163, x164, x165, x166, x167, x168, x169, x170, x171, x172, x173, x174, x175, x176, x177, x178, x179, x180, x181, x182, x183, x184], []⟩ V := by
  refine only_on ?_
  have H := Lib.hid h
  clear h
  generalize Q .normal = K at *
  have hm0 : (0 : Int) < ((m : Int) + 1) := by omega
  have HND : Hid (Below V.heap.size V ((V.alloc (.cells #[.int .i64 d.x, .int .i64 d.y] 47)).drew)) := (show Below V.heap.size V (V.alloc (.cells #[.int .i64 d.x, .int .i64 d.y] 47)) from (Below.refl _ _).alloc (Nat.le_refl _) _) |> fun h => ⟨h.os, h.tape, h.output, h.size, h.block⟩
  have HOD := Lib.hid (own_below hown HND.out)
  have HBD : Hid (B ≤ ((V.alloc (.cells #[.int .i64 d.x, .int .i64 d.y] 47)).drew).heap.size) := Nat.le_trans hB HND.out.size
  have HSD : Hid (Lies ((V.alloc (.cells #[.int .i64 d.x, .int .i64 d.y] 47)).drew) V.heap.size 0 [.int .i64 d.x, .int .i64 d.y]) := lies_new (w := V) (cs := #[.int .i64 d.x, .int .i64 d.y]) (T := 47)
  have HR : Hid (((V.alloc (.cells #[.int .i64 d.x, .int .i64 d.y] 47)).drew).frozen? ⟨ga, 0, none⟩ = false) := keepF HND.out a0 f0
  have HSA : Hid ((fun V => V.cell? ⟨b, off, none⟩ = some (.int .i64 d.x) ∧ V.cell? ⟨b, off + 1, none⟩ = some (.int .i64 d.y) ∧ V.cell? ⟨ga, 0, none⟩ = some (.slice (some ⟨gc, 0, none⟩) 1 1)) ((V.alloc (.cells #[.int .i64 d.x, .int .i64 d.y] 47)).drew)) := ⟨keepC HND.out k0, keepC HND.out k1, keepC HND.out a0⟩
  conv => arg 2; whnf
  refine wp_region_upto (fun V => V.cell? ⟨b, off, none⟩ = some (.int .i64 d.x) ∧ V.cell? ⟨b, off + 1, none⟩ = some (.int .i64 d.y) ∧ V.cell? ⟨ga, 0, none⟩ = some (.slice (some ⟨gc, 0, none⟩) 1 1)) 14 (by kernel_rfl) ⟨k0, k1, a0⟩ (fun hH => ?_)
  clear hown hB
  refine wpUpto_take (i := 0) (v := (.pointer (some ⟨ga, 0, none⟩))) rfl (by kernel_rfl) (by kernel_rfl) (by kernel_rfl) (by kernel_rfl) (fun _ _ _ h => h) (Or.inl ⟨by rfl, fun V hV => by go_simp⟩) hH ?_
  try simp only [Act.put, List.setIfInBounds_toArray, List.set_cons_zero, List.set_cons_succ]
  refine wpUpto_take (i := 1) (v := (.slice (some ⟨gc, 0, none⟩) 1 1)) rfl (by kernel_rfl) (by kernel_rfl) (by kernel_rfl) (by kernel_rfl) (fun _ _ _ h => h) (Or.inl ⟨by rfl, fun V hV => by obtain ⟨h0, h1, h2⟩ := hV; go_simp⟩) hH ?_
  try simp only [Act.put, List.setIfInBounds_toArray, List.set_cons_zero, List.set_cons_succ]
  refine wpUpto_take (i := 2) (v := (.slice (some ⟨b, off, none⟩) (m + 1) cl)) rfl (by kernel_rfl) (by kernel_rfl) (by kernel_rfl) (by kernel_rfl) (fun _ _ _ h => h) (Or.inl ⟨by rfl, fun V hV => by go_simp⟩) hH ?_
  try simp only [Act.put, List.setIfInBounds_toArray, List.set_cons_zero, List.set_cons_succ]
  refine wpUpto_take (i := 3) (v := (.pointer (some ⟨b, off, none⟩))) rfl (by kernel_rfl) (by kernel_rfl) (by kernel_rfl) (by kernel_rfl) (fun _ _ _ h => h) (Or.inl ⟨by rfl, fun V hV => by go_simp⟩) hH ?_
  try simp only [Act.put, List.setIfInBounds_toArray, List.set_cons_zero, List.set_cons_succ]
  refine wpUpto_take (i := 4) (v := (.pointer (some ⟨b, off, none⟩))) rfl (by kernel_rfl) (by kernel_rfl) (by kernel_rfl) (by kernel_rfl) (fun _ _ _ h => h) (Or.inl ⟨by rfl, fun V hV => by go_simp⟩) hH ?_
  try simp only [Act.put, List.setIfInBounds_toArray, List.set_cons_zero, List.set_cons_succ]
  refine wpUpto_take (i := 5) (v := (.int .i64 d.x)) rfl (by kernel_rfl) (by kernel_rfl) (by kernel_rfl) (by kernel_rfl) (fun _ _ _ h => h) (Or.inl ⟨by rfl, fun V hV => by obtain ⟨h0, h1, h2⟩ := hV; go_simp⟩) hH ?_
  try simp only [Act.put, List.setIfInBounds_toArray, List.set_cons_zero, List.set_cons_succ]
  refine wpUpto_take (i := 6) (v := (.slice (some ⟨b, off, none⟩) (m + 1) cl)) rfl (by kernel_rfl) (by kernel_rfl) (by kernel_rfl) (by kernel_rfl) (fun _ _ _ h => h) (Or.inl ⟨by rfl, fun V hV => by go_simp⟩) hH ?_
  try simp only [Act.put, List.setIfInBounds_toArray, List.set_cons_zero, List.set_cons_succ]
  refine wpUpto_take (i := 7) (v := (.pointer (some ⟨b, off, none⟩))) rfl (by kernel_rfl) (by kernel_rfl) (by kernel_rfl) (by kernel_rfl) (fun _ _ _ h => h) (Or.inl ⟨by rfl, fun V hV => by go_simp⟩) hH ?_
  try simp only [Act.put, List.setIfInBounds_toArray, List.set_cons_zero, List.set_cons_succ]
  refine wpUpto_take (i := 8) (v := (.pointer (some ⟨b, off + 1, none⟩))) rfl (by kernel_rfl) (by kernel_rfl) (by kernel_rfl) (by kernel_rfl) (fun _ _ _ h => h) (Or.inl ⟨by rfl, fun V hV => by go_simp⟩) hH ?_
  try simp only [Act.put, List.setIfInBounds_toArray, List.set_cons_zero, List.set_cons_succ]
  refine wpUpto_take (i := 9) (v := (.int .i64 d.y)) rfl (by kernel_rfl) (by kernel_rfl) (by kernel_rfl) (by kernel_rfl) (fun _ _ _ h => h) (Or.inl ⟨by rfl, fun V hV => by obtain ⟨h0, h1, h2⟩ := hV; go_simp⟩) hH ?_
  try simp only [Act.put, List.setIfInBounds_toArray, List.set_cons_zero, List.set_cons_succ]
  refine wpUpto_take (i := 10) (v := (.agg #[.int .i64 d.x, .int .i64 d.y])) rfl (by kernel_rfl) (by kernel_rfl) (by kernel_rfl) (by kernel_rfl) (fun _ _ _ h => h) (Or.inl ⟨by rfl, fun V hV => by go_simp⟩) hH ?_
  try simp only [Act.put, List.setIfInBounds_toArray, List.set_cons_zero, List.set_cons_succ]
  clear hH
  refine wpUpto_one (i := 11) (by kernel_rfl) rfl (fun K' hK => ?_)
  go_simp
  refine hK.out _ _ (fun _ => HSA.out) ?_
  clear hK K'
  try simp only [Act.put, List.setIfInBounds_toArray, List.set_cons_zero, List.set_cons_succ]
  refine wpUpto_one (i := 12) (by kernel_rfl) rfl (fun K' hK => ?_)
  refine step_app elS rfl _ _ rfl ((V.alloc (.cells #[.int .i64 d.x, .int .i64 d.y] 47)).drew) B gc 1 1 xs (some ⟨V.heap.size, 0, none⟩) 1 1 [.int .i64 d.x, .int .i64 d.y] rfl rfl HOD.out rfl (.inr ⟨_, 0, rfl, HSD.out⟩) (by simp [Value.oneCell']) (by omega) (by omega) HBD.out ?_
  intro g9 c9 w9 ho9 hg9 hat9
  have HS9 : Hid ((fun V => V.cell? ⟨b, off, none⟩ = some (.int .i64 d.x) ∧ V.cell? ⟨b, off + 1, none⟩ = some (.int .i64 d.y) ∧ V.cell? ⟨ga, 0, none⟩ = some (.slice (some ⟨gc, 0, none⟩) 1 1)) w9) := ⟨grown_cell hg9 HSA.out.1 hg2, grown_cell hg9 HSA.out.2.1 hg2, grown_cell hg9 HSA.out.2.2 hg1⟩
  refine hK.out _ _ (fun _ => HS9.out) ?_
  clear hK K'
  have y2 : w9.frozen? ⟨ga, 0, none⟩ = false := grownF hg9 HSA.out.2.2 HR.out hg1
  have y0 := HS9.out.2.2
  have HEND := Lib.hid (fun y119 y120 y121 y122 y123 y124 y125 y126 y127 y128 y129 y130 y131 y132 => H.out y119 y120 y121 y122 y123 y124 y125 y126 y127 y128 y129 y130 y131 y132 g9 c9 w9 ho9 hg9 (by rcases hat9 with h | h; exact .inl h; exact .inr (by simpa using h)))
  clear H ho9 hg9 hat9 HOD HBD HSD HR HSA k0 k1 a0 f0 hg1 hg2 HND
  try simp only [Act.put, List.setIfInBounds_toArray, List.set_cons_zero, List.set_cons_succ]
  refine wpUpto_one (i := 13) (by kernel_rfl) rfl (fun K' hK => ?_)
  go_simp
  refine hK.out _ _ (fun _ => HS9.out) ?_
  clear hK K'
  try simp only [Act.put, List.setIfInBounds_toArray, List.set_cons_zero, List.set_cons_succ]
  refine wpUpto_one (i := 14) (by kernel_rfl) rfl (fun K' hK => ?_)
  go_simp
  refine hK.out _ _ (fun h => absurd rfl h) ?_
  clear hK K'
  try simp only [Act.put, List.setIfInBounds_toArray, List.set_cons_zero, List.set_cons_succ]
  refine wpUpto_done (by kernel_rfl) ?_ _
  exact HEND.out _ _ _ _ _ _ _ _ _ _ _ _ _ _

end Go.Proofs.Ythjhekmlhmljlaa

namespace Go.Proofs.Ythjhekmlhmljlaa
open Go.RowKit Go.PlainAid
set_option linter.unusedSimpArgs false
set_option linter.unusedVariables false

theorem refmid_v (a b : Kn) (m : Sp) (w : World) (ha : FixS a.sp) (hb : FixS b.sp) (hm : mid a.sp b.sp = m) : Calls Try.prog 53 #[.agg #[.int .i64 a.x, .int .i64 a.y, .int .i64 a.k], .agg #[.int .i64 b.x, .int .i64 b.y, .int .i64 b.k]] w fun e w' => e = .returned (.agg #[.int .i64 m.x, .int .i64 m.y]) ∧ Below w.heap.size w w' := by
  subst hm
  exact refmiddle_c a b w ha hb

set_option maxRecDepth 1000000 in
set_option maxHeartbeats 4000000 in
theorem reg40 {x0 x1 x2 x3 x4 x5 x6 x7 x8 x9 x11 x12 x14 x16 x17 x18 x19 x20 x21 x22 x23 x24 x25 x26 x27 x28 x29 x30 x31 x32 x33 x34 x35 x36 x37 x38 x39 x40 x41 x42 x43 x44 x45 x46 x47 x48 x49 x50 x51 x52 x53 x54 x55 x56 x57 x58 x59 x60 x61 x62 x63 x64 x65 x66 x67 x68 x69 x70 x71 x72 x73 x74 x75 x76 x77 x78 x79 x80 x81 x82 x83 x84 x85 x86 x87 x88 x89 x90 x91 x92 x93 x94 x95 x96 x97 x98 x99 x100 x101 x102 x103 x104 x105 x106 x107 x108 x109 x110 x111 x112 x113 x114 x115 x116 x117 x118 x119 x120 x121 x122 x123 x124 x125 x126 x127 x128 x129 x130 x131 x132 x133 x134 x135 x136 x137 x138 x139 x140 x141 x142 x143 x144 x145 x146 x147 x148 x149 x150 x151 x152 x153 x154 x155 x156 x157 x158 x159 x160 x161 x162 x163 x164 x165 x166 x167 x168 x169 x170 x171 x172 x173 x174 x175 x176 x177 x178 x179 x180 x181 x182 x183 x184 : Value} (b off m cl ga gk : Nat) (k e : Kn) (p : Sp) (V : World) (Q : Exit → Act → World → Prop) (hk : FixS k.sp) (he : FixS e.sp) (hp : mid k.sp e.sp = p) (k0 : V.cell? ⟨gk, 0, none⟩ = some (.int .i64 k.x)) (k1 : V.cell? ⟨gk, 1, none⟩ = some (.int .i64 k.y)) (k2 : V.cell? ⟨gk, 2, none⟩ = some (.int .i64 k.k)) (e0 : V.cell? ⟨b, off, none⟩ = some (.int .i64 e.x)) (e1 : V.cell? ⟨b, off + 1, none⟩ = some (.int .i64 e.y)) (e2 : V.cell? ⟨b, off + 2, none⟩ = some (.int .i64 e.k)) (a1 : V.cell? ⟨ga, 1, none⟩ = some (.int .i64 0)) (a2 : V.cell? ⟨ga, 2, none⟩ = some (.int .i64 0)) (f1 : V.frozen? ⟨ga, 1, none⟩ = false) (f2 : V.frozen? ⟨ga, 2, none⟩ = false)
    (h : ∀ (y172 y173 y174 y175 y176 y177 : Value) (w' : World), Below V.heap.size V w' → Q .normal ⟨#[x0, x1, x2, x3, x4, x5, x6, x7, x8, x9, .slice (some ⟨b, off, none⟩) (m + 1) cl, x11, x12, .pointer (some ⟨gk, 0, none⟩), x14, .pointer (some ⟨ga, 0, none⟩), x16, x17, x18, x19, x20, x21, x22, x23, x24, x25, x26, x27, x28, x29, x30, x31, x32, x33, x34, x35, x36, x37, x38, x39, x40, x41, x42, x43, x44, x45, x46, x47, x48, x49, x50, x51, x52, x53, x54, x55, x56, x57, x58, x59, x60, x61, x62, x63, x64, x65, x66, x67, x68, x69, x70, x71, x72, x73, x74, x75, x76, x77, x78, x79, x80, x81, x82, x83, x84, x85, x86, x87, x88, x89, x90, x91, x92, x93, x94, x95, x96, x97, x98, x99, x100, x101, x102, x103, x104, x105, x106, x107, x108, x109, x110, x111, x112, x113, x114, x115, x116, x117, x118, x119, x120, x121, x122, x123, x124, x125, x126, x127, x128, x129, x130, x131, x132, x133, x134, x135, x136, x137, x138, x139, x140, x141, x142, x143, x144, x145, x146, x147, x148, x149, x150, x151, x152, x153, x154, x155, x156, x157, x158, x159, x160, x161, x162, x163, x164, x165, x166, x167, x168, x169, x170, x171, y172, y173, y174, y175, y176, y177, x178, x179, x180, x181, x182, x183, x184], []⟩ ((w'.setCell ⟨ga, 1, none⟩ (.int .i64 p.x)).setCell ⟨ga, 2, none⟩ (.int .i64 p.y))) :
    Code.wp Try.prog r40 Q ⟨#[x0, x1, x2, x3, x4, x5, x6, x7, x8, x9, .slice (some ⟨b, off, none⟩) (m + 1) cl, x11, x12, .pointer (some ⟨gk, 0, none⟩), x14, .pointer (some ⟨ga, 0, none⟩), x16, x17, x18, x19, x20, x21, x22, x23, x24, x25, x26, x27, x28, x29, x30, x31, x32, x33, x34, x35, x36, x37, x38, x39, x40, x41, x42, x43, x44, x45, x46, x47, x48, x49, x50, x51, x52, x53, x54, x55, x56, x57, x58, x59, x60, x61, x62, x63, x64, x65, x66, x67, x68, x69, x70, x71, x72, x73, x74, x75, x76, x77, x78, x79, x80, x81, x82, x83, x84, x85, x86, x87, x88, x89, x90, x91, x92, x93, x94, x95, x96, x97, x98, x99, x100, x101, x102, x103, x104, x105, x106, x107, x108, x109, x110, x111, x112, x113, x114, x115, x116, x117, x118, x119, x120, x121, x122, x123, x124, x125, x126, x127, x128, x129, x130, x131, x132, x133, x134, x135, x136, x137, x138, x139, x140, x141, x142, x143, x144, x145, x146, x147, x148, x149, x150, x151, x152, x153, x154, x155, x156, x157, x158, x159, x160, x161, x162, x163, x164, x165, x166, x167, x168, x169, x170, x171, x172, x173, x174, x175, x176, x177, x178, x179, x180, x181, x182, x183, x184], []⟩ V := by
  refine only_on ?_
  have H := Lib.hid h
  clear h
  generalize Q .normal = K at *
  have hm0 : (0 : Int) < ((m : Int) + 1) := by omega
  have HK := Lib.hid hk
  have HE := Lib.hid he
  have HP := Lib.hid hp
  clear hk he hp
  conv => arg 2; whnf
  refine wp_region_upto (fun V => V.cell? ⟨gk, 0, none⟩ = some (.int .i64 k.x) ∧ V.cell? ⟨gk, 1, none⟩ = some (.int .i64 k.y) ∧ V.cell? ⟨gk, 2, none⟩ = some (.int .i64 k.k) ∧ V.cell? ⟨b, off, none⟩ = some (.int .i64 e.x) ∧ V.cell? ⟨b, off + 1, none⟩ = some (.int .i64 e.y) ∧ V.cell? ⟨b, off + 2, none⟩ = some (.int .i64 e.k)) 6 (by kernel_rfl) ⟨k0, k1, k2, e0, e1, e2⟩ (fun hH => ?_)
  refine wpUpto_take (i := 0) (v := (.agg #[.int .i64 k.x, .int .i64 k.y, .int .i64 k.k])) rfl (by kernel_rfl) (by kernel_rfl) (by kernel_rfl) (by kernel_rfl) (fun _ _ _ h => h) (Or.inl ⟨by rfl, fun V hV => by obtain ⟨h0, h1, h2, h3, h4, h5⟩ := hV; go_simp⟩) hH ?_
  try simp only [Act.put, List.setIfInBounds_toArray, List.set_cons_zero, List.set_cons_succ]
  refine wpUpto_take (i := 1) (v := (.slice (some ⟨b, off, none⟩) (m + 1) cl)) rfl (by kernel_rfl) (by kernel_rfl) (by kernel_rfl) (by kernel_rfl) (fun _ _ _ h => h) (Or.inl ⟨by rfl, fun V hV => by go_simp⟩) hH ?_
  try simp only [Act.put, List.setIfInBounds_toArray, List.set_cons_zero, List.set_cons_succ]
  refine wpUpto_take (i := 2) (v := (.pointer (some ⟨b, off, none⟩))) rfl (by kernel_rfl) (by kernel_rfl) (by kernel_rfl) (by kernel_rfl) (fun _ _ _ h => h) (Or.inl ⟨by rfl, fun V hV => by go_simp⟩) hH ?_
  try simp only [Act.put, List.setIfInBounds_toArray, List.set_cons_zero, List.set_cons_succ]
  refine wpUpto_take (i := 3) (v := (.agg #[.int .i64 e.x, .int .i64 e.y, .int .i64 e.k])) rfl (by kernel_rfl) (by kernel_rfl) (by kernel_rfl) (by kernel_rfl) (fun _ _ _ h => h) (Or.inl ⟨by rfl, fun V hV => by obtain ⟨h0, h1, h2, h3, h4, h5⟩ := hV; go_simp⟩) hH ?_
  try simp only [Act.put, List.setIfInBounds_toArray, List.set_cons_zero, List.set_cons_succ]
  clear hH
  refine wpUpto_one (i := 4) (by kernel_rfl) rfl (fun K' hK => ?_)
  go_simp
  go_at_call 53
  refine (refmid_v k e p _ HK.out HE.out HP.out).mono ?_
  rintro ed w6 ⟨rfl, hb6⟩
  have HB6 : Hid (Below V.heap.size V w6) := ⟨hb6.os, hb6.tape, hb6.output, hb6.size, hb6.block⟩
  go_simp
  have HS9 : Hid ((fun V => V.cell? ⟨gk, 0, none⟩ = some (.int .i64 k.x) ∧ V.cell? ⟨gk, 1, none⟩ = some (.int .i64 k.y) ∧ V.cell? ⟨gk, 2, none⟩ = some (.int .i64 k.k) ∧ V.cell? ⟨b, off, none⟩ = some (.int .i64 e.x) ∧ V.cell? ⟨b, off + 1, none⟩ = some (.int .i64 e.y) ∧ V.cell? ⟨b, off + 2, none⟩ = some (.int .i64 e.k)) w6) := ⟨keepC HB6.out k0, keepC HB6.out k1, keepC HB6.out k2, keepC HB6.out e0, keepC HB6.out e1, keepC HB6.out e2⟩
  refine hK.out _ _ (fun _ => HS9.out) ?_
  clear hK K' hb6
  have y0 := keepC HB6.out a1
  have y1 := keepC HB6.out a2
  have y2 := keepF HB6.out a1 f1
  have y3 := keepF HB6.out a2 f2
  have HEND := Lib.hid (fun y172 y173 y174 y175 y176 y177 => H.out y172 y173 y174 y175 y176 y177 w6 HB6.out)
  clear H HB6 k0 k1 k2 e0 e1 e2 a1 a2 f1 f2 HK HE HP
  try simp only [Act.put, List.setIfInBounds_toArray, List.set_cons_zero, List.set_cons_succ]
  refine wpUpto_one (i := 5) (by kernel_rfl) rfl (fun K' hK => ?_)
  go_simp
  refine hK.out _ _ (fun _ => HS9.out) ?_
  clear hK K'
  try simp only [Act.put, List.setIfInBounds_toArray, List.set_cons_zero, List.set_cons_succ]
  refine wpUpto_one (i := 6) (by kernel_rfl) rfl (fun K' hK => ?_)
  go_simp
  refine hK.out _ _ (fun h => absurd rfl h) ?_
  clear hK K'
  try simp only [Act.put, List.setIfInBounds_toArray, List.set_cons_zero, List.set_cons_succ]
  refine wpUpto_done (by kernel_rfl) ?_ _
  exact HEND.out _ _ _ _ _ _

end Go.Proofs.Ythjhekmlhmljlaa

namespace Go.Proofs.Ythjhekmlhmljlaa
open Go.RowKit Go.PlainAid
set_option linter.unusedSimpArgs false
set_option linter.unusedVariables false

def sliceLen : Value → Nat
  | .slice _ n _ => n
  | _ => 0
/-- What Arcs works with: its answer's place, the start. -/
structure PreW (w V : World) (st : Sp) : Prop where
  s0 : V.cell? ⟨w.heap.size + 1, 0, none⟩ = some (.int .i64 st.x)
  s1 : V.cell? ⟨w.heap.size + 1, 1, none⟩ = some (.int .i64 st.y)
  z0 : V.frozen? ⟨w.heap.size + 1, 0, none⟩ = false
  z1 : V.frozen? ⟨w.heap.size + 1, 1, none⟩ = false
  r0 : V.cell? ⟨w.heap.size, 0, none⟩ = some (.int .i64 0)
  r1 : V.cell? ⟨w.heap.size, 1, none⟩ = some (.int .i64 0)
  f0 : V.frozen? ⟨w.heap.size, 0, none⟩ = false
  f1 : V.frozen? ⟨w.heap.size, 1, none⟩ = false
  bel : Below w.heap.size w V
theorem PreW.below {w V V' : World} {st : Sp} (h : PreW w V st) (k : Below V.heap.size V V') : PreW w V' st :=
  ⟨keepC k h.s0, keepC k h.s1, keepF k h.s0 h.z0, keepF k h.s1 h.z1, keepC k h.r0, keepC k h.r1, keepF k h.r0 h.f0, keepF k h.r1 h.f1, bel_next h.bel k⟩
theorem grown_frozen {w a : World} {g b o : Nat} {v : Value} {f : Bool} (h : w.grownBy a (some g)) (hc : w.cell? ⟨b, o, none⟩ = some v) (hf : w.frozen? ⟨b, o, none⟩ = f) (hb : b ≠ g) : a.frozen? ⟨b, o, none⟩ = f := by
  rw [World.frozen?_of_block (a := ⟨b, o, none⟩) (h.block b (World.block_lt_of_cell? w _ hc) (fun e => hb (by cases e; rfl)))]; exact hf
theorem PreW.grown {w V V' : World} {st : Sp} {g : Nat} (h : PreW w V st) (k : V.grownBy V' (some g)) (hg : w.heap.size + 2 ≤ g) : PreW w V' st :=
  ⟨grown_cell k h.s0 (by omega), grown_cell k h.s1 (by omega), grown_frozen k h.s0 h.z0 (by omega), grown_frozen k h.s1 h.z1 (by omega), grown_cell k h.r0 (by omega), grown_cell k h.r1 (by omega), grown_frozen k h.r0 h.f0 (by omega), grown_frozen k h.r1 h.f1 (by omega),
    belGrown h.bel k (by omega) h.bel.size⟩
theorem PreW.start {w V : World} {st s : Sp} (h : PreW w V st) : PreW w ((V.setCell ⟨w.heap.size + 1, 0, none⟩ (.int .i64 s.x)).setCell ⟨w.heap.size + 1, 1, none⟩ (.int .i64 s.y)) s := by
  obtain ⟨s0, s1, z0, z1, r0, r1, f0, f1, bel⟩ := h
  have hl := World.block_lt_of_cell? V _ s0
  refine ⟨by simp [go_sem, s0, s1], by simp [go_sem, s0, s1], by simp [go_sem, z0], by simp [go_sem, z1], by simp [go_sem, r0], by simp [go_sem, r1], by simp [go_sem, f0], by simp [go_sem, f1], bel_set (bel_set bel (by omega) _) (by omega) _⟩
theorem PreW.drew {w V : World} {st : Sp} (h : PreW w V st) : PreW w V.drew st := ⟨h.s0, h.s1, h.z0, h.z1, h.r0, h.r1, h.f0, h.f1, ⟨h.bel.os, h.bel.tape, h.bel.output, h.bel.size, h.bel.block⟩⟩
theorem own_lower {w : World} {B B' : Nat} {e : TypeId} {s n : Nat} {v : Value} {xs : List Value} (h : w.ownsRow B e s v n xs) (hB : B' ≤ B) : w.ownsRow B' e s v n xs := by
  refine ⟨h.1, ?_⟩
  rcases h.2 with hn | ⟨g, cap, cur, hv, hb, rest⟩
  · exact .inl hn
  · exact .inr ⟨g, cap, cur, hv, Nat.le_trans hB hb, rest⟩
theorem ArcsAt.base {w : World} {B B' g n c : Nat} {zs : List ArcZ} (h : ArcsAt w B g n c zs) (hB : B' ≤ B) : ArcsAt w B' g n c zs := by
  refine ⟨own_lower h.own hB, h.len, fun z hz => ?_⟩
  rcases h.ctl z hz with h | ⟨b, h1, h2, h3, h4⟩
  · exact .inl h
  · exact .inr ⟨b, h1, h2, Nat.le_trans hB h3, h4⟩
theorem ArcsAt.low {w : World} {B g n c b o : Nat} {zs : List ArcZ} (h : ArcsAt w B g n c zs) (hb : b < B) (u : Value) : ArcsAt (w.setCell ⟨b, o, none⟩ u) B g n c zs := by
  have hg := (ownsRow_cap h.own).2.1
  refine ⟨own_set h.own _ _ (by show b ≠ g; omega), h.len, fun z hz => ?_⟩
  rcases h.ctl z hz with h | ⟨b', h1, h2, h3, h4⟩
  · exact .inl h
  · exact .inr ⟨b', h1, h2, h3, fun j v hj => by rw [keepS (by omega)]; exact h4 j v hj⟩
theorem goodK_tail {k : Kn} {l : List Kn} (h : GoodK (k :: l)) : GoodK l := fun x hx => h x (List.mem_cons_of_mem _ hx)
theorem isR_tail {w : World} {b off : Nat} {k : Kn} {l : List Kn} (h : IsR clK w (some ⟨b, off, none⟩) (k :: l)) : IsR clK w (some ⟨b, off + 3, none⟩) l := by
  have := h.drop clK_length 1
  simpa using this
theorem pred64 {i : Nat} (h : i ≤ 4096) : wrap64 ((i : Int) - 1) = (i : Int) - 1 := by unfold wrap64; omega

/-- Arcs may return so. -/
def RetP (w : World) (st : Sp) (L : List Kn) (a : Act) (w' : World) : Prop := a.defers = [] ∧ ∃ v, (results Try.f37 a.tmps).run Try.prog w' = .ok v w' ∧ RunArcs w st (arcsL st L) (.returned v) w'
/-- Ahead of a round: the knots to come, the arcs so far. -/
structure Rel3 (w8 : World) (st : Sp) (L : List Kn) (wr : World) (l : List Kn) (al : Option Addr) (m cl g na ca : Nat) (zs : List ArcZ) : Prop where
  len : l.length = m
  room : m ≤ cl
  few : na + m ≤ 4096
  isR : IsR clK w8 al l
  good : GoodK l
  arcs : ArcsAt wr w8.heap.size g na ca zs
  up : Upto st L zs l
  bel : Below w8.heap.size w8 wr
/-- What stands when the controls are there. -/
structure TailW (w w8 wr V : World) (st : Sp) (g na ca : Nat) (zs : List ArcZ) (k : Kn) (cs : List Sp) (gk ga gc cc : Nat) : Prop where
  pre : PreW w wr st
  arcs : ArcsAt wr w8.heap.size g na ca zs
  bel : Below w8.heap.size w8 wr
  ws : w.heap.size + 1 < w8.heap.size
  up : Below wr.heap.size wr V
  hk : wr.heap.size ≤ gk
  ha : wr.heap.size ≤ ga
  hc : wr.heap.size ≤ gc
  ka : gk ≠ ga
  cc' : gc ≠ ga
  k0 : V.cell? ⟨gk, 0, none⟩ = some (.int .i64 k.x)
  k1 : V.cell? ⟨gk, 1, none⟩ = some (.int .i64 k.y)
  k2 : V.cell? ⟨gk, 2, none⟩ = some (.int .i64 k.k)
  a0 : V.cell? ⟨ga, 0, none⟩ = some (.slice (some ⟨gc, 0, none⟩) cs.length cc)
  a1 : V.cell? ⟨ga, 1, none⟩ = some (.int .i64 0)
  a2 : V.cell? ⟨ga, 2, none⟩ = some (.int .i64 0)
  f1 : V.frozen? ⟨ga, 1, none⟩ = false
  f2 : V.frozen? ⟨ga, 2, none⟩ = false
  lies : Lies V gc 0 (cs.flatMap clS)
/-- What stands when the arc is there. -/
structure FinW (w w8 wr V : World) (st : Sp) (g na ca : Nat) (zs : List ArcZ) (cs : List Sp) (e : Sp) (ga gc cc : Nat) : Prop where
  pre : PreW w wr st
  arcs : ArcsAt wr w8.heap.size g na ca zs
  bel : Below w8.heap.size w8 wr
  ws : w.heap.size + 1 < w8.heap.size
  up : Below wr.heap.size wr V
  ha : wr.heap.size ≤ ga
  hc : wr.heap.size ≤ gc
  a0 : V.cell? ⟨ga, 0, none⟩ = some (.slice (some ⟨gc, 0, none⟩) cs.length cc)
  a1 : V.cell? ⟨ga, 1, none⟩ = some (.int .i64 e.x)
  a2 : V.cell? ⟨ga, 2, none⟩ = some (.int .i64 e.y)
  lies : Lies V gc 0 (cs.flatMap clS)
section
variable {w w8 wr V V' : World} {st e : Sp} {g na ca gk ga gc cc : Nat} {zs : List ArcZ} {k : Kn} {cs : List Sp}
theorem TailW.fin (h : TailW w w8 wr V st g na ca zs k cs gk ga gc cc) (hb : Below V.heap.size V V') (e : Sp) : FinW w w8 wr ((V'.setCell ⟨ga, 1, none⟩ (.int .i64 e.x)).setCell ⟨ga, 2, none⟩ (.int .i64 e.y)) st g na ca zs cs e ga gc cc := by
  have hu : Below wr.heap.size wr V' := bel_next h.up hb
  have c0 := keepC hb h.a0
  have c1 := keepC hb h.a1
  have c2 := keepC hb h.a2
  refine ⟨h.pre, h.arcs, h.bel, h.ws, bel_set (bel_set hu h.ha _) h.ha _, h.ha, h.hc, by simp [go_sem, c0], by simp [go_sem, c1], by simp [go_sem, c2], fun j u hj => ?_⟩
  rw [keepS (Ne.symm h.cc'), keepS (Ne.symm h.cc')]
  exact keepC hb (h.lies j u hj)
theorem FinW.drew (h : FinW w w8 wr V st g na ca zs cs e ga gc cc) : FinW w w8 wr V.drew st g na ca zs cs e ga gc cc := ⟨h.pre, h.arcs, h.bel, h.ws, ⟨h.up.os, h.up.tape, h.up.output, h.up.size, h.up.block⟩, h.ha, h.hc, h.a0, h.a1, h.a2, h.lies⟩
theorem FinW.preV (h : FinW w w8 wr V st g na ca zs cs e ga gc cc) : PreW w V st := h.pre.below h.up
theorem FinW.own (h : FinW w w8 wr V st g na ca zs cs e ga gc cc) (hb : Below V.heap.size V V') : V'.ownsRow w8.heap.size 72 3 (.slice (some ⟨g, 0, none⟩) na ca) na (zs.flatMap arcC) := ((h.arcs.below h.up).below hb).own
theorem FinW.size (h : FinW w w8 wr V st g na ca zs cs e ga gc cc) (hb : Below V.heap.size V V') : w8.heap.size ≤ V'.heap.size := Nat.le_trans h.bel.size (Nat.le_trans h.up.size hb.size)
theorem FinW.gs (h : FinW w w8 wr V st g na ca zs cs e ga gc cc) : w.heap.size + 2 ≤ g ∧ w8.heap.size ≤ g ∧ g < wr.heap.size := by
  have h1 := ownsRow_cap h.arcs.own
  have h2 := h.ws
  omega
theorem FinW.snoc (h : FinW w w8 wr V st g na ca zs cs e ga gc cc) (hb : Below V.heap.size V V') {g9 c9 : Nat} {w9 : World} (ho9 : w9.ownsRow w8.heap.size 72 3 (.slice (some ⟨g9, 0, none⟩) (na + 1) c9) (na + 1) (zs.flatMap arcC ++ [.slice (some ⟨gc, 0, none⟩) cs.length cc, .int .i64 e.x, .int .i64 e.y])) (hg9 : V'.grownBy w9 (some g)) (hat9 : g9 = g ∨ g9 = V'.heap.size) :
    ArcsAt w9 w8.heap.size g9 (na + 1) c9 (zs ++ [⟨⟨cs, e⟩, some ⟨gc, 0, none⟩, cc⟩]) ∧ Below w8.heap.size w8 w9 ∧ PreW w w9 st := by
  have hgs := h.gs
  have hbB : Below w8.heap.size w8 V' := bel_to (bel_to h.bel h.up h.bel.size) hb (h.size (Below.refl _ _))
  have hs := h.bel.size
  have hc := h.hc
  have hct : CtlAt V' w8.heap.size g ⟨⟨cs, e⟩, some ⟨gc, 0, none⟩, cc⟩ := .inr ⟨gc, rfl, by omega, by omega, h.lies.below hb⟩
  refine ⟨((h.arcs.below h.up).below hb).snoc hct ho9 hg9 hat9, belGrown hbB hg9 hgs.2.1 (h.size hb), (h.preV.below hb).grown hg9 hgs.1⟩
/-- The answer, behind the stores of the start. -/
theorem ret_some {L : List Kn} {a : Act} {g9 n9 c9 : Nat} {zs : List ArcZ} {w9 : World} {cl : Bool} (hd : a.defers = []) (hws : w.heap.size < w8.heap.size) (hp : PreW w w9 st) (ha : ArcsAt w9 w8.heap.size g9 n9 c9 zs) (hL : arcsL st L = some (zs.map ArcZ.r, cl))
    (hr : (results Try.f37 a.tmps).run Try.prog ((w9.setCell ⟨w.heap.size, 0, none⟩ (.int .i64 st.x)).setCell ⟨w.heap.size, 1, none⟩ (.int .i64 st.y)) = .ok (.tuple #[.agg #[.int .i64 st.x, .int .i64 st.y], .slice (some ⟨g9, 0, none⟩) n9 c9, .bool cl, .bool true]) ((w9.setCell ⟨w.heap.size, 0, none⟩ (.int .i64 st.x)).setCell ⟨w.heap.size, 1, none⟩ (.int .i64 st.y))) :
    RetP w st L a ((w9.setCell ⟨w.heap.size, 0, none⟩ (.int .i64 st.x)).setCell ⟨w.heap.size, 1, none⟩ (.int .i64 st.y)) := by
  refine ⟨hd, _, hr, ?_⟩
  unfold RunArcs
  rw [hL]
  exact ⟨g9, n9, c9, zs, rfl, rfl, ((ha.low hws _).low hws _).base (Nat.le_of_lt hws), bel_set (bel_set hp.bel (Nat.le_refl _) _) (Nat.le_refl _) _⟩
theorem ret_none {L : List Kn} {a : Act} {w9 : World} (hd : a.defers = []) (hp : PreW w w9 st) (hL : arcsL st L = none)
    (hr : (results Try.f37 a.tmps).run Try.prog ((w9.setCell ⟨w.heap.size, 0, none⟩ (.int .i64 st.x)).setCell ⟨w.heap.size, 1, none⟩ (.int .i64 st.y)) = .ok (.tuple #[.agg #[.int .i64 st.x, .int .i64 st.y], .slice none 0 0, .bool false, .bool false]) ((w9.setCell ⟨w.heap.size, 0, none⟩ (.int .i64 st.x)).setCell ⟨w.heap.size, 1, none⟩ (.int .i64 st.y))) :
    RetP w st L a ((w9.setCell ⟨w.heap.size, 0, none⟩ (.int .i64 st.x)).setCell ⟨w.heap.size, 1, none⟩ (.int .i64 st.y)) :=
  ⟨hd, _, hr, runArcs_none hL ⟨st, rfl, bel_set (bel_set hp.bel (Nat.le_refl _) _) (Nat.le_refl _) _⟩⟩
end

set_option maxRecDepth 1000000 in
/-- A round begins. -/
def WI (w w8 : World) (st : Sp) (L : List Kn) (x0 x1 x3 x4 x5 x6 x7 x8 x11 x16 x17 x18 x19 x20 x21 x22 x23 x24 x25 x26 x27 x28 x29 x30 x31 x32 x33 x34 x35 x36 x37 x38 x39 x40 x41 x42 x43 x44 x45 x46 x47 x48 x49 x50 x51 x52 x53 x54 x55 x56 x57 x58 x59 x60 x61 x62 x63 x64 x65 x66 x67 x68 x69 x70 x71 x72 x73 x74 x75 x76 x77 x78 x79 x80 x183 x184 : Value) (a : Act) (wr : World) : Prop :=
  ∃ (l : List Kn) (al : Option Addr) (m cl g na ca : Nat) (zs : List ArcZ), Rel3 w8 st L wr l al m cl g na ca zs ∧ ∃ x13 x14 x15 x81 x82 x83 x84 x85 x86 x87 x88 x89 x90 x91 x92 x93 x94 x95 x96 x97 x98 x99 x100 x101 x102 x103 x104 x105 x106 x107 x108 x109 x110 x111 x112 x113 x114 x115 x116 x117 x118 x119 x120 x121 x122 x123 x124 x125 x126 x127 x128 x129 x130 x131 x132 x133 x134 x135 x136 x137 x138 x139 x140 x141 x142 x143 x144 x145 x146 x147 x148 x149 x150 x151 x152 x153 x154 x155 x156 x157 x158 x159 x160 x161 x162 x163 x164 x165 x166 x167 x168 x169 x170 x171 x172 x173 x174 x175 x176 x177 x178 x179 x180 x181 x182 : Value, a = ⟨#[x0, x1, .pointer (some ⟨w.heap.size, 0, none⟩), x3, x4, x5, x6, x7, x8, .pointer (some ⟨(w.heap.size + 1), 0, none⟩), .slice al m cl, x11, .slice (some ⟨g, 0, none⟩) na ca, x13, x14, x15, x16, x17, x18, x19, x20, x21, x22, x23, x24, x25, x26, x27, x28, x29, x30, x31, x32, x33, x34, x35, x36, x37, x38, x39, x40, x41, x42, x43, x44, x45, x46, x47, x48, x49, x50, x51, x52, x53, x54, x55, x56, x57, x58, x59, x60, x61, x62, x63, x64, x65, x66, x67, x68, x69, x70, x71, x72, x73, x74, x75, x76, x77, x78, x79, x80, x81, x82, x83, x84, x85, x86, x87, x88, x89, x90, x91, x92, x93, x94, x95, x96, x97, x98, x99, x100, x101, x102, x103, x104, x105, x106, x107, x108, x109, x110, x111, x112, x113, x114, x115, x116, x117, x118, x119, x120, x121, x122, x123, x124, x125, x126, x127, x128, x129, x130, x131, x132, x133, x134, x135, x136, x137, x138, x139, x140, x141, x142, x143, x144, x145, x146, x147, x148, x149, x150, x151, x152, x153, x154, x155, x156, x157, x158, x159, x160, x161, x162, x163, x164, x165, x166, x167, x168, x169, x170, x171, x172, x173, x174, x175, x176, x177, x178, x179, x180, x181, x182, x183, x184], []⟩
def Wmu (a : Act) (_ : World) : Nat := sliceLen (a.tmps.getD 10 undef)

end Go.Proofs.Ythjhekmlhmljlaa

namespace Go.Proofs.Ythjhekmlhmljlaa
open Go.RowKit Go.PlainAid
set_option linter.unusedSimpArgs false
set_option linter.unusedVariables false

set_option maxRecDepth 1000000 in
set_option maxHeartbeats 4000000 in
theorem t_close {x0 x1 x3 x4 x5 x6 x7 x8 x11 x14 x16 x17 x18 x19 x20 x21 x22 x23 x24 x25 x26 x27 x28 x29 x30 x31 x32 x33 x34 x35 x36 x37 x38 x39 x40 x41 x42 x43 x44 x45 x46 x47 x48 x49 x50 x51 x52 x53 x54 x55 x56 x57 x58 x59 x60 x61 x62 x63 x64 x65 x66 x67 x68 x69 x70 x71 x72 x73 x74 x75 x76 x77 x78 x79 x80 x81 x82 x83 x84 x85 x86 x87 x88 x89 x90 x91 x92 x93 x94 x95 x96 x97 x98 x99 x100 x101 x102 x103 x104 x105 x106 x107 x108 x109 x110 x111 x112 x113 x114 x115 x116 x117 x118 x119 x120 x121 x122 x123 x124 x125 x126 x127 x128 x129 x130 x131 x132 x133 x134 x135 x136 x137 x138 x139 x140 x141 x142 x143 x144 x145 x146 x147 x148 x149 x150 x151 x152 x153 x154 x155 x156 x157 x158 x159 x160 x161 x162 x163 x164 x165 x166 x167 x168 x169 x170 x171 x172 x173 x174 x175 x176 x177 x178 x179 x180 x181 x182 x183 x184 : Value} (w w8 wr V : World) (st : Sp) (L : List Kn) (g na ca : Nat) (zs : List ArcZ) (k : Kn) (cs : List Sp) (gk ga gc cc : Nat) (Q : Exit → Act → World → Prop) (hT : TailW w w8 wr V st g na ca zs k cs gk ga gc cc) (al : Option Addr) (cl : Nat) (hna : na ≤ 4096) (hL : arcsL st L = some ((zs ++ [(⟨⟨cs, st⟩, some ⟨gc, 0, none⟩, cc⟩ : ArcZ)]).map ArcZ.r, true)) (hret : ∀ a' w', RetP w st L a' w' → Q .ret a' w') :
    Code.wp Try.prog tail3 Q ⟨#[x0, x1, .pointer (some ⟨w.heap.size, 0, none⟩), x3, x4, x5, x6, x7, x8, .pointer (some ⟨(w.heap.size + 1), 0, none⟩), .slice al 0 cl, x11, .slice (some ⟨g, 0, none⟩) na ca, .pointer (some ⟨gk, 0, none⟩), x14, .pointer (some ⟨ga, 0, none⟩), x16, x17, x18, x19, x20, x21, x22, x23, x24, x25, x26, x27, x28, x29, x30, x31, x32, x33, x34, x35, x36, x37, x38, x39, x40, x41, x42, x43, x44, x45, x46, x47, x48, x49, x50, x51, x52, x53, x54, x55, x56, x57, x58, x59, x60, x61, x62, x63, x64, x65, x66, x67, x68, x69, x70, x71, x72, x73, x74, x75, x76, x77, x78, x79, x80, x81, x82, x83, x84, x85, x86, x87, x88, x89, x90, x91, x92, x93, x94, x95, x96, x97, x98, x99, x100, x101, x102, x103, x104, x105, x106, x107, x108, x109, x110, x111, x112, x113, x114, x115, x116, x117, x118, x119, x120, x121, x122, x123, x124, x125, x126, x127, x128, x129, x130, x131, x132, x133, x134, x135, x136, x137, x138, x139, x140, x141, x142, x143, x144, x145, x146, x147, x148, x149, x150, x151, x152, x153, x154, x155, x156, x157, x158, x159, x160, x161, x162, x163, x164, x165, x166, x167, x168, x169, x170, x171, x172, x173, x174, x175, x176, x177, x178, x179, x180, x181, x182, x183, x184], []⟩ V := by
  have HT := Lib.hid hT
  have HP := Lib.hid (hT.pre.below hT.up)
  obtain ⟨s0, s1, z0, z1, r0, r1, f0, f1, bel⟩ := HP.out
  have a1 := hT.a1
  have a2 := hT.a2
  have q1 := hT.f1
  have q2 := hT.f2
  clear z0 z1 bel
  have HF : Hid (FinW w w8 wr ((V.setCell ⟨ga, 1, none⟩ (.int .i64 st.x)).setCell ⟨ga, 2, none⟩ (.int .i64 st.y)) st g na ca zs cs st ga gc cc) := hT.fin (Below.refl _ _) st
  have HL := Lib.hid hL
  have HNA := Lib.hid hna
  have HRET := Lib.hid hret
  clear hT hL hna hret
  conv => arg 2; whnf
  go_wp2_with fail
  generalize ((V.setCell ⟨ga, 1, none⟩ (.int .i64 st.x)).setCell ⟨ga, 2, none⟩ (.int .i64 st.y)) = V1 at *
  have HND : Hid (Below V1.heap.size V1 ((V1.alloc (.cells #[.slice (some ⟨gc, 0, none⟩) cs.length cc, .int .i64 st.x, .int .i64 st.y] 72)).drew)) := (show Below V1.heap.size V1 (V1.alloc (.cells #[.slice (some ⟨gc, 0, none⟩) cs.length cc, .int .i64 st.x, .int .i64 st.y] 72)) from (Below.refl _ _).alloc (Nat.le_refl _) _) |> fun h => ⟨h.os, h.tape, h.output, h.size, h.block⟩
  have HGS := Lib.hid HF.out.gs
  have HWS := Lib.hid HF.out.ws
  have HHA := Lib.hid HF.out.ha
  refine reg35 elA w.heap.size (w.heap.size + 1) ga g na ca w8.heap.size st (.slice (some ⟨gc, 0, none⟩) cs.length cc) (zs.flatMap arcC) V1 _ HF.out.preV.s0 HF.out.preV.s1 HF.out.preV.r0 HF.out.preV.r1 HF.out.preV.f0 HF.out.preV.f1 HF.out.a0 rfl HF.out.a1 HF.out.a2 (HF.out.own (Below.refl _ _)) (HF.out.size (Below.refl _ _)) HNA.out (by have := HGS.out; omega) (by have := HGS.out; omega) (by have := HGS.out; have := HHA.out; omega) (by omega) (by have := HGS.out; have := HHA.out; omega) ?_
  intro y140 y141 y142 y143 y144 g9 c9 w9 ho9 hg9 hat9
  have HX := Lib.hid (HF.out.snoc HND.out ho9 hg9 (by rcases hat9 with h | h; exact .inl h; exact .inr (by simpa using h)))
  clear ho9 hg9 hat9 r0 r1 f0 f1 s0 s1 a1 a2 q1 q2
  have r0 := HX.out.2.2.r0
  have r1 := HX.out.2.2.r1
  go_wp2_with fail
  refine HRET.out _ _ (ret_some rfl (by have := HWS.out; omega) HX.out.2.2 HX.out.1 HL.out ?_)
  simp [results, Try.results37, go_sem, r0, r1]

end Go.Proofs.Ythjhekmlhmljlaa

namespace Go.Proofs.Ythjhekmlhmljlaa
open Go.RowKit Go.PlainAid
set_option linter.unusedSimpArgs false
set_option linter.unusedVariables false

set_option maxRecDepth 1000000 in
set_option maxHeartbeats 4000000 in
theorem t_on1 {x0 x1 x3 x4 x5 x6 x7 x8 x11 x14 x16 x17 x18 x19 x20 x21 x22 x23 x24 x25 x26 x27 x28 x29 x30 x31 x32 x33 x34 x35 x36 x37 x38 x39 x40 x41 x42 x43 x44 x45 x46 x47 x48 x49 x50 x51 x52 x53 x54 x55 x56 x57 x58 x59 x60 x61 x62 x63 x64 x65 x66 x67 x68 x69 x70 x71 x72 x73 x74 x75 x76 x77 x78 x79 x80 x81 x82 x83 x84 x85 x86 x87 x88 x89 x90 x91 x92 x93 x94 x95 x96 x97 x98 x99 x100 x101 x102 x103 x104 x105 x106 x107 x108 x109 x110 x111 x112 x113 x114 x115 x116 x117 x118 x119 x120 x121 x122 x123 x124 x125 x126 x127 x128 x129 x130 x131 x132 x133 x134 x135 x136 x137 x138 x139 x140 x141 x142 x143 x144 x145 x146 x147 x148 x149 x150 x151 x152 x153 x154 x155 x156 x157 x158 x159 x160 x161 x162 x163 x164 x165 x166 x167 x168 x169 x170 x171 x172 x173 x174 x175 x176 x177 x178 x179 x180 x181 x182 x183 x184 : Value} (w w8 wr V : World) (st : Sp) (L : List Kn) (g na ca : Nat) (zs : List ArcZ) (k : Kn) (cs : List Sp) (gk ga gc cc : Nat) (Q : Exit → Act → World → Prop) (hT : TailW w w8 wr V st g na ca zs k cs gk ga gc cc) (e : Kn) (r : List Kn) (b off m cl : Nat) (hR : IsR clK w8 (some ⟨b, off, none⟩) (e :: r)) (hm : r.length = m) (hcl : m + 1 ≤ cl) (hc1 : ¬ cl = 1) (hfew : na + 1 + m ≤ 4096) (hgd : GoodK (e :: r)) (he : e.k = 1) (hU : Upto st L (zs ++ [⟨⟨cs, e.sp⟩, some ⟨gc, 0, none⟩, cc⟩]) r) (hN : ∀ a' w', WI w w8 st L x0 x1 x3 x4 x5 x6 x7 x8 x11 x16 x17 x18 x19 x20 x21 x22 x23 x24 x25 x26 x27 x28 x29 x30 x31 x32 x33 x34 x35 x36 x37 x38 x39 x40 x41 x42 x43 x44 x45 x46 x47 x48 x49 x50 x51 x52 x53 x54 x55 x56 x57 x58 x59 x60 x61 x62 x63 x64 x65 x66 x67 x68 x69 x70 x71 x72 x73 x74 x75 x76 x77 x78 x79 x80 x183 x184 a' w' → Wmu a' w' ≤ m → Q .normal a' w') :
    Code.wp Try.prog tail3 Q ⟨#[x0, x1, .pointer (some ⟨w.heap.size, 0, none⟩), x3, x4, x5, x6, x7, x8, .pointer (some ⟨(w.heap.size + 1), 0, none⟩), .slice (some ⟨b, off, none⟩) (m + 1) cl, x11, .slice (some ⟨g, 0, none⟩) na ca, .pointer (some ⟨gk, 0, none⟩), x14, .pointer (some ⟨ga, 0, none⟩), x16, x17, x18, x19, x20, x21, x22, x23, x24, x25, x26, x27, x28, x29, x30, x31, x32, x33, x34, x35, x36, x37, x38, x39, x40, x41, x42, x43, x44, x45, x46, x47, x48, x49, x50, x51, x52, x53, x54, x55, x56, x57, x58, x59, x60, x61, x62, x63, x64, x65, x66, x67, x68, x69, x70, x71, x72, x73, x74, x75, x76, x77, x78, x79, x80, x81, x82, x83, x84, x85, x86, x87, x88, x89, x90, x91, x92, x93, x94, x95, x96, x97, x98, x99, x100, x101, x102, x103, x104, x105, x106, x107, x108, x109, x110, x111, x112, x113, x114, x115, x116, x117, x118, x119, x120, x121, x122, x123, x124, x125, x126, x127, x128, x129, x130, x131, x132, x133, x134, x135, x136, x137, x138, x139, x140, x141, x142, x143, x144, x145, x146, x147, x148, x149, x150, x151, x152, x153, x154, x155, x156, x157, x158, x159, x160, x161, x162, x163, x164, x165, x166, x167, x168, x169, x170, x171, x172, x173, x174, x175, x176, x177, x178, x179, x180, x181, x182, x183, x184], []⟩ V := by
  have HT := Lib.hid hT
  have HP := Lib.hid (hT.pre.below hT.up)
  obtain ⟨s0, s1, z0, z1, r0, r1, f0, f1, bel⟩ := HP.out
  have a1 := hT.a1
  have a2 := hT.a2
  have q1 := hT.f1
  have q2 := hT.f2
  clear z0 z1 bel
  have HF : Hid (FinW w w8 wr (((V.setCell ⟨ga, 1, none⟩ (.int .i64 e.x)).setCell ⟨ga, 2, none⟩ (.int .i64 e.y)).drew) st g na ca zs cs e.sp ga gc cc) := (hT.fin (Below.refl _ _) e.sp).drew
  obtain ⟨b', off', hbb, e0, e1, e2⟩ := (hR.below (bel_to HT.out.bel HT.out.up HT.out.bel.size)).knot (i := 0) (k := e) rfl
  cases hbb
  simp only [Nat.zero_mul, Nat.add_zero] at e0 e1 e2
  have HR := Lib.hid hR
  have HGD := Lib.hid hgd
  have HFEW := Lib.hid hfew
  have HU := Lib.hid hU
  have HNX := Lib.hid hN
  have HM := Lib.hid hm
  have HCL := Lib.hid hcl
  have hm0 : (0 : Int) < ((m : Int) + 1) := by omega
  clear hR hgd hfew hU hN hm hcl hT
  have e1' : (e.k == 1) = true := by simpa using he
  clear he
  conv => arg 2; whnf
  go_wp2_with fail
  refine reg37 b off m cl ga e V _ e0 e1 a1 a2 q1 q2 ?_
  intro y150 y151 y152 y153 y154 y155 y156 y157 y158 y159
  generalize ((V.setCell ⟨ga, 1, none⟩ (.int .i64 e.x)).setCell ⟨ga, 2, none⟩ (.int .i64 e.y)).drew = V1 at *
  have v0 := HF.out.a0
  have v1 := HF.out.a1
  have v2 := HF.out.a2
  have HND : Hid (Below V1.heap.size V1 (V1.alloc (.cells #[.slice (some ⟨gc, 0, none⟩) cs.length cc, .int .i64 e.sp.x, .int .i64 e.sp.y] 72))) := (Below.refl _ _).alloc (Nat.le_refl _) _
  have HOW := Lib.hid (HF.out.own HND.out)
  have HSZ := Lib.hid (HF.out.size HND.out)
  have HSD : Hid (Lies (V1.alloc (.cells #[.slice (some ⟨gc, 0, none⟩) cs.length cc, .int .i64 e.sp.x, .int .i64 e.sp.y] 72)) V1.heap.size 0 [.slice (some ⟨gc, 0, none⟩) cs.length cc, .int .i64 e.sp.x, .int .i64 e.sp.y]) := lies_new (w := V1) (cs := #[.slice (some ⟨gc, 0, none⟩) cs.length cc, .int .i64 e.sp.x, .int .i64 e.sp.y]) (T := 72)
  clear a1 a2 q1 q2 s0 s1 r0 r1 f0 f1 e0 e1 HP
  go_wp2_with (at_builtin; refine wpList_app elA rfl _ _ rfl (V1.alloc (.cells #[.slice (some ⟨gc, 0, none⟩) cs.length cc, .int .i64 e.sp.x, .int .i64 e.sp.y] 72)) w8.heap.size g ca na (zs.flatMap arcC) (some ⟨V1.heap.size, 0, none⟩) 1 1 [.slice (some ⟨gc, 0, none⟩) cs.length cc, .int .i64 e.sp.x, .int .i64 e.sp.y] rfl rfl HOW.out rfl (.inr ⟨_, 0, rfl, HSD.out⟩) (by simp [Value.oneCell']) (by have := HFEW.out; omega) (by have := HFEW.out; omega) HSZ.out ?_; intro g9 c9 w9 ho9 hg9 hat9)
  have HX := Lib.hid (HF.out.snoc HND.out ho9 hg9 hat9)
  clear ho9 hg9 hat9
  go_wp2_with fail
  refine HNX.out _ _ ⟨r, _, _, _, _, _, _, zs ++ [⟨⟨cs, e.sp⟩, some ⟨gc, 0, none⟩, cc⟩], ?rel, _, _, _, _, _, _, _, _, _, _, _, _, _, _, _, _, _, _, _, _, _, _, _, _, _, _, _, _, _, _, _, _, _, _, _, _, _, _, _, _, _, _, _, _, _, _, _, _, _, _, _, _, _, _, _, _, _, _, _, _, _, _, _, _, _, _, _, _, _, _, _, _, _, _, _, _, _, _, _, _, _, _, _, _, _, _, _, _, _, _, _, _, _, _, _, _, _, _, _, _, _, _, _, _, _, rfl⟩ ?mu
  case rel => exact ⟨HM.out, by have := HCL.out; omega, by have := HFEW.out; omega, isR_tail HR.out, goodK_tail HGD.out, HX.out.1, HU.out, HX.out.2.1⟩
  case mu => simp only [Wmu, sliceLen]; simp

set_option maxRecDepth 1000000 in
set_option maxHeartbeats 4000000 in
theorem t_on0 {x0 x1 x3 x4 x5 x6 x7 x8 x11 x14 x16 x17 x18 x19 x20 x21 x22 x23 x24 x25 x26 x27 x28 x29 x30 x31 x32 x33 x34 x35 x36 x37 x38 x39 x40 x41 x42 x43 x44 x45 x46 x47 x48 x49 x50 x51 x52 x53 x54 x55 x56 x57 x58 x59 x60 x61 x62 x63 x64 x65 x66 x67 x68 x69 x70 x71 x72 x73 x74 x75 x76 x77 x78 x79 x80 x81 x82 x83 x84 x85 x86 x87 x88 x89 x90 x91 x92 x93 x94 x95 x96 x97 x98 x99 x100 x101 x102 x103 x104 x105 x106 x107 x108 x109 x110 x111 x112 x113 x114 x115 x116 x117 x118 x119 x120 x121 x122 x123 x124 x125 x126 x127 x128 x129 x130 x131 x132 x133 x134 x135 x136 x137 x138 x139 x140 x141 x142 x143 x144 x145 x146 x147 x148 x149 x150 x151 x152 x153 x154 x155 x156 x157 x158 x159 x160 x161 x162 x163 x164 x165 x166 x167 x168 x169 x170 x171 x172 x173 x174 x175 x176 x177 x178 x179 x180 x181 x182 x183 x184 : Value} (w w8 wr V : World) (st : Sp) (L : List Kn) (g na ca : Nat) (zs : List ArcZ) (k : Kn) (cs : List Sp) (gk ga gc cc : Nat) (Q : Exit → Act → World → Prop) (hT : TailW w w8 wr V st g na ca zs k cs gk ga gc cc) (e : Kn) (b off : Nat) (hR : IsR clK w8 (some ⟨b, off, none⟩) [e]) (hfew : na + 1 + 0 ≤ 4096) (he : e.k = 1) (hU : Upto st L (zs ++ [⟨⟨cs, e.sp⟩, some ⟨gc, 0, none⟩, cc⟩]) []) (hN : ∀ a' w', WI w w8 st L x0 x1 x3 x4 x5 x6 x7 x8 x11 x16 x17 x18 x19 x20 x21 x22 x23 x24 x25 x26 x27 x28 x29 x30 x31 x32 x33 x34 x35 x36 x37 x38 x39 x40 x41 x42 x43 x44 x45 x46 x47 x48 x49 x50 x51 x52 x53 x54 x55 x56 x57 x58 x59 x60 x61 x62 x63 x64 x65 x66 x67 x68 x69 x70 x71 x72 x73 x74 x75 x76 x77 x78 x79 x80 x183 x184 a' w' → Wmu a' w' ≤ 0 → Q .normal a' w') :
    Code.wp Try.prog tail3 Q ⟨#[x0, x1, .pointer (some ⟨w.heap.size, 0, none⟩), x3, x4, x5, x6, x7, x8, .pointer (some ⟨(w.heap.size + 1), 0, none⟩), .slice (some ⟨b, off, none⟩) (0 + 1) 1, x11, .slice (some ⟨g, 0, none⟩) na ca, .pointer (some ⟨gk, 0, none⟩), x14, .pointer (some ⟨ga, 0, none⟩), x16, x17, x18, x19, x20, x21, x22, x23, x24, x25, x26, x27, x28, x29, x30, x31, x32, x33, x34, x35, x36, x37, x38, x39, x40, x41, x42, x43, x44, x45, x46, x47, x48, x49, x50, x51, x52, x53, x54, x55, x56, x57, x58, x59, x60, x61, x62, x63, x64, x65, x66, x67, x68, x69, x70, x71, x72, x73, x74, x75, x76, x77, x78, x79, x80, x81, x82, x83, x84, x85, x86, x87, x88, x89, x90, x91, x92, x93, x94, x95, x96, x97, x98, x99, x100, x101, x102, x103, x104, x105, x106, x107, x108, x109, x110, x111, x112, x113, x114, x115, x116, x117, x118, x119, x120, x121, x122, x123, x124, x125, x126, x127, x128, x129, x130, x131, x132, x133, x134, x135, x136, x137, x138, x139, x140, x141, x142, x143, x144, x145, x146, x147, x148, x149, x150, x151, x152, x153, x154, x155, x156, x157, x158, x159, x160, x161, x162, x163, x164, x165, x166, x167, x168, x169, x170, x171, x172, x173, x174, x175, x176, x177, x178, x179, x180, x181, x182, x183, x184], []⟩ V := by
  have HT := Lib.hid hT
  have HP := Lib.hid (hT.pre.below hT.up)
  obtain ⟨s0, s1, z0, z1, r0, r1, f0, f1, bel⟩ := HP.out
  have a1 := hT.a1
  have a2 := hT.a2
  have q1 := hT.f1
  have q2 := hT.f2
  clear z0 z1 bel
  have HF : Hid (FinW w w8 wr (((V.setCell ⟨ga, 1, none⟩ (.int .i64 e.x)).setCell ⟨ga, 2, none⟩ (.int .i64 e.y)).drew) st g na ca zs cs e.sp ga gc cc) := (hT.fin (Below.refl _ _) e.sp).drew
  obtain ⟨b', off', hbb, e0, e1, e2⟩ := (hR.below (bel_to HT.out.bel HT.out.up HT.out.bel.size)).knot (i := 0) (k := e) rfl
  cases hbb
  simp only [Nat.zero_mul, Nat.add_zero] at e0 e1 e2
  have HR := Lib.hid hR
  have HFEW := Lib.hid hfew
  have HU := Lib.hid hU
  have HNX := Lib.hid hN
  clear hR hfew hU hN hT
  have e1' : (e.k == 1) = true := by simpa using he
  clear he
  conv => arg 2; whnf
  go_wp2_with fail
  refine reg37 b off 0 1 ga e V _ e0 e1 a1 a2 q1 q2 ?_
  intro y150 y151 y152 y153 y154 y155 y156 y157 y158 y159
  generalize ((V.setCell ⟨ga, 1, none⟩ (.int .i64 e.x)).setCell ⟨ga, 2, none⟩ (.int .i64 e.y)).drew = V1 at *
  have v0 := HF.out.a0
  have v1 := HF.out.a1
  have v2 := HF.out.a2
  have HND : Hid (Below V1.heap.size V1 (V1.alloc (.cells #[.slice (some ⟨gc, 0, none⟩) cs.length cc, .int .i64 e.sp.x, .int .i64 e.sp.y] 72))) := (Below.refl _ _).alloc (Nat.le_refl _) _
  have HOW := Lib.hid (HF.out.own HND.out)
  have HSZ := Lib.hid (HF.out.size HND.out)
  have HSD : Hid (Lies (V1.alloc (.cells #[.slice (some ⟨gc, 0, none⟩) cs.length cc, .int .i64 e.sp.x, .int .i64 e.sp.y] 72)) V1.heap.size 0 [.slice (some ⟨gc, 0, none⟩) cs.length cc, .int .i64 e.sp.x, .int .i64 e.sp.y]) := lies_new (w := V1) (cs := #[.slice (some ⟨gc, 0, none⟩) cs.length cc, .int .i64 e.sp.x, .int .i64 e.sp.y]) (T := 72)
  clear a1 a2 q1 q2 s0 s1 r0 r1 f0 f1 e0 e1 HP
  go_wp2_with (at_builtin; refine wpList_app elA rfl _ _ rfl (V1.alloc (.cells #[.slice (some ⟨gc, 0, none⟩) cs.length cc, .int .i64 e.sp.x, .int .i64 e.sp.y] 72)) w8.heap.size g ca na (zs.flatMap arcC) (some ⟨V1.heap.size, 0, none⟩) 1 1 [.slice (some ⟨gc, 0, none⟩) cs.length cc, .int .i64 e.sp.x, .int .i64 e.sp.y] rfl rfl HOW.out rfl (.inr ⟨_, 0, rfl, HSD.out⟩) (by simp [Value.oneCell']) (by have := HFEW.out; omega) (by have := HFEW.out; omega) HSZ.out ?_; intro g9 c9 w9 ho9 hg9 hat9)
  have HX := Lib.hid (HF.out.snoc HND.out ho9 hg9 hat9)
  clear ho9 hg9 hat9
  go_wp2_with fail
  refine HNX.out _ _ ⟨[], _, _, _, _, _, _, zs ++ [⟨⟨cs, e.sp⟩, some ⟨gc, 0, none⟩, cc⟩], ?rel, _, _, _, _, _, _, _, _, _, _, _, _, _, _, _, _, _, _, _, _, _, _, _, _, _, _, _, _, _, _, _, _, _, _, _, _, _, _, _, _, _, _, _, _, _, _, _, _, _, _, _, _, _, _, _, _, _, _, _, _, _, _, _, _, _, _, _, _, _, _, _, _, _, _, _, _, _, _, _, _, _, _, _, _, _, _, _, _, _, _, _, _, _, _, _, _, _, _, _, _, _, _, _, _, _, rfl⟩ ?mu
  case rel => exact ⟨rfl, Nat.le_refl _, by have := HFEW.out; omega, .inl rfl, fun x hx => by simp at hx, HX.out.1, HU.out, HX.out.2.1⟩
  case mu => simp only [Wmu, sliceLen]; simp

end Go.Proofs.Ythjhekmlhmljlaa

namespace Go.Proofs.Ythjhekmlhmljlaa
open Go.RowKit Go.PlainAid
set_option linter.unusedSimpArgs false
set_option linter.unusedVariables false

set_option maxRecDepth 1000000 in
set_option maxHeartbeats 4000000 in
theorem t_mid {x0 x1 x3 x4 x5 x6 x7 x8 x11 x14 x16 x17 x18 x19 x20 x21 x22 x23 x24 x25 x26 x27 x28 x29 x30 x31 x32 x33 x34 x35 x36 x37 x38 x39 x40 x41 x42 x43 x44 x45 x46 x47 x48 x49 x50 x51 x52 x53 x54 x55 x56 x57 x58 x59 x60 x61 x62 x63 x64 x65 x66 x67 x68 x69 x70 x71 x72 x73 x74 x75 x76 x77 x78 x79 x80 x81 x82 x83 x84 x85 x86 x87 x88 x89 x90 x91 x92 x93 x94 x95 x96 x97 x98 x99 x100 x101 x102 x103 x104 x105 x106 x107 x108 x109 x110 x111 x112 x113 x114 x115 x116 x117 x118 x119 x120 x121 x122 x123 x124 x125 x126 x127 x128 x129 x130 x131 x132 x133 x134 x135 x136 x137 x138 x139 x140 x141 x142 x143 x144 x145 x146 x147 x148 x149 x150 x151 x152 x153 x154 x155 x156 x157 x158 x159 x160 x161 x162 x163 x164 x165 x166 x167 x168 x169 x170 x171 x172 x173 x174 x175 x176 x177 x178 x179 x180 x181 x182 x183 x184 : Value} (w w8 wr V : World) (st : Sp) (L : List Kn) (g na ca : Nat) (zs : List ArcZ) (k : Kn) (cs : List Sp) (gk ga gc cc : Nat) (Q : Exit → Act → World → Prop) (hT : TailW w w8 wr V st g na ca zs k cs gk ga gc cc) (e : Kn) (r : List Kn) (b off m cl : Nat) (hR : IsR clK w8 (some ⟨b, off, none⟩) (e :: r)) (hm : r.length = m) (hcl : m + 1 ≤ cl) (p : Sp) (hfew : na + 1 + (m + 1) ≤ 4096) (hgd : GoodK (e :: r)) (hfk : FixS k.sp) (hp : mid k.sp e.sp = p) (hk2 : k.k = 2) (he : e.k = 2) (hU : Upto st L (zs ++ [⟨⟨cs, p⟩, some ⟨gc, 0, none⟩, cc⟩]) (e :: r)) (hN : ∀ a' w', WI w w8 st L x0 x1 x3 x4 x5 x6 x7 x8 x11 x16 x17 x18 x19 x20 x21 x22 x23 x24 x25 x26 x27 x28 x29 x30 x31 x32 x33 x34 x35 x36 x37 x38 x39 x40 x41 x42 x43 x44 x45 x46 x47 x48 x49 x50 x51 x52 x53 x54 x55 x56 x57 x58 x59 x60 x61 x62 x63 x64 x65 x66 x67 x68 x69 x70 x71 x72 x73 x74 x75 x76 x77 x78 x79 x80 x183 x184 a' w' → Wmu a' w' ≤ m + 1 → Q .normal a' w') :
    Code.wp Try.prog tail3 Q ⟨#[x0, x1, .pointer (some ⟨w.heap.size, 0, none⟩), x3, x4, x5, x6, x7, x8, .pointer (some ⟨(w.heap.size + 1), 0, none⟩), .slice (some ⟨b, off, none⟩) (m + 1) cl, x11, .slice (some ⟨g, 0, none⟩) na ca, .pointer (some ⟨gk, 0, none⟩), x14, .pointer (some ⟨ga, 0, none⟩), x16, x17, x18, x19, x20, x21, x22, x23, x24, x25, x26, x27, x28, x29, x30, x31, x32, x33, x34, x35, x36, x37, x38, x39, x40, x41, x42, x43, x44, x45, x46, x47, x48, x49, x50, x51, x52, x53, x54, x55, x56, x57, x58, x59, x60, x61, x62, x63, x64, x65, x66, x67, x68, x69, x70, x71, x72, x73, x74, x75, x76, x77, x78, x79, x80, x81, x82, x83, x84, x85, x86, x87, x88, x89, x90, x91, x92, x93, x94, x95, x96, x97, x98, x99, x100, x101, x102, x103, x104, x105, x106, x107, x108, x109, x110, x111, x112, x113, x114, x115, x116, x117, x118, x119, x120, x121, x122, x123, x124, x125, x126, x127, x128, x129, x130, x131, x132, x133, x134, x135, x136, x137, x138, x139, x140, x141, x142, x143, x144, x145, x146, x147, x148, x149, x150, x151, x152, x153, x154, x155, x156, x157, x158, x159, x160, x161, x162, x163, x164, x165, x166, x167, x168, x169, x170, x171, x172, x173, x174, x175, x176, x177, x178, x179, x180, x181, x182, x183, x184], []⟩ V := by
  have HT := Lib.hid hT
  have HP := Lib.hid (hT.pre.below hT.up)
  obtain ⟨s0, s1, z0, z1, r0, r1, f0, f1, bel⟩ := HP.out
  have a1 := hT.a1
  have a2 := hT.a2
  have q1 := hT.f1
  have q2 := hT.f2
  clear z0 z1 bel
  have k0 := hT.k0
  have k1 := hT.k1
  have k2 := hT.k2
  obtain ⟨b', off', hbb, e0, e1, e2⟩ := (hR.below (bel_to HT.out.bel HT.out.up HT.out.bel.size)).knot (i := 0) (k := e) rfl
  cases hbb
  simp only [Nat.zero_mul, Nat.add_zero] at e0 e1 e2
  have HR := Lib.hid hR
  have HGD := Lib.hid hgd
  have HFEW := Lib.hid hfew
  have HU := Lib.hid hU
  have HNX := Lib.hid hN
  have HM := Lib.hid hm
  have HCL := Lib.hid hcl
  have hm0 : (0 : Int) < ((m : Int) + 1) := by omega
  clear hR hgd hfew hU hN hm hcl hT
  have e1' : (e.k == 1) = false := by rw [he]; rfl
  have e2' : (e.k == 2) = true := by rw [he]; rfl
  have k2' : (k.k == 2) = true := by rw [hk2]; rfl
  have HFE := Lib.hid (HGD.out e (by simp)).2
  have HFK := Lib.hid hfk
  have HPP := Lib.hid hp
  clear he hk2 hfk hp
  conv => arg 2; whnf
  go_wp2_with fail
  refine reg40 b off m cl ga gk k e p V _ HFK.out HFE.out HPP.out k0 k1 k2 e0 e1 e2 a1 a2 q1 q2 ?_
  intro y172 y173 y174 y175 y176 y177 w6 hb6
  have HF : Hid (FinW w w8 wr ((w6.setCell ⟨ga, 1, none⟩ (.int .i64 p.x)).setCell ⟨ga, 2, none⟩ (.int .i64 p.y)) st g na ca zs cs p ga gc cc) := HT.out.fin hb6 p
  clear hb6 k0 k1 k2 e2
  generalize ((w6.setCell ⟨ga, 1, none⟩ (.int .i64 p.x)).setCell ⟨ga, 2, none⟩ (.int .i64 p.y)) = V1 at *
  have v0 := HF.out.a0
  have v1 := HF.out.a1
  have v2 := HF.out.a2
  have HND : Hid (Below V1.heap.size V1 (V1.alloc (.cells #[.slice (some ⟨gc, 0, none⟩) cs.length cc, .int .i64 p.x, .int .i64 p.y] 72))) := (Below.refl _ _).alloc (Nat.le_refl _) _
  have HOW := Lib.hid (HF.out.own HND.out)
  have HSZ := Lib.hid (HF.out.size HND.out)
  have HSD : Hid (Lies (V1.alloc (.cells #[.slice (some ⟨gc, 0, none⟩) cs.length cc, .int .i64 p.x, .int .i64 p.y] 72)) V1.heap.size 0 [.slice (some ⟨gc, 0, none⟩) cs.length cc, .int .i64 p.x, .int .i64 p.y]) := lies_new (w := V1) (cs := #[.slice (some ⟨gc, 0, none⟩) cs.length cc, .int .i64 p.x, .int .i64 p.y]) (T := 72)
  clear a1 a2 q1 q2 s0 s1 r0 r1 f0 f1 e0 e1 HP
  go_wp2_with (at_builtin; refine wpList_app elA rfl _ _ rfl (V1.alloc (.cells #[.slice (some ⟨gc, 0, none⟩) cs.length cc, .int .i64 p.x, .int .i64 p.y] 72)) w8.heap.size g ca na (zs.flatMap arcC) (some ⟨V1.heap.size, 0, none⟩) 1 1 [.slice (some ⟨gc, 0, none⟩) cs.length cc, .int .i64 p.x, .int .i64 p.y] rfl rfl HOW.out rfl (.inr ⟨_, 0, rfl, HSD.out⟩) (by simp [Value.oneCell']) (by have := HFEW.out; omega) (by have := HFEW.out; omega) HSZ.out ?_; intro g9 c9 w9 ho9 hg9 hat9)
  have HX := Lib.hid (HF.out.snoc HND.out ho9 hg9 hat9)
  clear ho9 hg9 hat9
  go_wp2_with fail
  refine HNX.out _ _ ⟨(e :: r), _, _, _, _, _, _, zs ++ [⟨⟨cs, p⟩, some ⟨gc, 0, none⟩, cc⟩], ?rel, _, _, _, _, _, _, _, _, _, _, _, _, _, _, _, _, _, _, _, _, _, _, _, _, _, _, _, _, _, _, _, _, _, _, _, _, _, _, _, _, _, _, _, _, _, _, _, _, _, _, _, _, _, _, _, _, _, _, _, _, _, _, _, _, _, _, _, _, _, _, _, _, _, _, _, _, _, _, _, _, _, _, _, _, _, _, _, _, _, _, _, _, _, _, _, _, _, _, _, _, _, _, _, _, _, rfl⟩ ?mu
  case rel => exact ⟨by simp [HM.out], HCL.out, by have := HFEW.out; omega, HR.out, HGD.out, HX.out.1, HU.out, HX.out.2.1⟩
  case mu => simp only [Wmu, sliceLen]; simp

end Go.Proofs.Ythjhekmlhmljlaa

namespace Go.Proofs.Ythjhekmlhmljlaa
open Go.RowKit Go.PlainAid
set_option linter.unusedSimpArgs false
set_option linter.unusedVariables false

set_option maxRecDepth 1000000 in
set_option maxHeartbeats 4000000 in
theorem t_failq {x0 x1 x3 x4 x5 x6 x7 x8 x11 x14 x16 x17 x18 x19 x20 x21 x22 x23 x24 x25 x26 x27 x28 x29 x30 x31 x32 x33 x34 x35 x36 x37 x38 x39 x40 x41 x42 x43 x44 x45 x46 x47 x48 x49 x50 x51 x52 x53 x54 x55 x56 x57 x58 x59 x60 x61 x62 x63 x64 x65 x66 x67 x68 x69 x70 x71 x72 x73 x74 x75 x76 x77 x78 x79 x80 x81 x82 x83 x84 x85 x86 x87 x88 x89 x90 x91 x92 x93 x94 x95 x96 x97 x98 x99 x100 x101 x102 x103 x104 x105 x106 x107 x108 x109 x110 x111 x112 x113 x114 x115 x116 x117 x118 x119 x120 x121 x122 x123 x124 x125 x126 x127 x128 x129 x130 x131 x132 x133 x134 x135 x136 x137 x138 x139 x140 x141 x142 x143 x144 x145 x146 x147 x148 x149 x150 x151 x152 x153 x154 x155 x156 x157 x158 x159 x160 x161 x162 x163 x164 x165 x166 x167 x168 x169 x170 x171 x172 x173 x174 x175 x176 x177 x178 x179 x180 x181 x182 x183 x184 : Value} (w w8 wr V : World) (st : Sp) (L : List Kn) (g na ca : Nat) (zs : List ArcZ) (k : Kn) (cs : List Sp) (gk ga gc cc : Nat) (Q : Exit → Act → World → Prop) (hT : TailW w w8 wr V st g na ca zs k cs gk ga gc cc) (e : Kn) (r : List Kn) (b off m cl : Nat) (hR : IsR clK w8 (some ⟨b, off, none⟩) (e :: r)) (he : ¬ e.k = 1) (hk2 : k.k = 2) (he2 : ¬ e.k = 2) (hL : arcsL st L = none) (hret : ∀ a' w', RetP w st L a' w' → Q .ret a' w') :
    Code.wp Try.prog tail3 Q ⟨#[x0, x1, .pointer (some ⟨w.heap.size, 0, none⟩), x3, x4, x5, x6, x7, x8, .pointer (some ⟨(w.heap.size + 1), 0, none⟩), .slice (some ⟨b, off, none⟩) (m + 1) cl, x11, .slice (some ⟨g, 0, none⟩) na ca, .pointer (some ⟨gk, 0, none⟩), x14, .pointer (some ⟨ga, 0, none⟩), x16, x17, x18, x19, x20, x21, x22, x23, x24, x25, x26, x27, x28, x29, x30, x31, x32, x33, x34, x35, x36, x37, x38, x39, x40, x41, x42, x43, x44, x45, x46, x47, x48, x49, x50, x51, x52, x53, x54, x55, x56, x57, x58, x59, x60, x61, x62, x63, x64, x65, x66, x67, x68, x69, x70, x71, x72, x73, x74, x75, x76, x77, x78, x79, x80, x81, x82, x83, x84, x85, x86, x87, x88, x89, x90, x91, x92, x93, x94, x95, x96, x97, x98, x99, x100, x101, x102, x103, x104, x105, x106, x107, x108, x109, x110, x111, x112, x113, x114, x115, x116, x117, x118, x119, x120, x121, x122, x123, x124, x125, x126, x127, x128, x129, x130, x131, x132, x133, x134, x135, x136, x137, x138, x139, x140, x141, x142, x143, x144, x145, x146, x147, x148, x149, x150, x151, x152, x153, x154, x155, x156, x157, x158, x159, x160, x161, x162, x163, x164, x165, x166, x167, x168, x169, x170, x171, x172, x173, x174, x175, x176, x177, x178, x179, x180, x181, x182, x183, x184], []⟩ V := by
  have HT := Lib.hid hT
  have HP := Lib.hid (hT.pre.below hT.up)
  obtain ⟨s0, s1, z0, z1, r0, r1, f0, f1, bel⟩ := HP.out
  have a1 := hT.a1
  have a2 := hT.a2
  have q1 := hT.f1
  have q2 := hT.f2
  clear z0 z1 bel
  have k2 := hT.k2
  obtain ⟨b', off', hbb, e0, e1, e2⟩ := (hR.below (bel_to HT.out.bel HT.out.up HT.out.bel.size)).knot (i := 0) (k := e) rfl
  cases hbb
  simp only [Nat.zero_mul, Nat.add_zero] at e0 e1 e2
  have HL := Lib.hid hL
  have HRET := Lib.hid hret
  have hm0 : (0 : Int) < ((m : Int) + 1) := by omega
  have e1' : (e.k == 1) = false := by simpa using he
  have e2' : (e.k == 2) = false := by simpa using he2
  have k2' : (k.k == 2) = true := by simpa using hk2
  clear hR hL hret hT he hk2 he2
  conv => arg 2; whnf
  go_wp2_with fail
  refine HRET.out _ _ (ret_none rfl HP.out HL.out ?_)
  simp [results, Try.results37, go_sem, r0, r1]

set_option maxRecDepth 1000000 in
set_option maxHeartbeats 4000000 in
theorem t_failc {x0 x1 x3 x4 x5 x6 x7 x8 x11 x14 x16 x17 x18 x19 x20 x21 x22 x23 x24 x25 x26 x27 x28 x29 x30 x31 x32 x33 x34 x35 x36 x37 x38 x39 x40 x41 x42 x43 x44 x45 x46 x47 x48 x49 x50 x51 x52 x53 x54 x55 x56 x57 x58 x59 x60 x61 x62 x63 x64 x65 x66 x67 x68 x69 x70 x71 x72 x73 x74 x75 x76 x77 x78 x79 x80 x81 x82 x83 x84 x85 x86 x87 x88 x89 x90 x91 x92 x93 x94 x95 x96 x97 x98 x99 x100 x101 x102 x103 x104 x105 x106 x107 x108 x109 x110 x111 x112 x113 x114 x115 x116 x117 x118 x119 x120 x121 x122 x123 x124 x125 x126 x127 x128 x129 x130 x131 x132 x133 x134 x135 x136 x137 x138 x139 x140 x141 x142 x143 x144 x145 x146 x147 x148 x149 x150 x151 x152 x153 x154 x155 x156 x157 x158 x159 x160 x161 x162 x163 x164 x165 x166 x167 x168 x169 x170 x171 x172 x173 x174 x175 x176 x177 x178 x179 x180 x181 x182 x183 x184 : Value} (w w8 wr V : World) (st : Sp) (L : List Kn) (g na ca : Nat) (zs : List ArcZ) (k : Kn) (cs : List Sp) (gk ga gc cc : Nat) (Q : Exit → Act → World → Prop) (hT : TailW w w8 wr V st g na ca zs k cs gk ga gc cc) (e : Kn) (r : List Kn) (b off m cl : Nat) (hR : IsR clK w8 (some ⟨b, off, none⟩) (e :: r)) (he : ¬ e.k = 1) (hk2 : ¬ k.k = 2) (hL : arcsL st L = none) (hret : ∀ a' w', RetP w st L a' w' → Q .ret a' w') :
    Code.wp Try.prog tail3 Q ⟨#[x0, x1, .pointer (some ⟨w.heap.size, 0, none⟩), x3, x4, x5, x6, x7, x8, .pointer (some ⟨(w.heap.size + 1), 0, none⟩), .slice (some ⟨b, off, none⟩) (m + 1) cl, x11, .slice (some ⟨g, 0, none⟩) na ca, .pointer (some ⟨gk, 0, none⟩), x14, .pointer (some ⟨ga, 0, none⟩), x16, x17, x18, x19, x20, x21, x22, x23, x24, x25, x26, x27, x28, x29, x30, x31, x32, x33, x34, x35, x36, x37, x38, x39, x40, x41, x42, x43, x44, x45, x46, x47, x48, x49, x50, x51, x52, x53, x54, x55, x56, x57, x58, x59, x60, x61, x62, x63, x64, x65, x66, x67, x68, x69, x70, x71, x72, x73, x74, x75, x76, x77, x78, x79, x80, x81, x82, x83, x84, x85, x86, x87, x88, x89, x90, x91, x92, x93, x94, x95, x96, x97, x98, x99, x100, x101, x102, x103, x104, x105, x106, x107, x108, x109, x110, x111, x112, x113, x114, x115, x116, x117, x118, x119, x120, x121, x122, x123, x124, x125, x126, x127, x128, x129, x130, x131, x132, x133, x134, x135, x136, x137, x138, x139, x140, x141, x142, x143, x144, x145, x146, x147, x148, x149, x150, x151, x152, x153, x154, x155, x156, x157, x158, x159, x160, x161, x162, x163, x164, x165, x166, x167, x168, x169, x170, x171, x172, x173, x174, x175, x176, x177, x178, x179, x180, x181, x182, x183, x184], []⟩ V := by
  have HT := Lib.hid hT
  have HP := Lib.hid (hT.pre.below hT.up)
  obtain ⟨s0, s1, z0, z1, r0, r1, f0, f1, bel⟩ := HP.out
  have a1 := hT.a1
  have a2 := hT.a2
  have q1 := hT.f1
  have q2 := hT.f2
  clear z0 z1 bel
  have k2 := hT.k2
  obtain ⟨b', off', hbb, e0, e1, e2⟩ := (hR.below (bel_to HT.out.bel HT.out.up HT.out.bel.size)).knot (i := 0) (k := e) rfl
  cases hbb
  simp only [Nat.zero_mul, Nat.add_zero] at e0 e1 e2
  have HL := Lib.hid hL
  have HRET := Lib.hid hret
  have hm0 : (0 : Int) < ((m : Int) + 1) := by omega
  have e1' : (e.k == 1) = false := by simpa using he
  have k2' : (k.k == 2) = false := by simpa using hk2
  clear hR hL hret hT he hk2 
  conv => arg 2; whnf
  go_wp2_with fail
  refine HRET.out _ _ (ret_none rfl HP.out HL.out ?_)
  simp [results, Try.results37, go_sem, r0, r1]

end Go.Proofs.Ythjhekmlhmljlaa
