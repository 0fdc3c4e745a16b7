import Derived.Test.YtklenppldblbdaaGreatK24
import Derived.Test.YtklenppldblbdaaGreatK26
set_option linter.unusedSimpArgs false
set_option linter.unusedVariables false
namespace Go.Proofs.YtklenppldblbdaaGreat
open Go.RowKit Go.PlainAid
def InB (B : Nat) (w : World) (a : Option Addr) (len cap : Nat) (s : ByteArray) : Prop :=
 s.size = len ∧ len ≤ cap ∧ (len = 0 ∨ ∃ b off, a = some ⟨b, off, none⟩ ∧ b < B ∧ ∀ i, i < len → w.cell? ⟨b, off + i, none⟩ = some (.int .u8 (bt s i)))
theorem InB.isB {B : Nat} {w : World} {a : Option Addr} {len cap : Nat} {s : ByteArray} (h : InB B w a len cap s) : IsB w a len cap s := by
 obtain ⟨h1, h2, h3 | ⟨b, off, h3, _, h4⟩⟩ := h
 ·exact ⟨h1, h2, .inl h3⟩
 ·exact ⟨h1, h2, .inr ⟨b, off, h3, h4⟩⟩
theorem cell_kept {B : Nat} {w w' : World} (h : Below B w w') {b o : Nat} (hb : b < B) : w'.cell? ⟨b, o, none⟩ = w.cell? ⟨b, o, none⟩ := by
 simp only [World.cell?, h.block b hb]
theorem InB.kept {B : Nat} {w w' : World} {a : Option Addr} {len cap : Nat} {s : ByteArray} (h : InB B w a len cap s) (hb : Below B w w') : InB B w' a len cap s := by
 obtain ⟨h1, h2, h3 | ⟨b, off, h3, h5, h4⟩⟩ := h
 ·exact ⟨h1, h2, .inl h3⟩
 ·exact ⟨h1, h2, .inr ⟨b, off, h3, h5, fun i hi => by rw [cell_kept hb h5]; exact h4 i hi⟩⟩
theorem InB.of {B : Nat} {w : World} {a : Option Addr} {len cap : Nat} {s : ByteArray} (h : IsB w a len cap s) (hB : w.heap.size ≤ B) : InB B w a len cap s := by
 obtain ⟨h1, h2, h3 | ⟨b, off, h3, h4⟩⟩ := h
 ·exact ⟨h1, h2, .inl h3⟩
 ·by_cases h0 : len = 0
  ·exact ⟨h1, h2, .inl h0⟩
  ·exact ⟨h1, h2, .inr ⟨b, off, h3, Nat.lt_of_lt_of_le (World.block_lt_of_cell? w _ (h4 0 (by omega))) hB, h4⟩⟩
def ListB (B : Nat) (w : World) (a : Option Addr) (Ps : List ByteArray) : Prop := Ps = [] ∨ ∃ b off, a = some ⟨b, off, none⟩ ∧ b < B ∧ ∀ (i : Nat) (P : ByteArray), Ps[i]? = some P → ∃ (ai : Option Addr) (ci : Nat), w.cell? ⟨b, off + i, none⟩ = some (.slice ai P.size ci) ∧ InB B w ai P.size ci P
theorem ListB.kept {B : Nat} {w w' : World} {a : Option Addr} {Ps : List ByteArray} (h : ListB B w a Ps) (hb : Below B w w') : ListB B w' a Ps := by
 rcases h with h | ⟨b, off, h1, h3, h2⟩
 ·exact .inl h
 ·exact .inr ⟨b, off, h1, h3, fun i P hP => by obtain ⟨ai, ci, k1, k2⟩ := h2 i P hP; exact ⟨ai, ci, by rw [cell_kept hb h3]; exact k1, k2.kept hb⟩⟩
theorem ListB.of {B : Nat} {w : World} {a : Option Addr} {Ps : List ByteArray} (h : IsL w a Ps) (hB : w.heap.size ≤ B) : ListB B w a Ps := by
 rcases h with h | ⟨b, off, h1, h2⟩
 ·exact .inl h
 ·by_cases h0 : Ps = []
  ·exact .inl h0
  ·obtain ⟨P, hP⟩ := get_of (show 0 < Ps.length from List.length_pos_iff.2 h0)
   obtain ⟨ai, ci, k1, _⟩ := h2 0 P hP
   exact .inr ⟨b, off, h1, Nat.lt_of_lt_of_le (World.block_lt_of_cell? w _ k1) hB, fun i P hP => by obtain ⟨ai, ci, k1, k2⟩ := h2 i P hP; exact ⟨ai, ci, k1, InB.of k2 hB⟩⟩
structure FLt where
 za : Option Addr
 zn : Nat
 zc : Nat
 la : Option Addr
 lc : Nat
 ga : Option Addr
 gc : Nat
structure SLt where
 sa : Option Addr
 sc : Nat
 oa : Option Addr
 oc : Nat
 vs : List Value
structure FontF (f : FS) (B : Nat) (L : FLt) (w : World) : Prop where
 loc : ListB B w L.la f.locals
 glo : ListB B w L.ga f.globals
 fit : FSFit f
 few : f.locals.length ≤ 100000 ∧ f.globals.length ≤ 100000
 wid : -4294967296 ≤ f.w1 ∧ f.w1 ≤ 4294967296
theorem FontF.kept {f : FS} {B : Nat} {L : FLt} {w w' : World} (h : FontF f B L w) (hb : Below B w w') : FontF f B L w' := ⟨h.loc.kept hb, h.glo.kept hb, h.fit, h.few, h.wid⟩
structure Ctx (f : FS) (B : Nat) (L : FLt) (b : ByteArray) (ba : Option Addr) (bc : Nat) (w : World) : Prop where
 font : FontF f B L w
 code : InB B w ba b.size bc b
 size : b.size ≤ 1000000
 le : B ≤ w.heap.size
structure RunF (f : FS) (s0 : MS) (b : ByteArray) (rest : List Rw) (p : Nat) (s : MS) (k : Nat) : Prop where
 rows : s.rows = ⟨b, p, false⟩ :: rest
 tail : s0.rows.tail = rest
 fault : s.fault = 0
 ended : s.ended = false
 fit : StepFit s
 go : GoM f k s0 s
 fuel : k + s0.fuel = s.fuel
structure ExW (f : FS) (B : Nat) (L : FLt) (w : World) (s : MS) (K : SLt) (wr : World) : Prop where
 dF : wr.heap[w.heap.size]? = some (.cells #[.slice L.za L.zn L.zc, .slice L.la f.locals.length L.lc, .slice L.ga f.globals.length L.gc, .int .i64 f.w0, .int .i64 f.w1] 29 (0, 0))
 dD : wr.heap[w.heap.size + 1]? = some (.cells (stV K.sa K.sc K.oa K.oc s) 52 (0, 0))
 dE : wr.heap[w.heap.size + 1 + 1]? = some (.cells #[.slice none 0 0, .slice none 0 0, .int .i64 0, .int .i64 0, .int .i64 0, .int .i64 0, .int .i64 0, .int .i64 0, .bool false] 52 (0, 0))
 outw : OutW wr B K.oa K.oc K.vs s.out
 opds : Opds wr s.stack K.sa
 cap : s.stack.length ≤ K.sc
 bel : Below B w wr
 keep : KeepD w.heap.size w wr
theorem ExW.le {f : FS} {B : Nat} {L : FLt} {w : World} {s : MS} {K : SLt} {wr : World} (h : ExW f B L w s K wr) : w.heap.size ≤ wr.heap.size := by have := blk_lt h.dF; omega
theorem ExW.up {f : FS} {B : Nat} {L : FLt} {w : World} {s : MS} {K : SLt} {wr wx : World} (h : ExW f B L w s K wr) (hB : B ≤ w.heap.size) (hb : Below wr.heap.size wr wx) : ExW f B L w s K wx :=
 ⟨blk_below h.dF hb, blk_below h.dD hb, blk_below h.dE hb, h.outw.below hb, h.opds.keep (keep_bel hb), h.cap, h.bel.trans (hb.mono (Nat.le_trans hB h.le)), h.keep.trans (keepD_bel h.le hb)⟩
theorem ExW.turn {f : FS} {B : Nat} {L : FLt} {w : World} {s s' : MS} {K K' : SLt} {wr w1 wx : World} (h : ExW f B L w s K wr) (hB : B ≤ w.heap.size) (hb1 : Below B wr w1) (hk1 : KeepD wr.heap.size wr w1) (hg : w1.grownBy wx (some (w.heap.size + 1)))
 (hd : wx.heap[w.heap.size + 1]? = some (.cells (stV K'.sa K'.sc K'.oa K'.oc s') 52 (0, 0))) (hz : OutW w1 B K'.oa K'.oc K'.vs s'.out) (ho : Opds w1 s'.stack K'.sa) (hc : s'.stack.length ≤ K'.sc) : ExW f B L w s' K' wx := by
 have dD1 : w1.heap[w.heap.size + 1]? = _ := hk1 _ _ _ _ (blk_lt h.dD) (by decide) (by decide) h.dD
 have ht := typ_blk dD1
 have dF1 : w1.heap[w.heap.size]? = _ := hk1 _ _ _ _ (blk_lt h.dF) (by decide) (by decide) h.dF
 have dE1 : w1.heap[w.heap.size + 1 + 1]? = _ := hk1 _ _ _ _ (blk_lt h.dE) (by decide) (by decide) h.dE
 have hle1 : w.heap.size ≤ w1.heap.size := by have := blk_lt dF1; omega
 exact ⟨(grown_other hg (blk_lt dF1) (fun e => by have := Option.some.inj e; omega)).trans dF1, hd, (grown_other hg (blk_lt dE1) (fun e => by have := Option.some.inj e; omega)).trans dE1, hz.chg hg ht (by decide) (by decide), ho.keep (keep_chg hg ht (by decide)), hc,
  (h.bel.trans hb1).grown hg (Nat.le_trans hB hle1) (fun k hk => by cases hk; omega), (h.keep.trans (hk1.mono h.le)).trans (keepD_new hg (by omega))⟩
def ExecPost (f : FS) (B : Nat) (s0 : MS) (w : World) (e : Ending) (w' : World) : Prop :=
 Below B w w' ∧ KeepD w.heap.size w w' ∧ ∃ (k : Nat) (s' : MS), GoM f k s0 s' ∧ StepFit s' ∧ k + s0.fuel ≤ 20001 ∧
 ((s'.fault = 0 ∧ k + s0.fuel = s'.fuel ∧ 1 ≤ k ∧ (s'.ended = false → s'.rows = s0.rows.tail) ∧ ∃ K : SLt, e = .returned (.tuple #[.agg (stV K.sa K.sc K.oa K.oc s'), .bool s'.ended, .int .i64 0]) ∧ OutW w' B K.oa K.oc K.vs s'.out ∧ Opds w' s'.stack K.sa ∧ s'.stack.length ≤ K.sc) ∨
  (s'.fault ≠ 0 ∧ ∃ (K : SLt) (s2 : MS), e = .returned (.tuple #[.agg (stV K.sa K.sc K.oa K.oc s2), .bool false, .int .i64 s'.fault])))
theorem RunF.next {f : FS} {s0 : MS} {b : ByteArray} {rest : List Rw} {p : Nat} {s s' : MS} {k : Nat} {q : Nat} (h : RunF f s0 b rest p s k) (hf : FSFit f) (hs : s.step f = s') (h0 : s'.fault = 0) (he : s'.ended = false) (hr : s'.rows = ⟨b, q, false⟩ :: rest) : RunF f s0 b rest q s' (k + 1) := by
 subst hs
 refine ⟨hr, h.tail, h0, he, h.fit.step h.fault f hf, h.go.trans (GoM.step h.ended h.fault rfl), ?_⟩
 have := step_fuel f h0 (by rw [h.rows]; simp)
 have := h.fuel
 omega
theorem exec_err {f : FS} {B : Nat} {s0 : MS} {b : ByteArray} {rest : List Rw} {p : Nat} {s s' s2 : MS} {k : Nat} {w V : World} {er : Int} {K : SLt} {cs : Array Value} (h : RunF f s0 b rest p s k) (hf : FSFit f) (hs : s.step f = s') (h0 : s'.fault = er) (he : er ≠ 0) (hcs : stV K.sa K.sc K.oa K.oc s2 = cs) (hb : Below B w V) (hk : KeepD w.heap.size w V) :
 ExecPost f B s0 w (.returned (.tuple #[.agg cs, .bool false, .int .i64 er])) V := by
 subst hs
 subst h0
 subst hcs
 refine ⟨hb, hk, k + 1, s.step f, h.go.trans (GoM.step h.ended h.fault rfl), h.fit.step h.fault f hf, ?_, .inr ⟨he, K, s2, rfl⟩⟩
 have := h.fuel
 have := h.fit.fuel
 omega
theorem exec_ok {f : FS} {B : Nat} {s0 : MS} {b : ByteArray} {rest : List Rw} {p : Nat} {s s' : MS} {k : Nat} {w V : World} {K : SLt} {cs : Array Value} {bb : Bool} (h : RunF f s0 b rest p s k) (hf : FSFit f) (hs : s.step f = s') (h0 : s'.fault = 0) (hr : s'.ended = false → s'.rows = rest) (hbb : s'.ended = bb) (hcs : stV K.sa K.sc K.oa K.oc s' = cs) (hz : OutW V B K.oa K.oc K.vs s'.out) (ho : Opds V s'.stack K.sa) (hc : s'.stack.length ≤ K.sc) (hb : Below B w V) (hk : KeepD w.heap.size w V) :
 ExecPost f B s0 w (.returned (.tuple #[.agg cs, .bool bb, .int .i64 0])) V := by
 subst hs
 subst hcs
 subst hbb
 have h1 := step_fuel f h0 (by rw [h.rows]; simp)
 have h2 := h.fuel
 have hfit := h.fit.step h.fault f hf
 have := hfit.fuel
 exact ⟨hb, hk, k + 1, s.step f, h.go.trans (GoM.step h.ended h.fault rfl), hfit, by omega, .inl ⟨h0, by omega, by omega, fun e => by rw [h.tail]; exact hr e, K, rfl, hz, ho, hc⟩⟩
def RetX (post : Ending → World → Prop) (a : Act) (w' : World) : Prop := a.defers = [] ∧ ∃ v, (results Tryz.f16 a.tmps).run Tryz.prog w' = .ok v w' ∧ post (.returned v) w'
set_option maxRecDepth 20000 in
theorem retx {post : Ending → World → Prop} {a : Act} {V : World} {E : Nat} {c0 c1 c2 c3 c4 c5 c6 c7 c8 : Value} {bb : Bool} {er : Int} (hd : a.defers = []) (h8 : a.tmps.getD 8 undef = .pointer (some ⟨E, 0, none⟩)) (h9 : a.tmps.getD 9 undef = .bool bb) (h10 : a.tmps.getD 10 undef = .int .i64 er)
 (hE : V.heap[E]? = some (.cells #[c0, c1, c2, c3, c4, c5, c6, c7, c8] 52 (0, 0))) (hp : post (.returned (.tuple #[.agg #[c0, c1, c2, c3, c4, c5, c6, c7, c8], .bool bb, .int .i64 er])) V) : RetX post a V := by
 refine ⟨hd, _, ?_, hp⟩
 obtain ⟨d0, d1, d2, d3, d4, d5, d6, d7, d8⟩ := blk9 hE
 simp at h8 h9 h10
 simp [results, Tryz.results16, go_sem, h8, h9, h10, d0, d1, d2, d3, d4, d5, d6, d7, d8]
theorem ret_gen {R : Act → World → Prop} {a : Act} (W : World) (h : ∀ w1, w1 = W → R a w1) : R a W := h W rfl
def loopsOf : Code → List Code
 | .loop c => [c]
 | .seq a b => loopsOf a ++ loopsOf b
 | .block _ c => loopsOf c
 | .scope c => loopsOf c
 | .cond _ a b => loopsOf a ++ loopsOf b
 | _ => []
def lft : Code → Code
 | .seq a _ => a
 | c => c
def rgt : Code → Code
 | .seq _ b => b
 | c => c
def inn : Code → Code
 | .block _ c => c
 | c => c
noncomputable def body16 : Code := ((Tryz.f16.body.map loopsOf).getD []).getD 0 .skip
noncomputable def c16 : Code := inn body16
noncomputable def q0 : Code := lft c16
noncomputable def q1 : Code := lft (rgt (c16))
noncomputable def q2 : Code := lft (rgt (rgt (c16)))
noncomputable def q3 : Code := lft (rgt (rgt (rgt (c16))))
noncomputable def q4 : Code := lft (rgt (rgt (rgt (rgt (c16)))))
noncomputable def q5 : Code := lft (rgt (rgt (rgt (rgt (rgt (c16))))))
noncomputable def q6 : Code := lft (rgt (rgt (rgt (rgt (rgt (rgt (c16)))))))
noncomputable def q7 : Code := lft (rgt (rgt (rgt (rgt (rgt (rgt (rgt (c16))))))))
noncomputable def q8 : Code := lft (rgt (rgt (rgt (rgt (rgt (rgt (rgt (rgt (c16)))))))))
noncomputable def t22 : Code := rgt (rgt (rgt (rgt (rgt (rgt (rgt (rgt (rgt (c16)))))))))
noncomputable def headC (T : Code) : Code := .seq q0 (.seq q1 (.seq q2 (.seq q3 T)))
noncomputable def midC (T : Code) : Code := .seq q4 (.seq q5 (.seq q6 (.seq q7 (.seq q8 T))))
set_option maxRecDepth 1000000 in
theorem body16_is : body16 = .block 1 (headC (midC t22)) := by rfl
set_option maxRecDepth 1000000 in
def FrameOk (w : World) (b : ByteArray) (ba : Option Addr) (bc j p : Nat) (x0 x1 x6 x7 x9 x10 : Value) (a : Act) : Prop := ∃ x12 x13 x14 x15 x16 x17 x18 x19 x20 x21 x22 x23 x24 x25 x26 x27 x28 x29 x30 x31 x32 x33 x34 x35 x36 x37 x38 x39 x40 x41 x42 x43 x44 x45 x46 x47 x48 x49 x50 x51 x52 x53 x54 x55 x56 x57 x58 x59 x60 x61 x62 x63 x64 x65 x66 x67 x68 x69 x70 x71 x72 x73 x74 x75 x76 x77 x78 x79 x80 x81 x82 x83 x84 x85 x86 x87 x88 x89 x90 x91 x92 x93 x94 x95 x96 x97 x98 x99 x100 x101 x102 x103 x104 x105 x106 x107 x108 x109 x110 x111 x112 x113 x114 x115 x116 x117 x118 x119 x120 x121 x122 x123 x124 x125 x126 x127 x128 x129 x130 x131 x132 x133 x134 x135 x136 x137 x138 x139 x140 x141 x142 x143 x144 x145 x146 x147 x148 x149 x150 x151 x152 x153 x154 x155 x156 x157 x158 x159 x160 x161 x162 x163 x164 x165 x166 x167 x168 x169 x170 x171 x172 x173 x174 x175 x176 x177 x178 x179 x180 x181 x182 x183 x184 x185 x186 x187 x188 x189 x190 x191 x192 x193 x194 x195 x196 x197 x198 x199 x200 x201 x202 x203 x204 x205 x206 x207 x208 x209 x210 x211 x212 x213 x214 x215 x216 x217 x218 x219 x220 x221 x222 x223 x224 x225 x226 x227 : Value, a = ⟨#[x0, x1, .slice ba b.size bc, .int .i64 (j : Int), .pointer (some ⟨w.heap.size, 0, none⟩), .pointer (some ⟨w.heap.size + 1, 0, none⟩), x6, x7, .pointer (some ⟨w.heap.size + 1 + 1, 0, none⟩), x9, x10, .int .i64 (p : Int), x12, x13, x14, x15, x16, x17, x18, x19, x20, x21, x22, x23, x24, x25, x26, x27, x28, x29, x30, x31, x32, x33, x34, x35, x36, x37, x38, x39, x40, x41, x42, x43, x44, x45, x46, x47, x48, x49, x50, x51, x52, x53, x54, x55, x56, x57, x58, x59, x60, x61, x62, x63, x64, x65, x66, x67, x68, x69, x70, x71, x72, x73, x74, x75, x76, x77, x78, x79, x80, x81, x82, x83, x84, x85, x86, x87, x88, x89, x90, x91, x92, x93, x94, x95, x96, x97, x98, x99, x100, x101, x102, x103, x104, x105, x106, x107, x108, x109, x110, x111, x112, x113, x114, x115, x116, x117, x118, x119, x120, x121, x122, x123, x124, x125, x126, x127, x128, x129, x130, x131, x132, x133, x134, x135, x136, x137, x138, x139, x140, x141, x142, x143, x144, x145, x146, x147, x148, x149, x150, x151, x152, x153, x154, x155, x156, x157, x158, x159, x160, x161, x162, x163, x164, x165, x166, x167, x168, x169, x170, x171, x172, x173, x174, x175, x176, x177, x178, x179, x180, x181, x182, x183, x184, x185, x186, x187, x188, x189, x190, x191, x192, x193, x194, x195, x196, x197, x198, x199, x200, x201, x202, x203, x204, x205, x206, x207, x208, x209, x210, x211, x212, x213, x214, x215, x216, x217, x218, x219, x220, x221, x222, x223, x224, x225, x226, x227], []⟩
end Go.Proofs.YtklenppldblbdaaGreat
namespace Go.Proofs.YtklenppldblbdaaGreat
open Go.RowKit Go.PlainAid
variable {x0 x1 x2 x3 x4 x5 x6 x7 x8 x9 x10 x11 x12 x13 x14 x15 x16 x17 x18 x19 x20 x21 x22 x23 x24 x25 x26 x27 x28 x29 x30 x31 x32 x33 x34 x35 x36 x37 x38 x39 x40 x41 x42 x43 x44 x45 x46 x47 x48 x49 x50 x51 x52 x53 x54 x55 x56 x57 x58 x59 x60 x61 x62 x63 x64 x65 x66 x67 x68 x69 x70 x71 x72 x73 x74 x75 x76 x77 x78 x79 x80 x81 x82 x83 x84 x85 x86 x87 x88 x89 x90 x91 x92 x93 x94 x95 x96 x97 x98 x99 x100 x101 x102 x103 x104 x105 x106 x107 x108 x109 x110 x111 x112 x113 x114 x115 x116 x117 x118 x119 x120 x121 x122 x123 x124 x125 x126 x127 x128 x129 x130 x131 x132 x133 x134 x135 x136 x137 x138 x139 x140 x141 x142 x143 x144 x145 x146 x147 x148 x149 x150 x151 x152 x153 x154 x155 x156 x157 x158 x159 x160 x161 x162 x163 x164 x165 x166 x167 x168 x169 x170 x171 x172 x173 x174 x175 x176 x177 x178 x179 x180 x181 x182 x183 x184 x185 x186 x187 x188 x189 x190 x191 x192 x193 x194 x195 x196 x197 x198 x199 x200 x201 x202 x203 x204 x205 x206 x207 x208 x209 x210 x211 x212 x213 x214 x215 x216 x217 x218 x219 x220 x221 x222 x223 x224 x225 x226 x227 : Value}
set_option maxRecDepth 1000000 in
set_option maxHeartbeats 4000000 in
theorem h_end (f : FS) (B : Nat) (L : FLt) (b : ByteArray) (ba : Option Addr) (bc j : Nat) (w wr : World) (s0 : MS) (rest : List Rw) (Q : Exit → Act → World → Prop) (hC : Ctx f B L b ba bc w) (T : Code) (p k : Nat) (s : MS) (K : SLt) (hR : RunF f s0 b rest p s k) (hX : ExW f B L w s K wr) (hp : b.size ≤ p) (hret : ∀ a' w', RetX (ExecPost f B s0 w) a' w' → Q .ret a' w') :
 Code.wp Tryz.prog (headC T) Q ⟨#[x0, x1, .slice ba b.size bc, .int .i64 (j : Int), .pointer (some ⟨w.heap.size, 0, none⟩), .pointer (some ⟨w.heap.size + 1, 0, none⟩), x6, x7, .pointer (some ⟨w.heap.size + 1 + 1, 0, none⟩), x9, x10, .int .i64 (p : Int), x12, x13, x14, x15, x16, x17, x18, x19, x20, x21, x22, x23, x24, x25, x26, x27, x28, x29, x30, x31, x32, x33, x34, x35, x36, x37, x38, x39, x40, x41, x42, x43, x44, x45, x46, x47, x48, x49, x50, x51, x52, x53, x54, x55, x56, x57, x58, x59, x60, x61, x62, x63, x64, x65, x66, x67, x68, x69, x70, x71, x72, x73, x74, x75, x76, x77, x78, x79, x80, x81, x82, x83, x84, x85, x86, x87, x88, x89, x90, x91, x92, x93, x94, x95, x96, x97, x98, x99, x100, x101, x102, x103, x104, x105, x106, x107, x108, x109, x110, x111, x112, x113, x114, x115, x116, x117, x118, x119, x120, x121, x122, x123, x124, x125, x126, x127, x128, x129, x130, x131, x132, x133, x134, x135, x136, x137, x138, x139, x140, x141, x142, x143, x144, x145, x146, x147, x148, x149, x150, x151, x152, x153, x154, x155, x156, x157, x158, x159, x160, x161, x162, x163, x164, x165, x166, x167, x168, x169, x170, x171, x172, x173, x174, x175, x176, x177, x178, x179, x180, x181, x182, x183, x184, x185, x186, x187, x188, x189, x190, x191, x192, x193, x194, x195, x196, x197, x198, x199, x200, x201, x202, x203, x204, x205, x206, x207, x208, x209, x210, x211, x212, x213, x214, x215, x216, x217, x218, x219, x220, x221, x222, x223, x224, x225, x226, x227], []⟩ wr := by
 have HX := Lib.hid hX
 have HR := Lib.hid hR
 have HC := Lib.hid hC
 have HRET := Lib.hid hret
 have hst := step_over (f := f) hR.rows hp
 have HS := Lib.hid hst
 have z1 : (b.size : Int) ≤ (p : Int) := by omega
 have DC : wr.heap[w.heap.size + 1]? = some (.cells #[.slice K.sa s.stack.length K.sc, .slice K.oa s.out.length K.oc, .int .i64 s.x, .int .i64 s.y, .int .i64 (s.knots : Int), .int .i64 ((s.stems : Nat) : Int), .int .i64 ((s.fuel : Nat) : Int), .int .i64 s.width, .bool s.asked] 52 (0, 0)) := hX.dD
 have HDC := Lib.hid DC
 obtain ⟨d0, d1, d2, d3, d4, d5, d6, d7, d8⟩ := blk9 DC
 obtain ⟨f0, f1, f2, f3, f4, f5, f6, f7, f8⟩ := free9 DC
 have EC := hX.dE
 have HEC := Lib.hid EC
 obtain ⟨e0, e1, e2, e3, e4, e5, e6, e7, e8⟩ := blk9 EC
 obtain ⟨g0, g1, g2, g3, g4, g5, g6, g7, g8⟩ := free9 EC
 clear hX hR hC hret hst DC EC hp
 unfold headC
 conv => arg 2; arg 1; whnf
 conv => arg 2; arg 2; arg 1; whnf
 conv => arg 2; arg 2; arg 2; arg 1; whnf
 conv => arg 2; arg 2; arg 2; arg 2; arg 1; whnf
 go_wp2_with fail
 refine HRET.out _ _ ?_
 refine ret_gen _ fun w9 hw9 => ?_
 have hg9 : wr.grownBy w9 (some (w.heap.size + 1 + 1)) := by rw [hw9]; exact set9_grown _ _ _ _ _ _ _ _ _ _ _
 have hE9 : w9.heap[w.heap.size + 1 + 1]? = some (.cells #[.slice K.sa s.stack.length K.sc, .slice K.oa s.out.length K.oc, .int .i64 s.x, .int .i64 s.y, .int .i64 (s.knots : Int), .int .i64 ((s.stems : Nat) : Int), .int .i64 ((s.fuel : Nat) : Int), .int .i64 s.width, .bool s.asked] 52 (0, 0)) := by rw [hw9]; exact set9_blk HEC.out _ _ _ _ _ _ _ _ _
 clear hw9
 have hb9 : Below B w w9 := HX.out.bel.grown hg9 (Nat.le_trans HC.out.le HX.out.le) (fun k hk => by cases hk; have := HC.out.le; omega)
 have hk9 : KeepD w.heap.size w w9 := HX.out.keep.trans (keepD_new hg9 (by omega))
 refine retx rfl rfl rfl rfl hE9 ?_
 exact exec_err (K := K) (s2 := s) HR.out HC.out.font.fit HS.out (fault_of HR.out.fault 81) (by decide) rfl hb9 hk9
set_option maxRecDepth 1000000 in
set_option maxHeartbeats 4000000 in
theorem h_worn (f : FS) (B : Nat) (L : FLt) (b : ByteArray) (ba : Option Addr) (bc j : Nat) (w wr : World) (s0 : MS) (rest : List Rw) (Q : Exit → Act → World → Prop) (hC : Ctx f B L b ba bc w) (T : Code) (p k : Nat) (s : MS) (K : SLt) (hR : RunF f s0 b rest p s k) (hX : ExW f B L w s K wr) (hp : p < b.size) (hw : s.fuel = 20000) (hret : ∀ a' w', RetX (ExecPost f B s0 w) a' w' → Q .ret a' w') :
 Code.wp Tryz.prog (headC T) Q ⟨#[x0, x1, .slice ba b.size bc, .int .i64 (j : Int), .pointer (some ⟨w.heap.size, 0, none⟩), .pointer (some ⟨w.heap.size + 1, 0, none⟩), x6, x7, .pointer (some ⟨w.heap.size + 1 + 1, 0, none⟩), x9, x10, .int .i64 (p : Int), x12, x13, x14, x15, x16, x17, x18, x19, x20, x21, x22, x23, x24, x25, x26, x27, x28, x29, x30, x31, x32, x33, x34, x35, x36, x37, x38, x39, x40, x41, x42, x43, x44, x45, x46, x47, x48, x49, x50, x51, x52, x53, x54, x55, x56, x57, x58, x59, x60, x61, x62, x63, x64, x65, x66, x67, x68, x69, x70, x71, x72, x73, x74, x75, x76, x77, x78, x79, x80, x81, x82, x83, x84, x85, x86, x87, x88, x89, x90, x91, x92, x93, x94, x95, x96, x97, x98, x99, x100, x101, x102, x103, x104, x105, x106, x107, x108, x109, x110, x111, x112, x113, x114, x115, x116, x117, x118, x119, x120, x121, x122, x123, x124, x125, x126, x127, x128, x129, x130, x131, x132, x133, x134, x135, x136, x137, x138, x139, x140, x141, x142, x143, x144, x145, x146, x147, x148, x149, x150, x151, x152, x153, x154, x155, x156, x157, x158, x159, x160, x161, x162, x163, x164, x165, x166, x167, x168, x169, x170, x171, x172, x173, x174, x175, x176, x177, x178, x179, x180, x181, x182, x183, x184, x185, x186, x187, x188, x189, x190, x191, x192, x193, x194, x195, x196, x197, x198, x199, x200, x201, x202, x203, x204, x205, x206, x207, x208, x209, x210, x211, x212, x213, x214, x215, x216, x217, x218, x219, x220, x221, x222, x223, x224, x225, x226, x227], []⟩ wr := by
 have HX := Lib.hid hX
 have HR := Lib.hid hR
 have HC := Lib.hid hC
 have HRET := Lib.hid hret
 have hst := step_worn (f := f) hR.rows hp hw
 have HS := Lib.hid hst
 have z1 : ¬ (b.size : Int) ≤ (p : Int) := by omega
 have z2 : (20000 : Int) ≤ (s.fuel : Int) := by omega
 have DC : wr.heap[w.heap.size + 1]? = some (.cells #[.slice K.sa s.stack.length K.sc, .slice K.oa s.out.length K.oc, .int .i64 s.x, .int .i64 s.y, .int .i64 (s.knots : Int), .int .i64 ((s.stems : Nat) : Int), .int .i64 ((s.fuel : Nat) : Int), .int .i64 s.width, .bool s.asked] 52 (0, 0)) := hX.dD
 have HDC := Lib.hid DC
 obtain ⟨d0, d1, d2, d3, d4, d5, d6, d7, d8⟩ := blk9 DC
 obtain ⟨f0, f1, f2, f3, f4, f5, f6, f7, f8⟩ := free9 DC
 have EC := hX.dE
 have HEC := Lib.hid EC
 obtain ⟨e0, e1, e2, e3, e4, e5, e6, e7, e8⟩ := blk9 EC
 obtain ⟨g0, g1, g2, g3, g4, g5, g6, g7, g8⟩ := free9 EC
 clear hX hR hC hret hst DC EC hp hw
 unfold headC
 conv => arg 2; arg 1; whnf
 conv => arg 2; arg 2; arg 1; whnf
 conv => arg 2; arg 2; arg 2; arg 1; whnf
 conv => arg 2; arg 2; arg 2; arg 2; arg 1; whnf
 go_wp2_with fail
 refine HRET.out _ _ ?_
 refine ret_gen _ fun w9 hw9 => ?_
 have hg9 : wr.grownBy w9 (some (w.heap.size + 1 + 1)) := by rw [hw9]; exact set9_grown _ _ _ _ _ _ _ _ _ _ _
 have hE9 : w9.heap[w.heap.size + 1 + 1]? = some (.cells #[.slice K.sa s.stack.length K.sc, .slice K.oa s.out.length K.oc, .int .i64 s.x, .int .i64 s.y, .int .i64 (s.knots : Int), .int .i64 ((s.stems : Nat) : Int), .int .i64 ((s.fuel : Nat) : Int), .int .i64 s.width, .bool s.asked] 52 (0, 0)) := by rw [hw9]; exact set9_blk HEC.out _ _ _ _ _ _ _ _ _
 clear hw9
 have hb9 : Below B w w9 := HX.out.bel.grown hg9 (Nat.le_trans HC.out.le HX.out.le) (fun k hk => by cases hk; have := HC.out.le; omega)
 have hk9 : KeepD w.heap.size w w9 := HX.out.keep.trans (keepD_new hg9 (by omega))
 refine retx rfl rfl rfl rfl hE9 ?_
 exact exec_err (K := K) (s2 := s) HR.out HC.out.font.fit HS.out (fault_of HR.out.fault 83) (by decide) rfl hb9 hk9
set_option maxRecDepth 1000000 in
set_option maxHeartbeats 4000000 in
theorem h_num (f : FS) (B : Nat) (L : FLt) (b : ByteArray) (ba : Option Addr) (bc j : Nat) (w wr : World) (s0 : MS) (rest : List Rw) (Q : Exit → Act → World → Prop) (hC : Ctx f B L b ba bc w) (T : Code) (p k : Nat) (s : MS) (K : SLt) (hR : RunF f s0 b rest p s k) (hX : ExW f B L w s K wr) (hp : p < b.size) (hw : s.fuel < 20000)
 (hT : ∀ (y20 y21 y22 y23 y24 y25 y26 y27 y28 y29 y30 y31 y32 y33 y34 y35 y36 y37 y38 : Value) (V : World), ExW f B L w { s with fuel := s.fuel + 1 } K V → Code.wp Tryz.prog T Q ⟨#[x0, x1, .slice ba b.size bc, .int .i64 (j : Int), .pointer (some ⟨w.heap.size, 0, none⟩), .pointer (some ⟨w.heap.size + 1, 0, none⟩), x6, x7, .pointer (some ⟨w.heap.size + 1 + 1, 0, none⟩), x9, x10, .int .i64 (p : Int), .int .i64 (numD b p).1, .int .i64 (numD b p).2, x14, x15, x16, x17, x18, x19, y20, y21, y22, y23, y24, y25, y26, y27, y28, y29, y30, y31, y32, y33, y34, y35, y36, y37, y38, x39, x40, x41, x42, x43, x44, x45, x46, x47, x48, x49, x50, x51, x52, x53, x54, x55, x56, x57, x58, x59, x60, x61, x62, x63, x64, x65, x66, x67, x68, x69, x70, x71, x72, x73, x74, x75, x76, x77, x78, x79, x80, x81, x82, x83, x84, x85, x86, x87, x88, x89, x90, x91, x92, x93, x94, x95, x96, x97, x98, x99, x100, x101, x102, x103, x104, x105, x106, x107, x108, x109, x110, x111, x112, x113, x114, x115, x116, x117, x118, x119, x120, x121, x122, x123, x124, x125, x126, x127, x128, x129, x130, x131, x132, x133, x134, x135, x136, x137, x138, x139, x140, x141, x142, x143, x144, x145, x146, x147, x148, x149, x150, x151, x152, x153, x154, x155, x156, x157, x158, x159, x160, x161, x162, x163, x164, x165, x166, x167, x168, x169, x170, x171, x172, x173, x174, x175, x176, x177, x178, x179, x180, x181, x182, x183, x184, x185, x186, x187, x188, x189, x190, x191, x192, x193, x194, x195, x196, x197, x198, x199, x200, x201, x202, x203, x204, x205, x206, x207, x208, x209, x210, x211, x212, x213, x214, x215, x216, x217, x218, x219, x220, x221, x222, x223, x224, x225, x226, x227], []⟩ V) :
 Code.wp Tryz.prog (headC T) Q ⟨#[x0, x1, .slice ba b.size bc, .int .i64 (j : Int), .pointer (some ⟨w.heap.size, 0, none⟩), .pointer (some ⟨w.heap.size + 1, 0, none⟩), x6, x7, .pointer (some ⟨w.heap.size + 1 + 1, 0, none⟩), x9, x10, .int .i64 (p : Int), x12, x13, x14, x15, x16, x17, x18, x19, x20, x21, x22, x23, x24, x25, x26, x27, x28, x29, x30, x31, x32, x33, x34, x35, x36, x37, x38, x39, x40, x41, x42, x43, x44, x45, x46, x47, x48, x49, x50, x51, x52, x53, x54, x55, x56, x57, x58, x59, x60, x61, x62, x63, x64, x65, x66, x67, x68, x69, x70, x71, x72, x73, x74, x75, x76, x77, x78, x79, x80, x81, x82, x83, x84, x85, x86, x87, x88, x89, x90, x91, x92, x93, x94, x95, x96, x97, x98, x99, x100, x101, x102, x103, x104, x105, x106, x107, x108, x109, x110, x111, x112, x113, x114, x115, x116, x117, x118, x119, x120, x121, x122, x123, x124, x125, x126, x127, x128, x129, x130, x131, x132, x133, x134, x135, x136, x137, x138, x139, x140, x141, x142, x143, x144, x145, x146, x147, x148, x149, x150, x151, x152, x153, x154, x155, x156, x157, x158, x159, x160, x161, x162, x163, x164, x165, x166, x167, x168, x169, x170, x171, x172, x173, x174, x175, x176, x177, x178, x179, x180, x181, x182, x183, x184, x185, x186, x187, x188, x189, x190, x191, x192, x193, x194, x195, x196, x197, x198, x199, x200, x201, x202, x203, x204, x205, x206, x207, x208, x209, x210, x211, x212, x213, x214, x215, x216, x217, x218, x219, x220, x221, x222, x223, x224, x225, x226, x227], []⟩ wr := by
 have HX := Lib.hid hX
 have HR := Lib.hid hR
 have HC := Lib.hid hC
 have HT := Lib.hid hT
 have z1 : ¬ (b.size : Int) ≤ (p : Int) := by omega
 have z2 : ¬ (20000 : Int) ≤ (s.fuel : Int) := by omega
 have hw1 : wrap64 ((s.fuel : Int) + 1) = ((s.fuel + 1 : Nat) : Int) := by unfold wrap64; omega
 have HP := Lib.hid hp
 have DC : wr.heap[w.heap.size + 1]? = some (.cells #[.slice K.sa s.stack.length K.sc, .slice K.oa s.out.length K.oc, .int .i64 s.x, .int .i64 s.y, .int .i64 (s.knots : Int), .int .i64 ((s.stems : Nat) : Int), .int .i64 ((s.fuel : Nat) : Int), .int .i64 s.width, .bool s.asked] 52 (0, 0)) := hX.dD
 have HDC := Lib.hid DC
 obtain ⟨d0, d1, d2, d3, d4, d5, d6, d7, d8⟩ := blk9 DC
 obtain ⟨f0, f1, f2, f3, f4, f5, f6, f7, f8⟩ := free9 DC
 have hg1 := grown_set wr (w.heap.size + 1) 6 (.int .i64 ((s.fuel + 1 : Nat) : Int))
 have hd1 : (wr.setCell ⟨w.heap.size + 1, 6, none⟩ (.int .i64 ((s.fuel + 1 : Nat) : Int))).heap[w.heap.size + 1]? = some (.cells (stV K.sa K.sc K.oa K.oc { s with fuel := s.fuel + 1 }) 52 (0, 0)) := by
  have h := blk_set DC 6 (.int .i64 ((s.fuel + 1 : Nat) : Int))
  simp at h
  exact h
 have HX1 := Lib.hid (ExW.turn (s' := { s with fuel := s.fuel + 1 }) (K' := K) hX hC.le (Below.refl _ _) (KeepD.refl _ _) hg1 hd1 hX.outw hX.opds hX.cap)
 have HNU := Lib.hid (number_d ba b.size bc b p _ (hC.code.kept HX1.out.bel).isB hC.size hp)
 clear hX hR hC hT DC hp hw hg1 hd1
 unfold headC
 conv => arg 2; arg 1; whnf
 conv => arg 2; arg 2; arg 1; whnf
 conv => arg 2; arg 2; arg 2; arg 1; whnf
 conv => arg 2; arg 2; arg 2; arg 2; arg 1; whnf
 go_wp2_with fail
 refine HNU.out.mono ?_
 rintro e w2 ⟨rfl, hb2⟩
 have HX2 := Lib.hid (HX1.out.up HC.out.le hb2)
 clear hb2 HX1 HNU
 go_wp2_with fail
 exact HT.out _ _ _ _ _ _ _ _ _ _ _ _ _ _ _ _ _ _ _ _ HX2.out
end Go.Proofs.YtklenppldblbdaaGreat
