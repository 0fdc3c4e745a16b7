import Derived.Test.YtklenppldblbdaaGreatK07
import Derived.Test.YtklenppldblbdaaGreatK08
import Derived.Test.YtklenppldblbdaaGreatK06
import Derived.Deep.RegionHeld3
set_option linter.unusedSimpArgs false
set_option linter.unusedVariables false
namespace Go.Proofs.YtklenppldblbdaaGreat
open Go.RowKit Go.PlainAid
theorem lies_at {w : World} {cs : Array Value} {T : TypeId} {g : Nat} (hg : g = w.heap.size) : Lies (w.alloc (.cells cs T)) g 0 cs.toList := by subst hg; exact lies_new
theorem grown_cell9 {w w' : World} {D : Nat} (hg : w.grownBy w' (some D)) {b o : Nat} {v : Value} (hc : w.cell? ⟨b, o, none⟩ = some v) (hb : b ≠ D) : w'.cell? ⟨b, o, none⟩ = some v := by
 rw [World.cell?_of_block (w := w) (hg.block b (World.block_lt_of_cell? w _ hc) (fun e => hb (by cases e; rfl)))]; exact hc
theorem call_none (B M F : Nat) (L : Lay) (s : MS) (a : Option Addr) (n c : Nat) (d : Option Addr) (Ps : List ByteArray) (w : World) (h : Mach w B M F L s) (h0 : s.stack.length = 0) :
 Calls Tryz.prog 68 #[.pointer (some ⟨M, 0, none⟩), .agg #[.slice a n c, .pointer d]] w (MPost B M F (s.call Ps) (.tuple #[]) w) := by
 have HB0 : Hid (Below w.heap.size w (w.alloc (.cells #[.slice a n c, .pointer d] 57))) := (Below.refl _ _).alloc (Nat.le_refl _) _
 have H := Lib.hid h
 have H0 := Lib.hid (h.below HB0.out)
 have HE : Hid (s.call Ps = s.refuse 81) := by unfold Hid MS.call; rw [if_pos h0]
 rw [HE.out]
 have c7 := h.c7
 rw [h0] at c7
 have c7a := keepC HB0.out c7
 clear h HE h0 c7
 go_enter Tryz.func68, Tryz.ntmps68
 go_wp2_with fail
 refine (refuse_c B M F L s 81 _ H0.out).mono ?_
 rintro e w2 ⟨rfl, h2, hb2, hk2⟩
 have H2 := Lib.hid h2
 have HB2 := Lib.hid ((HB0.out.mono H.out.le).trans hb2)
 clear h2 hb2 hk2
 go_wp2_with fail
 go_end0
 exact ⟨rfl, ⟨_, H2.out⟩, HB2.out⟩
structure CallAt (w : World) (B M F : Nat) (L : Lay) (s : MS) (a : Option Addr) (n c : Nat) (d : Option Addr) (Ps : List ByteArray) (g m : Nat) (v : Int) (p : Nat) (u : Int) : Prop where
 mach : Mach w B M F L s
 idx : IdxIs w a n c d Ps
 n1 : n ≤ 100000
 n2 : n ≤ c
 sa : L.sa = some ⟨g, 0, none⟩
 len : s.stack.length = m + 1
 few : m ≤ 47
 cap : m + 1 ≤ L.sc
 cell : w.cell? ⟨g, m, none⟩ = some (.int .i64 v)
 vb : -2147483648 ≤ v ∧ v ≤ 2147483648
 cnt : Ps.length = p
 cnt2 : n - 1 = p
 num : v / 65536 + biasN p = u
 rows : s.rows.length ≤ 11 ∧ 1 ≤ s.rows.length
set_option maxRecDepth 20000 in
set_option maxHeartbeats 4000000 in
theorem call_neg (B M F : Nat) (L : Lay) (s : MS) (a : Option Addr) (n c : Nat) (d : Option Addr) (Ps : List ByteArray) (g m : Nat) (v : Int) (p : Nat) (u : Int) (w : World) (k : CallAt w B M F L s a n c d Ps g m v p u) (hu : u < 0) :
 Calls Tryz.prog 68 #[.pointer (some ⟨M, 0, none⟩), .agg #[.slice a n c, .pointer d]] w (MPost B M F (({ s with stack := s.stack.take m } : MS).refuse 81) (.tuple #[]) w) := by
 have c7 := k.mach.c7
 rw [k.sa, k.len] at c7
 have HB0 : Hid (Below w.heap.size w (w.alloc (.cells #[.slice a n c, .pointer d] 57))) := (Below.refl _ _).alloc (Nat.le_refl _) _
 have H := Lib.hid k.mach
 have H0 := Lib.hid (k.mach.below HB0.out)
 have HI0 := Lib.hid (k.idx.below HB0.out)
 have HK := Lib.hid k
 have c7a := keepC HB0.out c7
 have k0a := keepC HB0.out k.cell
 have hxb : (w.alloc (.cells #[.slice a n c, .pointer d] 57)).cell? ⟨w.heap.size, 0, none⟩ = some (.slice a n c) := by simp [go_sem]
 have hxc : (w.alloc (.cells #[.slice a n c, .pointer d] 57)).cell? ⟨w.heap.size, 1, none⟩ = some (.pointer d) := by simp [go_sem]
 have c7d : (w.alloc (.cells #[.slice a n c, .pointer d] 57)).drew.cell? ⟨M, 7, none⟩ = some (.slice (some ⟨g, 0, none⟩) (m + 1) L.sc) := c7a
 have k0d : (w.alloc (.cells #[.slice a n c, .pointer d] 57)).drew.cell? ⟨g, m, none⟩ = some (.int .i64 v) := k0a
 have hxbd : (w.alloc (.cells #[.slice a n c, .pointer d] 57)).drew.cell? ⟨w.heap.size, 0, none⟩ = some (.slice a n c) := hxb
 have hxcd : (w.alloc (.cells #[.slice a n c, .pointer d] 57)).drew.cell? ⟨w.heap.size, 1, none⟩ = some (.pointer d) := hxc
 have H0d := Lib.hid (H0.out.below (Below.refl _ _).drew)
 have HI0d := Lib.hid (HI0.out.below (Below.refl _ _).drew)
 have hml := k.few
 have hmc := k.cap
 have b0 : (0 : Int) ≤ (m : Int) := by omega
 have b1 : (m : Int) < (m : Int) + 1 := by omega
 have b2 : (m : Int) ≤ (L.sc : Int) := by omega
 have hvb1 := k.vb.1
 have hvb2 := k.vb.2
 have es : IntKind.i64.wrap ((v / 65536) + biasN p) = u := by rw [← k.num]; exact IntWalk.i64_in _ (by have h1 := biasN_bound p; omega)
 clear k c7
 go_enter Tryz.func68, Tryz.ntmps68
 go_wp2_with fail
 go_region_held3 (fun W => W.cell? ⟨M, 7, none⟩ = some (.slice (some ⟨g, 0, none⟩) (m + 1) L.sc) ∧ W.cell? ⟨g, m, none⟩ = some (.int .i64 v) ∧ W.cell? ⟨w.heap.size, 0, none⟩ = some (.slice a n c) ∧ W.cell? ⟨w.heap.size, 1, none⟩ = some (.pointer d)) (first | with_reducible exact ⟨c7d, k0d, hxbd, hxcd⟩ | with_reducible exact ⟨q7, q0, qb, qc⟩)
  (first
   | (go_at_call 19; ((with_reducible refine (count_c a n c (.pointer d) _ HK.out.n1).mono ?_); rintro e w2 ⟨rfl, hb2⟩; have q7 := keepC hb2 c7d; have q0 := keepC hb2 k0d; have qb := keepC hb2 hxbd; have qc := keepC hb2 hxcd; have HB2 := Lib.hid hb2; clear hb2; rw [HK.out.cnt2]))
   | (go_at_call 83; (with_reducible refine (bias_c p _ (by have h1 := HK.out.cnt2; have h2 := HK.out.n1; omega)).mono ?_); rintro e w3 ⟨rfl, rfl⟩))
 have H2 := Lib.hid (H0d.out.below HB2.out)
 have HI2 := Lib.hid (HI0d.out.below HB2.out)
 have f7 := H2.out.f 7
 have HS := Lib.hid (H2.out.cutStack m (by rw [HK.out.len]; omega))
 rw [HK.out.sa] at HS
 have hMw : w.heap.size ≠ M := by have := H.out.lt; omega
 have rb : (w2.setCell ⟨M, 7, none⟩ (.slice (some ⟨g, 0, none⟩) m L.sc)).cell? ⟨w.heap.size, 0, none⟩ = some (.slice a n c) := (keepS (Ne.symm hMw)).trans qb
 have rc : (w2.setCell ⟨M, 7, none⟩ (.slice (some ⟨g, 0, none⟩) m L.sc)).cell? ⟨w.heap.size, 1, none⟩ = some (.pointer d) := (keepS (Ne.symm hMw)).trans qc
 have HBS : Hid (Below B w (w2.setCell ⟨M, 7, none⟩ (.slice (some ⟨g, 0, none⟩) m L.sc))) := bel_set ((bel_next HB0.out.drew HB2.out).mono H.out.le) H.out.mB _
 have HIS : Hid (IdxIs (w2.setCell ⟨M, 7, none⟩ (.slice (some ⟨g, 0, none⟩) m L.sc)) a n c d Ps) := by
  have h1 := HI2.out
  rcases h1 with h1 | ⟨ob, vb, sb, cs, fr, e1, e2, e3, e4, e5, e6⟩
  ·exact .inl h1
  ·exact .inr ⟨ob, vb, sb, cs, fr, e1, e2, e3, blk_chg e4 (grown_set _ _ _ _) H2.out.typ (by decide), blk_chg e5 (grown_set _ _ _ _) H2.out.typ (by decide), e6⟩
 clear c7a k0a hxb hxc c7d k0d hxbd hxcd q0 qb qc b0 b1 es
 go_wp2_with fail
 generalize (w2.setCell ⟨M, 7, none⟩ (.slice (some ⟨g, 0, none⟩) m L.sc)) = w4 at *
 refine (refuse_c B M F _ _ 81 _ HS.out).mono ?_
 rintro e w9 ⟨rfl, h2, hb2, hk2⟩
 have H9 := Lib.hid h2
 have HB9 := Lib.hid (HBS.out.trans hb2)
 clear h2 hb2 hk2
 go_wp2_with fail
 go_end0
 exact ⟨rfl, ⟨_, H9.out⟩, HB9.out⟩
set_option maxRecDepth 20000 in
set_option maxHeartbeats 4000000 in
theorem call_big (B M F : Nat) (L : Lay) (s : MS) (a : Option Addr) (n c : Nat) (d : Option Addr) (Ps : List ByteArray) (g m : Nat) (v : Int) (p : Nat) (u : Int) (w : World) (k : CallAt w B M F L s a n c d Ps g m v p u) (hu : 0 ≤ u) (hp : (p : Int) ≤ u) :
 Calls Tryz.prog 68 #[.pointer (some ⟨M, 0, none⟩), .agg #[.slice a n c, .pointer d]] w (MPost B M F (({ s with stack := s.stack.take m } : MS).refuse 81) (.tuple #[]) w) := by
 have c7 := k.mach.c7
 rw [k.sa, k.len] at c7
 have HB0 : Hid (Below w.heap.size w (w.alloc (.cells #[.slice a n c, .pointer d] 57))) := (Below.refl _ _).alloc (Nat.le_refl _) _
 have H := Lib.hid k.mach
 have H0 := Lib.hid (k.mach.below HB0.out)
 have HI0 := Lib.hid (k.idx.below HB0.out)
 have HK := Lib.hid k
 have c7a := keepC HB0.out c7
 have k0a := keepC HB0.out k.cell
 have hxb : (w.alloc (.cells #[.slice a n c, .pointer d] 57)).cell? ⟨w.heap.size, 0, none⟩ = some (.slice a n c) := by simp [go_sem]
 have hxc : (w.alloc (.cells #[.slice a n c, .pointer d] 57)).cell? ⟨w.heap.size, 1, none⟩ = some (.pointer d) := by simp [go_sem]
 have c7d : (w.alloc (.cells #[.slice a n c, .pointer d] 57)).drew.cell? ⟨M, 7, none⟩ = some (.slice (some ⟨g, 0, none⟩) (m + 1) L.sc) := c7a
 have k0d : (w.alloc (.cells #[.slice a n c, .pointer d] 57)).drew.cell? ⟨g, m, none⟩ = some (.int .i64 v) := k0a
 have hxbd : (w.alloc (.cells #[.slice a n c, .pointer d] 57)).drew.cell? ⟨w.heap.size, 0, none⟩ = some (.slice a n c) := hxb
 have hxcd : (w.alloc (.cells #[.slice a n c, .pointer d] 57)).drew.cell? ⟨w.heap.size, 1, none⟩ = some (.pointer d) := hxc
 have H0d := Lib.hid (H0.out.below (Below.refl _ _).drew)
 have HI0d := Lib.hid (HI0.out.below (Below.refl _ _).drew)
 have hml := k.few
 have hmc := k.cap
 have b0 : (0 : Int) ≤ (m : Int) := by omega
 have b1 : (m : Int) < (m : Int) + 1 := by omega
 have b2 : (m : Int) ≤ (L.sc : Int) := by omega
 have hvb1 := k.vb.1
 have hvb2 := k.vb.2
 have es : IntKind.i64.wrap ((v / 65536) + biasN p) = u := by rw [← k.num]; exact IntWalk.i64_in _ (by have h1 := biasN_bound p; omega)
 clear k c7
 go_enter Tryz.func68, Tryz.ntmps68
 go_wp2_with fail
 go_region_held3 (fun W => W.cell? ⟨M, 7, none⟩ = some (.slice (some ⟨g, 0, none⟩) (m + 1) L.sc) ∧ W.cell? ⟨g, m, none⟩ = some (.int .i64 v) ∧ W.cell? ⟨w.heap.size, 0, none⟩ = some (.slice a n c) ∧ W.cell? ⟨w.heap.size, 1, none⟩ = some (.pointer d)) (first | with_reducible exact ⟨c7d, k0d, hxbd, hxcd⟩ | with_reducible exact ⟨q7, q0, qb, qc⟩)
  (first
   | (go_at_call 19; ((with_reducible refine (count_c a n c (.pointer d) _ HK.out.n1).mono ?_); rintro e w2 ⟨rfl, hb2⟩; have q7 := keepC hb2 c7d; have q0 := keepC hb2 k0d; have qb := keepC hb2 hxbd; have qc := keepC hb2 hxcd; have HB2 := Lib.hid hb2; clear hb2; rw [HK.out.cnt2]))
   | (go_at_call 83; (with_reducible refine (bias_c p _ (by have h1 := HK.out.cnt2; have h2 := HK.out.n1; omega)).mono ?_); rintro e w3 ⟨rfl, rfl⟩))
 have H2 := Lib.hid (H0d.out.below HB2.out)
 have HI2 := Lib.hid (HI0d.out.below HB2.out)
 have f7 := H2.out.f 7
 have HS := Lib.hid (H2.out.cutStack m (by rw [HK.out.len]; omega))
 rw [HK.out.sa] at HS
 have hMw : w.heap.size ≠ M := by have := H.out.lt; omega
 have rb : (w2.setCell ⟨M, 7, none⟩ (.slice (some ⟨g, 0, none⟩) m L.sc)).cell? ⟨w.heap.size, 0, none⟩ = some (.slice a n c) := (keepS (Ne.symm hMw)).trans qb
 have rc : (w2.setCell ⟨M, 7, none⟩ (.slice (some ⟨g, 0, none⟩) m L.sc)).cell? ⟨w.heap.size, 1, none⟩ = some (.pointer d) := (keepS (Ne.symm hMw)).trans qc
 have HBS : Hid (Below B w (w2.setCell ⟨M, 7, none⟩ (.slice (some ⟨g, 0, none⟩) m L.sc))) := bel_set ((bel_next HB0.out.drew HB2.out).mono H.out.le) H.out.mB _
 have HIS : Hid (IdxIs (w2.setCell ⟨M, 7, none⟩ (.slice (some ⟨g, 0, none⟩) m L.sc)) a n c d Ps) := by
  have h1 := HI2.out
  rcases h1 with h1 | ⟨ob, vb, sb, cs, fr, e1, e2, e3, e4, e5, e6⟩
  ·exact .inl h1
  ·exact .inr ⟨ob, vb, sb, cs, fr, e1, e2, e3, blk_chg e4 (grown_set _ _ _ _) H2.out.typ (by decide), blk_chg e5 (grown_set _ _ _ _) H2.out.typ (by decide), e6⟩
 clear c7a k0a hxb hxc c7d k0d hxbd hxcd q0 qb qc b0 b1 es
 go_wp2_with fail
 generalize (w2.setCell ⟨M, 7, none⟩ (.slice (some ⟨g, 0, none⟩) m L.sc)) = w4 at *
 refine (count_c a n c (.pointer d) _ HK.out.n1).mono ?_
 rintro e w5 ⟨rfl, hb5⟩
 rw [HK.out.cnt2]
 have HS5 := Lib.hid (HS.out.below hb5)
 have HI5 := Lib.hid (HIS.out.below hb5)
 have HB5 := Lib.hid (HBS.out.trans (hb5.mono HS.out.le))
 have sb := keepC hb5 rb
 have sc := keepC hb5 rc
 clear hb5 rb rc
 go_wp2_with fail
 refine (refuse_c B M F _ _ 81 _ HS5.out).mono ?_
 rintro e w9 ⟨rfl, h2, hb2, hk2⟩
 have H9 := Lib.hid h2
 have HB9 := Lib.hid (HB5.out.trans hb2)
 clear h2 hb2 hk2
 go_wp2_with fail
 go_end0
 exact ⟨rfl, ⟨_, H9.out⟩, HB9.out⟩
set_option maxRecDepth 20000 in
set_option maxHeartbeats 4000000 in
theorem call_deep (B M F : Nat) (L : Lay) (s : MS) (a : Option Addr) (n c : Nat) (d : Option Addr) (Ps : List ByteArray) (g m : Nat) (v : Int) (p : Nat) (u : Int) (w : World) (k : CallAt w B M F L s a n c d Ps g m v p u) (hu : 0 ≤ u) (hp : u < (p : Int)) (hd : 10 < s.rows.length) :
 Calls Tryz.prog 68 #[.pointer (some ⟨M, 0, none⟩), .agg #[.slice a n c, .pointer d]] w (MPost B M F (({ s with stack := s.stack.take m } : MS).refuse 83) (.tuple #[]) w) := by
 have c7 := k.mach.c7
 rw [k.sa, k.len] at c7
 have HB0 : Hid (Below w.heap.size w (w.alloc (.cells #[.slice a n c, .pointer d] 57))) := (Below.refl _ _).alloc (Nat.le_refl _) _
 have H := Lib.hid k.mach
 have H0 := Lib.hid (k.mach.below HB0.out)
 have HI0 := Lib.hid (k.idx.below HB0.out)
 have HK := Lib.hid k
 have c7a := keepC HB0.out c7
 have k0a := keepC HB0.out k.cell
 have hxb : (w.alloc (.cells #[.slice a n c, .pointer d] 57)).cell? ⟨w.heap.size, 0, none⟩ = some (.slice a n c) := by simp [go_sem]
 have hxc : (w.alloc (.cells #[.slice a n c, .pointer d] 57)).cell? ⟨w.heap.size, 1, none⟩ = some (.pointer d) := by simp [go_sem]
 have c7d : (w.alloc (.cells #[.slice a n c, .pointer d] 57)).drew.cell? ⟨M, 7, none⟩ = some (.slice (some ⟨g, 0, none⟩) (m + 1) L.sc) := c7a
 have k0d : (w.alloc (.cells #[.slice a n c, .pointer d] 57)).drew.cell? ⟨g, m, none⟩ = some (.int .i64 v) := k0a
 have hxbd : (w.alloc (.cells #[.slice a n c, .pointer d] 57)).drew.cell? ⟨w.heap.size, 0, none⟩ = some (.slice a n c) := hxb
 have hxcd : (w.alloc (.cells #[.slice a n c, .pointer d] 57)).drew.cell? ⟨w.heap.size, 1, none⟩ = some (.pointer d) := hxc
 have H0d := Lib.hid (H0.out.below (Below.refl _ _).drew)
 have HI0d := Lib.hid (HI0.out.below (Below.refl _ _).drew)
 have hml := k.few
 have hmc := k.cap
 have b0 : (0 : Int) ≤ (m : Int) := by omega
 have b1 : (m : Int) < (m : Int) + 1 := by omega
 have b2 : (m : Int) ≤ (L.sc : Int) := by omega
 have hvb1 := k.vb.1
 have hvb2 := k.vb.2
 have es : IntKind.i64.wrap ((v / 65536) + biasN p) = u := by rw [← k.num]; exact IntWalk.i64_in _ (by have h1 := biasN_bound p; omega)
 clear k c7
 go_enter Tryz.func68, Tryz.ntmps68
 go_wp2_with fail
 go_region_held3 (fun W => W.cell? ⟨M, 7, none⟩ = some (.slice (some ⟨g, 0, none⟩) (m + 1) L.sc) ∧ W.cell? ⟨g, m, none⟩ = some (.int .i64 v) ∧ W.cell? ⟨w.heap.size, 0, none⟩ = some (.slice a n c) ∧ W.cell? ⟨w.heap.size, 1, none⟩ = some (.pointer d)) (first | with_reducible exact ⟨c7d, k0d, hxbd, hxcd⟩ | with_reducible exact ⟨q7, q0, qb, qc⟩)
  (first
   | (go_at_call 19; ((with_reducible refine (count_c a n c (.pointer d) _ HK.out.n1).mono ?_); rintro e w2 ⟨rfl, hb2⟩; have q7 := keepC hb2 c7d; have q0 := keepC hb2 k0d; have qb := keepC hb2 hxbd; have qc := keepC hb2 hxcd; have HB2 := Lib.hid hb2; clear hb2; rw [HK.out.cnt2]))
   | (go_at_call 83; (with_reducible refine (bias_c p _ (by have h1 := HK.out.cnt2; have h2 := HK.out.n1; omega)).mono ?_); rintro e w3 ⟨rfl, rfl⟩))
 have H2 := Lib.hid (H0d.out.below HB2.out)
 have HI2 := Lib.hid (HI0d.out.below HB2.out)
 have f7 := H2.out.f 7
 have HS := Lib.hid (H2.out.cutStack m (by rw [HK.out.len]; omega))
 rw [HK.out.sa] at HS
 have hMw : w.heap.size ≠ M := by have := H.out.lt; omega
 have rb : (w2.setCell ⟨M, 7, none⟩ (.slice (some ⟨g, 0, none⟩) m L.sc)).cell? ⟨w.heap.size, 0, none⟩ = some (.slice a n c) := (keepS (Ne.symm hMw)).trans qb
 have rc : (w2.setCell ⟨M, 7, none⟩ (.slice (some ⟨g, 0, none⟩) m L.sc)).cell? ⟨w.heap.size, 1, none⟩ = some (.pointer d) := (keepS (Ne.symm hMw)).trans qc
 have HBS : Hid (Below B w (w2.setCell ⟨M, 7, none⟩ (.slice (some ⟨g, 0, none⟩) m L.sc))) := bel_set ((bel_next HB0.out.drew HB2.out).mono H.out.le) H.out.mB _
 have HIS : Hid (IdxIs (w2.setCell ⟨M, 7, none⟩ (.slice (some ⟨g, 0, none⟩) m L.sc)) a n c d Ps) := by
  have h1 := HI2.out
  rcases h1 with h1 | ⟨ob, vb, sb, cs, fr, e1, e2, e3, e4, e5, e6⟩
  ·exact .inl h1
  ·exact .inr ⟨ob, vb, sb, cs, fr, e1, e2, e3, blk_chg e4 (grown_set _ _ _ _) H2.out.typ (by decide), blk_chg e5 (grown_set _ _ _ _) H2.out.typ (by decide), e6⟩
 clear c7a k0a hxb hxc c7d k0d hxbd hxcd q0 qb qc b0 b1 es
 go_wp2_with fail
 generalize (w2.setCell ⟨M, 7, none⟩ (.slice (some ⟨g, 0, none⟩) m L.sc)) = w4 at *
 refine (count_c a n c (.pointer d) _ HK.out.n1).mono ?_
 rintro e w5 ⟨rfl, hb5⟩
 rw [HK.out.cnt2]
 have HS5 := Lib.hid (HS.out.below hb5)
 have HI5 := Lib.hid (HIS.out.below hb5)
 have HB5 := Lib.hid (HBS.out.trans (hb5.mono HS.out.le))
 have sb := keepC hb5 rb
 have sc := keepC hb5 rc
 clear hb5 rb rc
 obtain ⟨t, HT⟩ : ∃ t, Hid (s.rows.length = t) := ⟨_, rfl⟩
 have d6 := HS5.out.c6
 simp only at d6
 rw [HT.out] at d6
 have ht1 : t ≤ 11 := by rw [← HT.out]; exact HK.out.rows.1
 have ht2 : (10 : Int) < (t : Int) := by rw [← HT.out]; omega
 clear hd
 go_wp2_with fail
 refine (refuse_c B M F _ _ 83 _ HS5.out).mono ?_
 rintro e w9 ⟨rfl, h2, hb2, hk2⟩
 have H9 := Lib.hid h2
 have HB9 := Lib.hid (HB5.out.trans hb2)
 clear h2 hb2 hk2
 go_wp2_with fail
 go_end0
 exact ⟨rfl, ⟨_, H9.out⟩, HB9.out⟩
set_option maxRecDepth 20000 in
set_option maxHeartbeats 4000000 in
theorem call_open (B M F : Nat) (L : Lay) (s : MS) (a : Option Addr) (n c : Nat) (d : Option Addr) (Ps : List ByteArray) (g m : Nat) (v : Int) (p : Nat) (u : Int) (w : World) (k : CallAt w B M F L s a n c d Ps g m v p u) (hu : 0 ≤ u) (hp : u < (p : Int)) (hd : ¬ 10 < s.rows.length) :
 Calls Tryz.prog 68 #[.pointer (some ⟨M, 0, none⟩), .agg #[.slice a n c, .pointer d]] w (MPost B M F ({ s with stack := s.stack.take m, rows := ⟨Ps.getD u.toNat ByteArray.empty, 0, false⟩ :: s.rows }) (.tuple #[]) w) := by
 have c7 := k.mach.c7
 rw [k.sa, k.len] at c7
 have HB0 : Hid (Below w.heap.size w (w.alloc (.cells #[.slice a n c, .pointer d] 57))) := (Below.refl _ _).alloc (Nat.le_refl _) _
 have H := Lib.hid k.mach
 have H0 := Lib.hid (k.mach.below HB0.out)
 have HI0 := Lib.hid (k.idx.below HB0.out)
 have HK := Lib.hid k
 have c7a := keepC HB0.out c7
 have k0a := keepC HB0.out k.cell
 have hxb : (w.alloc (.cells #[.slice a n c, .pointer d] 57)).cell? ⟨w.heap.size, 0, none⟩ = some (.slice a n c) := by simp [go_sem]
 have hxc : (w.alloc (.cells #[.slice a n c, .pointer d] 57)).cell? ⟨w.heap.size, 1, none⟩ = some (.pointer d) := by simp [go_sem]
 have c7d : (w.alloc (.cells #[.slice a n c, .pointer d] 57)).drew.cell? ⟨M, 7, none⟩ = some (.slice (some ⟨g, 0, none⟩) (m + 1) L.sc) := c7a
 have k0d : (w.alloc (.cells #[.slice a n c, .pointer d] 57)).drew.cell? ⟨g, m, none⟩ = some (.int .i64 v) := k0a
 have hxbd : (w.alloc (.cells #[.slice a n c, .pointer d] 57)).drew.cell? ⟨w.heap.size, 0, none⟩ = some (.slice a n c) := hxb
 have hxcd : (w.alloc (.cells #[.slice a n c, .pointer d] 57)).drew.cell? ⟨w.heap.size, 1, none⟩ = some (.pointer d) := hxc
 have H0d := Lib.hid (H0.out.below (Below.refl _ _).drew)
 have HI0d := Lib.hid (HI0.out.below (Below.refl _ _).drew)
 have hml := k.few
 have hmc := k.cap
 have b0 : (0 : Int) ≤ (m : Int) := by omega
 have b1 : (m : Int) < (m : Int) + 1 := by omega
 have b2 : (m : Int) ≤ (L.sc : Int) := by omega
 have hvb1 := k.vb.1
 have hvb2 := k.vb.2
 have es : IntKind.i64.wrap ((v / 65536) + biasN p) = u := by rw [← k.num]; exact IntWalk.i64_in _ (by have h1 := biasN_bound p; omega)
 clear k c7
 go_enter Tryz.func68, Tryz.ntmps68
 go_wp2_with fail
 go_region_held3 (fun W => W.cell? ⟨M, 7, none⟩ = some (.slice (some ⟨g, 0, none⟩) (m + 1) L.sc) ∧ W.cell? ⟨g, m, none⟩ = some (.int .i64 v) ∧ W.cell? ⟨w.heap.size, 0, none⟩ = some (.slice a n c) ∧ W.cell? ⟨w.heap.size, 1, none⟩ = some (.pointer d)) (first | with_reducible exact ⟨c7d, k0d, hxbd, hxcd⟩ | with_reducible exact ⟨q7, q0, qb, qc⟩)
  (first
   | (go_at_call 19; ((with_reducible refine (count_c a n c (.pointer d) _ HK.out.n1).mono ?_); rintro e w2 ⟨rfl, hb2⟩; have q7 := keepC hb2 c7d; have q0 := keepC hb2 k0d; have qb := keepC hb2 hxbd; have qc := keepC hb2 hxcd; have HB2 := Lib.hid hb2; clear hb2; rw [HK.out.cnt2]))
   | (go_at_call 83; (with_reducible refine (bias_c p _ (by have h1 := HK.out.cnt2; have h2 := HK.out.n1; omega)).mono ?_); rintro e w3 ⟨rfl, rfl⟩))
 have H2 := Lib.hid (H0d.out.below HB2.out)
 have HI2 := Lib.hid (HI0d.out.below HB2.out)
 have f7 := H2.out.f 7
 have HS := Lib.hid (H2.out.cutStack m (by rw [HK.out.len]; omega))
 rw [HK.out.sa] at HS
 have hMw : w.heap.size ≠ M := by have := H.out.lt; omega
 have rb : (w2.setCell ⟨M, 7, none⟩ (.slice (some ⟨g, 0, none⟩) m L.sc)).cell? ⟨w.heap.size, 0, none⟩ = some (.slice a n c) := (keepS (Ne.symm hMw)).trans qb
 have rc : (w2.setCell ⟨M, 7, none⟩ (.slice (some ⟨g, 0, none⟩) m L.sc)).cell? ⟨w.heap.size, 1, none⟩ = some (.pointer d) := (keepS (Ne.symm hMw)).trans qc
 have HBS : Hid (Below B w (w2.setCell ⟨M, 7, none⟩ (.slice (some ⟨g, 0, none⟩) m L.sc))) := bel_set ((bel_next HB0.out.drew HB2.out).mono H.out.le) H.out.mB _
 have HIS : Hid (IdxIs (w2.setCell ⟨M, 7, none⟩ (.slice (some ⟨g, 0, none⟩) m L.sc)) a n c d Ps) := by
  have h1 := HI2.out
  rcases h1 with h1 | ⟨ob, vb, sb, cs, fr, e1, e2, e3, e4, e5, e6⟩
  ·exact .inl h1
  ·exact .inr ⟨ob, vb, sb, cs, fr, e1, e2, e3, blk_chg e4 (grown_set _ _ _ _) H2.out.typ (by decide), blk_chg e5 (grown_set _ _ _ _) H2.out.typ (by decide), e6⟩
 clear c7a k0a hxb hxc c7d k0d hxbd hxcd q0 qb qc b0 b1 es
 go_wp2_with fail
 generalize (w2.setCell ⟨M, 7, none⟩ (.slice (some ⟨g, 0, none⟩) m L.sc)) = w4 at *
 refine (count_c a n c (.pointer d) _ HK.out.n1).mono ?_
 rintro e w5 ⟨rfl, hb5⟩
 rw [HK.out.cnt2]
 have HS5 := Lib.hid (HS.out.below hb5)
 have HI5 := Lib.hid (HIS.out.below hb5)
 have HB5 := Lib.hid (HBS.out.trans (hb5.mono HS.out.le))
 have sb := keepC hb5 rb
 have sc := keepC hb5 rc
 clear hb5 rb rc
 obtain ⟨t, HT⟩ : ∃ t, Hid (s.rows.length = t) := ⟨_, rfl⟩
 have d6 := HS5.out.c6
 simp only at d6
 rw [HT.out] at d6
 have ht1 : t ≤ 11 := by rw [← HT.out]; exact HK.out.rows.1
 have ht2 : ¬ (10 : Int) < (t : Int) := by rw [← HT.out]; omega
 clear hd
 go_wp2_with fail
 obtain ⟨i, rfl⟩ := Int.eq_ofNat_of_zero_le hu
 obtain ⟨P, hP⟩ := get_of (show i < Ps.length by rw [HK.out.cnt]; omega)
 have HPP : Hid (Ps.getD (i : Int).toNat ByteArray.empty = P) := by unfold Hid; rw [Int.toNat_natCast, List.getD_eq_getElem?_getD, hP]; rfl
 rw [HPP.out]
 have HPI := Lib.hid hP
 have HI5d := Lib.hid (HI5.out.below (Below.refl _ _).drew)
 have HS5d := Lib.hid (HS5.out.below (Below.refl _ _).drew)
 have HB5d := Lib.hid HB5.out.drew
 have hZM : w.heap.size ≠ M := by have := H.out.lt; omega
 have hpz : L.pg ≠ w.heap.size := by have := (ownsRow_cap H.out.rows.own).2.2; omega
 clear hP hu hp
 generalize w.heap.size = Z at *
 refine wp_region_upto (fun V => V.cell? ⟨M, 6, none⟩ = some (.slice (some ⟨L.pg, 0, none⟩) t L.pc) ∧ V.cell? ⟨Z, 0, none⟩ = some (.slice a n c) ∧ V.cell? ⟨Z, 1, none⟩ = some (.pointer d)) 14 (by kernel_rfl) ⟨d6, sb, sc⟩ (fun hH => ?_)
 refine takeK 0 (.pointer (some ⟨M, 0, none⟩)) rfl (by kernel_rfl) hH ?_
 try simp only [Act.put, sA, sB, sC]
 refine takeK 1 (.pointer (some ⟨M, 0, none⟩)) rfl (by kernel_rfl) hH ?_
 try simp only [Act.put, sA, sB, sC]
 refine takeK 2 (.pointer (some ⟨M, 0, none⟩)) rfl (by kernel_rfl) hH ?_
 try simp only [Act.put, sA, sB, sC]
 refine takeK 3 (.pointer (some ⟨M, 6, none⟩)) rfl (by kernel_rfl) hH ?_
 try simp only [Act.put, sA, sB, sC]
 refine takeK 4 (.slice (some ⟨L.pg, 0, none⟩) t L.pc) rfl (by kernel_rfl) hH ?_ (Or.inl ⟨by rfl, fun V hV => by obtain ⟨h0, h1, h2⟩ := hV; go_simp⟩)
 try simp only [Act.put, sA, sB, sC]
 refine takeK 5 (.agg #[.slice a n c, .pointer d]) rfl (by kernel_rfl) hH ?_ (Or.inl ⟨by rfl, fun V hV => by obtain ⟨h0, h1, h2⟩ := hV; go_simp⟩)
 try simp only [Act.put, sA, sB, sC]
 refine takeK 6 (.int .i64 (i : Int)) rfl (by kernel_rfl) hH ?_
 try simp only [Act.put, sA, sB, sC]
 refine wpUpto_one (i := 7) (by kernel_rfl) rfl (fun K hK => ?_)
 go_simp
 refine (piece_c a n c d Ps i P w5.drew HI5d.out HPI.out HK.out.n1 HK.out.n2).mono ?_
 rintro e w6 ⟨⟨v6, rfl, hv6, hb6⟩, hbel6⟩
 have hH6 : w6.cell? ⟨M, 6, none⟩ = some (.slice (some ⟨L.pg, 0, none⟩) t L.pc) ∧ w6.cell? ⟨Z, 0, none⟩ = some (.slice a n c) ∧ w6.cell? ⟨Z, 1, none⟩ = some (.pointer d) := ⟨keepC hbel6 hH.1, keepC hbel6 hH.2.1, keepC hbel6 hH.2.2⟩
 refine hK.out _ _ (fun _ => hH6) ?_
 replace hH := hH6
 have HS6 := Lib.hid (HS5d.out.below hbel6)
 have HB6 := Lib.hid (HB5d.out.trans (hbel6.mono HS5d.out.le))
 have HV6 := Lib.hid hb6
 clear hbel6 hH6 hb6 hv6
 clear hK K
 try simp only [Act.put, sA, sB, sC]
 refine wpUpto_one (i := 8) (by kernel_rfl) rfl (fun K hK => ?_)
 go_simp
 refine hK.out _ _ (fun _ => hH) ?_
 clear hK K
 try simp only [Act.put, sA, sB, sC]
 refine wpUpto_one (i := 9) (by kernel_rfl) rfl (fun K hK => ?_)
 go_simp
 have hb7 : Below w6.heap.size w6 (w6.alloc (.cells #[.pointer (some ⟨v6, 0, none⟩), .int .i64 0, .bool false] 87)) := (Below.refl _ _).alloc (Nat.le_refl _) _
 have hH7 : (w6.alloc (.cells #[.pointer (some ⟨v6, 0, none⟩), .int .i64 0, .bool false] 87)).cell? ⟨M, 6, none⟩ = some (.slice (some ⟨L.pg, 0, none⟩) t L.pc) ∧ (w6.alloc (.cells #[.pointer (some ⟨v6, 0, none⟩), .int .i64 0, .bool false] 87)).cell? ⟨Z, 0, none⟩ = some (.slice a n c) ∧ (w6.alloc (.cells #[.pointer (some ⟨v6, 0, none⟩), .int .i64 0, .bool false] 87)).cell? ⟨Z, 1, none⟩ = some (.pointer d) := ⟨keepC hb7 hH.1, keepC hb7 hH.2.1, keepC hb7 hH.2.2⟩
 refine hK.out _ _ (fun _ => hH7) ?_
 replace hH := hH7
 have HR7 : Hid (RowAt (w6.alloc (.cells #[.pointer (some ⟨v6, 0, none⟩), .int .i64 0, .bool false] 87)) w6.heap.size v6 ⟨P, 0, false⟩) := ⟨heap_alloc_new w6 _, blk_below HV6.out hb7⟩
 have HS7 := Lib.hid (HS6.out.below hb7)
 have HB7 := Lib.hid (HB6.out.trans (hb7.mono HS6.out.le))
 have HN7 : Hid (∀ q ∈ L.rb, q.1 ≠ w6.heap.size) := by
  intro q hq e
  obtain ⟨j, hj⟩ := List.mem_iff_getElem?.1 hq
  obtain ⟨r, hr⟩ := get_of (show j < s.rows.length by have h1 := HS6.out.rows.len; have h2 := (List.getElem?_eq_some_iff.1 hj).1; simp only at h1; omega)
  have h3 := blk_lt (HS6.out.rows.rows j r q hr hj).2.row
  omega
 have HL7 : Hid (B ≤ w6.heap.size) := HS6.out.le
 clear hb7 hH7
 clear hK K
 try simp only [Act.put, sA, sB, sC]
 refine wpUpto_one (i := 10) (by kernel_rfl) rfl (fun K hK => ?_)
 go_simp
 have hb8 : Below (w6.alloc (.cells #[.pointer (some ⟨v6, 0, none⟩), .int .i64 0, .bool false] 87)).heap.size (w6.alloc (.cells #[.pointer (some ⟨v6, 0, none⟩), .int .i64 0, .bool false] 87)) ((w6.alloc (.cells #[.pointer (some ⟨v6, 0, none⟩), .int .i64 0, .bool false] 87)).alloc (.cells #[.pointer (some ⟨w6.heap.size, 0, none⟩)] 85)) := (Below.refl _ _).alloc (Nat.le_refl _) _
 have hH8 : ((w6.alloc (.cells #[.pointer (some ⟨v6, 0, none⟩), .int .i64 0, .bool false] 87)).alloc (.cells #[.pointer (some ⟨w6.heap.size, 0, none⟩)] 85)).cell? ⟨M, 6, none⟩ = some (.slice (some ⟨L.pg, 0, none⟩) t L.pc) ∧ ((w6.alloc (.cells #[.pointer (some ⟨v6, 0, none⟩), .int .i64 0, .bool false] 87)).alloc (.cells #[.pointer (some ⟨w6.heap.size, 0, none⟩)] 85)).cell? ⟨Z, 0, none⟩ = some (.slice a n c) ∧ ((w6.alloc (.cells #[.pointer (some ⟨v6, 0, none⟩), .int .i64 0, .bool false] 87)).alloc (.cells #[.pointer (some ⟨w6.heap.size, 0, none⟩)] 85)).cell? ⟨Z, 1, none⟩ = some (.pointer d) := ⟨keepC hb8 hH.1, keepC hb8 hH.2.1, keepC hb8 hH.2.2⟩
 refine hK.out _ _ (fun _ => hH8) ?_
 replace hH := hH8
 have HR8 := Lib.hid (HR7.out.below hb8)
 have HS8 := Lib.hid (HS7.out.below hb8)
 have HB8 := Lib.hid (HB7.out.trans (hb8.mono HS7.out.le))
 clear hb8 hH8
 clear hK K
 try simp only [Act.put, sA, sB, sC]
 have HOW : Hid (((w6.alloc (.cells #[.pointer (some ⟨v6, 0, none⟩), .int .i64 0, .bool false] 87)).alloc (.cells #[.pointer (some ⟨w6.heap.size, 0, none⟩)] 85)).ownsRow B 85 1 (.slice (some ⟨L.pg, 0, none⟩) t L.pc) t (L.rb.reverse.map fun q => .pointer (some ⟨q.1, 0, none⟩))) := by
  have h1 := HS8.out.rows.own
  simp only at h1
  rw [HT.out] at h1
  exact h1
 refine wpUpto_one (i := 11) (by kernel_rfl) rfl (fun K hK => ?_)
 refine step_appA elP rfl _ _ rfl ((w6.alloc (.cells #[.pointer (some ⟨v6, 0, none⟩), .int .i64 0, .bool false] 87)).alloc (.cells #[.pointer (some ⟨w6.heap.size, 0, none⟩)] 85)) B (some ⟨L.pg, 0, none⟩) t L.pc (L.rb.reverse.map fun q => .pointer (some ⟨q.1, 0, none⟩)) (w6.heap.size + 1) 1 1 [.pointer (some ⟨w6.heap.size, 0, none⟩)] rfl rfl HOW.out rfl (lies_at (by simp)) (by simp [Value.oneCell']) (by decide) (by omega) (by omega) HS8.out.le ?_
 intro g9 c9 w9 ho9 hg9 hat9
 have ht9 := typ_own HOW.out
 have hm9 := blk_chg HS8.out.mem hg9 ht9 (by decide)
 have hz9 := blk_cell hm9 6 (.slice (some ⟨L.pg, 0, none⟩) s.rows.length L.pc) rfl
 rw [HT.out] at hz9
 have hf9 := blk_free hm9 6
 have hH9 : w9.cell? ⟨M, 6, none⟩ = some (.slice (some ⟨L.pg, 0, none⟩) t L.pc) ∧ w9.cell? ⟨Z, 0, none⟩ = some (.slice a n c) ∧ w9.cell? ⟨Z, 1, none⟩ = some (.pointer d) := ⟨hz9, grown_cell9 hg9 hH.2.1 (Ne.symm hpz), grown_cell9 hg9 hH.2.2 (Ne.symm hpz)⟩
 have HZ10 := Lib.hid (Mach.opened HS8.out HR8.out HL7.out HN7.out (by simp only; rw [HT.out]; exact ho9) hg9)
 simp only at HZ10
 rw [HT.out] at HZ10
 have HB10 : Hid (Below B w (w9.setCell ⟨M, 6, none⟩ (.slice (some ⟨g9, 0, none⟩) (t + 1) c9))) := bel_set (Below.trans HB8.out (bel_own HOW.out hg9 HS8.out.le)) H.out.mB _
 clear ho9 hg9 hat9 ht9 hm9 hz9
 refine hK.out _ _ (fun _ => hH9) ?_
 replace hH := hH9
 clear hK K hH9
 try simp only [Act.put, sA, sB, sC]
 refine wpUpto_one (i := 12) (by kernel_rfl) rfl (fun K hK => ?_)
 go_simp
 refine hK.out _ _ (fun _ => hH) ?_
 clear hK K
 try simp only [Act.put, sA, sB, sC]
 refine wpUpto_one (i := 13) (by kernel_rfl) rfl (fun K hK => ?_)
 go_simp
 refine hK.out _ _ (fun _ => hH) ?_
 clear hK K
 try simp only [Act.put, sA, sB, sC]
 refine wpUpto_one (i := 14) (by kernel_rfl) rfl (fun K hK => ?_)
 go_simp
 refine hK.out _ _ (fun h => absurd rfl h) ?_
 clear hK K
 try simp only [Act.put, sA, sB, sC]
 refine wpUpto_done (by kernel_rfl) ?_ _
 go_wp2_with fail
 go_end0
 exact ⟨rfl, ⟨_, HZ10.out⟩, HB10.out⟩
end Go.Proofs.YtklenppldblbdaaGreat
