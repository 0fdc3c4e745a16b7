import Derived.Test.YtklenppldblbdaaGreatK35
import Derived.Test.YtklenppldblbdaaGreatK38
import Derived.Test.YtklenppldblbdaaGreatK06
set_option linter.unusedSimpArgs false
set_option linter.unusedVariables false
namespace Go.Proofs.YtklenppldblbdaaGreat
open Go.RowKit Go.PlainAid
section
variable {P : Program} {ops : Array Oper} {Q : Exit → Act → World → Prop} {md : Region.Mode} {S : World → Prop} {s : Nat}
theorem wpUpto_two {f : Nat} {l : Array Bool} {a : Act} {w : World} {i j : Nat} {oi oj : Oper} (hr : Region.ready md ops l = [i, j]) (hi : ops[i]? = some oi) (hj : ops[j]? = some oj)
 (h1 : ∀ K' : Act → World → Prop, Shut (∀ a w, (i ≠ s → S w) → wpUpto P md ops Q S s f (l.setIfInBounds i true) a w → K' a w) → if Region.wanted oi (yielded ops a.tmps) = true then Oper.wp P oi a w K' Q else K' (a.put oi.dst undef) w)
 (h2 : ∀ K' : Act → World → Prop, Shut (∀ a w, (j ≠ s → S w) → wpUpto P md ops Q S s f (l.setIfInBounds j true) a w → K' a w) → if Region.wanted oj (yielded ops a.tmps) = true then Oper.wp P oj a w K' Q else K' (a.put oj.dst undef) w) :
 wpUpto P md ops Q S s (f + 1) l a w :=
 ⟨fun e => by rw [hr] at e; (cases e), fun k hk => by
  rw [hr] at hk
  simp only [List.mem_cons, List.not_mem_nil, or_false] at hk
  rcases hk with rfl | rfl
  ·exact wpOp_step hi (fun K' hK => h1 K' (fun a w hS hW => hK a w ⟨hS, hW⟩))
  ·exact wpOp_step hj (fun K' hK => h2 K' (fun a w hS hW => hK a w ⟨hS, hW⟩))⟩
end
theorem font_kept {U V : World} {A : Nat} {c0 c1 c2 c3 c4 : Value} (h : U.heap[A]? = some (.cells #[c0, c1, c2, c3, c4] 29 (0, 0))) (hk : KeepD U.heap.size U V) : V.heap[A]? = some (.cells #[c0, c1, c2, c3, c4] 29 (0, 0)) := hk _ _ _ _ (blk_lt h) (by decide) (by decide) h
theorem outw_nil (w : World) (B : Nat) : OutW w B none 0 [] [] := ⟨⟨rfl, .inl ⟨rfl, rfl⟩⟩, fun i c h => by simp at h, fun i j v u g _ h => by simp at h⟩
theorem glyph_of {f : FS} {b : ByteArray} {k : Nat} {s' : MS} (hg : f.glyphs = [b]) (hgo : GoM f k (MS.start f b) s') (hk : k ≤ 20001) (hend : s'.ended = true ∨ s'.fault ≠ 0) : glyphM f 0 = if s'.fault ≠ 0 then ([], 0, s'.fault) else (s'.out, s'.width, 0) := by
 have hr : MS.run f 20001 (MS.start f b) = s' := by
  have h := hgo (20001 - k)
  rw [show 20001 - k + k = 20001 by omega] at h
  rw [h, run_done f _ _ hend]
 unfold glyphM
 rw [hg]
 simp only [List.getElem?_cons_zero, hr]
def GlyX (f : FS) (B : Nat) (w : World) (e : Ending) (w' : World) : Prop :=
 ∃ (K : SLt) (s2 : MS) (bb : Bool) (er : Int), e = .returned (.tuple #[.agg #[.slice K.sa s2.stack.length K.sc, .slice K.oa s2.out.length K.oc, .int .i64 s2.x, .int .i64 s2.y, .int .i64 (s2.knots : Int), .int .i64 (s2.stems : Int), .int .i64 (s2.fuel : Int), .int .i64 s2.width, .bool s2.asked], .bool bb, .int .i64 er]) ∧ Below B w w' ∧ KeepD w.heap.size w w' ∧ (er = 0 → glyphM f 0 = (s2.out, s2.width, 0) ∧ OutW w' B K.oa K.oc K.vs s2.out) ∧ (er ≠ 0 → glyphM f 0 = ([], 0, er))
theorem exec_glyph (f : FS) (B : Nat) (L : FLt) (b : ByteArray) (ba : Option Addr) (bc : Nat) (w : World) (hC : Ctx f B L b ba bc w) (hg : f.glyphs = [b]) :
 Calls Tryz.prog 16 #[.agg #[.slice L.za L.zn L.zc, .slice L.la f.locals.length L.lc, .slice L.ga f.globals.length L.gc, .int .i64 f.w0, .int .i64 f.w1], .agg #[.slice none 0 0, .slice none 0 0, .int .i64 0, .int .i64 0, .int .i64 0, .int .i64 0, .int .i64 0, .int .i64 f.w0, .bool false], .slice ba b.size bc, .int .i64 0] w (GlyX f B w) := by
 have h := exec_d 0 (by decide) f B L b ba bc ⟨none, 0, none, 0, []⟩ (MS.start f b) w [] hC rfl rfl rfl rfl (start_fit f b hC.size) (outw_nil w B) (Opds.nil _ _) (Nat.le_refl _)
 refine Calls.mono (show Calls Tryz.prog 16 #[.agg #[.slice L.za L.zn L.zc, .slice L.la f.locals.length L.lc, .slice L.ga f.globals.length L.gc, .int .i64 f.w0, .int .i64 f.w1], .agg #[.slice none 0 0, .slice none 0 0, .int .i64 0, .int .i64 0, .int .i64 0, .int .i64 0, .int .i64 0, .int .i64 f.w0, .bool false], .slice ba b.size bc, .int .i64 0] w (ExecPost f B (MS.start f b) w) from h) ?_
 rintro e w' ⟨hb, hk, k, s', hgo, hfit, hcnt, hend⟩
 have hcnt' : k ≤ 20001 := by have e0 : (MS.start f b).fuel = 0 := rfl; omega
 rcases hend with ⟨hf, _, _, hrow, K, rfl, hz, _⟩ | ⟨hf, K, s2, rfl⟩
 ·have hen : s'.ended = true := by
   cases hx : s'.ended with
   | true => rfl
   | false =>
     have h1 := hrow hx
     have h2 := hfit.open'.1
     rw [h1] at h2
     simp [MS.start] at h2
  have hgl := glyph_of hg hgo hcnt' (.inl hen)
  rw [if_neg (by rw [hf]; simp)] at hgl
  exact ⟨K, s', s'.ended, 0, rfl, hb, hk, fun _ => ⟨hgl, hz⟩, fun h => absurd rfl h⟩
 ·have hgl := glyph_of hg hgo hcnt' (.inr hf)
  rw [if_pos hf] at hgl
  exact ⟨K, s2, false, s'.fault, rfl, hb, hk, fun h => absurd h hf, fun _ => hgl⟩
def GlyD (f : FS) (B : Nat) (w : World) (e : Ending) (w' : World) : Prop :=
 ∃ (oa : Option Addr) (oc : Nat) (vs : List Value), e = .returned (.tuple #[.slice oa (glyphM f 0).1.length oc, .int .i64 (glyphM f 0).2.1, .int .i64 (glyphM f 0).2.2]) ∧ OutW w' B oa oc vs (glyphM f 0).1 ∧ Below B w w'
set_option maxRecDepth 20000 in
set_option maxHeartbeats 4000000 in
theorem refglyph_d (f : FS) (la ga : Option Addr) (lc gc gb : Nat) (b : ByteArray) (ba : Option Addr) (bc : Nat) (w : World) (hF : FontF f w.heap.size ⟨some ⟨gb, 0, none⟩, 1, 1, la, lc, ga, gc⟩ w) (hcode : InB w.heap.size w ba b.size bc b) (hsz : b.size ≤ 1000000) (hk : w.cell? ⟨gb, 0, none⟩ = some (.slice ba b.size bc)) (hg : f.glyphs = [b]) :
 Calls Tryz.prog 8 #[.agg #[.slice (some ⟨gb, 0, none⟩) 1 1, .slice la f.locals.length lc, .slice ga f.globals.length gc, .int .i64 f.w0, .int .i64 f.w1], .int .i64 0] w (GlyD f w.heap.size w) := by
 have hb0 : Below w.heap.size w (w.alloc (.cells #[.slice (some ⟨gb, 0, none⟩) 1 1, .slice la f.locals.length lc, .slice ga f.globals.length gc, .int .i64 f.w0, .int .i64 f.w1] 29)) := bel_al _ _
 have e0 : (w.alloc (.cells #[.slice (some ⟨gb, 0, none⟩) 1 1, .slice la f.locals.length lc, .slice ga f.globals.length gc, .int .i64 f.w0, .int .i64 f.w1] 29)).heap[w.heap.size]? = some (.cells #[.slice (some ⟨gb, 0, none⟩) 1 1, .slice la f.locals.length lc, .slice ga f.globals.length gc, .int .i64 f.w0, .int .i64 f.w1] 29 (0, 0)) := heap_alloc_new w _
 have HCT : Hid (∀ W, Below w.heap.size w W → w.heap.size ≤ W.heap.size → Calls Tryz.prog 16 #[.agg #[.slice (some ⟨gb, 0, none⟩) 1 1, .slice la f.locals.length lc, .slice ga f.globals.length gc, .int .i64 f.w0, .int .i64 f.w1], .agg #[.slice none 0 0, .slice none 0 0, .int .i64 0, .int .i64 0, .int .i64 0, .int .i64 0, .int .i64 0, .int .i64 f.w0, .bool false], .slice ba b.size bc, .int .i64 0] W (GlyX f w.heap.size W)) := fun W hW hl => exec_glyph f w.heap.size ⟨some ⟨gb, 0, none⟩, 1, 1, la, lc, ga, gc⟩ b ba bc W ⟨hF.kept hW, hcode.kept hW, hsz, hl⟩ hg
 have hgb : gb < w.heap.size := World.block_lt_of_cell? w _ hk
 have HB0 := Lib.hid hb0
 have HGB := Lib.hid hgb
 have kg := keepC hb0 hk
 have k0 := blk_cell e0 0 _ rfl
 have k1 := blk_cell e0 1 _ rfl
 have k2 := blk_cell e0 2 _ rfl
 have k3 := blk_cell e0 3 _ rfl
 have k4 := blk_cell e0 4 _ rfl
 have HS0 : Hid ((w.alloc (.cells #[.slice (some ⟨gb, 0, none⟩) 1 1, .slice la f.locals.length lc, .slice ga f.globals.length gc, .int .i64 f.w0, .int .i64 f.w1] 29)).cell? ⟨w.heap.size, 0, none⟩ = some (.slice (some ⟨gb, 0, none⟩) 1 1) ∧ (w.alloc (.cells #[.slice (some ⟨gb, 0, none⟩) 1 1, .slice la f.locals.length lc, .slice ga f.globals.length gc, .int .i64 f.w0, .int .i64 f.w1] 29)).cell? ⟨w.heap.size, 1, none⟩ = some (.slice la f.locals.length lc) ∧ (w.alloc (.cells #[.slice (some ⟨gb, 0, none⟩) 1 1, .slice la f.locals.length lc, .slice ga f.globals.length gc, .int .i64 f.w0, .int .i64 f.w1] 29)).cell? ⟨w.heap.size, 2, none⟩ = some (.slice ga f.globals.length gc) ∧ (w.alloc (.cells #[.slice (some ⟨gb, 0, none⟩) 1 1, .slice la f.locals.length lc, .slice ga f.globals.length gc, .int .i64 f.w0, .int .i64 f.w1] 29)).cell? ⟨w.heap.size, 3, none⟩ = some (.int .i64 f.w0) ∧ (w.alloc (.cells #[.slice (some ⟨gb, 0, none⟩) 1 1, .slice la f.locals.length lc, .slice ga f.globals.length gc, .int .i64 f.w0, .int .i64 f.w1] 29)).cell? ⟨w.heap.size, 4, none⟩ = some (.int .i64 f.w1) ∧ (w.alloc (.cells #[.slice (some ⟨gb, 0, none⟩) 1 1, .slice la f.locals.length lc, .slice ga f.globals.length gc, .int .i64 f.w0, .int .i64 f.w1] 29)).cell? ⟨gb, 0, none⟩ = some (.slice ba b.size bc)) := ⟨k0, k1, k2, k3, k4, kg⟩
 clear hF hcode hk hb0 e0 hgb kg
 go_enter Tryz.func8, Tryz.ntmps8
 go_upto_region 3 with fail
 refine wp_gen _ fun w0 hw0 => ?_
 rw [← hw0] at HS0 HB0
 have HE0 : Hid (w0.heap[w.heap.size]? = some (.cells #[.slice (some ⟨gb, 0, none⟩) 1 1, .slice la f.locals.length lc, .slice ga f.globals.length gc, .int .i64 f.w0, .int .i64 f.w1] 29 (0, 0))) := by rw [hw0]; exact heap_alloc_new w _
 have HL0 : Hid (w.heap.size < w0.heap.size) := by rw [hw0]; unfold Hid; simp
 clear hw0 k0 k1 k2 k3 k4
 have HSB : Hid (∀ U V : World, Below U.heap.size U V → (U.cell? ⟨w.heap.size, 0, none⟩ = some (.slice (some ⟨gb, 0, none⟩) 1 1) ∧ U.cell? ⟨w.heap.size, 1, none⟩ = some (.slice la f.locals.length lc) ∧ U.cell? ⟨w.heap.size, 2, none⟩ = some (.slice ga f.globals.length gc) ∧ U.cell? ⟨w.heap.size, 3, none⟩ = some (.int .i64 f.w0) ∧ U.cell? ⟨w.heap.size, 4, none⟩ = some (.int .i64 f.w1) ∧ U.cell? ⟨gb, 0, none⟩ = some (.slice ba b.size bc)) → (V.cell? ⟨w.heap.size, 0, none⟩ = some (.slice (some ⟨gb, 0, none⟩) 1 1) ∧ V.cell? ⟨w.heap.size, 1, none⟩ = some (.slice la f.locals.length lc) ∧ V.cell? ⟨w.heap.size, 2, none⟩ = some (.slice ga f.globals.length gc) ∧ V.cell? ⟨w.heap.size, 3, none⟩ = some (.int .i64 f.w0) ∧ V.cell? ⟨w.heap.size, 4, none⟩ = some (.int .i64 f.w1) ∧ V.cell? ⟨gb, 0, none⟩ = some (.slice ba b.size bc))) := fun U V hb h => ⟨keepC hb h.1, keepC hb h.2.1, keepC hb h.2.2.1, keepC hb h.2.2.2.1, keepC hb h.2.2.2.2.1, keepC hb h.2.2.2.2.2⟩
 have HH0 : Hid (w0.drew.cell? ⟨w.heap.size, 0, none⟩ = some (.slice (some ⟨gb, 0, none⟩) 1 1) ∧ w0.drew.cell? ⟨w.heap.size, 1, none⟩ = some (.slice la f.locals.length lc) ∧ w0.drew.cell? ⟨w.heap.size, 2, none⟩ = some (.slice ga f.globals.length gc) ∧ w0.drew.cell? ⟨w.heap.size, 3, none⟩ = some (.int .i64 f.w0) ∧ w0.drew.cell? ⟨w.heap.size, 4, none⟩ = some (.int .i64 f.w1) ∧ w0.drew.cell? ⟨gb, 0, none⟩ = some (.slice ba b.size bc)) := HSB.out _ _ (Below.refl _ _).drew HS0.out
 refine wp_region_upto (fun V => (V.cell? ⟨w.heap.size, 0, none⟩ = some (.slice (some ⟨gb, 0, none⟩) 1 1) ∧ V.cell? ⟨w.heap.size, 1, none⟩ = some (.slice la f.locals.length lc) ∧ V.cell? ⟨w.heap.size, 2, none⟩ = some (.slice ga f.globals.length gc) ∧ V.cell? ⟨w.heap.size, 3, none⟩ = some (.int .i64 f.w0) ∧ V.cell? ⟨w.heap.size, 4, none⟩ = some (.int .i64 f.w1) ∧ V.cell? ⟨gb, 0, none⟩ = some (.slice ba b.size bc))) 17 (by kernel_rfl) HS0.out (fun hH => ?_)
 refine takeK 0 (.agg #[.slice (some ⟨gb, 0, none⟩) 1 1, .slice la f.locals.length lc, .slice ga f.globals.length gc, .int .i64 f.w0, .int .i64 f.w1]) rfl (by kernel_rfl) hH ?_ (Or.inl ⟨by rfl, fun V hV => by obtain ⟨h0, h1, h2, h3, h4, h5⟩ := hV; go_simp⟩)
 try simp only [Act.put, sA, sB, sC]
 refine takeK 1 (.pointer (some ⟨w.heap.size, 3, none⟩)) rfl (by kernel_rfl) hH ?_
 try simp only [Act.put, sA, sB, sC]
 refine takeK 2 (.int .i64 f.w0) rfl (by kernel_rfl) hH ?_ (Or.inl ⟨by rfl, fun V hV => by obtain ⟨h0, h1, h2, h3, h4, h5⟩ := hV; go_simp⟩)
 try simp only [Act.put, sA, sB, sC]
 refine takeK 3 (.agg #[.slice none 0 0, .slice none 0 0, .int .i64 0, .int .i64 0, .int .i64 0, .int .i64 0, .int .i64 0, .int .i64 f.w0, .bool false]) rfl (by kernel_rfl) hH ?_
 try simp only [Act.put, sA, sB, sC]
 refine takeK 4 (.pointer (some ⟨w.heap.size, 0, none⟩)) rfl (by kernel_rfl) hH ?_
 try simp only [Act.put, sA, sB, sC]
 refine takeK 5 (.slice (some ⟨gb, 0, none⟩) 1 1) rfl (by kernel_rfl) hH ?_ (Or.inl ⟨by rfl, fun V hV => by obtain ⟨h0, h1, h2, h3, h4, h5⟩ := hV; go_simp⟩)
 try simp only [Act.put, sA, sB, sC]
 refine takeK 6 (.int .i64 0) rfl (by kernel_rfl) hH ?_
 try simp only [Act.put, sA, sB, sC]
 refine takeK 7 (.pointer (some ⟨gb, 0, none⟩)) rfl (by kernel_rfl) hH ?_
 try simp only [Act.put, sA, sB, sC]
 refine takeK 8 (.slice ba b.size bc) rfl (by kernel_rfl) hH ?_ (Or.inl ⟨by rfl, fun V hV => by obtain ⟨h0, h1, h2, h3, h4, h5⟩ := hV; go_simp⟩)
 try simp only [Act.put, sA, sB, sC]
 refine wpUpto_two (i := 9) (j := 14) (by kernel_rfl) rfl rfl (fun K' hK => ?_) (fun K' hK => ?_)
 ·go_simp
  refine (HCT.out w0.drew HB0.out.drew (Nat.le_of_lt HL0.out)).mono ?_
  rintro e w2 ⟨K, s2, bb, er, rfl, hb2, hk2, hok, hbad⟩
  have eF := font_kept (show w0.drew.heap[w.heap.size]? = _ from HE0.out) hk2
  have hH2 : (w2.cell? ⟨w.heap.size, 0, none⟩ = some (.slice (some ⟨gb, 0, none⟩) 1 1) ∧ w2.cell? ⟨w.heap.size, 1, none⟩ = some (.slice la f.locals.length lc) ∧ w2.cell? ⟨w.heap.size, 2, none⟩ = some (.slice ga f.globals.length gc) ∧ w2.cell? ⟨w.heap.size, 3, none⟩ = some (.int .i64 f.w0) ∧ w2.cell? ⟨w.heap.size, 4, none⟩ = some (.int .i64 f.w1) ∧ w2.cell? ⟨gb, 0, none⟩ = some (.slice ba b.size bc)) := ⟨blk_cell eF 0 _ rfl, blk_cell eF 1 _ rfl, blk_cell eF 2 _ rfl, blk_cell eF 3 _ rfl, blk_cell eF 4 _ rfl, (cell_kept hb2 HGB.out).trans HH0.out.2.2.2.2.2⟩
  refine hK.out _ _ (fun _ => hH2) ?_
  replace hH := hH2
  clear hK K'
  refine takeK 10 (.tuple #[.agg #[.slice K.sa s2.stack.length K.sc, .slice K.oa s2.out.length K.oc, .int .i64 s2.x, .int .i64 s2.y, .int .i64 (s2.knots : Int), .int .i64 (s2.stems : Int), .int .i64 (s2.fuel : Int), .int .i64 s2.width, .bool s2.asked], .bool bb, .int .i64 er]) rfl (by kernel_rfl) hH ?_
  try simp only [Act.put, sA, sB, sC]
  refine takeK 11 (.agg #[.slice K.sa s2.stack.length K.sc, .slice K.oa s2.out.length K.oc, .int .i64 s2.x, .int .i64 s2.y, .int .i64 (s2.knots : Int), .int .i64 (s2.stems : Int), .int .i64 (s2.fuel : Int), .int .i64 s2.width, .bool s2.asked]) rfl (by kernel_rfl) hH ?_
  try simp only [Act.put, sA, sB, sC]
  refine takeK 12 (.bool bb) rfl (by kernel_rfl) hH ?_
  try simp only [Act.put, sA, sB, sC]
  refine takeK 13 (.int .i64 er) rfl (by kernel_rfl) hH ?_
  try simp only [Act.put, sA, sB, sC]
  refine wpUpto_one (i := 14) (by kernel_rfl) rfl (fun K' hK => ?_)
  go_simp
  have hH3 : ((w2.alloc (.cells #[.slice none 0 0, .slice none 0 0, .int .i64 0, .int .i64 0, .int .i64 0, .int .i64 0, .int .i64 0, .int .i64 0, .bool false] 52)).cell? ⟨w.heap.size, 0, none⟩ = some (.slice (some ⟨gb, 0, none⟩) 1 1) ∧ (w2.alloc (.cells #[.slice none 0 0, .slice none 0 0, .int .i64 0, .int .i64 0, .int .i64 0, .int .i64 0, .int .i64 0, .int .i64 0, .bool false] 52)).cell? ⟨w.heap.size, 1, none⟩ = some (.slice la f.locals.length lc) ∧ (w2.alloc (.cells #[.slice none 0 0, .slice none 0 0, .int .i64 0, .int .i64 0, .int .i64 0, .int .i64 0, .int .i64 0, .int .i64 0, .bool false] 52)).cell? ⟨w.heap.size, 2, none⟩ = some (.slice ga f.globals.length gc) ∧ (w2.alloc (.cells #[.slice none 0 0, .slice none 0 0, .int .i64 0, .int .i64 0, .int .i64 0, .int .i64 0, .int .i64 0, .int .i64 0, .bool false] 52)).cell? ⟨w.heap.size, 3, none⟩ = some (.int .i64 f.w0) ∧ (w2.alloc (.cells #[.slice none 0 0, .slice none 0 0, .int .i64 0, .int .i64 0, .int .i64 0, .int .i64 0, .int .i64 0, .int .i64 0, .bool false] 52)).cell? ⟨w.heap.size, 4, none⟩ = some (.int .i64 f.w1) ∧ (w2.alloc (.cells #[.slice none 0 0, .slice none 0 0, .int .i64 0, .int .i64 0, .int .i64 0, .int .i64 0, .int .i64 0, .int .i64 0, .bool false] 52)).cell? ⟨gb, 0, none⟩ = some (.slice ba b.size bc)) := HSB.out _ _ (bel_al w2 _) hH
  refine hK.out _ _ (fun _ => hH3) ?_
  replace hH := hH3
  clear hK K'
  refine wpUpto_one (i := 15) (by kernel_rfl) rfl (fun K' hK => ?_)
  go_simp
  have hH4 : ((w2.alloc (.cells #[.slice K.sa s2.stack.length K.sc, .slice K.oa s2.out.length K.oc, .int .i64 s2.x, .int .i64 s2.y, .int .i64 (s2.knots : Int), .int .i64 (s2.stems : Int), .int .i64 (s2.fuel : Int), .int .i64 s2.width, .bool s2.asked] 52)).cell? ⟨w.heap.size, 0, none⟩ = some (.slice (some ⟨gb, 0, none⟩) 1 1) ∧ (w2.alloc (.cells #[.slice K.sa s2.stack.length K.sc, .slice K.oa s2.out.length K.oc, .int .i64 s2.x, .int .i64 s2.y, .int .i64 (s2.knots : Int), .int .i64 (s2.stems : Int), .int .i64 (s2.fuel : Int), .int .i64 s2.width, .bool s2.asked] 52)).cell? ⟨w.heap.size, 1, none⟩ = some (.slice la f.locals.length lc) ∧ (w2.alloc (.cells #[.slice K.sa s2.stack.length K.sc, .slice K.oa s2.out.length K.oc, .int .i64 s2.x, .int .i64 s2.y, .int .i64 (s2.knots : Int), .int .i64 (s2.stems : Int), .int .i64 (s2.fuel : Int), .int .i64 s2.width, .bool s2.asked] 52)).cell? ⟨w.heap.size, 2, none⟩ = some (.slice ga f.globals.length gc) ∧ (w2.alloc (.cells #[.slice K.sa s2.stack.length K.sc, .slice K.oa s2.out.length K.oc, .int .i64 s2.x, .int .i64 s2.y, .int .i64 (s2.knots : Int), .int .i64 (s2.stems : Int), .int .i64 (s2.fuel : Int), .int .i64 s2.width, .bool s2.asked] 52)).cell? ⟨w.heap.size, 3, none⟩ = some (.int .i64 f.w0) ∧ (w2.alloc (.cells #[.slice K.sa s2.stack.length K.sc, .slice K.oa s2.out.length K.oc, .int .i64 s2.x, .int .i64 s2.y, .int .i64 (s2.knots : Int), .int .i64 (s2.stems : Int), .int .i64 (s2.fuel : Int), .int .i64 s2.width, .bool s2.asked] 52)).cell? ⟨w.heap.size, 4, none⟩ = some (.int .i64 f.w1) ∧ (w2.alloc (.cells #[.slice K.sa s2.stack.length K.sc, .slice K.oa s2.out.length K.oc, .int .i64 s2.x, .int .i64 s2.y, .int .i64 (s2.knots : Int), .int .i64 (s2.stems : Int), .int .i64 (s2.fuel : Int), .int .i64 s2.width, .bool s2.asked] 52)).cell? ⟨gb, 0, none⟩ = some (.slice ba b.size bc)) := HSB.out _ _ (bel_al w2 _) hH2
  refine hK.out _ _ (fun _ => hH4) ?_
  replace hH := hH4
  clear hK K'
  refine wpUpto_one (i := 16) (by kernel_rfl) rfl (fun K' hK => ?_)
  go_simp
  refine hK.out _ _ (fun _ => hH) ?_
  clear hK K'
  refine wpUpto_one (i := 17) (by kernel_rfl) rfl (fun K' hK => ?_)
  go_simp
  refine hK.out _ _ (fun h => absurd rfl h) ?_
  clear hK K'
  refine wpUpto_done (by kernel_rfl) ?_ _
  have ez : (w2.alloc (.cells #[.slice K.sa s2.stack.length K.sc, .slice K.oa s2.out.length K.oc, .int .i64 s2.x, .int .i64 s2.y, .int .i64 (s2.knots : Int), .int .i64 (s2.stems : Int), .int .i64 (s2.fuel : Int), .int .i64 s2.width, .bool s2.asked] 52)).heap[w2.heap.size]? = some (.cells #[.slice K.sa s2.stack.length K.sc, .slice K.oa s2.out.length K.oc, .int .i64 s2.x, .int .i64 s2.y, .int .i64 (s2.knots : Int), .int .i64 (s2.stems : Int), .int .i64 (s2.fuel : Int), .int .i64 s2.width, .bool s2.asked] 52 (0, 0)) := heap_alloc_new w2 _
  have z1 := blk_cell ez 1 _ rfl
  have z7 := blk_cell ez 7 _ rfl
  have HV : Hid (Below w.heap.size w (w2.alloc (.cells #[.slice K.sa s2.stack.length K.sc, .slice K.oa s2.out.length K.oc, .int .i64 s2.x, .int .i64 s2.y, .int .i64 (s2.knots : Int), .int .i64 (s2.stems : Int), .int .i64 (s2.fuel : Int), .int .i64 s2.width, .bool s2.asked] 52))) := (HB0.out.drew.trans hb2).alloc (Nat.le_trans (Nat.le_of_lt HL0.out) hb2.size) _
  have HOK : Hid (er = 0 → glyphM f 0 = (s2.out, s2.width, 0) ∧ OutW (w2.alloc (.cells #[.slice K.sa s2.stack.length K.sc, .slice K.oa s2.out.length K.oc, .int .i64 s2.x, .int .i64 s2.y, .int .i64 (s2.knots : Int), .int .i64 (s2.stems : Int), .int .i64 (s2.fuel : Int), .int .i64 s2.width, .bool s2.asked] 52)) w.heap.size K.oa K.oc K.vs s2.out) := fun h => ⟨(hok h).1, (hok h).2.below (bel_al _ _)⟩
  have HBAD := Lib.hid hbad
  clear hH hH2 hH3 hH4 ez hok hbad hb2 hk2 eF HSB HH0 HS0
  generalize (w2.alloc (.cells #[.slice K.sa s2.stack.length K.sc, .slice K.oa s2.out.length K.oc, .int .i64 s2.x, .int .i64 s2.y, .int .i64 (s2.knots : Int), .int .i64 (s2.stems : Int), .int .i64 (s2.fuel : Int), .int .i64 s2.width, .bool s2.asked] 52)) = V at *
  by_cases he : er = 0
  ·subst he
   go_wp2_with fail
   go_quiet (fail)
   go_wp2_with fail
   go_ret3
   obtain ⟨hgl, hz⟩ := HOK.out (by first | rfl | trivial)
   refine ⟨K.oa, K.oc, K.vs, by rw [hgl]; rfl, by rw [hgl]; exact hz.below (bel_drewN (Below.refl _ _) _), bel_drewN HV.out _⟩
  ·have HER := Lib.hid he
   have hz : (er == 0) = false := by simpa using he
   clear he
   go_wp2_with fail
   go_ret3
   have hgl := HBAD.out HER.out
   exact ⟨none, 0, [], by rw [hgl]; rfl, by rw [hgl]; exact outw_nil _ _, HV.out⟩
 ·go_simp
  have hH2 : ((w0.drew.alloc (.cells #[.slice none 0 0, .slice none 0 0, .int .i64 0, .int .i64 0, .int .i64 0, .int .i64 0, .int .i64 0, .int .i64 0, .bool false] 52)).cell? ⟨w.heap.size, 0, none⟩ = some (.slice (some ⟨gb, 0, none⟩) 1 1) ∧ (w0.drew.alloc (.cells #[.slice none 0 0, .slice none 0 0, .int .i64 0, .int .i64 0, .int .i64 0, .int .i64 0, .int .i64 0, .int .i64 0, .bool false] 52)).cell? ⟨w.heap.size, 1, none⟩ = some (.slice la f.locals.length lc) ∧ (w0.drew.alloc (.cells #[.slice none 0 0, .slice none 0 0, .int .i64 0, .int .i64 0, .int .i64 0, .int .i64 0, .int .i64 0, .int .i64 0, .bool false] 52)).cell? ⟨w.heap.size, 2, none⟩ = some (.slice ga f.globals.length gc) ∧ (w0.drew.alloc (.cells #[.slice none 0 0, .slice none 0 0, .int .i64 0, .int .i64 0, .int .i64 0, .int .i64 0, .int .i64 0, .int .i64 0, .bool false] 52)).cell? ⟨w.heap.size, 3, none⟩ = some (.int .i64 f.w0) ∧ (w0.drew.alloc (.cells #[.slice none 0 0, .slice none 0 0, .int .i64 0, .int .i64 0, .int .i64 0, .int .i64 0, .int .i64 0, .int .i64 0, .bool false] 52)).cell? ⟨w.heap.size, 4, none⟩ = some (.int .i64 f.w1) ∧ (w0.drew.alloc (.cells #[.slice none 0 0, .slice none 0 0, .int .i64 0, .int .i64 0, .int .i64 0, .int .i64 0, .int .i64 0, .int .i64 0, .bool false] 52)).cell? ⟨gb, 0, none⟩ = some (.slice ba b.size bc)) := HSB.out _ _ (bel_al w0.drew _) HH0.out
  refine hK.out _ _ (fun _ => hH2) ?_
  replace hH := hH2
  clear hK K'
  have hbA : Below w.heap.size w (w0.drew.alloc (.cells #[.slice none 0 0, .slice none 0 0, .int .i64 0, .int .i64 0, .int .i64 0, .int .i64 0, .int .i64 0, .int .i64 0, .bool false] 52)) := HB0.out.drew.alloc (Nat.le_of_lt HL0.out) _
  have ezA : (w0.drew.alloc (.cells #[.slice none 0 0, .slice none 0 0, .int .i64 0, .int .i64 0, .int .i64 0, .int .i64 0, .int .i64 0, .int .i64 0, .bool false] 52)).heap[w0.heap.size]? = some (.cells #[.slice none 0 0, .slice none 0 0, .int .i64 0, .int .i64 0, .int .i64 0, .int .i64 0, .int .i64 0, .int .i64 0, .bool false] 52 (0, 0)) := heap_alloc_new w0.drew _
  have HEA : Hid ((w0.drew.alloc (.cells #[.slice none 0 0, .slice none 0 0, .int .i64 0, .int .i64 0, .int .i64 0, .int .i64 0, .int .i64 0, .int .i64 0, .bool false] 52)).heap[w.heap.size]? = some (.cells #[.slice (some ⟨gb, 0, none⟩) 1 1, .slice la f.locals.length lc, .slice ga f.globals.length gc, .int .i64 f.w0, .int .i64 f.w1] 29 (0, 0))) := blk_below (show w0.drew.heap[w.heap.size]? = _ from HE0.out) (bel_al _ _)
  refine wpUpto_one (i := 9) (by kernel_rfl) rfl (fun K' hK => ?_)
  go_simp
  refine (HCT.out (w0.drew.alloc (.cells #[.slice none 0 0, .slice none 0 0, .int .i64 0, .int .i64 0, .int .i64 0, .int .i64 0, .int .i64 0, .int .i64 0, .bool false] 52)) hbA (Nat.le_of_lt (blk_lt HEA.out))).mono ?_
  rintro e w2 ⟨K, s2, bb, er, rfl, hb2, hk2, hok, hbad⟩
  have eF := font_kept HEA.out hk2
  have hH3 : (w2.cell? ⟨w.heap.size, 0, none⟩ = some (.slice (some ⟨gb, 0, none⟩) 1 1) ∧ w2.cell? ⟨w.heap.size, 1, none⟩ = some (.slice la f.locals.length lc) ∧ w2.cell? ⟨w.heap.size, 2, none⟩ = some (.slice ga f.globals.length gc) ∧ w2.cell? ⟨w.heap.size, 3, none⟩ = some (.int .i64 f.w0) ∧ w2.cell? ⟨w.heap.size, 4, none⟩ = some (.int .i64 f.w1) ∧ w2.cell? ⟨gb, 0, none⟩ = some (.slice ba b.size bc)) := ⟨blk_cell eF 0 _ rfl, blk_cell eF 1 _ rfl, blk_cell eF 2 _ rfl, blk_cell eF 3 _ rfl, blk_cell eF 4 _ rfl, (cell_kept hb2 HGB.out).trans hH2.2.2.2.2.2⟩
  refine hK.out _ _ (fun _ => hH3) ?_
  replace hH := hH3
  clear hK K'
  refine takeK 10 (.tuple #[.agg #[.slice K.sa s2.stack.length K.sc, .slice K.oa s2.out.length K.oc, .int .i64 s2.x, .int .i64 s2.y, .int .i64 (s2.knots : Int), .int .i64 (s2.stems : Int), .int .i64 (s2.fuel : Int), .int .i64 s2.width, .bool s2.asked], .bool bb, .int .i64 er]) rfl (by kernel_rfl) hH ?_
  try simp only [Act.put, sA, sB, sC]
  refine takeK 11 (.agg #[.slice K.sa s2.stack.length K.sc, .slice K.oa s2.out.length K.oc, .int .i64 s2.x, .int .i64 s2.y, .int .i64 (s2.knots : Int), .int .i64 (s2.stems : Int), .int .i64 (s2.fuel : Int), .int .i64 s2.width, .bool s2.asked]) rfl (by kernel_rfl) hH ?_
  try simp only [Act.put, sA, sB, sC]
  refine takeK 12 (.bool bb) rfl (by kernel_rfl) hH ?_
  try simp only [Act.put, sA, sB, sC]
  refine takeK 13 (.int .i64 er) rfl (by kernel_rfl) hH ?_
  try simp only [Act.put, sA, sB, sC]
  have ez2 : w2.heap[w0.heap.size]? = some (.cells #[.slice none 0 0, .slice none 0 0, .int .i64 0, .int .i64 0, .int .i64 0, .int .i64 0, .int .i64 0, .int .i64 0, .bool false] 52 (0, 0)) := hk2 _ _ _ _ (blk_lt ezA) (by decide) (by decide) ezA
  have HZ2 := Lib.hid ez2
  obtain ⟨y0, y1, y2, y3, y4, y5, y6, y7, y8⟩ := blk9 ez2
  obtain ⟨v0, v1, v2, v3, v4, v5, v6, v7, v8⟩ := free9 ez2
  refine wpUpto_one (i := 15) (by kernel_rfl) rfl (fun K' hK => ?_)
  go_simp
  have hg4 := set9_grown w2 w0.heap.size (.slice K.sa s2.stack.length K.sc) (.slice K.oa s2.out.length K.oc) (.int .i64 s2.x) (.int .i64 s2.y) (.int .i64 (s2.knots : Int)) (.int .i64 (s2.stems : Int)) (.int .i64 (s2.fuel : Int)) (.int .i64 s2.width) (.bool s2.asked)
  have hne : w.heap.size ≠ w0.heap.size := Nat.ne_of_lt HL0.out
  have hH4 : ((set9 w2 w0.heap.size (.slice K.sa s2.stack.length K.sc) (.slice K.oa s2.out.length K.oc) (.int .i64 s2.x) (.int .i64 s2.y) (.int .i64 (s2.knots : Int)) (.int .i64 (s2.stems : Int)) (.int .i64 (s2.fuel : Int)) (.int .i64 s2.width) (.bool s2.asked)).cell? ⟨w.heap.size, 0, none⟩ = some (.slice (some ⟨gb, 0, none⟩) 1 1) ∧ (set9 w2 w0.heap.size (.slice K.sa s2.stack.length K.sc) (.slice K.oa s2.out.length K.oc) (.int .i64 s2.x) (.int .i64 s2.y) (.int .i64 (s2.knots : Int)) (.int .i64 (s2.stems : Int)) (.int .i64 (s2.fuel : Int)) (.int .i64 s2.width) (.bool s2.asked)).cell? ⟨w.heap.size, 1, none⟩ = some (.slice la f.locals.length lc) ∧ (set9 w2 w0.heap.size (.slice K.sa s2.stack.length K.sc) (.slice K.oa s2.out.length K.oc) (.int .i64 s2.x) (.int .i64 s2.y) (.int .i64 (s2.knots : Int)) (.int .i64 (s2.stems : Int)) (.int .i64 (s2.fuel : Int)) (.int .i64 s2.width) (.bool s2.asked)).cell? ⟨w.heap.size, 2, none⟩ = some (.slice ga f.globals.length gc) ∧ (set9 w2 w0.heap.size (.slice K.sa s2.stack.length K.sc) (.slice K.oa s2.out.length K.oc) (.int .i64 s2.x) (.int .i64 s2.y) (.int .i64 (s2.knots : Int)) (.int .i64 (s2.stems : Int)) (.int .i64 (s2.fuel : Int)) (.int .i64 s2.width) (.bool s2.asked)).cell? ⟨w.heap.size, 3, none⟩ = some (.int .i64 f.w0) ∧ (set9 w2 w0.heap.size (.slice K.sa s2.stack.length K.sc) (.slice K.oa s2.out.length K.oc) (.int .i64 s2.x) (.int .i64 s2.y) (.int .i64 (s2.knots : Int)) (.int .i64 (s2.stems : Int)) (.int .i64 (s2.fuel : Int)) (.int .i64 s2.width) (.bool s2.asked)).cell? ⟨w.heap.size, 4, none⟩ = some (.int .i64 f.w1) ∧ (set9 w2 w0.heap.size (.slice K.sa s2.stack.length K.sc) (.slice K.oa s2.out.length K.oc) (.int .i64 s2.x) (.int .i64 s2.y) (.int .i64 (s2.knots : Int)) (.int .i64 (s2.stems : Int)) (.int .i64 (s2.fuel : Int)) (.int .i64 s2.width) (.bool s2.asked)).cell? ⟨gb, 0, none⟩ = some (.slice ba b.size bc)) := by
   have eF2 := (grown_other hg4 (blk_lt eF) (fun e => hne (Option.some.inj e).symm)).trans eF
   refine ⟨blk_cell eF2 0 _ rfl, blk_cell eF2 1 _ rfl, blk_cell eF2 2 _ rfl, blk_cell eF2 3 _ rfl, blk_cell eF2 4 _ rfl, ?_⟩
   have hq : (set9 w2 w0.heap.size (.slice K.sa s2.stack.length K.sc) (.slice K.oa s2.out.length K.oc) (.int .i64 s2.x) (.int .i64 s2.y) (.int .i64 (s2.knots : Int)) (.int .i64 (s2.stems : Int)) (.int .i64 (s2.fuel : Int)) (.int .i64 s2.width) (.bool s2.asked)).heap[gb]? = w2.heap[gb]? := hg4.block gb (Nat.lt_of_lt_of_le HGB.out (Nat.le_trans (Nat.le_of_lt (blk_lt HEA.out)) hb2.size)) (fun e => by have := Option.some.inj e; have := HGB.out; have := HL0.out; omega)
   have hq2 := hH3.2.2.2.2.2
   simp only [World.cell?, hq] at hq2 ⊢
   exact hq2
  refine hK.out _ _ (fun _ => hH4) ?_
  replace hH := hH4
  clear hK K'
  refine wpUpto_one (i := 16) (by kernel_rfl) rfl (fun K' hK => ?_)
  go_simp
  refine hK.out _ _ (fun _ => hH) ?_
  clear hK K'
  refine wpUpto_one (i := 17) (by kernel_rfl) rfl (fun K' hK => ?_)
  go_simp
  refine hK.out _ _ (fun h => absurd rfl h) ?_
  clear hK K'
  refine wpUpto_done (by kernel_rfl) ?_ _
  refine ret_gen _ fun V hV => ?_
  have ez : V.heap[w0.heap.size]? = some (.cells #[.slice K.sa s2.stack.length K.sc, .slice K.oa s2.out.length K.oc, .int .i64 s2.x, .int .i64 s2.y, .int .i64 (s2.knots : Int), .int .i64 (s2.stems : Int), .int .i64 (s2.fuel : Int), .int .i64 s2.width, .bool s2.asked] 52 (0, 0)) := by rw [hV]; exact set9_blk HZ2.out (.slice K.sa s2.stack.length K.sc) (.slice K.oa s2.out.length K.oc) (.int .i64 s2.x) (.int .i64 s2.y) (.int .i64 (s2.knots : Int)) (.int .i64 (s2.stems : Int)) (.int .i64 (s2.fuel : Int)) (.int .i64 s2.width) (.bool s2.asked)
  have hgV : w2.grownBy V (some w0.heap.size) := by rw [hV]; exact hg4
  have z1 := blk_cell ez 1 _ rfl
  have z7 := blk_cell ez 7 _ rfl
  have HV : Hid (Below w.heap.size w V) := (hbA.trans hb2).grown hgV (Nat.le_trans (Nat.le_of_lt (blk_lt HEA.out)) hb2.size) (fun k hk => by cases hk; exact Nat.le_of_lt HL0.out)
  have HOK : Hid (er = 0 → glyphM f 0 = (s2.out, s2.width, 0) ∧ OutW V w.heap.size K.oa K.oc K.vs s2.out) := fun h => ⟨(hok h).1, (hok h).2.chg hgV (typ_blk HZ2.out) (by decide) (by decide)⟩
  have HBAD := Lib.hid hbad
  clear hH hH2 hH3 hH4 ez hok hbad hb2 hk2 eF HSB HH0 HS0 hV hgV hg4 hne hbA ezA HEA ez2 HZ2 y0 v0 y1 v1 y2 v2 y3 v3 y4 v4 y5 v5 y6 v6 y7 v7 y8 v8
  by_cases he : er = 0
  ·subst he
   go_wp2_with fail
   go_quiet (fail)
   go_wp2_with fail
   go_ret3
   obtain ⟨hgl, hz⟩ := HOK.out (by first | rfl | trivial)
   refine ⟨K.oa, K.oc, K.vs, by rw [hgl]; rfl, by rw [hgl]; exact hz.below (bel_drewN (Below.refl _ _) _), bel_drewN HV.out _⟩
  ·have HER := Lib.hid he
   have hz : (er == 0) = false := by simpa using he
   clear he
   go_wp2_with fail
   go_ret3
   have hgl := HBAD.out HER.out
   exact ⟨none, 0, [], by rw [hgl]; rfl, by rw [hgl]; exact outw_nil _ _, HV.out⟩
end Go.Proofs.YtklenppldblbdaaGreat
