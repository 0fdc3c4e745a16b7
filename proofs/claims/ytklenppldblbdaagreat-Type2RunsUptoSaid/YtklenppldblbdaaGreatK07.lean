import Derived.Test.YtklenppldblbdaaGreatK06
import Derived.StillTailTactics
import Derived.BigQuiet
import Derived.Deep.QuietTactic
import Derived.Deep.RegionHeld3
set_option linter.unusedSimpArgs false
set_option linter.unusedVariables false
namespace Go.Proofs.YtklenppldblbdaaGreat
open Go.RowKit Go.PlainAid
set_option maxRecDepth 20000 in
set_option maxHeartbeats 1000000 in
theorem knot_c (B M F : Nat) (L : Lay) (s : MS) (dx dy k : Int) (w : World) (h : Mach w B M F L s) (hp : PenFit s) :
 Calls Tryz.prog 98 #[.pointer (some ⟨M, 0, none⟩), .int .i64 dx, .int .i64 dy, .int .i64 k] w (PenPost B M F L (s.knot dx dy k) (.tuple #[]) w) := by
 have H := Lib.hid h
 have HP := Lib.hid hp
 have c0 := h.c0
 have c1 := h.c1
 have c4 := h.c4
 by_cases h4 : s.fault = 0
 ·by_cases h0 : s.out.length = 0
  ·have HE : Hid (s.knot dx dy k = s.refuse 81) := by unfold Hid MS.knot; rw [if_neg (by simp [h4]), if_pos h0]
   rw [HE.out]
   rw [h4] at c4
   rw [h0] at c0
   clear h hp HE h4 h0
   go_enter Tryz.func98, Tryz.ntmps98
   go_wp2_with fail
   refine (refuse_c B M F L s 81 _ H.out).mono ?_
   rintro e w2 ⟨rfl, h2, hb2, hk2⟩
   have H2 := Lib.hid h2
   have HB2 := Lib.hid hb2
   have HK2 := Lib.hid hk2
   clear h2 hb2 hk2
   go_wp2_with fail
   go_end0
   exact ⟨rfl, ⟨_, _, _, H2.out⟩, HB2.out, HK2.out⟩
  ·by_cases hk : s.knots = 4096
   ·have HE : Hid (s.knot dx dy k = s.refuse 83) := by unfold Hid MS.knot; rw [if_neg (by simp [h4]), if_neg h0, if_pos hk]
    rw [HE.out]
    rw [h4] at c4
    rw [hk] at c1
    obtain ⟨n, HN⟩ : ∃ n, Hid (s.out.length = n) := ⟨_, rfl⟩
    rw [HN.out] at c0 h0
    have z1 : ((n : Int) == 0) = false := by simp; omega
    clear h hp HE h4 hk
    go_enter Tryz.func98, Tryz.ntmps98
    go_wp2_with fail
    refine (refuse_c B M F L s 83 _ H.out).mono ?_
    rintro e w2 ⟨rfl, h2, hb2, hk2⟩
    have H2 := Lib.hid h2
    have HB2 := Lib.hid hb2
    have HK2 := Lib.hid hk2
    clear h2 hb2 hk2
    go_wp2_with fail
    go_end0
    exact ⟨rfl, ⟨_, _, _, H2.out⟩, HB2.out, HK2.out⟩
   ·exact knot_yes B M F L s dx dy k w h h4 (by omega) (by have := hp.1; omega) hp
 ·have HE : Hid (s.knot dx dy k = s) := by unfold Hid MS.knot; rw [if_pos (by simp [h4])]
  rw [HE.out]
  obtain ⟨f, HF⟩ : ∃ f, Hid (s.fault = f) := ⟨_, rfl⟩
  rw [HF.out] at c4 h4
  have z1 : (f != 0) = true := by simp [h4]
  clear h hp HE
  go_enter Tryz.func98, Tryz.ntmps98
  go_wp2_with fail
  go_end0
  exact ⟨rfl, ⟨_, _, _, H.out⟩, Below.refl _ _, IntKeep.refl _⟩
theorem snoc_sum (o : List (List Kn)) (k : Kn) (h : 0 < o.length) : ((snocLast o k).map List.length).sum = (o.map List.length).sum + 1 := by
 obtain ⟨l, c, rfl⟩ : ∃ l c, o = l ++ [c] := ⟨o.dropLast, o.getLast (by intro e; simp [e] at h), (List.dropLast_concat_getLast _).symm⟩
 simp [snocLast, List.dropLast_append_of_ne_nil]
 omega
theorem refuse_out (s : MS) (e : Int) : (s.refuse e).out = s.out ∧ (s.refuse e).knots = s.knots ∧ (s.refuse e).stack = s.stack ∧ (s.refuse e).rows = s.rows ∧ (s.refuse e).fuel = s.fuel ∧ (s.refuse e).stems = s.stems := by
 unfold MS.refuse; split <;> simp
theorem PenFit.refuse {s : MS} (h : PenFit s) (e : Int) : PenFit (s.refuse e) := by
 have := refuse_out s e
 unfold PenFit
 rw [this.1, this.2.1]
 exact h
theorem PenFit.knot {s : MS} (h : PenFit s) (dx dy k : Int) : PenFit (s.knot dx dy k) := by
 unfold MS.knot
 split
 ·exact h
 ·split
  ·exact h.refuse _
  ·split
   ·exact h.refuse _
   ·rename_i h0 h1
    refine ⟨by have := h.1; simp only; omega, ?_, ?_⟩
    ·simp only
     rw [snocLast_length _ _ (by omega)]
     exact h.2.1
    ·simp only
     rw [snoc_sum _ _ (by omega)]
     have := h.2.2
     omega
theorem PenFit.curve {s : MS} (h : PenFit s) (a b c d e f : Int) : PenFit (s.curve a b c d e f) := ((h.knot _ _ _).knot _ _ _).knot _ _ _
theorem PenPost.pen {B M F : Nat} {L : Lay} {oa : Option Addr} {oc : Nat} {vs : List Value} {s' : MS} {v : Value} {w : World} {e : Ending} {w' : World} (h : PenPost B M F { L with oa := oa, oc := oc, vs := vs } s' v w e w') : PenPost B M F L s' v w e w' := h
theorem PenPost.andThen {B M F : Nat} {L : Lay} {s' : MS} {v v' : Value} {w0 w1 : World} {e : Ending} {w' : World} {oa : Option Addr} {oc : Nat} {vs : List Value} (hb : Below B w0 w1) (hk : IntKeep w0 w1) (h : PenPost B M F { L with oa := oa, oc := oc, vs := vs } s' v w1 e w') : PenPost B M F L s' v w0 e w' :=
 ⟨h.1, h.2.1, hb.trans h.2.2.1, hk.trans h.2.2.2⟩
set_option maxHeartbeats 400000 in
theorem line_c (B M F : Nat) (L : Lay) (s : MS) (dx dy : Int) (w : World) (h : Mach w B M F L s) (hp : PenFit s) :
 Calls Tryz.prog 108 #[.pointer (some ⟨M, 0, none⟩), .int .i64 dx, .int .i64 dy] w (PenPost B M F L (s.line dx dy) (.tuple #[]) w) := by
 have HK := Lib.hid (knot_c B M F L s dx dy 1 w h hp)
 clear h hp
 go_enter Tryz.func108, Tryz.ntmps108
 go_wp2_with fail
 refine HK.out.mono ?_
 rintro e w1 ⟨rfl, hx⟩
 have HX := Lib.hid hx
 clear hx
 go_wp2_with fail
 go_end0
 exact ⟨rfl, HX.out⟩
set_option maxHeartbeats 400000 in
theorem curve_c (B M F : Nat) (L : Lay) (s : MS) (a b c d e f : Int) (w : World) (h : Mach w B M F L s) (hp : PenFit s) :
 Calls Tryz.prog 99 #[.pointer (some ⟨M, 0, none⟩), .int .i64 a, .int .i64 b, .int .i64 c, .int .i64 d, .int .i64 e, .int .i64 f] w (PenPost B M F L (s.curve a b c d e f) (.tuple #[]) w) := by
 have HK := Lib.hid (knot_c B M F L s a b 3 w h hp)
 have HP := Lib.hid (hp.knot a b 3)
 clear h hp
 go_enter Tryz.func99, Tryz.ntmps99
 go_wp2_with fail
 refine HK.out.mono ?_
 rintro e1 w1 ⟨rfl, ⟨oa1, oc1, vs1, h1⟩, hb1, hk1⟩
 have H1 := Lib.hid h1
 have HB1 := Lib.hid hb1
 have HK1 := Lib.hid hk1
 clear h1 hb1 hk1 HK
 go_wp2_with fail
 refine (knot_c B M F _ _ c d 3 w1 H1.out HP.out).mono ?_
 rintro e2 w2 ⟨rfl, ⟨oa2, oc2, vs2, h2⟩, hb2, hk2⟩
 have H2 := Lib.hid h2
 have HB2 := Lib.hid (HB1.out.trans hb2)
 have HK2 := Lib.hid (HK1.out.trans hk2)
 clear h2 hb2 hk2 H1 HB1 HK1
 go_wp2_with fail
 refine (knot_c B M F _ _ e f 1 w2 H2.out (HP.out.knot c d 3)).mono ?_
 rintro e3 w3 ⟨rfl, ⟨oa3, oc3, vs3, h3⟩, hb3, hk3⟩
 have H3 := Lib.hid h3
 have HB3 := Lib.hid (HB2.out.trans hb3)
 have HK3 := Lib.hid (HK2.out.trans hk3)
 clear h3 hb3 hk3
 go_wp2_with fail
 go_end0
 exact ⟨rfl, ⟨_, _, _, H3.out⟩, HB3.out, HK3.out⟩
theorem PenFit.begun {s : MS} (h : PenFit s) (hl : s.out.length < 256) : PenFit { s with out := s.out ++ [[]] } := by
 refine ⟨h.1, by simp; omega, ?_⟩
 have := h.2.2
 simp
 exact this
theorem PenFit.move {s : MS} (h : PenFit s) (dx dy : Int) : PenFit (s.move dx dy) := by
 unfold MS.move
 split
 ·exact h.refuse _
 ·exact (h.begun (by have := h.2.1; omega)).knot _ _ _
set_option maxRecDepth 20000 in
set_option maxHeartbeats 1000000 in
theorem move_c (B M F : Nat) (L : Lay) (s : MS) (dx dy : Int) (w : World) (h : Mach w B M F L s) (hp : PenFit s) :
 Calls Tryz.prog 93 #[.pointer (some ⟨M, 0, none⟩), .int .i64 dx, .int .i64 dy] w (PenPost B M F L (s.move dx dy) (.tuple #[]) w) := by
 have H := Lib.hid h
 have HP := Lib.hid hp
 have c0 := h.c0
 have f0 := h.f 0
 by_cases hl : s.out.length = 256
 ·have HE : Hid (s.move dx dy = s.refuse 83) := by unfold Hid MS.move; rw [if_pos hl]
  rw [HE.out]
  rw [hl] at c0
  clear h hp hl HE
  go_enter Tryz.func93, Tryz.ntmps93
  go_wp2_with fail
  refine (refuse_c B M F L s 83 _ H.out).mono ?_
  rintro e w2 ⟨rfl, h2, hb2, hk2⟩
  have H2 := Lib.hid h2
  have HB2 := Lib.hid hb2
  have HK2 := Lib.hid hk2
  clear h2 hb2 hk2
  go_wp2_with fail
  go_end0
  exact ⟨rfl, ⟨_, _, _, H2.out⟩, HB2.out, HK2.out⟩
 ·have HE : Hid (s.move dx dy = ({ s with out := s.out ++ [[]] } : MS).knot dx dy 1) := by unfold Hid MS.move; rw [if_neg hl]
  rw [HE.out]
  obtain ⟨n, HN⟩ : ∃ n, Hid (s.out.length = n) := ⟨_, rfl⟩
  rw [HN.out] at c0 hl
  have hn : n ≤ 255 := by have := hp.2.1; have := HN.out; omega
  have HNL := Lib.hid hn
  have z1 : ((n : Int) == 256) = false := by simp; omega
  have HB0 : Hid (Below w.heap.size w (w.alloc (.cells #[.slice none 0 0] 41))) := (Below.refl _ _).alloc (Nat.le_refl _) _
  have H0 := Lib.hid (h.below HB0.out)
  have HOW : Hid ((w.alloc (.cells #[.slice none 0 0] 41)).ownsRow B 41 1 (.slice L.oa n L.oc) n L.vs) := by
   have := H0.out.out.own
   rw [HN.out] at this
   exact this
  have HFP := Lib.hid (hp.begun (by rw [HN.out]; omega))
  clear h hp hl HE
  go_enter Tryz.func93, Tryz.ntmps93
  go_wp2_with (at_builtin; refine wpList_appA elKK rfl _ _ rfl (w.alloc (.cells #[.slice none 0 0] 41)) B L.oa n L.oc L.vs w.heap.size 1 1 [.slice none 0 0] rfl rfl HOW.out rfl lies_new (by simp [Value.oneCell']) (by decide) (by have := HNL.out; omega) (by have := HNL.out; omega) H0.out.le ?_; intro g9 c9 w9 ho9 hg9 hat9; have ht9 := typ_own HOW.out; have hm9 := blk_chg H0.out.mem hg9 ht9 (by decide); have hz9 := blk_cell hm9 0 (.slice L.oa s.out.length L.oc) rfl; rw [HN.out] at hz9; have hf9 := blk_free hm9 0)
  have H10 := Lib.hid (Mach.begun H0.out (by rw [HN.out]; exact ho9) (by rw [HN.out]; exact hg9))
  rw [HN.out] at H10
  have HB9 : Hid (Below B w (w9.setCell ⟨M, 0, none⟩ (.slice (some ⟨g9, 0, none⟩) (n + 1) c9))) := by
   refine bel_set (Below.trans (HB0.out.mono H.out.le) ?_) H.out.mB _
   refine ⟨hg9.os, hg9.tape, hg9.output, hg9.size, fun j hj => hg9.block j (Nat.lt_of_lt_of_le hj H0.out.le) (fun e => ?_)⟩
   have := (HOW.out.lt j e.symm).1
   omega
  have HK9 : Hid (IntKeep w (w9.setCell ⟨M, 0, none⟩ (.slice (some ⟨g9, 0, none⟩) (n + 1) c9))) := ((keep_bel HB0.out).trans (keep_chg hg9 ht9 (by decide))).trans (keep_set hm9 (by decide) 0 _)
  clear ho9 hg9 hat9 ht9 hm9
  go_wp2_with fail
  refine (knot_c B M F _ _ dx dy 1 _ H10.out HFP.out).mono ?_
  rintro e2 w2 ⟨rfl, ⟨oa2, oc2, vs2, h2⟩, hb2, hk2⟩
  have H2 := Lib.hid h2
  have HB2 := Lib.hid (HB9.out.trans hb2)
  have HK2 := Lib.hid (HK9.out.trans hk2)
  clear h2 hb2 hk2
  go_wp2_with fail
  go_end0
  exact ⟨rfl, ⟨_, _, _, H2.out⟩, HB2.out, HK2.out⟩
end Go.Proofs.YtklenppldblbdaaGreat
namespace Go.Proofs.YtklenppldblbdaaGreat
open Go.RowKit Go.PlainAid
def Opds (w : World) (l : List Int) (a : Option Addr) : Prop := l = [] ∨ ∃ g off cs fr, a = some ⟨g, off, none⟩ ∧ w.heap[g]? = some (.cells cs 3 fr) ∧ ∀ (i : Nat) (v : Int), l[i]? = some v → cs[off + i]? = some (.int .i64 v)
theorem Opds.keep {w w' : World} {l : List Int} {a : Option Addr} (h : Opds w l a) (k : IntKeep w w') : Opds w' l a := by
 rcases h with h | ⟨g, off, cs, fr, h1, h2, h3⟩
 ·exact .inl h
 ·exact .inr ⟨g, off, cs, fr, h1, k g cs fr h2, h3⟩
theorem Opds.at {w : World} {l : List Int} {a : Option Addr} (h : Opds w l a) (hl : 0 < l.length) : ∃ g off, a = some ⟨g, off, none⟩ ∧ ∀ (i : Nat) (v : Int), l[i]? = some v → w.cell? ⟨g, off + i, none⟩ = some (.int .i64 v) := by
 rcases h with h | ⟨g, off, cs, fr, h1, h2, h3⟩
 ·subst h; simp at hl
 ·exact ⟨g, off, h1, fun i v hv => by simp only [World.cell?, h2]; exact h3 i v hv⟩
theorem Opds.drop {w : World} {l : List Int} {g off : Nat} (h : Opds w l (some ⟨g, off, none⟩)) (k : Nat) : Opds w (l.drop k) (some ⟨g, off + k, none⟩) := by
 rcases h with h | ⟨g', off', cs, fr, h1, h2, h3⟩
 ·exact .inl (by rw [h]; simp)
 ·cases h1
  exact .inr ⟨g, off + k, cs, fr, rfl, h2, fun i v hv => by rw [Nat.add_assoc]; exact h3 (k + i) v (by rw [List.getElem?_drop] at hv; exact hv)⟩
theorem Opds.take {w : World} {l : List Int} {a : Option Addr} (h : Opds w l a) (k : Nat) : Opds w (l.take k) a := by
 rcases h with h | ⟨g, off, cs, fr, h1, h2, h3⟩
 ·exact .inl (by rw [h]; simp)
 ·exact .inr ⟨g, off, cs, fr, h1, h2, fun i v hv => by
   have hlt : i < (l.take k).length := (List.getElem?_eq_some_iff.1 hv).1
   rw [List.getElem?_take_of_lt (by simp at hlt; omega)] at hv
   exact h3 i v hv⟩
theorem Opds.nil (w : World) (a : Option Addr) : Opds w [] a := .inl rfl
theorem Opds.rest {w : World} {l r : List Int} {g off c : Nat} (h : Opds w l (some ⟨g, off, none⟩)) (k : Nat) (hr : l.drop k = r) (hc : l.length ≤ c) : Opds w r (if c = k then some ⟨g, off, none⟩ else some ⟨g, off + k, none⟩) := by
 subst hr
 by_cases e : c = k
 ·rw [if_pos e]
  exact .inl (List.drop_eq_nil_of_le (by omega))
 ·rw [if_neg e]
  exact h.drop k
def lenOf : Value → Nat
 | .slice _ n _ => n
 | _ => 0
set_option maxRecDepth 20000 in
set_option maxHeartbeats 2000000 in
theorem lines_c (B M F : Nat) (L : Lay) (s : MS) (l : List Int) (a : Option Addr) (c : Nat) (w : World) (h : Mach w B M F L s) (hp : PenFit s) (ho : Opds w l a) (hc : l.length ≤ c) (he : l.length % 2 = 0) (hl : l.length ≤ 1000) :
 Calls Tryz.prog 102 #[.pointer (some ⟨M, 0, none⟩), .slice a l.length c] w (PenPost B M F L (MS.lines l s) (.tuple #[]) w) := by
 have H := Lib.hid h
 have HP := Lib.hid hp
 have HO := Lib.hid ho
 have HC := Lib.hid (And.intro hc (And.intro he hl))
 obtain ⟨n, HN⟩ : ∃ n, Hid (l.length = n) := ⟨_, rfl⟩
 rw [HN.out]
 clear h hp ho hc he hl
 go_enter Tryz.func102, Tryz.ntmps102
 go_wp2_with fail
 go_loopw [1] (fun v wr => ∃ (n : Nat) (a : Option Addr) (c : Nat) (l1 : List Int) (oa : Option Addr) (oc : Nat) (vs : List Value) (s1 : MS), v = .slice a n c ∧ Hid (l1.length = n) ∧ Hid (Opds wr l1 a) ∧ Hid (l1.length ≤ c ∧ l1.length % 2 = 0 ∧ l1.length ≤ 1000) ∧ Hid (Mach wr B M F { L with oa := oa, oc := oc, vs := vs } s1) ∧ Hid (PenFit s1) ∧ Hid (Below B w wr) ∧ Hid (IntKeep w wr) ∧ Hid (MS.lines l1 s1 = MS.lines l s)) (fun v _ => lenOf v)
 case atStart => exact ⟨n, a, c, l, L.oa, L.oc, L.vs, s, rfl, HN, HO, HC, H, HP, Below.refl _ _, IntKeep.refl _, rfl⟩
 case round =>
  obtain ⟨n1, a1, c1, l1, oa1, oc1, vs1, s1, rfl, HN1, HO1, HC1, H1, HP1, HB1, HK1, HE1⟩ := hrel
  clear H HP HO HC HN
  match l1, HN1, HO1, HC1, HE1 with
  | [], HN1, HO1, HC1, HE1 =>
    have h0 : n1 = 0 := HN1.out.symm
    subst h0
    go_wp2_with fail
    go_end0
    have := HE1.out
    simp only [MS.lines] at this
    rw [← this]
    exact ⟨rfl, ⟨_, _, _, H1.out⟩, HB1.out, HK1.out⟩
  | [x0], HN1, HO1, HC1, HE1 => exact absurd HC1.out.2.1 (by simp)
  | x0 :: x1 :: r, HN1, HO1, HC1, HE1 =>
    obtain ⟨m, HM⟩ : ∃ m, Hid (r.length = m) := ⟨_, rfl⟩
    obtain rfl : n1 = m + 2 := by have := HN1.out; have := HM.out; simp at *; omega
    obtain ⟨g, off, rfl, hcell⟩ := HO1.out.at (by simp)
    have k0 := hcell 0 x0 rfl
    have k1 := hcell 1 x1 rfl
    rw [Nat.add_zero] at k0
    have hm : m ≤ 1000 := by have := HC1.out.2.2; have := HM.out; simp at *; omega
    have hmc : m + 2 ≤ c1 := by have := HC1.out.1; have := HM.out; simp at *; omega
    have h0 : (0 : Int) < (m : Int) + 2 := by omega
    have h1 : (1 : Int) < (m : Int) + 2 := by omega
    have hk : (2 : Int) ≤ (m : Int) + 2 := by omega
    have HC2 : Hid (r.length ≤ c1 - 2 ∧ r.length % 2 = 0 ∧ r.length ≤ 1000) := by have := HC1.out; have := HM.out; simp at *; unfold Hid; omega
    clear hcell HN1
    go_wp2_with fail
    refine wp_region_still_tail 7 (by kernel_rfl) (by kernel_rfl) ?_
    simp only [List.take_succ_cons, List.take_zero, List.drop_succ_cons, List.drop_zero]
    repeat still_step
    refine wpStill_nil ?_
    change wpList _ _ _ _ _ wr.drew
    have HD := Lib.hid (H1.out.below (Below.refl _ _).drew)
    have HKD := Lib.hid (keep_bel (Below.refl wr.heap.size wr).drew)
    go_wp2_with fail
    refine (line_c B M F _ s1 x0 x1 wr.drew HD.out HP1.out).mono ?_
    rintro e w2 ⟨rfl, ⟨oa2, oc2, vs2, hh2⟩, hb2, hk2⟩
    have H2 := Lib.hid hh2
    have HB2 := Lib.hid (HB1.out.drew.trans hb2)
    have HK0 := Lib.hid (HKD.out.trans hk2)
    have HK2 := Lib.hid (HK1.out.trans HK0.out)
    have HO2 := Lib.hid ((HO1.out.keep HK0.out).rest (c := c1) 2 (r := r) rfl HC1.out.1)
    have HP2 : Hid (PenFit (s1.line x0 x1)) := HP1.out.knot _ _ _
    have HE2 : Hid (MS.lines r (s1.line x0 x1) = MS.lines l s) := HE1.out
    clear hh2 hb2 hk2 HD HKD HK0 k0 k1
    go_wp2_with fail
    exact ⟨⟨m, _, _, r, oa2, oc2, vs2, _, rfl, HM, HO2, HC2, H2, HP2, HB2, HK2, HE2⟩, by simp [lenOf]⟩
set_option maxRecDepth 20000 in
set_option maxHeartbeats 2000000 in
theorem curves_c (B M F : Nat) (L : Lay) (s : MS) (l : List Int) (a : Option Addr) (c : Nat) (w : World) (h : Mach w B M F L s) (hp : PenFit s) (ho : Opds w l a) (hc : l.length ≤ c) (he : l.length % 6 = 0) (hl : l.length ≤ 1000) :
 Calls Tryz.prog 100 #[.pointer (some ⟨M, 0, none⟩), .slice a l.length c] w (PenPost B M F L (MS.curves l s) (.tuple #[]) w) := by
 have H := Lib.hid h
 have HP := Lib.hid hp
 have HO := Lib.hid ho
 have HC := Lib.hid (And.intro hc (And.intro he hl))
 obtain ⟨n, HN⟩ : ∃ n, Hid (l.length = n) := ⟨_, rfl⟩
 rw [HN.out]
 clear h hp ho hc he hl
 go_enter Tryz.func100, Tryz.ntmps100
 go_wp2_with fail
 go_loopw [1] (fun v wr => ∃ (n : Nat) (a : Option Addr) (c : Nat) (l1 : List Int) (oa : Option Addr) (oc : Nat) (vs : List Value) (s1 : MS), v = .slice a n c ∧ Hid (l1.length = n) ∧ Hid (Opds wr l1 a) ∧ Hid (l1.length ≤ c ∧ l1.length % 6 = 0 ∧ l1.length ≤ 1000) ∧ Hid (Mach wr B M F { L with oa := oa, oc := oc, vs := vs } s1) ∧ Hid (PenFit s1) ∧ Hid (Below B w wr) ∧ Hid (IntKeep w wr) ∧ Hid (MS.curves l1 s1 = MS.curves l s)) (fun v _ => lenOf v)
 case atStart => exact ⟨n, a, c, l, L.oa, L.oc, L.vs, s, rfl, HN, HO, HC, H, HP, Below.refl _ _, IntKeep.refl _, rfl⟩
 case round =>
  obtain ⟨n1, a1, c1, l1, oa1, oc1, vs1, s1, rfl, HN1, HO1, HC1, H1, HP1, HB1, HK1, HE1⟩ := hrel
  clear H HP HO HC HN
  match l1, HN1, HO1, HC1, HE1 with
  | [], HN1, HO1, HC1, HE1 =>
    have h0 : n1 = 0 := HN1.out.symm
    subst h0
    go_wp2_with fail
    go_end0
    have := HE1.out
    simp only [MS.curves] at this
    rw [← this]
    exact ⟨rfl, ⟨_, _, _, H1.out⟩, HB1.out, HK1.out⟩
  | [x0], HN1, HO1, HC1, HE1 => exact absurd HC1.out.2.1 (by simp)
  | [x0, x1], HN1, HO1, HC1, HE1 => exact absurd HC1.out.2.1 (by simp)
  | [x0, x1, x2], HN1, HO1, HC1, HE1 => exact absurd HC1.out.2.1 (by simp)
  | [x0, x1, x2, x3], HN1, HO1, HC1, HE1 => exact absurd HC1.out.2.1 (by simp)
  | [x0, x1, x2, x3, x4], HN1, HO1, HC1, HE1 => exact absurd HC1.out.2.1 (by simp)
  | x0 :: x1 :: x2 :: x3 :: x4 :: x5 :: r, HN1, HO1, HC1, HE1 =>
    obtain ⟨m, HM⟩ : ∃ m, Hid (r.length = m) := ⟨_, rfl⟩
    obtain rfl : n1 = m + 6 := by have := HN1.out; have := HM.out; simp at *; omega
    obtain ⟨g, off, rfl, hcell⟩ := HO1.out.at (by simp)
    have k0 := hcell 0 x0 rfl
    have k1 := hcell 1 x1 rfl
    have k2 := hcell 2 x2 rfl
    have k3 := hcell 3 x3 rfl
    have k4 := hcell 4 x4 rfl
    have k5 := hcell 5 x5 rfl
    rw [Nat.add_zero] at k0
    have hm : m ≤ 1000 := by have := HC1.out.2.2; have := HM.out; simp at *; omega
    have hmc : m + 6 ≤ c1 := by have := HC1.out.1; have := HM.out; simp at *; omega
    have h0 : (0 : Int) < (m : Int) + 6 := by omega
    have h1 : (1 : Int) < (m : Int) + 6 := by omega
    have h2 : (2 : Int) < (m : Int) + 6 := by omega
    have h3 : (3 : Int) < (m : Int) + 6 := by omega
    have h4 : (4 : Int) < (m : Int) + 6 := by omega
    have h5 : (5 : Int) < (m : Int) + 6 := by omega
    have hk : (6 : Int) ≤ (m : Int) + 6 := by omega
    have HC2 : Hid (r.length ≤ c1 - 6 ∧ r.length % 6 = 0 ∧ r.length ≤ 1000) := by have := HC1.out; have := HM.out; simp at *; unfold Hid; omega
    clear hcell HN1
    go_wp2_with fail
    refine wp_region_still_tail 19 (by kernel_rfl) (by kernel_rfl) ?_
    simp only [List.take_succ_cons, List.take_zero, List.drop_succ_cons, List.drop_zero]
    repeat still_step
    refine wpStill_nil ?_
    change wpList _ _ _ _ _ wr.drew
    have HD := Lib.hid (H1.out.below (Below.refl _ _).drew)
    have HKD := Lib.hid (keep_bel (Below.refl wr.heap.size wr).drew)
    go_wp2_with fail
    refine (curve_c B M F _ s1 x0 x1 x2 x3 x4 x5 wr.drew HD.out HP1.out).mono ?_
    rintro e w2 ⟨rfl, ⟨oa2, oc2, vs2, hh2⟩, hb2, hk2⟩
    have H2 := Lib.hid hh2
    have HB2 := Lib.hid (HB1.out.drew.trans hb2)
    have HK0 := Lib.hid (HKD.out.trans hk2)
    have HK2 := Lib.hid (HK1.out.trans HK0.out)
    have HO2 := Lib.hid ((HO1.out.keep HK0.out).rest (c := c1) 6 (r := r) rfl HC1.out.1)
    have HP2 : Hid (PenFit (s1.curve x0 x1 x2 x3 x4 x5)) := HP1.out.curve _ _ _ _ _ _
    have HE2 : Hid (MS.curves r (s1.curve x0 x1 x2 x3 x4 x5) = MS.curves l s) := HE1.out
    clear hh2 hb2 hk2 HD HKD HK0 k0 k1 k2 k3 k4 k5
    go_wp2_with fail
    exact ⟨⟨m, _, _, r, oa2, oc2, vs2, _, rfl, HM, HO2, HC2, H2, HP2, HB2, HK2, HE2⟩, by simp [lenOf]⟩
set_option maxRecDepth 20000 in
set_option maxHeartbeats 2000000 in
theorem steps_c (B M F : Nat) (L : Lay) (s : MS) (l : List Int) (a : Option Addr) (c : Nat) (ax : Bool) (w : World) (h : Mach w B M F L s) (hp : PenFit s) (ho : Opds w l a) (hl : l.length ≤ 1000) :
 Calls Tryz.prog 103 #[.pointer (some ⟨M, 0, none⟩), .slice a l.length c, .bool ax] w (PenPost B M F L (MS.steps l ax s) (.tuple #[]) w) := by
 have H := Lib.hid h
 have HP := Lib.hid hp
 have HO := Lib.hid ho
 have HL := Lib.hid hl
 obtain ⟨n, HN⟩ : ∃ n, Hid (l.length = n) := ⟨_, rfl⟩
 rw [HN.out]
 clear h hp ho hl
 go_enter Tryz.func103, Tryz.ntmps103
 go_wp2_with fail
 go_loopw [2, 10] (fun b v wr => ∃ (i : Nat) (ax1 : Bool) (oa : Option Addr) (oc : Nat) (vs : List Value) (s1 : MS), i ≤ n ∧ b = .bool ax1 ∧ v = .int .i64 (i : Int) ∧ Hid (Mach wr B M F { L with oa := oa, oc := oc, vs := vs } s1) ∧ Hid (PenFit s1) ∧ Hid (Below B w wr) ∧ Hid (IntKeep w wr) ∧ Hid (MS.steps (l.drop i) ax1 s1 = MS.steps l ax s)) (fun _ v _ => n - (intOf v).toNat)
 case atStart => exact ⟨0, ax, L.oa, L.oc, L.vs, s, Nat.zero_le _, rfl, rfl, H, HP, Below.refl _ _, IntKeep.refl _, rfl⟩
 case round =>
  obtain ⟨i, ax1, oa1, oc1, vs1, s1, hi, rfl, rfl, H1, HP1, HB1, HK1, HE1⟩ := hrel
  clear H HP
  by_cases hlt : i < n
  ·obtain ⟨d, hd⟩ := get_of (show i < l.length by have := HN.out; omega)
   obtain ⟨g, off, rfl, hcell⟩ := HO.out.at (show 0 < l.length by have := HN.out; omega)
   have k0 := (Opds.at (HO.out.keep HK1.out) (show 0 < l.length by have := HN.out; omega))
   obtain ⟨g', off', hgo, hc2⟩ := k0
   cases hgo
   have k0 := hc2 i d hd
   have h1 : (i : Int) < (n : Int) := by omega
   have h2 : (0 : Int) ≤ (i : Int) := by omega
   have hn : n ≤ 1000 := by have := HL.out; have := HN.out; omega
   have HS : Hid (l.drop i = d :: l.drop (i + 1)) := by
    unfold Hid
    rw [List.drop_eq_getElem_cons (show i < l.length by have := HN.out; omega)]
    have := (List.getElem?_eq_some_iff.1 hd).2
    rw [this]
   have HX := Lib.hid (next64 (j := i) (by omega))
   have HLT := Lib.hid hlt
   clear hcell hc2 hd hlt
   have HE2 : Hid (MS.steps (l.drop (i + 1)) (!ax1) (if ax1 then s1.line d 0 else s1.line 0 d) = MS.steps l ax s) := by
    have := HE1.out
    rw [HS.out] at this
    exact this
   cases ax1
   ·go_wp2_with fail
    refine (line_c B M F _ s1 0 d wr H1.out HP1.out).mono ?_
    rintro e w2 ⟨rfl, ⟨oa2, oc2, vs2, hh2⟩, hb2, hk2⟩
    have H2 := Lib.hid hh2
    have HB2 := Lib.hid (HB1.out.trans hb2)
    have HK2 := Lib.hid (HK1.out.trans hk2)
    have HP2 : Hid (PenFit (s1.line 0 d)) := HP1.out.knot _ _ _
    clear hh2 hb2 hk2 k0
    go_wp2_with fail
    exact ⟨⟨i + 1, true, oa2, oc2, vs2, _, HLT.out, rfl, by first | rw [HX.out] | go_num, H2, HP2, HB2, HK2, HE2⟩, by (try rw [HX.out]); have := HLT.out; simp only [intOf]; omega⟩
   ·go_wp2_with fail
    refine (line_c B M F _ s1 d 0 wr H1.out HP1.out).mono ?_
    rintro e w2 ⟨rfl, ⟨oa2, oc2, vs2, hh2⟩, hb2, hk2⟩
    have H2 := Lib.hid hh2
    have HB2 := Lib.hid (HB1.out.trans hb2)
    have HK2 := Lib.hid (HK1.out.trans hk2)
    have HP2 : Hid (PenFit (s1.line d 0)) := HP1.out.knot _ _ _
    clear hh2 hb2 hk2 k0
    go_wp2_with fail
    exact ⟨⟨i + 1, false, oa2, oc2, vs2, _, HLT.out, rfl, by first | rw [HX.out] | go_num, H2, HP2, HB2, HK2, HE2⟩, by (try rw [HX.out]); have := HLT.out; simp only [intOf]; omega⟩
  ·obtain rfl : i = n := by omega
   have h1 : ¬ (i : Int) < (i : Int) := by omega
   have HEF : Hid (s1 = MS.steps l ax s) := by
    have := HE1.out
    rw [List.drop_eq_nil_of_le (by have := HN.out; omega)] at this
    exact this
   go_wp2_with fail
   go_end0
   rw [← HEF.out]
   exact ⟨rfl, ⟨_, _, _, H1.out⟩, HB1.out, HK1.out⟩
end Go.Proofs.YtklenppldblbdaaGreat
namespace Go.Proofs.YtklenppldblbdaaGreat
open Go.RowKit Go.PlainAid
def MPost (B M F : Nat) (s' : MS) (v : Value) (w : World) (e : Ending) (w' : World) : Prop := e = .returned v ∧ (∃ L', Mach w' B M F L' s') ∧ Below B w w'
theorem LPost.m {B M F : Nat} {L : Lay} {s' : MS} {v : Value} {w : World} {e : Ending} {w' : World} (h : LPost B M F L s' v w e w') : MPost B M F s' v w e w' := ⟨h.1, ⟨_, h.2.1⟩, h.2.2.1⟩
theorem PenPost.m {B M F : Nat} {L : Lay} {s' : MS} {v : Value} {w : World} {e : Ending} {w' : World} (h : PenPost B M F L s' v w e w') : MPost B M F s' v w e w' := by
 obtain ⟨h1, ⟨oa, oc, vs, h2⟩, h3, _⟩ := h
 exact ⟨h1, ⟨_, h2⟩, h3⟩
theorem bel_own {B : Nat} {w w' : World} {e : TypeId} {s n : Nat} {v : Value} {xs : List Value} (h : w.ownsRow B e s v n xs) (hg : w.grownBy w' v.ownBlock) (hB : B ≤ w.heap.size) : Below B w w' :=
 ⟨hg.os, hg.tape, hg.output, hg.size, fun j hj => hg.block j (Nat.lt_of_lt_of_le hj hB) (fun e => by have := (h.lt j e.symm).1; omega)⟩
set_option maxRecDepth 20000 in
set_option maxHeartbeats 1000000 in
theorem push_c (B M F : Nat) (L : Lay) (s : MS) (n : Int) (w : World) (h : Mach w B M F L s) (hl : s.stack.length ≤ 48) :
 Calls Tryz.prog 50 #[.pointer (some ⟨M, 0, none⟩), .int .i64 n] w (MPost B M F (s.push n) (.tuple #[]) w) := by
 have H := Lib.hid h
 have c7 := h.c7
 have f7 := h.f 7
 by_cases h48 : s.stack.length = 48
 ·have HE : Hid (s.push n = s.refuse 83) := by unfold Hid MS.push; rw [if_pos h48]
  rw [HE.out]
  rw [h48] at c7
  clear h hl HE h48
  go_enter Tryz.func50, Tryz.ntmps50
  go_wp2_with fail
  refine (refuse_c B M F L s 83 _ H.out).mono ?_
  rintro e w2 ⟨rfl, h2, hb2, hk2⟩
  have H2 := Lib.hid h2
  have HB2 := Lib.hid hb2
  clear h2 hb2 hk2
  go_wp2_with fail
  go_end0
  exact ⟨rfl, ⟨_, H2.out⟩, HB2.out⟩
 ·have HE : Hid (s.push n = { s with stack := s.stack ++ [n] }) := by unfold Hid MS.push; rw [if_neg h48]
  rw [HE.out]
  obtain ⟨m, HM⟩ : ∃ m, Hid (s.stack.length = m) := ⟨_, rfl⟩
  rw [HM.out] at c7 h48 hl
  have hm : m ≤ 47 := by omega
  have z1 : ((m : Int) == 48) = false := by simp; omega
  have HML := Lib.hid hm
  have HB0 : Hid (Below w.heap.size w (w.alloc (.cells #[.int .i64 n] 3))) := (Below.refl _ _).alloc (Nat.le_refl _) _
  have H0 := Lib.hid (h.below HB0.out)
  have HOW : Hid ((w.alloc (.cells #[.int .i64 n] 3)).ownsRow B 3 1 (.slice L.sa m L.sc) m (s.stack.map (Value.int .i64))) := by
   have := H0.out.stack
   rw [HM.out] at this
   exact this
  clear h hl HE h48
  go_enter Tryz.func50, Tryz.ntmps50
  go_wp2_with (at_builtin; refine wpList_appA elI rfl _ _ rfl (w.alloc (.cells #[.int .i64 n] 3)) B L.sa m L.sc (s.stack.map (Value.int .i64)) w.heap.size 1 1 [.int .i64 n] rfl rfl HOW.out rfl lies_new (by simp [Value.oneCell']) (by decide) (by have := HML.out; omega) (by have := HML.out; omega) H0.out.le ?_; intro g9 c9 w9 ho9 hg9 hat9; have ht9 := typ_own HOW.out; have hm9 := blk_chg H0.out.mem hg9 ht9 (by decide); have hz9 := blk_cell hm9 7 (.slice L.sa s.stack.length L.sc) rfl; rw [HM.out] at hz9; have hf9 := blk_free hm9 7)
  have H10 := Lib.hid (Mach.pushed (n := n) H0.out (by rw [HM.out]; exact ho9) (by rw [HM.out]; exact hg9))
  rw [HM.out] at H10
  have HB9 : Hid (Below B w (w9.setCell ⟨M, 7, none⟩ (.slice (some ⟨g9, 0, none⟩) (m + 1) c9))) := bel_set (Below.trans (HB0.out.mono H.out.le) (bel_own HOW.out hg9 H0.out.le)) H.out.mB _
  clear ho9 hg9 hat9 ht9 hm9
  go_wp2_with fail
  go_end0
  exact ⟨rfl, ⟨_, H10.out⟩, HB9.out⟩
set_option maxRecDepth 20000 in
set_option maxHeartbeats 1000000 in
theorem leave_c (B M F : Nat) (L : Lay) (s : MS) (r : Rw) (rest : List Rw) (w : World) (h : Mach w B M F L s) (hr : s.rows = r :: rest) (hl : s.rows.length ≤ 100) :
 Calls Tryz.prog 69 #[.pointer (some ⟨M, 0, none⟩)] w (MPost B M F s.leave (.tuple #[]) w) := by
 have H := Lib.hid h
 have c6 := h.c6
 have f6 := h.f 6
 cases rest with
 | nil =>
   have HE : Hid (s.leave = s.refuse 81) := by unfold Hid MS.leave; rw [if_pos (by rw [hr]; rfl)]
   rw [HE.out]
   rw [show s.rows.length = 1 by rw [hr]; rfl] at c6
   clear h hl HE hr
   go_enter Tryz.func69, Tryz.ntmps69
   go_wp2_with fail
   refine (refuse_c B M F L s 81 _ H.out).mono ?_
   rintro e w2 ⟨rfl, h2, hb2, hk2⟩
   have H2 := Lib.hid h2
   have HB2 := Lib.hid hb2
   clear h2 hb2 hk2
   go_wp2_with fail
   go_end0
   exact ⟨rfl, ⟨_, H2.out⟩, HB2.out⟩
 | cons r2 rest2 =>
   have HE : Hid (s.leave = { s with rows := r2 :: rest2 }) := by unfold Hid MS.leave; rw [if_neg (by rw [hr]; simp)]; rw [hr]; rfl
   rw [HE.out]
   obtain ⟨m, HM⟩ : ∃ m, Hid ((r2 :: rest2).length = m) := ⟨_, rfl⟩
   have hlm : s.rows.length = m + 1 := by rw [hr]; have := HM.out; simp at *; omega
   rw [hlm] at c6 hl
   have hm : m ≤ 100 := by omega
   have hm1 : 1 ≤ m := by have := HM.out; simp at this; omega
   have z1 : (((m + 1 : Nat) : Int) == 1) = false := by simp; omega
   have z2 : ((m : Int) + 1 == 1) = false := by simp; omega
   have hcap := (ownsRow_cap h.rows.own).1
   rw [hlm] at hcap
   have z3 : (m : Int) ≤ (L.pc : Int) := by omega
   obtain ⟨q, rb, hb⟩ : ∃ q rb, L.rb = q :: rb := by
    have := h.rows.len
    rw [hr] at this
    cases hx : L.rb with
    | nil => rw [hx] at this; simp at this
    | cons q rb => exact ⟨q, rb, rfl⟩
   have HX := Lib.hid (h.below (Below.refl _ _).drew)
   have HL := Lib.hid (HX.out.left hb hr HM.out)
   have HB9 : Hid (Below B w (w.drew.setCell ⟨M, 6, none⟩ (.slice (some ⟨L.pg, 0, none⟩) m L.pc))) := bel_set (Below.refl B w).drew h.mB _
   have HMB := Lib.hid h.mB
   clear h hl HE hr hcap hb
   go_enter Tryz.func69, Tryz.ntmps69
   go_wp2_with fail
   go_region
   all_goals (
    go_wp2_with fail
    go_end0
    exact ⟨rfl, ⟨_, HL.out⟩, HB9.out⟩)
theorem nearM_bound (n : Int) : -2147483647 ≤ nearM n ∧ nearM n ≤ 2147483647 := by
 unfold nearM mulDiv
 split <;> (try split) <;> simp_all <;> (try omega)
end Go.Proofs.YtklenppldblbdaaGreat
namespace Go.Proofs.YtklenppldblbdaaGreat
open Go.RowKit Go.PlainAid
def BPost (B M F : Nat) (L : Lay) (q : List Int × MS) (w : World) (e : Ending) (w' : World) : Prop := ∃ a c, e = .returned (.slice a q.1.length c) ∧ Opds w' q.1 a ∧ q.1.length ≤ c ∧ Mach w' B M F L q.2 ∧ Below B w w' ∧ IntKeep w w'
set_option maxRecDepth 20000 in
set_option maxHeartbeats 2000000 in
theorem behind_c (B M F : Nat) (L : Lay) (s : MS) (l : List Int) (a : Option Addr) (c : Nat) (many : Bool) (w1 : Int) (w : World) (h : Mach w B M F L s) (ho : Opds w l a) (hc : l.length ≤ c) (hl : l.length ≤ 1000) (hm : many = true → 0 < l.length) (hx : ∀ v ∈ l, -2147483648 ≤ v ∧ v ≤ 2147483648)
 (hF : w.cell? ⟨F, 7, none⟩ = some (.int .i64 w1)) (hFB : F < B) (hw1 : -4294967296 ≤ w1 ∧ w1 ≤ 4294967296) :
 Calls Tryz.prog 91 #[.pointer (some ⟨M, 0, none⟩), .slice a l.length c, .bool many] w (BPost B M F L (s.behind w1 l many) w) := by
 have H := Lib.hid h
 have HO := Lib.hid ho
 have c11 := h.c11
 have f11 := h.f 11
 have HA := Lib.hid (h.setAsked true)
 have HBA := Lib.hid (h.bset 11 (.bool true))
 by_cases hd : s.asked = false ∧ many = true
 ·obtain ⟨ha, rfl⟩ := hd
  have HE : Hid (s.behind w1 l true = (l.tail, { s with asked := true, width := nearM (l.headD 0) + w1 })) := by unfold Hid MS.behind; rw [if_pos ⟨ha, rfl⟩]
  rw [HE.out]
  rw [ha] at c11
  obtain ⟨x, t, rfl⟩ : ∃ x t, l = x :: t := by
   cases l with
   | nil => exact absurd (hm rfl) (by simp)
   | cons x t => exact ⟨x, t, rfl⟩
  obtain ⟨n, HN⟩ : ∃ n, Hid (t.length = n) := ⟨_, rfl⟩
  obtain ⟨g, off, rfl, _⟩ := ho.at (by simp)
  have hxb := hx x (by simp)
  have hcn : n + 1 ≤ c := by have := HN.out; simp at hc; omega
  have hn : n ≤ 1000 := by have := HN.out; simp at hl; omega
  have HWB := Lib.hid hw1
  have hMF : M ≠ F := by have := h.mB; omega
  have HNE := Lib.hid hMF
  rw [show (x :: t).length = n + 1 by have := HN.out; simp; omega]
  have HCC := Lib.hid hc
  -- the world behind the store of asked
  obtain ⟨wa, HWA⟩ : ∃ wa, Hid (w.setCell ⟨M, 11, none⟩ (.bool true) = wa) := ⟨_, rfl⟩
  rw [HWA.out] at HA HBA
  obtain ⟨g', off', hgo, hcell⟩ := (HO.out.keep HBA.out.2).at (by simp)
  cases hgo
  have k0 := hcell 0 x rfl
  rw [Nat.add_zero] at k0
  have k5 := HA.out.c5
  have kf : wa.cell? ⟨F, 7, none⟩ = some (.int .i64 w1) := by rw [← HWA.out, keepS hMF]; exact hF
  have b0 : (0 : Int) < (n : Int) + 1 := by omega
  have b1 : (1 : Int) ≤ (n : Int) + 1 := by omega
  have HXB := Lib.hid hxb
  have HAd := Lib.hid (HA.out.below (Below.refl _ _).drew)
  clear h ho hc hl hm hx hF hw1 ha HE hcell hMF hxb
  go_enter Tryz.func91, Tryz.ntmps91
  go_wp2_with fail
  rw [HWA.out]
  have HGM : Hid (M ≠ g) := by
   intro e
   have h1 := HO.out.keep HBA.out.2
   rcases h1 with h1 | ⟨g', off', cs, fr, e1, e2, _⟩
   ·cases h1
   ·cases e1
    rw [← e, HA.out.mem] at e2
    exact absurd e2 (by simp)
  have es : IntKind.i64.wrap (nearM x + w1) = nearM x + w1 := IntWalk.i64_in _ (by have h1 := nearM_bound x; have h2 := HWB.out; omega)
  have k0d : wa.drew.cell? ⟨g, off, none⟩ = some (.int .i64 x) := k0
  have k5d : wa.drew.cell? ⟨M, 5, none⟩ = some (.pointer (some ⟨F, 0, none⟩)) := k5
  have kfd : wa.drew.cell? ⟨F, 7, none⟩ = some (.int .i64 w1) := kf
  have q10 := HAd.out.c10
  have p10 := HAd.out.f 10
  go_region_held3 (fun W => W.cell? ⟨g, off, none⟩ = some (.int .i64 x) ∧ W.cell? ⟨M, 5, none⟩ = some (.pointer (some ⟨F, 0, none⟩)) ∧ W.cell? ⟨F, 7, none⟩ = some (.int .i64 w1)) (first | with_reducible exact ⟨k0d, k5d, kfd⟩ | with_reducible exact ⟨j0, j5, jf⟩ | with_reducible exact ⟨(keepS HGM.out).trans j0, (World.cell?_setCell_other _ _ _ _ (by simp)).trans j5, (keepS HNE.out).trans jf⟩)
   ((go_at_call 97; (with_reducible refine (nearest_c x _ HXB.out.1 HXB.out.2).mono ?_); rintro e w2 ⟨rfl, hb2⟩; have j0 := keepC hb2 k0d; have j5 := keepC hb2 k5d; have jf := keepC hb2 kfd; have j10 := keepC hb2 q10; have i10 := keepF hb2 q10 p10; have HB2 := Lib.hid hb2; have hn1 := (nearM_bound x).1; have hn2 := (nearM_bound x).2; have hw2 := HWB.out.1; have hw3 := HWB.out.2; clear hb2))
  have HW2 := Lib.hid ((HAd.out.below HB2.out).setWidth (nearM x + w1))
  have HBF : Hid (Below B w (w2.setCell ⟨M, 10, none⟩ (.int .i64 (nearM x + w1)))) := bel_set ((HBA.out.1.drew.trans (HB2.out.mono HAd.out.le))) H.out.mB _
  have HKF : Hid (IntKeep w (w2.setCell ⟨M, 10, none⟩ (.int .i64 (nearM x + w1)))) := (HBA.out.2.trans ((keep_bel (Below.refl wa.heap.size wa).drew).trans (keep_bel HB2.out))).trans ((HAd.out.below HB2.out).bset 10 _).2
  have HOF := Lib.hid ((HO.out.keep HKF.out).rest (c := c) 1 (r := t) rfl HCC.out)
  clear j0 j5 jf j10 i10 q10 p10 es
  go_wp2_with fail
  all_goals (
   go_ret
   refine ⟨_, _, by show _ = Ending.returned (.slice _ t.length _); rw [HN.out]; rfl, ?_, by show t.length ≤ _; have h2 := HN.out; omega, HW2.out, HBF.out, HKF.out⟩
   have h1 := HOF.out
   first
    | exact h1
    | (rw [if_pos (by assumption)] at h1; exact h1)
    | (rw [if_neg (by assumption)] at h1; exact h1))
 ·have HE : Hid (s.behind w1 l many = (l, { s with asked := true })) := by unfold Hid MS.behind; rw [if_neg hd]
  rw [HE.out]
  have HC := Lib.hid hc
  obtain ⟨n, HN⟩ : ∃ n, Hid (l.length = n) := ⟨_, rfl⟩
  rw [HN.out]
  clear h ho hc hl hm hx hF hw1 HE
  cases ha : s.asked
  ·rw [ha] at c11
   have hmf : many = false := by cases many; { rfl }; { exact absurd ⟨ha, rfl⟩ hd }
   subst hmf
   clear ha hd
   go_enter Tryz.func91, Tryz.ntmps91
   go_wp2_with fail
   go_ret
   exact ⟨_, c, by rw [HN.out]; rfl, HO.out.keep HBA.out.2, HC.out, HA.out, HBA.out.1, HBA.out.2⟩
  ·rw [ha] at c11
   clear ha hd
   go_enter Tryz.func91, Tryz.ntmps91
   go_wp2_with fail
   go_ret
   exact ⟨_, c, by rw [HN.out]; rfl, HO.out.keep HBA.out.2, HC.out, HA.out, HBA.out.1, HBA.out.2⟩
end Go.Proofs.YtklenppldblbdaaGreat
