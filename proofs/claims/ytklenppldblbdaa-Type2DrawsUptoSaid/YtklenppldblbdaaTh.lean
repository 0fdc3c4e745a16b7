/-
  What knot, move, line and curve of the pen answer.
-/
import Derived.Test.YtklenppldblbdaaTg
namespace Go.Proofs.Ytklenppldblbdaa
open Go.RowKit Go.PlainAid
set_option linter.unusedSimpArgs false
set_option linter.unusedVariables false

set_option maxRecDepth 20000 in
set_option maxHeartbeats 1000000 in
theorem knot_c (B M F : Nat) (L : Lay) (s : MS) (dx dy k : Int) (w : World) (h : Mach w B M F L s) (hp : PenFit s) :
    Calls Try.prog 76 #[.pointer (some ⟨M, 0, none⟩), .int .i64 dx, .int .i64 dy, .int .i64 k] w (PenPost B M F L (s.knot dx dy k) (.tuple #[]) w) := by
  have H := Lib.hid h
  have HP := Lib.hid hp
  have c0 := h.c0
  have c1 := h.c1
  have c4 := h.c4
  by_cases h4 : s.fault = 0
  · by_cases h0 : s.out.length = 0
    · have HE : Hid (s.knot dx dy k = s.refuse 81) := by unfold Hid MS.knot; rw [if_neg (by simp [h4]), if_pos h0]
      rw [HE.out]
      rw [h4] at c4
      rw [h0] at c0
      clear h hp HE h4 h0
      go_enter Try.func76, Try.ntmps76
      go_wp2_with fail
      refine (refuse_c B M F L s 81 _ H.out).mono ?_
      rintro e w2 ⟨rfl, h2, hb2, hk2⟩
      have H2 := Lib.hid h2
      have HB2 := Lib.hid hb2
      have HK2 := Lib.hid hk2
      clear h2 hb2 hk2
      go_wp2_with fail
      go_end0
      exact ⟨rfl, ⟨_, _, _, H2.out⟩, HB2.out, HK2.out⟩
    · by_cases hk : s.knots = 4096
      · have HE : Hid (s.knot dx dy k = s.refuse 83) := by unfold Hid MS.knot; rw [if_neg (by simp [h4]), if_neg h0, if_pos hk]
        rw [HE.out]
        rw [h4] at c4
        rw [hk] at c1
        obtain ⟨n, HN⟩ : ∃ n, Hid (s.out.length = n) := ⟨_, rfl⟩
        rw [HN.out] at c0 h0
        have z1 : ((n : Int) == 0) = false := by simp; omega
        clear h hp HE h4 hk
        go_enter Try.func76, Try.ntmps76
        go_wp2_with fail
        refine (refuse_c B M F L s 83 _ H.out).mono ?_
        rintro e w2 ⟨rfl, h2, hb2, hk2⟩
        have H2 := Lib.hid h2
        have HB2 := Lib.hid hb2
        have HK2 := Lib.hid hk2
        clear h2 hb2 hk2
        go_wp2_with fail
        go_end0
        exact ⟨rfl, ⟨_, _, _, H2.out⟩, HB2.out, HK2.out⟩
      · exact knot_yes B M F L s dx dy k w h h4 (by omega) (by have := hp.1; omega) hp
  · have HE : Hid (s.knot dx dy k = s) := by unfold Hid MS.knot; rw [if_pos (by simp [h4])]
    rw [HE.out]
    obtain ⟨f, HF⟩ : ∃ f, Hid (s.fault = f) := ⟨_, rfl⟩
    rw [HF.out] at c4 h4
    have z1 : (f != 0) = true := by simp [h4]
    clear h hp HE
    go_enter Try.func76, Try.ntmps76
    go_wp2_with fail
    go_end0
    exact ⟨rfl, ⟨_, _, _, H.out⟩, Below.refl _ _, IntKeep.refl _⟩

theorem snoc_sum (o : List (List Kn)) (k : Kn) (h : 0 < o.length) : ((snocLast o k).map List.length).sum = (o.map List.length).sum + 1 := by
  obtain ⟨l, c, rfl⟩ : ∃ l c, o = l ++ [c] := ⟨o.dropLast, o.getLast (by intro e; simp [e] at h), (List.dropLast_concat_getLast _).symm⟩
  simp [snocLast, List.dropLast_append_of_ne_nil]
  omega

theorem refuse_out (s : MS) (e : Int) : (s.refuse e).out = s.out ∧ (s.refuse e).knots = s.knots ∧ (s.refuse e).stack = s.stack ∧ (s.refuse e).rows = s.rows ∧ (s.refuse e).fuel = s.fuel ∧ (s.refuse e).stems = s.stems := by
  unfold MS.refuse; split <;> simp

theorem PenFit.refuse {s : MS} (h : PenFit s) (e : Int) : PenFit (s.refuse e) := by
  have := refuse_out s e
  unfold PenFit
  rw [this.1, this.2.1]
  exact h

theorem PenFit.knot {s : MS} (h : PenFit s) (dx dy k : Int) : PenFit (s.knot dx dy k) := by
  unfold MS.knot
  split
  · exact h
  · split
    · exact h.refuse _
    · split
      · exact h.refuse _
      · rename_i h0 h1
        refine ⟨by have := h.1; simp only; omega, ?_, ?_⟩
        · simp only
          rw [snocLast_length _ _ (by omega)]
          exact h.2.1
        · simp only
          rw [snoc_sum _ _ (by omega)]
          have := h.2.2
          omega

theorem PenFit.curve {s : MS} (h : PenFit s) (a b c d e f : Int) : PenFit (s.curve a b c d e f) := ((h.knot _ _ _).knot _ _ _).knot _ _ _

theorem PenPost.pen {B M F : Nat} {L : Lay} {oa : Option Addr} {oc : Nat} {vs : List Value} {s' : MS} {v : Value} {w : World} {e : Ending} {w' : World} (h : PenPost B M F { L with oa := oa, oc := oc, vs := vs } s' v w e w') : PenPost B M F L s' v w e w' := h

/-- One call behind the other. -/
theorem PenPost.andThen {B M F : Nat} {L : Lay} {s' : MS} {v v' : Value} {w0 w1 : World} {e : Ending} {w' : World} {oa : Option Addr} {oc : Nat} {vs : List Value} (hb : Below B w0 w1) (hk : IntKeep w0 w1) (h : PenPost B M F { L with oa := oa, oc := oc, vs := vs } s' v w1 e w') : PenPost B M F L s' v w0 e w' :=
  ⟨h.1, h.2.1, hb.trans h.2.2.1, hk.trans h.2.2.2⟩

set_option maxHeartbeats 400000 in
theorem line_c (B M F : Nat) (L : Lay) (s : MS) (dx dy : Int) (w : World) (h : Mach w B M F L s) (hp : PenFit s) :
    Calls Try.prog 86 #[.pointer (some ⟨M, 0, none⟩), .int .i64 dx, .int .i64 dy] w (PenPost B M F L (s.line dx dy) (.tuple #[]) w) := by
  have HK := Lib.hid (knot_c B M F L s dx dy 1 w h hp)
  clear h hp
  go_enter Try.func86, Try.ntmps86
  go_wp2_with fail
  refine HK.out.mono ?_
  rintro e w1 ⟨rfl, hx⟩
  have HX := Lib.hid hx
  clear hx
  go_wp2_with fail
  go_end0
  exact ⟨rfl, HX.out⟩

set_option maxHeartbeats 400000 in
theorem curve_c (B M F : Nat) (L : Lay) (s : MS) (a b c d e f : Int) (w : World) (h : Mach w B M F L s) (hp : PenFit s) :
    Calls Try.prog 77 #[.pointer (some ⟨M, 0, none⟩), .int .i64 a, .int .i64 b, .int .i64 c, .int .i64 d, .int .i64 e, .int .i64 f] w (PenPost B M F L (s.curve a b c d e f) (.tuple #[]) w) := by
  have HK := Lib.hid (knot_c B M F L s a b 3 w h hp)
  have HP := Lib.hid (hp.knot a b 3)
  clear h hp
  go_enter Try.func77, Try.ntmps77
  go_wp2_with fail
  refine HK.out.mono ?_
  rintro e1 w1 ⟨rfl, ⟨oa1, oc1, vs1, h1⟩, hb1, hk1⟩
  have H1 := Lib.hid h1
  have HB1 := Lib.hid hb1
  have HK1 := Lib.hid hk1
  clear h1 hb1 hk1 HK
  go_wp2_with fail
  refine (knot_c B M F _ _ c d 3 w1 H1.out HP.out).mono ?_
  rintro e2 w2 ⟨rfl, ⟨oa2, oc2, vs2, h2⟩, hb2, hk2⟩
  have H2 := Lib.hid h2
  have HB2 := Lib.hid (HB1.out.trans hb2)
  have HK2 := Lib.hid (HK1.out.trans hk2)
  clear h2 hb2 hk2 H1 HB1 HK1
  go_wp2_with fail
  refine (knot_c B M F _ _ e f 1 w2 H2.out (HP.out.knot c d 3)).mono ?_
  rintro e3 w3 ⟨rfl, ⟨oa3, oc3, vs3, h3⟩, hb3, hk3⟩
  have H3 := Lib.hid h3
  have HB3 := Lib.hid (HB2.out.trans hb3)
  have HK3 := Lib.hid (HK2.out.trans hk3)
  clear h3 hb3 hk3
  go_wp2_with fail
  go_end0
  exact ⟨rfl, ⟨_, _, _, H3.out⟩, HB3.out, HK3.out⟩

theorem PenFit.begun {s : MS} (h : PenFit s) (hl : s.out.length < 256) : PenFit { s with out := s.out ++ [[]] } := by
  refine ⟨h.1, by simp; omega, ?_⟩
  have := h.2.2
  simp
  exact this

theorem PenFit.move {s : MS} (h : PenFit s) (dx dy : Int) : PenFit (s.move dx dy) := by
  unfold MS.move
  split
  · exact h.refuse _
  · exact (h.begun (by have := h.2.1; omega)).knot _ _ _

set_option maxRecDepth 20000 in
set_option maxHeartbeats 1000000 in
theorem move_c (B M F : Nat) (L : Lay) (s : MS) (dx dy : Int) (w : World) (h : Mach w B M F L s) (hp : PenFit s) :
    Calls Try.prog 71 #[.pointer (some ⟨M, 0, none⟩), .int .i64 dx, .int .i64 dy] w (PenPost B M F L (s.move dx dy) (.tuple #[]) w) := by
  have H := Lib.hid h
  have HP := Lib.hid hp
  have c0 := h.c0
  have f0 := h.f 0
  by_cases hl : s.out.length = 256
  · have HE : Hid (s.move dx dy = s.refuse 83) := by unfold Hid MS.move; rw [if_pos hl]
    rw [HE.out]
    rw [hl] at c0
    clear h hp hl HE
    go_enter Try.func71, Try.ntmps71
    go_wp2_with fail
    refine (refuse_c B M F L s 83 _ H.out).mono ?_
    rintro e w2 ⟨rfl, h2, hb2, hk2⟩
    have H2 := Lib.hid h2
    have HB2 := Lib.hid hb2
    have HK2 := Lib.hid hk2
    clear h2 hb2 hk2
    go_wp2_with fail
    go_end0
    exact ⟨rfl, ⟨_, _, _, H2.out⟩, HB2.out, HK2.out⟩
  · have HE : Hid (s.move dx dy = ({ s with out := s.out ++ [[]] } : MS).knot dx dy 1) := by unfold Hid MS.move; rw [if_neg hl]
    rw [HE.out]
    obtain ⟨n, HN⟩ : ∃ n, Hid (s.out.length = n) := ⟨_, rfl⟩
    rw [HN.out] at c0 hl
    have hn : n ≤ 255 := by have := hp.2.1; have := HN.out; omega
    have HNL := Lib.hid hn
    have z1 : ((n : Int) == 256) = false := by simp; omega
    have HB0 : Hid (Below w.heap.size w (w.alloc (.cells #[.slice none 0 0] 35))) := (Below.refl _ _).alloc (Nat.le_refl _) _
    have H0 := Lib.hid (h.below HB0.out)
    have HOW : Hid ((w.alloc (.cells #[.slice none 0 0] 35)).ownsRow B 35 1 (.slice L.oa n L.oc) n L.vs) := by
      have := H0.out.out.own
      rw [HN.out] at this
      exact this
    have HFP := Lib.hid (hp.begun (by rw [HN.out]; omega))
    clear h hp hl HE
    go_enter Try.func71, Try.ntmps71
    go_wp2_with (at_builtin; refine wpList_appA elKK rfl _ _ rfl (w.alloc (.cells #[.slice none 0 0] 35)) B L.oa n L.oc L.vs w.heap.size 1 1 [.slice none 0 0] rfl rfl HOW.out rfl lies_new (by simp [Value.oneCell']) (by decide) (by have := HNL.out; omega) (by have := HNL.out; omega) H0.out.le ?_; intro g9 c9 w9 ho9 hg9 hat9; have ht9 := typ_own HOW.out; have hm9 := blk_chg H0.out.mem hg9 ht9 (by decide); have hz9 := blk_cell hm9 0 (.slice L.oa s.out.length L.oc) rfl; rw [HN.out] at hz9; have hf9 := blk_free hm9 0)
    have H10 := Lib.hid (Mach.begun H0.out (by rw [HN.out]; exact ho9) (by rw [HN.out]; exact hg9))
    rw [HN.out] at H10
    have HB9 : Hid (Below B w (w9.setCell ⟨M, 0, none⟩ (.slice (some ⟨g9, 0, none⟩) (n + 1) c9))) := by
      refine bel_set (Below.trans (HB0.out.mono H.out.le) ?_) H.out.mB _
      refine ⟨hg9.os, hg9.tape, hg9.output, hg9.size, fun j hj => hg9.block j (Nat.lt_of_lt_of_le hj H0.out.le) (fun e => ?_)⟩
      have := (HOW.out.lt j e.symm).1
      omega
    have HK9 : Hid (IntKeep w (w9.setCell ⟨M, 0, none⟩ (.slice (some ⟨g9, 0, none⟩) (n + 1) c9))) := ((keep_bel HB0.out).trans (keep_chg hg9 ht9 (by decide))).trans (keep_set hm9 (by decide) 0 _)
    clear ho9 hg9 hat9 ht9 hm9
    go_wp2_with fail
    refine (knot_c B M F _ _ dx dy 1 _ H10.out HFP.out).mono ?_
    rintro e2 w2 ⟨rfl, ⟨oa2, oc2, vs2, h2⟩, hb2, hk2⟩
    have H2 := Lib.hid h2
    have HB2 := Lib.hid (HB9.out.trans hb2)
    have HK2 := Lib.hid (HK9.out.trans hk2)
    clear h2 hb2 hk2
    go_wp2_with fail
    go_end0
    exact ⟨rfl, ⟨_, _, _, H2.out⟩, HB2.out, HK2.out⟩

end Go.Proofs.Ytklenppldblbdaa
