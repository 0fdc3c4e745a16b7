/-
  What the document's Put answers: what the program's does.
-/
import Derived.Test.YtnoadceeenioeaaZrt
import Derived.Test.YtnoadceeenioeaaZza
import Derived.Test.YtnoadceeenioeaaReg
namespace Go.Proofs.Ytnoadceeenioeaa
open Go.RowKit Go.PlainAid
set_option linter.unusedSimpArgs false
set_option linter.unusedVariables false

theorem flat_setP (L : List Sp) : ∀ (j : Nat) (k : Sp), ((L.flatMap clS).set (j * 2) (.int .i64 k.x)).set (j * 2 + 1) (.int .i64 k.y) = (L.set j k).flatMap clS := by
  induction L with
  | nil => intro j k; simp
  | cons a L ih =>
    intro j k
    cases j with
    | zero => simp [clS]
    | succ j =>
      have h1 : (j + 1) * 2 = j * 2 + 2 := by omega
      rw [List.set_cons_succ, List.flatMap_cons, List.flatMap_cons, ← ih j k, h1]
      simp [clS, List.set_cons_succ]
theorem set_modify {α : Type} {L : List α} {j : Nat} {s : α} (h : L[j]? = some s) (f : α → α) : L.set j (f s) = L.modify j f := by
  apply List.ext_getElem?
  intro i
  rw [List.getElem?_modify, List.getElem?_set]
  have hj := (List.getElem?_eq_some_iff.1 h).1
  by_cases e : j = i
  · subst e
    have e2 := (List.getElem?_eq_some_iff.1 h).2
    simp [h, hj, e2]
  · rw [if_neg e]
    cases L[i]? <;> simp [e]
theorem ZOwn.setPt {w : World} {B : Nat} {Z : Zn} {a0 a2 a3 a4 : Option Addr} {g c0 c1 c2 c3 c4 : Nat} (h : ZOwn w B Z a0 (some ⟨g, 0, none⟩) a2 a3 a4 c0 c1 c2 c3 c4) (axis : Int) (p : Nat) (q : Int) {s : Sp} (hs : Z.cur[p]? = some s) :
    ZOwn ((w.setCell ⟨g, p * 2, none⟩ (.int .i64 (axS axis s q).x)).setCell ⟨g, p * 2 + 1, none⟩ (.int .i64 (axS axis s q).y)) B (Z.setCur axis p q) a0 (some ⟨g, 0, none⟩) a2 a3 a4 c0 c1 c2 c3 c4 := by
  have e : (Z.setCur axis p q).cur.length = Z.cur.length := by simp [Zn.setCur]
  have d2 := (apart_type tyne1 h.o1 h.o2).symm
  have d3 := (apart_type tyne1 h.o1 h.o3).symm
  have d4 := (apart_type tyne2 h.o1 h.o4).symm
  refine ⟨own_setA (m := 0) _ (own_setA (m := 0) _ h.o0 h.h01) h.h01, ?_, own_setA (m := 0) _ (own_setA (m := 0) _ h.o2 d2) d2, own_setA (m := 0) _ (own_setA (m := 0) _ h.o3 d3) d3, own_setA (m := 0) _ (own_setA (m := 0) _ h.o4 d4) d4, h.h01, h.h23⟩
  rw [e, show (Z.setCur axis p q).cur = Z.cur.modify p fun s => axS axis s q from rfl, ← set_modify hs, ← flat_setP]
  exact own_put (own_put h.o1 _ _) _ _

set_option maxRecDepth 20000 in
set_option maxHeartbeats 8000000 in
theorem refput_c (Z : Zn) (a0 a1 a2 a3 a4 : Option Addr) (c0 c1 c2 c3 c4 : Nat) (axis p q : Int) (w : World) (hz : ZIn w Z a0 a1 a2 a3 a4) (hl : ZLong Z) :
    Calls Try.prog 23 #[.agg #[.slice a0 Z.org.length c0, .slice a1 Z.cur.length c1, .slice a2 Z.tx.length c2, .slice a3 Z.ty.length c3, .slice a4 Z.ends.length c4], .int .i64 axis, .int .i64 p, .int .i64 q] w (ZeroPost w (putZ Z axis p q)) := by
  obtain ⟨R, HR⟩ : ∃ R, Hid (putZ Z axis p q = R) := ⟨_, rfl⟩
  rw [HR.out]
  obtain ⟨h, HH⟩ : ∃ h, Hid (w.heap.size = h) := ⟨_, rfl⟩
  have HSO : Hid (∀ V, CpW w V h (.slice a0 Z.org.length c0) (.slice a1 Z.cur.length c1) (.slice a2 Z.tx.length c2) (.slice a3 Z.ty.length c3) (.slice a4 Z.ends.length c4) → Calls Try.prog 19 #[.agg #[.slice a0 Z.org.length c0, .slice a1 Z.cur.length c1, .slice a2 Z.tx.length c2, .slice a3 Z.ty.length c3, .slice a4 Z.ends.length c4]] V fun e w' => e = .returned (.bool (soundB Z)) ∧ Below V.heap.size V w') := fun V H => refsound_c Z _ _ _ _ _ _ _ _ _ _ V (hz.below (by have := H.hh; subst this; exact H.bel)) hl
  have HCO : Hid (∀ V, CpW w V h (.slice a0 Z.org.length c0) (.slice a1 Z.cur.length c1) (.slice a2 Z.tx.length c2) (.slice a3 Z.ty.length c3) (.slice a4 Z.ends.length c4) → Calls Try.prog 18 #[.agg #[.slice a0 Z.org.length c0, .slice a1 Z.cur.length c1, .slice a2 Z.tx.length c2, .slice a3 Z.ty.length c3, .slice a4 Z.ends.length c4]] V (ZonePost V Z)) := fun V H => copyZ_c Z _ _ _ _ _ _ _ _ _ _ V (hz.below (by have := H.hh; subst this; exact H.bel)) hl
  have HM := Lib.hid (cpW_new w (.slice a0 Z.org.length c0) (.slice a1 Z.cur.length c1) (.slice a2 Z.tx.length c2) (.slice a3 Z.ty.length c3) (.slice a4 Z.ends.length c4))
  rw [HH.out] at HM
  clear hz hl
  obtain ⟨Zo, Zc, Zx, Zy, Ze⟩ := Z
  dsimp only at *
  cases hs : soundB ⟨Zo, Zc, Zx, Zy, Ze⟩
  · have HSB := Lib.hid hs
    have HE : Hid (R = (zn0, 91)) := by rw [Hid, ← HR.out, putZ, hs]; rfl
    clear hs
    go_enter Try.func23, Try.ntmps23
    go_wp2_with fail
    rw [HH.out]
    generalize ((w.alloc (.cells #[.slice a0 Zo.length c0, .slice a1 Zc.length c1, .slice a2 Zx.length c2, .slice a3 Zy.length c3, .slice a4 Ze.length c4] 31)).alloc (.cells #[.slice none 0 0, .slice none 0 0, .slice none 0 0, .slice none 0 0, .slice none 0 0] 31)) = W at *
    refine (HSO.out _ HM.out).mono ?_
    rintro e w1 ⟨rfl, hb1⟩
    rw [HSB.out]
    replace HM := Lib.hid (HM.out.below hb1)
    clear hb1 HSO
    have k0 := HM.out.c0
    have k1 := HM.out.c1
    have k2 := HM.out.c2
    have k3 := HM.out.c3
    have k4 := HM.out.c4
    have o0 := HM.out.o0
    have f0 := HM.out.f0
    have o1 := HM.out.o1
    have f1 := HM.out.f1
    have o2 := HM.out.o2
    have f2 := HM.out.f2
    have o3 := HM.out.o3
    have f3 := HM.out.f3
    have o4 := HM.out.o4
    have f4 := HM.out.f4
    go_wp2_with fail
    refine bodyPost_ret (v := .tuple #[.agg #[.slice none 0 0, .slice none 0 0, .slice none 0 0, .slice none 0 0, .slice none 0 0], .int .i64 91]) (by simp [results, Try.results23, go_sem, o0, o1, o2, o3, o4]) rfl (zeroPost_no HE.out rfl (by rw [HH.out]; refine bel_set (bel_set (bel_set (bel_set (bel_set HM.out.bel ?_ _) ?_ _) ?_ _) ?_ _) ?_ _ <;> omega))
  · have HSB := Lib.hid hs
    by_cases hx0 : axis < 0
    · have HE : Hid (R = (zn0, 91)) := by
        have hax2 : (axis == 0 || axis == 1) = false := by simp; omega
        rw [Hid, ← HR.out, putZ, hs, hax2]; rfl
      clear hs
      go_enter Try.func23, Try.ntmps23
      go_wp2_with fail
      rw [HH.out]
      generalize ((w.alloc (.cells #[.slice a0 Zo.length c0, .slice a1 Zc.length c1, .slice a2 Zx.length c2, .slice a3 Zy.length c3, .slice a4 Ze.length c4] 31)).alloc (.cells #[.slice none 0 0, .slice none 0 0, .slice none 0 0, .slice none 0 0, .slice none 0 0] 31)) = W at *
      refine (HSO.out _ HM.out).mono ?_
      rintro e w1 ⟨rfl, hb1⟩
      rw [HSB.out]
      replace HM := Lib.hid (HM.out.below hb1)
      clear hb1 HSO
      have k0 := HM.out.c0
      have k1 := HM.out.c1
      have k2 := HM.out.c2
      have k3 := HM.out.c3
      have k4 := HM.out.c4
      have o0 := HM.out.o0
      have f0 := HM.out.f0
      have o1 := HM.out.o1
      have f1 := HM.out.f1
      have o2 := HM.out.o2
      have f2 := HM.out.f2
      have o3 := HM.out.o3
      have f3 := HM.out.f3
      have o4 := HM.out.o4
      have f4 := HM.out.f4
      go_wp2_with fail
      refine bodyPost_ret (v := .tuple #[.agg #[.slice none 0 0, .slice none 0 0, .slice none 0 0, .slice none 0 0, .slice none 0 0], .int .i64 91]) (by simp [results, Try.results23, go_sem, o0, o1, o2, o3, o4]) rfl (zeroPost_no HE.out rfl (by rw [HH.out]; refine bel_set (bel_set (bel_set (bel_set (bel_set HM.out.bel ?_ _) ?_ _) ?_ _) ?_ _) ?_ _ <;> omega))
    · by_cases hx1 : 1 < axis
      · have HE : Hid (R = (zn0, 91)) := by
          have hax2 : (axis == 0 || axis == 1) = false := by simp; omega
          rw [Hid, ← HR.out, putZ, hs, hax2]; rfl
        clear hs
        go_enter Try.func23, Try.ntmps23
        go_wp2_with fail
        rw [HH.out]
        generalize ((w.alloc (.cells #[.slice a0 Zo.length c0, .slice a1 Zc.length c1, .slice a2 Zx.length c2, .slice a3 Zy.length c3, .slice a4 Ze.length c4] 31)).alloc (.cells #[.slice none 0 0, .slice none 0 0, .slice none 0 0, .slice none 0 0, .slice none 0 0] 31)) = W at *
        refine (HSO.out _ HM.out).mono ?_
        rintro e w1 ⟨rfl, hb1⟩
        rw [HSB.out]
        replace HM := Lib.hid (HM.out.below hb1)
        clear hb1 HSO
        have k0 := HM.out.c0
        have k1 := HM.out.c1
        have k2 := HM.out.c2
        have k3 := HM.out.c3
        have k4 := HM.out.c4
        have o0 := HM.out.o0
        have f0 := HM.out.f0
        have o1 := HM.out.o1
        have f1 := HM.out.f1
        have o2 := HM.out.o2
        have f2 := HM.out.f2
        have o3 := HM.out.o3
        have f3 := HM.out.f3
        have o4 := HM.out.o4
        have f4 := HM.out.f4
        go_wp2_with fail
        refine bodyPost_ret (v := .tuple #[.agg #[.slice none 0 0, .slice none 0 0, .slice none 0 0, .slice none 0 0, .slice none 0 0], .int .i64 91]) (by simp [results, Try.results23, go_sem, o0, o1, o2, o3, o4]) rfl (zeroPost_no HE.out rfl (by rw [HH.out]; refine bel_set (bel_set (bel_set (bel_set (bel_set HM.out.bel ?_ _) ?_ _) ?_ _) ?_ _) ?_ _ <;> omega))
      · have hax2 : (axis == 0 || axis == 1) = true := by simp; omega
        by_cases hp0 : p < 0
        · have HE : Hid (R = (zn0, 91)) := by rw [Hid, ← HR.out, putZ, hs, hax2, decide_eq_false (p := 0 ≤ p) (by omega), Bool.and_false, Bool.false_and]; rfl
          clear hs hax2
          go_enter Try.func23, Try.ntmps23
          go_wp2_with fail
          rw [HH.out]
          generalize ((w.alloc (.cells #[.slice a0 Zo.length c0, .slice a1 Zc.length c1, .slice a2 Zx.length c2, .slice a3 Zy.length c3, .slice a4 Ze.length c4] 31)).alloc (.cells #[.slice none 0 0, .slice none 0 0, .slice none 0 0, .slice none 0 0, .slice none 0 0] 31)) = W at *
          refine (HSO.out _ HM.out).mono ?_
          rintro e w1 ⟨rfl, hb1⟩
          rw [HSB.out]
          replace HM := Lib.hid (HM.out.below hb1)
          clear hb1 HSO
          have k0 := HM.out.c0
          have k1 := HM.out.c1
          have k2 := HM.out.c2
          have k3 := HM.out.c3
          have k4 := HM.out.c4
          have o0 := HM.out.o0
          have f0 := HM.out.f0
          have o1 := HM.out.o1
          have f1 := HM.out.f1
          have o2 := HM.out.o2
          have f2 := HM.out.f2
          have o3 := HM.out.o3
          have f3 := HM.out.f3
          have o4 := HM.out.o4
          have f4 := HM.out.f4
          go_wp2_with fail
          refine bodyPost_ret (v := .tuple #[.agg #[.slice none 0 0, .slice none 0 0, .slice none 0 0, .slice none 0 0, .slice none 0 0], .int .i64 91]) (by simp [results, Try.results23, go_sem, o0, o1, o2, o3, o4]) rfl (zeroPost_no HE.out rfl (by rw [HH.out]; refine bel_set (bel_set (bel_set (bel_set (bel_set HM.out.bel ?_ _) ?_ _) ?_ _) ?_ _) ?_ _ <;> omega))
        · by_cases hp1 : (Zo.length : Int) ≤ p
          · have HE : Hid (R = (zn0, 91)) := by rw [Hid, ← HR.out, putZ, hs, hax2, decide_eq_false (p := p < _) (show ¬ p < (Zo.length : Int) by omega), Bool.and_false]; rfl
            clear hs hax2
            go_enter Try.func23, Try.ntmps23
            go_wp2_with fail
            rw [HH.out]
            generalize ((w.alloc (.cells #[.slice a0 Zo.length c0, .slice a1 Zc.length c1, .slice a2 Zx.length c2, .slice a3 Zy.length c3, .slice a4 Ze.length c4] 31)).alloc (.cells #[.slice none 0 0, .slice none 0 0, .slice none 0 0, .slice none 0 0, .slice none 0 0] 31)) = W at *
            refine (HSO.out _ HM.out).mono ?_
            rintro e w1 ⟨rfl, hb1⟩
            rw [HSB.out]
            replace HM := Lib.hid (HM.out.below hb1)
            clear hb1 HSO
            have k0 := HM.out.c0
            have k1 := HM.out.c1
            have k2 := HM.out.c2
            have k3 := HM.out.c3
            have k4 := HM.out.c4
            have o0 := HM.out.o0
            have f0 := HM.out.f0
            have o1 := HM.out.o1
            have f1 := HM.out.f1
            have o2 := HM.out.o2
            have f2 := HM.out.f2
            have o3 := HM.out.o3
            have f3 := HM.out.f3
            have o4 := HM.out.o4
            have f4 := HM.out.f4
            go_wp2_with fail
            refine bodyPost_ret (v := .tuple #[.agg #[.slice none 0 0, .slice none 0 0, .slice none 0 0, .slice none 0 0, .slice none 0 0], .int .i64 91]) (by simp [results, Try.results23, go_sem, o0, o1, o2, o3, o4]) rfl (zeroPost_no HE.out rfl (by rw [HH.out]; refine bel_set (bel_set (bel_set (bel_set (bel_set HM.out.bel ?_ _) ?_ _) ?_ _) ?_ _) ?_ _ <;> omega))
          · cases hq : fixB q
            · have HE : Hid (R = (zn0, 94)) := by rw [Hid, ← HR.out, putZ, hs, hax2, decide_eq_true (p := 0 ≤ p) (by omega), decide_eq_true (p := p < _) (show p < (Zo.length : Int) by omega), hq]; rfl
              have HQ := Lib.hid hq
              clear hs hax2 hq
              go_enter Try.func23, Try.ntmps23
              go_wp2_with fail
              rw [HH.out]
              generalize ((w.alloc (.cells #[.slice a0 Zo.length c0, .slice a1 Zc.length c1, .slice a2 Zx.length c2, .slice a3 Zy.length c3, .slice a4 Ze.length c4] 31)).alloc (.cells #[.slice none 0 0, .slice none 0 0, .slice none 0 0, .slice none 0 0, .slice none 0 0] 31)) = W at *
              refine (HSO.out _ HM.out).mono ?_
              rintro e w1 ⟨rfl, hb1⟩
              rw [HSB.out]
              replace HM := Lib.hid (HM.out.below hb1)
              clear hb1 HSO
              have k0 := HM.out.c0
              have k1 := HM.out.c1
              have k2 := HM.out.c2
              have k3 := HM.out.c3
              have k4 := HM.out.c4
              have o0 := HM.out.o0
              have f0 := HM.out.f0
              have o1 := HM.out.o1
              have f1 := HM.out.f1
              have o2 := HM.out.o2
              have f2 := HM.out.f2
              have o3 := HM.out.o3
              have f3 := HM.out.f3
              have o4 := HM.out.o4
              have f4 := HM.out.f4
              go_wp2_with fail
              refine (fix_any q _).mono ?_
              rintro e w2 ⟨rfl, rfl⟩
              rw [HQ.out]
              go_wp2_with fail
              refine bodyPost_ret (v := .tuple #[.agg #[.slice none 0 0, .slice none 0 0, .slice none 0 0, .slice none 0 0, .slice none 0 0], .int .i64 94]) (by simp [results, Try.results23, go_sem, o0, o1, o2, o3, o4]) rfl (zeroPost_no HE.out rfl (by rw [HH.out]; refine bel_set (bel_set (bel_set (bel_set (bel_set HM.out.bel ?_ _) ?_ _) ?_ _) ?_ _) ?_ _ <;> omega))
            · have HE : Hid (R = ((Zn.setCur ⟨Zo, Zc, Zx, Zy, Ze⟩ axis p.toNat q).touch axis p.toNat, 0)) := by rw [Hid, ← HR.out, putZ, hs, hax2, decide_eq_true (p := 0 ≤ p) (by omega), decide_eq_true (p := p < _) (show p < (Zo.length : Int) by omega), hq]; rfl
              have HQ := Lib.hid hq
              have HSS := Lib.hid hs
              obtain ⟨k, rfl⟩ : ∃ k : Nat, p = k := ⟨p.toNat, by omega⟩
              have HP1 : Hid (k < Zo.length) := by unfold Hid; omega
              clear hs hax2 hq
              go_enter Try.func23, Try.ntmps23
              go_wp2_with fail
              rw [HH.out]
              generalize ((w.alloc (.cells #[.slice a0 Zo.length c0, .slice a1 Zc.length c1, .slice a2 Zx.length c2, .slice a3 Zy.length c3, .slice a4 Ze.length c4] 31)).alloc (.cells #[.slice none 0 0, .slice none 0 0, .slice none 0 0, .slice none 0 0, .slice none 0 0] 31)) = W at *
              refine (HSO.out _ HM.out).mono ?_
              rintro e w1 ⟨rfl, hb1⟩
              rw [HSB.out]
              replace HM := Lib.hid (HM.out.below hb1)
              clear hb1 HSO
              have k0 := HM.out.c0
              have k1 := HM.out.c1
              have k2 := HM.out.c2
              have k3 := HM.out.c3
              have k4 := HM.out.c4
              have o0 := HM.out.o0
              have f0 := HM.out.f0
              have o1 := HM.out.o1
              have f1 := HM.out.f1
              have o2 := HM.out.o2
              have f2 := HM.out.f2
              have o3 := HM.out.o3
              have f3 := HM.out.f3
              have o4 := HM.out.o4
              have f4 := HM.out.f4
              go_wp2_with fail
              refine (fix_any q _).mono ?_
              rintro e w2 ⟨rfl, rfl⟩
              rw [HQ.out]
              go_wp2_with fail
              refine (HCO.out _ HM.out).mono ?_
              rintro e w3 ⟨b0, b1, b2, b3, b4, d0, d1, d2, d3, d4, rfl, ho, hb3⟩
              have HO := Lib.hid (ho.base HM.out.sz)
              replace HM := Lib.hid (HM.out.below hb3)
              clear ho hb3 k0 k1 k2 k3 k4 o0 o1 o2 o3 o4 f0 f1 f2 f3 f4
              unfold zv
              dsimp only
              obtain ⟨l1, l2, l3, l4⟩ := sound_len HSS.out
              dsimp only at l1 l2 l3 l4
              obtain ⟨g1, rfl, hg1, hg1b, _⟩ := own_some HO.out.o1 (by have := HP1.out; dsimp only; omega)
              obtain ⟨g2, rfl, hg2, hg2b, _⟩ := own_some HO.out.o2 (by have := HP1.out; dsimp only; omega)
              obtain ⟨g3, rfl, hg3, hg3b, _⟩ := own_some HO.out.o3 (by have := HP1.out; dsimp only; omega)
              have HGZ := Lib.hid (gz_new w3 (.slice b0 Zo.length d0) (.slice (some ⟨g1, 0, none⟩) Zc.length d1) (.slice (some ⟨g2, 0, none⟩) Zx.length d2) (.slice (some ⟨g3, 0, none⟩) Zy.length d3) (.slice b4 Ze.length d4))
              have hbu := bel_alloc (Below.refl w3.heap.size w3) (.cells #[.slice b0 Zo.length d0, .slice (some ⟨g1, 0, none⟩) Zc.length d1, .slice (some ⟨g2, 0, none⟩) Zx.length d2, .slice (some ⟨g3, 0, none⟩) Zy.length d3, .slice b4 Ze.length d4] 31)
              have HGB : Hid (h + 2 ≤ w3.heap.size) := HM.out.sz
              replace HO := Lib.hid (HO.out.below hbu)
              replace HM := Lib.hid (HM.out.below hbu)
              have HLL := Lib.hid (And.intro l2 (And.intro l3 l4))
              have HGG : Hid (h + 2 ≤ g1 ∧ h + 2 ≤ g2 ∧ h + 2 ≤ g3) := ⟨hg1, hg2, hg3⟩
              clear hbu hg1 hg1b hg2 hg2b hg3 hg3b l1 l2 l3 l4
              go_upto_region 6 with (fail)
              generalize (w3.alloc (.cells #[.slice b0 Zo.length d0, .slice (some ⟨g1, 0, none⟩) Zc.length d1, .slice (some ⟨g2, 0, none⟩) Zx.length d2, .slice (some ⟨g3, 0, none⟩) Zy.length d3, .slice b4 Ze.length d4] 31)) = U at *
              generalize w3.heap.size = G at *
              obtain ⟨s, hsp⟩ := get_of (show k < Zc.length by have := HP1.out; have := HLL.out.1; omega)
              have HSP := Lib.hid hsp
              obtain ⟨sx, sy⟩ := s
              obtain ⟨gq, oq, eq, p0, p1⟩ := HO.out.isIn.r1.spot (i := k) (p := ⟨sx, sy⟩) hsp
              cases eq
              dsimp only at p0 p1
              rw [Nat.zero_add] at p0 p1
              have r1 := HGZ.out.b.c1
              have hk1 : (k : Int) < (Zc.length : Int) := by have := HP1.out; have := HLL.out.1; omega
              have hk0 : (0 : Int) ≤ (k : Int) := by omega
              clear hsp
              refine wp_region_upto (fun V => V.cell? ⟨G, 1, none⟩ = some (.slice (some ⟨g1, 0, none⟩) Zc.length d1) ∧ V.cell? ⟨g1, k * 2, none⟩ = some (.int .i64 sx) ∧ V.cell? ⟨g1, k * 2 + 1, none⟩ = some (.int .i64 sy)) 12 (by kernel_rfl) ⟨r1, p0, p1⟩ (fun hH => ?_)
              refine wpUpto_take (i := 0) (v := (.pointer (some ⟨G, 1, none⟩))) rfl (by kernel_rfl) (by kernel_rfl) (by kernel_rfl) (by kernel_rfl) (fun _ _ _ h => h) (Or.inl ⟨by rfl, fun V hV => by go_simp⟩) hH ?_
              try simp only [Act.put, List.setIfInBounds_toArray, List.set_cons_zero, List.set_cons_succ]
              refine wpUpto_take (i := 1) (v := (.slice (some ⟨g1, 0, none⟩) Zc.length d1)) rfl (by kernel_rfl) (by kernel_rfl) (by kernel_rfl) (by kernel_rfl) (fun _ _ _ h => h) (Or.inl ⟨by rfl, fun V hV => by obtain ⟨h0, h1, h2⟩ := hV; go_simp⟩) hH ?_
              try simp only [Act.put, List.setIfInBounds_toArray, List.set_cons_zero, List.set_cons_succ]
              refine wpUpto_take (i := 2) (v := (.int .i64 (k : Int))) rfl (by kernel_rfl) (by kernel_rfl) (by kernel_rfl) (by kernel_rfl) (fun _ _ _ h => h) (Or.inl ⟨by rfl, fun V hV => by go_simp⟩) hH ?_
              try simp only [Act.put, List.setIfInBounds_toArray, List.set_cons_zero, List.set_cons_succ]
              refine wpUpto_take (i := 3) (v := (.pointer (some ⟨G, 1, none⟩))) rfl (by kernel_rfl) (by kernel_rfl) (by kernel_rfl) (by kernel_rfl) (fun _ _ _ h => h) (Or.inl ⟨by rfl, fun V hV => by go_simp⟩) hH ?_
              try simp only [Act.put, List.setIfInBounds_toArray, List.set_cons_zero, List.set_cons_succ]
              refine wpUpto_take (i := 4) (v := (.slice (some ⟨g1, 0, none⟩) Zc.length d1)) rfl (by kernel_rfl) (by kernel_rfl) (by kernel_rfl) (by kernel_rfl) (fun _ _ _ h => h) (Or.inl ⟨by rfl, fun V hV => by obtain ⟨h0, h1, h2⟩ := hV; go_simp⟩) hH ?_
              try simp only [Act.put, List.setIfInBounds_toArray, List.set_cons_zero, List.set_cons_succ]
              refine wpUpto_take (i := 5) (v := (.int .i64 (k : Int))) rfl (by kernel_rfl) (by kernel_rfl) (by kernel_rfl) (by kernel_rfl) (fun _ _ _ h => h) (Or.inl ⟨by rfl, fun V hV => by go_simp⟩) hH ?_
              try simp only [Act.put, List.setIfInBounds_toArray, List.set_cons_zero, List.set_cons_succ]
              refine wpUpto_take (i := 6) (v := (.pointer (some ⟨g1, k * 2, none⟩))) rfl (by kernel_rfl) (by kernel_rfl) (by kernel_rfl) (by kernel_rfl) (fun _ _ _ h => h) (Or.inl ⟨by rfl, fun V hV => by go_simp; first | done | omega | (intro h; omega) | (constructor <;> omega)⟩) hH ?_
              try simp only [Act.put, List.setIfInBounds_toArray, List.set_cons_zero, List.set_cons_succ]
              refine wpUpto_take (i := 7) (v := (.agg #[.int .i64 sx, .int .i64 sy])) rfl (by kernel_rfl) (by kernel_rfl) (by kernel_rfl) (by kernel_rfl) (fun _ _ _ h => h) (Or.inl ⟨by rfl, fun V hV => by obtain ⟨h0, h1, h2⟩ := hV; go_simp⟩) hH ?_
              try simp only [Act.put, List.setIfInBounds_toArray, List.set_cons_zero, List.set_cons_succ]
              refine wpUpto_take (i := 8) (v := (.int .i64 axis)) rfl (by kernel_rfl) (by kernel_rfl) (by kernel_rfl) (by kernel_rfl) (fun _ _ _ h => h) (Or.inl ⟨by rfl, fun V hV => by go_simp⟩) hH ?_
              try simp only [Act.put, List.setIfInBounds_toArray, List.set_cons_zero, List.set_cons_succ]
              refine wpUpto_take (i := 9) (v := (.int .i64 q)) rfl (by kernel_rfl) (by kernel_rfl) (by kernel_rfl) (by kernel_rfl) (fun _ _ _ h => h) (Or.inl ⟨by rfl, fun V hV => by go_simp⟩) hH ?_
              try simp only [Act.put, List.setIfInBounds_toArray, List.set_cons_zero, List.set_cons_succ]
              refine wpUpto_one (i := 10) (by kernel_rfl) rfl (fun K hK => ?_)
              go_simp
              refine (refset_c ⟨sx, sy⟩ axis q U.drew).mono ?_
              rintro e w4 ⟨rfl, hb4⟩
              have hbu : Below U.heap.size U w4 := bel_next ((Below.refl _ _).drew) hb4
              replace HO := Lib.hid (HO.out.below hbu)
              replace HM := Lib.hid (HM.out.below hbu)
              replace HGZ := Lib.hid (HGZ.out.below hbu)
              have hH2 : w4.cell? ⟨G, 1, none⟩ = some (.slice (some ⟨g1, 0, none⟩) Zc.length d1) ∧ w4.cell? ⟨g1, k * 2, none⟩ = some (.int .i64 sx) ∧ w4.cell? ⟨g1, k * 2 + 1, none⟩ = some (.int .i64 sy) := ⟨keepC hbu r1, keepC hbu p0, keepC hbu p1⟩
              have n0 := own_frozen HO.out.o1 (k * 2)
              have n1 := own_frozen HO.out.o1 (k * 2 + 1)
              obtain ⟨_, p0', p1'⟩ := id hH2
              refine hK.out _ _ (fun _ => hH2) ?_
              replace hH := hH2
              clear hK K hb4 hbu r1 p0 p1 hH2
              try simp only [Act.put, List.setIfInBounds_toArray, List.set_cons_zero, List.set_cons_succ]
              refine wpUpto_take (i := 11) (v := (.pointer (some ⟨g1, k * 2, none⟩))) rfl (by kernel_rfl) (by kernel_rfl) (by kernel_rfl) (by kernel_rfl) (fun _ _ _ h => h) (Or.inl ⟨by rfl, fun V hV => by go_simp; first | done | omega | (intro h; omega) | (constructor <;> omega)⟩) hH ?_
              try simp only [Act.put, List.setIfInBounds_toArray, List.set_cons_zero, List.set_cons_succ]
              refine wpUpto_one (i := 12) (by kernel_rfl) rfl (fun K hK => ?_)
              go_simp
              refine hK.out _ _ (fun h => absurd rfl h) ?_
              clear hK K
              try simp only [Act.put, List.setIfInBounds_toArray, List.set_cons_zero, List.set_cons_succ]
              refine wpUpto_done (by kernel_rfl) ?_ _
              clear hH p0' p1' n0 n1
              have hne : g1 ≠ G := fun e => apart_blk HO.out.o1 HGZ.out.t tz1 ⟨g1, 0, none⟩ ⟨G, 0, none⟩ rfl rfl e
              replace HGZ := Lib.hid ((HGZ.out.set (b := g1) (k * 2) (.int .i64 (axS axis ⟨sx, sy⟩ q).x) hne).set (b := g1) (k * 2 + 1) (.int .i64 (axS axis ⟨sx, sy⟩ q).y) hne)
              replace HM := Lib.hid ((HM.out.setHi (b := g1) (k * 2) (.int .i64 (axS axis ⟨sx, sy⟩ q).x) HGG.out.1).setHi (b := g1) (k * 2 + 1) (.int .i64 (axS axis ⟨sx, sy⟩ q).y) HGG.out.1)
              replace HO := Lib.hid (HO.out.setPt axis k q HSP.out)
              clear hne hk1 hk0
              generalize ((w4.setCell ⟨g1, k * 2, none⟩ (.int .i64 (axS axis ⟨sx, sy⟩ q).x)).setCell ⟨g1, k * 2 + 1, none⟩ (.int .i64 (axS axis ⟨sx, sy⟩ q).y)) = U4 at *
              have z0 := HGZ.out.b.c0
              have z1 := HGZ.out.b.c1
              have z2 := HGZ.out.b.c2
              have z3 := HGZ.out.b.c3
              have z4 := HGZ.out.b.c4
              by_cases ha0 : axis = 0
              · subst ha0
                obtain ⟨u, hu⟩ := own_cell (n := Zx.length) (s := 1) HO.out.o2 (i := k) (by have := HP1.out; have := HLL.out.2.1; omega)
                have hfu := own_frozen HO.out.o2 k
                have hkt : (k : Int) < (Zx.length : Int) := by have := HP1.out; have := HLL.out.2.1; omega
                have hkt0 : (0 : Int) ≤ (k : Int) := by omega
                have hne : g2 ≠ G := fun e => apart_blk HO.out.o2 HGZ.out.t tz2 ⟨g2, 0, none⟩ ⟨G, 0, none⟩ rfl rfl e
                have HM6 := Lib.hid (HM.out.setHi (b := g2) k (.bool true) HGG.out.2.1)
                have HG6 := Lib.hid (HGZ.out.set (b := g2) k (.bool true) hne)
                have HO6 := Lib.hid (HO.out.touchX k)
                have y0 := HG6.out.b.c0
                have y1 := HG6.out.b.c1
                have y2 := HG6.out.b.c2
                have y3 := HG6.out.b.c3
                have y4 := HG6.out.b.c4
                have o0 := HM6.out.o0; have f0 := HM6.out.f0; have o1 := HM6.out.o1; have f1 := HM6.out.f1; have o2 := HM6.out.o2; have f2 := HM6.out.f2; have o3 := HM6.out.o3; have f3 := HM6.out.f3; have o4 := HM6.out.o4; have f4 := HM6.out.f4
                clear hne
                go_wp2_with fail
                refine bodyPost_ret (v := .tuple #[.agg #[.slice b0 Zo.length d0, .slice (some ⟨g1, 0, none⟩) Zc.length d1, .slice (some ⟨g2, 0, none⟩) Zx.length d2, .slice (some ⟨g3, 0, none⟩) Zy.length d3, .slice b4 Ze.length d4], .int .i64 0]) (by simp [results, Try.results23, go_sem, o0, o1, o2, o3, o4]) rfl ?_
                rw [HE.out]
                refine ⟨b0, some ⟨g1, 0, none⟩, some ⟨g2, 0, none⟩, some ⟨g3, 0, none⟩, b4, d0, d1, d2, d3, d4, ?_, ?_, ?_⟩
                · first | (simp [zv, Zn.setCur, Zn.touch, ha0]; done) | (simp [zv, Zn.setCur, Zn.touch]; done)
                · have hh := HH.out
                  exact (((((HO6.out.setLow ⟨h + 1, 0, none⟩ _ (by simp)).setLow ⟨h + 1, 1, none⟩ _ (by simp)).setLow ⟨h + 1, 2, none⟩ _ (by simp)).setLow ⟨h + 1, 3, none⟩ _ (by simp)).setLow ⟨h + 1, 4, none⟩ _ (by simp)).base (by omega)
                · have hh := HH.out
                  rw [hh]
                  refine bel_set (bel_set (bel_set (bel_set (bel_set HM6.out.bel ?_ _) ?_ _) ?_ _) ?_ _) ?_ _ <;> omega
              · skip
                obtain ⟨u, hu⟩ := own_cell (n := Zy.length) (s := 1) HO.out.o3 (i := k) (by have := HP1.out; have := HLL.out.2.2; omega)
                have hfu := own_frozen HO.out.o3 k
                have hkt : (k : Int) < (Zy.length : Int) := by have := HP1.out; have := HLL.out.2.2; omega
                have hkt0 : (0 : Int) ≤ (k : Int) := by omega
                have hne : g3 ≠ G := fun e => apart_blk HO.out.o3 HGZ.out.t tz2 ⟨g3, 0, none⟩ ⟨G, 0, none⟩ rfl rfl e
                have HM6 := Lib.hid (HM.out.setHi (b := g3) k (.bool true) HGG.out.2.2)
                have HG6 := Lib.hid (HGZ.out.set (b := g3) k (.bool true) hne)
                have HO6 := Lib.hid (HO.out.touchY ha0 k)
                have y0 := HG6.out.b.c0
                have y1 := HG6.out.b.c1
                have y2 := HG6.out.b.c2
                have y3 := HG6.out.b.c3
                have y4 := HG6.out.b.c4
                have o0 := HM6.out.o0; have f0 := HM6.out.f0; have o1 := HM6.out.o1; have f1 := HM6.out.f1; have o2 := HM6.out.o2; have f2 := HM6.out.f2; have o3 := HM6.out.o3; have f3 := HM6.out.f3; have o4 := HM6.out.o4; have f4 := HM6.out.f4
                clear hne
                go_wp2_with fail
                refine bodyPost_ret (v := .tuple #[.agg #[.slice b0 Zo.length d0, .slice (some ⟨g1, 0, none⟩) Zc.length d1, .slice (some ⟨g2, 0, none⟩) Zx.length d2, .slice (some ⟨g3, 0, none⟩) Zy.length d3, .slice b4 Ze.length d4], .int .i64 0]) (by simp [results, Try.results23, go_sem, o0, o1, o2, o3, o4]) rfl ?_
                rw [HE.out]
                refine ⟨b0, some ⟨g1, 0, none⟩, some ⟨g2, 0, none⟩, some ⟨g3, 0, none⟩, b4, d0, d1, d2, d3, d4, ?_, ?_, ?_⟩
                · first | (simp [zv, Zn.setCur, Zn.touch, ha0]; done) | (simp [zv, Zn.setCur, Zn.touch]; done)
                · have hh := HH.out
                  exact (((((HO6.out.setLow ⟨h + 1, 0, none⟩ _ (by simp)).setLow ⟨h + 1, 1, none⟩ _ (by simp)).setLow ⟨h + 1, 2, none⟩ _ (by simp)).setLow ⟨h + 1, 3, none⟩ _ (by simp)).setLow ⟨h + 1, 4, none⟩ _ (by simp)).base (by omega)
                · have hh := HH.out
                  rw [hh]
                  refine bel_set (bel_set (bel_set (bel_set (bel_set HM6.out.bel ?_ _) ?_ _) ?_ _) ?_ _) ?_ _ <;> omega

end Go.Proofs.Ytnoadceeenioeaa
