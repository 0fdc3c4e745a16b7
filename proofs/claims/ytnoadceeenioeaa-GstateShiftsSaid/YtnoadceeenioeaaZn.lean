/-
  What marksOf of package gstate answers: the zone's points along the axis.
-/
import Derived.Test.YtnoadceeenioeaaZm
import Derived.Test.YtnoadceeenioeaaZy
namespace Go.Proofs.Ytnoadceeenioeaa
open Go.RowKit Go.PlainAid
set_option linter.unusedSimpArgs false
set_option linter.unusedVariables false

/-- The touches along the axis. -/
def Zn.tch (Z : Zn) (axis : Int) : List Bool := if axis = 0 then Z.tx else Z.ty
def mkAt (Z : Zn) (axis : Int) (p : Nat) : Mk := ⟨axG axis (Z.org.getD p ⟨0, 0⟩), axG axis (Z.cur.getD p ⟨0, 0⟩), (Z.tch axis).getD p false⟩
def mksZ (Z : Zn) (axis : Int) : List Mk := (List.range Z.org.length).map (mkAt Z axis)
theorem mksZ_len (Z : Zn) (axis : Int) : (mksZ Z axis).length = Z.org.length := by simp [mksZ]
theorem mksZ_at {Z : Zn} {axis : Int} {p : Nat} {s q : Sp} {t : Bool} (h1 : Z.org[p]? = some s) (h2 : Z.cur[p]? = some q) (h3 : (Z.tch axis)[p]? = some t) : (mksZ Z axis)[p]? = some ⟨axG axis s, axG axis q, t⟩ := by
  have hp : p < Z.org.length := (List.getElem?_eq_some_iff.1 h1).1
  have e1 := (List.getElem?_eq_some_iff.1 h1).2
  have e2 := (List.getElem?_eq_some_iff.1 h2).2
  simp [mksZ, hp, mkAt, List.getD, h1, h2, h3, e1, e2]

/-- What one round reads. -/
structure MkW (V : World) (h g : Nat) (v0 v1 : Value) (bo oo bc oc bt ot p : Nat) (s q : Sp) (t : Bool) : Prop where
  c0 : V.cell? ⟨h, 0, none⟩ = some v0
  c1 : V.cell? ⟨h, 1, none⟩ = some v1
  x0 : V.cell? ⟨bo, oo + p * 2, none⟩ = some (.int .i64 s.x)
  x1 : V.cell? ⟨bo, oo + p * 2 + 1, none⟩ = some (.int .i64 s.y)
  y0 : V.cell? ⟨bc, oc + p * 2, none⟩ = some (.int .i64 q.x)
  y1 : V.cell? ⟨bc, oc + p * 2 + 1, none⟩ = some (.int .i64 q.y)
  z0 : V.cell? ⟨bt, ot + p, none⟩ = some (.bool t)
  hg : h ≠ g
  og : bo ≠ g
  cg : bc ≠ g
  tg : bt ≠ g
theorem MkW.below {V V' : World} {h g : Nat} {v0 v1 : Value} {bo oo bc oc bt ot p : Nat} {s q : Sp} {t : Bool} (H : MkW V h g v0 v1 bo oo bc oc bt ot p s q t) (hb : Below V.heap.size V V') : MkW V' h g v0 v1 bo oo bc oc bt ot p s q t :=
  ⟨keepC hb H.c0, keepC hb H.c1, keepC hb H.x0, keepC hb H.x1, keepC hb H.y0, keepC hb H.y1, keepC hb H.z0, H.hg, H.og, H.cg, H.tg⟩
theorem MkW.set {V : World} {h g : Nat} {v0 v1 : Value} {bo oo bc oc bt ot p : Nat} {s q : Sp} {t : Bool} (H : MkW V h g v0 v1 bo oo bc oc bt ot p s q t) (o : Nat) (u : Value) : MkW (V.setCell ⟨g, o, none⟩ u) h g v0 v1 bo oo bc oc bt ot p s q t :=
  ⟨(keepS H.hg.symm).trans H.c0, (keepS H.hg.symm).trans H.c1, (keepS H.og.symm).trans H.x0, (keepS H.og.symm).trans H.x1, (keepS H.cg.symm).trans H.y0, (keepS H.cg.symm).trans H.y1, (keepS H.tg.symm).trans H.z0, H.hg, H.og, H.cg, H.tg⟩

/-- What marksOf answers. -/
def MarksPost (w : World) (M : List Mk) (e : Ending) (w' : World) : Prop := ∃ g, e = .returned (.slice (some ⟨g, 0, none⟩) M.length M.length) ∧ w'.ownsRow w.heap.size 82 3 (.slice (some ⟨g, 0, none⟩) M.length M.length) M.length (M.flatMap clM) ∧ Below w.heap.size w w'

set_option maxRecDepth 20000 in
set_option maxHeartbeats 8000000 in
theorem marks_c (Z : Zn) (a0 a1 a2 a3 a4 : Option Addr) (c0 c1 c2 c3 c4 : Nat) (axis : Int) (w : World) (hz : ZIn w Z a0 a1 a2 a3 a4) (hs : soundB Z = true) :
    Calls Try.prog 42 #[.agg #[.slice a0 Z.org.length c0, .slice a1 Z.cur.length c1, .slice a2 Z.tx.length c2, .slice a3 Z.ty.length c3, .slice a4 Z.ends.length c4], .int .i64 axis] w (MarksPost w (mksZ Z axis)) := by
  obtain ⟨l0, l1, l2, l3⟩ := sound_len hs
  obtain ⟨n, HN⟩ : ∃ n, Hid (Z.org.length = n) := ⟨_, rfl⟩
  have HTL : Hid ((Z.tch axis).length = n) := by have := HN.out; unfold Hid Zn.tch; split <;> omega
  obtain ⟨ta, hta⟩ : ∃ ta, ta = if axis = 0 then a2 else a3 := ⟨_, rfl⟩
  obtain ⟨tc, htc⟩ : ∃ tc, tc = if axis = 0 then c2 else c3 := ⟨_, rfl⟩
  have HRT : Hid (IsR clB w ta (Z.tch axis)) := by unfold Hid Zn.tch; rw [hta]; split; exact hz.r2; exact hz.r3
  have HR0 := Lib.hid hz.r0
  have HR1 := Lib.hid hz.r1
  have HL : Hid (Z.cur.length = n ∧ n ≤ 4096) := ⟨by rw [l1]; exact HN.out, by rw [← HN.out]; exact l0⟩
  have HTO : Hid (∀ V, Calls Try.prog 41 #[.agg #[.slice a0 n c0, .slice a1 n c1, .slice a2 n c2, .slice a3 n c3, .slice a4 Z.ends.length c4], .int .i64 axis] V fun e w' => e = .returned (.slice ta n tc) ∧ Below V.heap.size V w') := fun V =>
    touches_c a0 a1 a2 a3 a4 n n n n Z.ends.length c0 c1 c2 c3 c4 axis V _ (by rw [hta, htc]; split <;> rfl)
  obtain ⟨h, HH⟩ : ∃ h, Hid (w.heap.size = h) := ⟨_, rfl⟩
  have HM : Hid ((mksZ Z axis).length = n) := by rw [Hid, mksZ_len]; exact HN.out
  rw [l1, l2, l3, HN.out]
  have HX := Lib.hid (bxW_new w (.slice a0 n c0) (.slice a1 n c1) (.slice a2 n c2) (.slice a3 n c3) (.slice a4 Z.ends.length c4))
  have HB := Lib.hid (bel_alloc (Below.refl w.heap.size w) (.cells #[.slice a0 n c0, .slice a1 n c1, .slice a2 n c2, .slice a3 n c3, .slice a4 Z.ends.length c4] 31))
  rw [HH.out] at HX HB
  clear hz hs l0 l1 l2 l3 hta htc
  go_enter Try.func42, Try.ntmps42
  go_wp2_with fail
  refine (HTO.out _).mono ?_
  rintro e w1 ⟨rfl, hb1⟩
  rw [HH.out]
  have k0 := keepC hb1 HX.out.c0
  replace HX := Lib.hid (HX.out.below hb1)
  replace HB := Lib.hid (bel_to HB.out hb1 (by have := HB.out.size; have := HH.out; omega))
  obtain ⟨w2, hmk, hown, hb2, hs2⟩ := make_marks n HL.out.2 w1
  have HG : Hid (h + 1 ≤ w1.heap.size) := by have h5 := hb1.size; have := HH.out; rw [show (w.alloc (.cells #[.slice a0 n c0, .slice a1 n c1, .slice a2 n c2, .slice a3 n c3, .slice a4 Z.ends.length c4] 31)).heap.size = w.heap.size + 1 by simp [go_sem]] at h5; unfold Hid; omega
  clear hb1 HTO
  have HO := Lib.hid hown
  have HX2 := Lib.hid (HX.out.below hb2)
  have HB2 := Lib.hid (bel_to HB.out hb2 (by have := HG.out; omega))
  clear hown hb2 HX HB hs2
  generalize w1.heap.size = g at *
  go_wp2_with fail
  go_loopw [7, 17] (fun u x wr => ∃ i : Nat, i ≤ n ∧ x = .int .i64 i ∧ Hid (BxW wr h (.slice a0 n c0) (.slice a1 n c1) (.slice a2 n c2) (.slice a3 n c3) (.slice a4 Z.ends.length c4)) ∧ Hid (wr.ownsRow g 82 3 (.slice (some ⟨g, 0, none⟩) n n) n ((partR (mksZ Z axis) mk0 i).flatMap clM)) ∧ Hid (Below h w wr)) (fun _ x _ => n - (intOf x).toNat)
  case atStart => exact ⟨0, Nat.zero_le _, rfl, HX2, by rw [partR_zero, HM.out]; exact HO, HB2⟩
  case round =>
    clear HX2 HO HB2
    obtain ⟨i, hi, rfl, HX, HO, HB⟩ := hrel
    by_cases hlt : i < n
    · have hlt' : (i : Int) < (n : Int) := by omega
      have hi0 : (0 : Int) ≤ (i : Int) := by omega
      obtain ⟨s, hs⟩ := get_of (show i < Z.org.length by rw [HN.out]; exact hlt)
      obtain ⟨q, hq⟩ := get_of (show i < Z.cur.length by rw [HL.out.1]; exact hlt)
      obtain ⟨t, ht⟩ := get_of (show i < (Z.tch axis).length by rw [HTL.out]; exact hlt)
      have hbw : Below w.heap.size w wr := by rw [HH.out]; exact HB.out
      obtain ⟨bo, oo, rfl, x0, x1⟩ := (HR0.out.below hbw).spot hs
      obtain ⟨bc, oc, rfl, y0, y1⟩ := (HR1.out.below hbw).spot hq
      obtain ⟨bt, ot, rfl, z0⟩ := (HRT.out.below hbw).flag ht
      have b1 : bo < h := by
        obtain ⟨bo', oo', e, x0', _⟩ := HR0.out.spot hs
        cases e
        have := World.block_lt_of_cell? w _ x0'; have := HH.out; dsimp only at *; omega
      have b2 : bc < h := by
        obtain ⟨bo', oo', e, x0', _⟩ := HR1.out.spot hq
        cases e
        have := World.block_lt_of_cell? w _ x0'; have := HH.out; dsimp only at *; omega
      have b3 : bt < h := by
        obtain ⟨bo', oo', e, x0'⟩ := HRT.out.flag ht
        cases e
        have := World.block_lt_of_cell? w _ x0'; have := HH.out; dsimp only at *; omega
      have HW : Hid (MkW wr h g (.slice (some ⟨bo, oo, none⟩) n c0) (.slice (some ⟨bc, oc, none⟩) n c1) bo oo bc oc bt ot i s q t) := by
        have := HG.out
        exact ⟨HX.out.c0, HX.out.c1, x0, x1, y0, y1, z0, by omega, by omega, by omega, by omega⟩
      have HAT := Lib.hid (mksZ_at hs hq ht)
      have HLT := Lib.hid hlt
      have HX3 := Lib.hid (next64 (j := i) (by have := HL.out.2; omega))
      clear hs hq ht hbw x0 x1 y0 y1 z0 b1 b2 b3 hi hlt
      have T1 := True.intro
      have T2 := True.intro
      replace HW := Lib.hid (HW.out.below (Below.refl _ _).drew)
      replace HO := Lib.hid (own_below HO.out (Below.refl _ _).drew)
      replace HX := Lib.hid (HX.out.below (Below.refl _ _).drew)
      replace HB := Lib.hid HB.out.drew
      go_wp2_with fail
      go_region_held3 (fun V => V.cell? ⟨h, 0, none⟩ = some (.slice (some ⟨bo, oo, none⟩) n c0) ∧ V.cell? ⟨h, 1, none⟩ = some (.slice (some ⟨bc, oc, none⟩) n c1) ∧ V.cell? ⟨bo, oo + i * 2, none⟩ = some (.int .i64 s.x) ∧ V.cell? ⟨bo, oo + i * 2 + 1, none⟩ = some (.int .i64 s.y) ∧ V.cell? ⟨bc, oc + i * 2, none⟩ = some (.int .i64 q.x) ∧ V.cell? ⟨bc, oc + i * 2 + 1, none⟩ = some (.int .i64 q.y) ∧ V.cell? ⟨bt, ot + i, none⟩ = some (.bool t))
        (first | with_reducible exact ⟨HW.out.c0, HW.out.c1, HW.out.x0, HW.out.x1, HW.out.y0, HW.out.y1, HW.out.z0⟩ | exact ⟨(((HW.out.set (i * 3) (.int .i64 (axG axis s))).set (i * 3 + 1) (.int .i64 (axG axis q))).set (i * 3 + 2) (.bool t)).c0, (((HW.out.set (i * 3) (.int .i64 (axG axis s))).set (i * 3 + 1) (.int .i64 (axG axis q))).set (i * 3 + 2) (.bool t)).c1, (((HW.out.set (i * 3) (.int .i64 (axG axis s))).set (i * 3 + 1) (.int .i64 (axG axis q))).set (i * 3 + 2) (.bool t)).x0, (((HW.out.set (i * 3) (.int .i64 (axG axis s))).set (i * 3 + 1) (.int .i64 (axG axis q))).set (i * 3 + 2) (.bool t)).x1, (((HW.out.set (i * 3) (.int .i64 (axG axis s))).set (i * 3 + 1) (.int .i64 (axG axis q))).set (i * 3 + 2) (.bool t)).y0, (((HW.out.set (i * 3) (.int .i64 (axG axis s))).set (i * 3 + 1) (.int .i64 (axG axis q))).set (i * 3 + 2) (.bool t)).y1, (((HW.out.set (i * 3) (.int .i64 (axG axis s))).set (i * 3 + 1) (.int .i64 (axG axis q))).set (i * 3 + 2) (.bool t)).z0⟩)
        (first
          | (go_at_call 50; have _q := T1; refine (along_c s axis _).mono ?_; rintro e w3 ⟨rfl, hb⟩; replace HW := Lib.hid (HW.out.below hb); replace HO := Lib.hid (own_below HO.out hb); replace HX := Lib.hid (HX.out.below hb); replace HB := Lib.hid (bel_to HB.out hb (by have := HB.out.size; have := HH.out; omega)); clear hb _q T1)
          | (go_at_call 50; have _q := T2; refine (along_c q axis _).mono ?_; rintro e w4 ⟨rfl, hb⟩; replace HW := Lib.hid (HW.out.below hb); replace HO := Lib.hid (own_below HO.out hb); replace HX := Lib.hid (HX.out.below hb); replace HB := Lib.hid (bel_to HB.out hb (by have := HB.out.size; have := HH.out; omega)); clear hb _q T2; obtain ⟨p0, hp0⟩ := own_cell (n := n) (s := 3) HO.out (i := i * 3) (by have := HLT.out; omega); obtain ⟨p1, hp1⟩ := own_cell (n := n) (s := 3) HO.out (i := i * 3 + 1) (by have := HLT.out; omega); obtain ⟨p2, hp2⟩ := own_cell (n := n) (s := 3) HO.out (i := i * 3 + 2) (by have := HLT.out; omega); have q0 := own_frozen HO.out (i * 3); have q1 := own_frozen HO.out (i * 3 + 1); have q2 := own_frozen HO.out (i * 3 + 2)))
      have HO9 := Lib.hid (own_put (own_put (own_put HO.out (i * 3) (.int .i64 (axG axis s))) (i * 3 + 1) (.int .i64 (axG axis q))) (i * 3 + 2) (.bool t))
      rw [flat_setM _ i ⟨axG axis s, axG axis q, t⟩, partR_set _ _ _ HAT.out] at HO9
      have HX9 := Lib.hid (((HX.out.set (b := g) (i * 3) (.int .i64 (axG axis s)) (by have := HG.out; omega)).set (b := g) (i * 3 + 1) (.int .i64 (axG axis q)) (by have := HG.out; omega)).set (b := g) (i * 3 + 2) (.bool t) (by have := HG.out; omega))
      have HB9 := Lib.hid (bel_set (bel_set (bel_set HB.out (b := g) (o := i * 3) (by have := HG.out; omega) (.int .i64 (axG axis s))) (b := g) (o := i * 3 + 1) (by have := HG.out; omega) (.int .i64 (axG axis q))) (b := g) (o := i * 3 + 2) (by have := HG.out; omega) (.bool t))
      clear hp0 hp1 hp2 q0 q1 q2 HO HX HB HW
      go_wp2_with fail
      go_roundw
      case rel => exact ⟨i + 1, HLT.out, by rw [HX3.out], HX9, HO9, HB9⟩
      case measure => rw [HX3.out]; have := HLT.out; simp only [intOf]; omega
    · have hlt' : ¬ (i : Int) < (n : Int) := by omega
      obtain rfl : i = n := by omega
      have HO2 : Hid (wr.ownsRow g 82 3 (.slice (some ⟨g, 0, none⟩) i i) i ((mksZ Z axis).flatMap clM)) := by have := HO.out; rwa [show partR (mksZ Z axis) mk0 i = mksZ Z axis by have := partR_all (mksZ Z axis) mk0; rwa [HM.out] at this] at this
      clear hlt
      go_wp2_with fail
      go_ret
      refine ⟨g, by rw [HM.out]; rfl, ?_, by rw [HH.out]; exact HB.out⟩
      rw [HM.out]
      exact own_base HO2.out (by have := HG.out; have := HH.out; omega)

end Go.Proofs.Ytnoadceeenioeaa
