/-
  The walk of GstatePuts: it answers true for every zone, every axis, point and place, and changes nothing that was there.
-/
import Derived.Test.YtnoadceeenioeaaZal
import Derived.Test.YtnoadceeenioeaaZsa
import Derived.Test.YtnoadceeenioeaaZrp
namespace Go.Proofs.Ytnoadceeenioeaa
open Go.RowKit Go.PlainAid
set_option linter.unusedSimpArgs false
set_option linter.unusedVariables false

theorem zlong0 : ZLong zn0 := ⟨by decide, by decide, by decide, by decide, by decide⟩
theorem putZ_long {Z : Zn} (h : ZLong Z) (axis p q : Int) : ZLong (putZ Z axis p q).1 := by
  unfold putZ
  split
  · exact zlong0
  · split
    · exact zlong0
    · refine ⟨h.l0, ?_, ?_, ?_, h.l4⟩
      · have := h.l1; simpa [Zn.touch, Zn.setCur] using this
      · have := h.l2; simp only [Zn.touch, Zn.setCur]; split <;> simpa using this
      · have := h.l3; simp only [Zn.touch, Zn.setCur]; split <;> simpa using this

/-- The two numbers that came in. -/
structure TwW (V : World) (g : Nat) (x y : Int) : Prop where
  c0 : V.cell? ⟨g, 0, none⟩ = some (.int .i64 x)
  c1 : V.cell? ⟨g, 1, none⟩ = some (.int .i64 y)
theorem TwW.below {V V' : World} {g : Nat} {x y : Int} (H : TwW V g x y) (hb : Below V.heap.size V V') : TwW V' g x y := ⟨keepC hb H.c0, keepC hb H.c1⟩

namespace gstatePuts
set_option maxRecDepth 20000 in
set_option maxHeartbeats 8000000 in
theorem walk (Z : Zn) (a0 a1 a2 a3 a4 : Option Addr) (c0 c1 c2 c3 c4 : Nat) (x y q : Int) (w : World) (hz : ZIn w Z a0 a1 a2 a3 a4) (hl : ZLong Z) (hw1 : (Lit.int .i64 x).wf = true ∧ (Lit.int .i64 y).wf = true) (hw2 : (Lit.int .i64 q).wf = true) :
    Calls Try.prog 6 #[.agg #[.slice a0 Z.org.length c0, .slice a1 Z.cur.length c1, .slice a2 Z.tx.length c2, .slice a3 Z.ty.length c3, .slice a4 Z.ends.length c4], .agg #[.int .i64 x, .int .i64 y], .int .i64 q] w fun e w' => e = .returned (.bool true) ∧ Below w.heap.size w w' := by
  obtain ⟨h, HH⟩ : ∃ h, Hid (w.heap.size = h) := ⟨_, rfl⟩
  obtain ⟨⟨RZ, rn⟩, HR⟩ : ∃ R, Hid (putZ Z x y q = R) := ⟨_, rfl⟩
  have HRL : Hid (ZLong RZ) := by have := putZ_long hl x y q; rw [HR.out] at this; exact this
  have HLG := Lib.hid hl
  have hba := bel_alloc (Below.refl (w.alloc (.cells #[.slice a0 Z.org.length c0, .slice a1 Z.cur.length c1, .slice a2 Z.tx.length c2, .slice a3 Z.ty.length c3, .slice a4 Z.ends.length c4] 31)).heap.size _) (.cells #[.int .i64 x, .int .i64 y] 47)
  have HX := Lib.hid ((bxW_new w (.slice a0 Z.org.length c0) (.slice a1 Z.cur.length c1) (.slice a2 Z.tx.length c2) (.slice a3 Z.ty.length c3) (.slice a4 Z.ends.length c4)).below hba)
  have HB : Hid (Below w.heap.size w ((w.alloc (.cells #[.slice a0 Z.org.length c0, .slice a1 Z.cur.length c1, .slice a2 Z.tx.length c2, .slice a3 Z.ty.length c3, .slice a4 Z.ends.length c4] 31)).alloc (.cells #[.int .i64 x, .int .i64 y] 47))) := bel_alloc (bel_alloc (Below.refl _ _) _) _
  have HT : Hid (TwW ((w.alloc (.cells #[.slice a0 Z.org.length c0, .slice a1 Z.cur.length c1, .slice a2 Z.tx.length c2, .slice a3 Z.ty.length c3, .slice a4 Z.ends.length c4] 31)).alloc (.cells #[.int .i64 x, .int .i64 y] 47)) (h + 1) x y) := by
    rw [← HH.out]; constructor <;> simp [go_sem]
  have HZ := Lib.hid (hz.below HB.out)
  rw [HH.out] at HX
  clear hz hl hba hw1 hw2
  go_enter Try.func6, Try.ntmps6
  go_wp2_with fail
  rw [HH.out]
  generalize ((w.alloc (.cells #[.slice a0 Z.org.length c0, .slice a1 Z.cur.length c1, .slice a2 Z.tx.length c2, .slice a3 Z.ty.length c3, .slice a4 Z.ends.length c4] 31)).alloc (.cells #[.int .i64 x, .int .i64 y] 47)) = W at *
  refine (alive_c _).mono ?_
  rintro e w1 ⟨rfl, hb⟩
  replace HX := Lib.hid (HX.out.below hb)
  replace HT := Lib.hid (HT.out.below hb)
  replace HZ := Lib.hid (HZ.out.below hb)
  replace HB := Lib.hid (bel_next HB.out hb)
  clear hb
  have z0 := HX.out.c0
  have z1 := HX.out.c1
  have z2 := HX.out.c2
  have z3 := HX.out.c3
  have z4 := HX.out.c4
  go_wp2_with fail
  refine (copyZ_c Z a0 a1 a2 a3 a4 c0 c1 c2 c3 c4 _ HZ.out HLG.out).mono ?_
  rintro e w2 ⟨b0, b1, b2, b3, b4, d0, d1, d2, d3, d4, rfl, ho, hb⟩
  replace HX := Lib.hid (HX.out.below hb)
  replace HT := Lib.hid (HT.out.below hb)
  replace HZ := Lib.hid (HZ.out.below hb)
  replace HB := Lib.hid (bel_next HB.out hb)
  have HO := Lib.hid ho.isIn
  clear ho hb z0 z1 z2 z3 z4
  simp only [zv]
  have hb := bel_alloc (Below.refl w2.heap.size w2) (.cells #[.slice b0 Z.org.length d0, .slice b1 Z.cur.length d1, .slice b2 Z.tx.length d2, .slice b3 Z.ty.length d3, .slice b4 Z.ends.length d4] 31)
  replace HX := Lib.hid (HX.out.below hb)
  replace HT := Lib.hid (HT.out.below hb)
  replace HZ := Lib.hid (HZ.out.below hb)
  replace HO := Lib.hid (HO.out.below hb)
  replace HB := Lib.hid (bel_next HB.out hb)
  have HOX := Lib.hid (bxW_new w2 (.slice b0 Z.org.length d0) (.slice b1 Z.cur.length d1) (.slice b2 Z.tx.length d2) (.slice b3 Z.ty.length d3) (.slice b4 Z.ends.length d4))
  clear hb
  obtain ⟨Ob, HOb⟩ : ∃ g, Hid (w2.heap.size = g) := ⟨_, rfl⟩
  rw [HOb.out] at HOX
  have z0 := HX.out.c0
  have z1 := HX.out.c1
  have z2 := HX.out.c2
  have z3 := HX.out.c3
  have z4 := HX.out.c4
  have t0 := HT.out.c0
  have t1 := HT.out.c1
  go_upto_region 4 with (fail)
  rw [HOb.out]
  generalize (w2.alloc (.cells #[.slice b0 Z.org.length d0, .slice b1 Z.cur.length d1, .slice b2 Z.tx.length d2, .slice b3 Z.ty.length d3, .slice b4 Z.ends.length d4] 31)) = W2 at *
  go_wp2_with fail
  have HP := Lib.hid (refput_c Z a0 a1 a2 a3 a4 c0 c1 c2 c3 c4 x y q W2 HZ.out HLG.out)
  rw [HR.out] at HP
  refine (HP.out).mono ?_
  rintro e w3 ⟨e0, e1, e2, e3, e4, f0, f1, f2, f3, f4, rfl, ho, hb⟩
  replace HX := Lib.hid (HX.out.below hb)
  replace HT := Lib.hid (HT.out.below hb)
  replace HZ := Lib.hid (HZ.out.below hb)
  replace HO := Lib.hid (HO.out.below hb)
  replace HOX := Lib.hid (HOX.out.below hb)
  replace HB := Lib.hid (bel_next HB.out hb)
  have HW := Lib.hid ho.isIn
  clear ho hb z0 z1 z2 z3 z4 t0 t1 HP
  simp only [zv]
  have hb := bel_alloc (Below.refl w3.heap.size w3) (.cells #[.slice e0 RZ.org.length f0, .slice e1 RZ.cur.length f1, .slice e2 RZ.tx.length f2, .slice e3 RZ.ty.length f3, .slice e4 RZ.ends.length f4] 31)
  replace HX := Lib.hid (HX.out.below hb)
  replace HT := Lib.hid (HT.out.below hb)
  replace HZ := Lib.hid (HZ.out.below hb)
  replace HO := Lib.hid (HO.out.below hb)
  replace HOX := Lib.hid (HOX.out.below hb)
  replace HW := Lib.hid (HW.out.below hb)
  replace HB := Lib.hid (bel_next HB.out hb)
  have HWX := Lib.hid (bxW_new w3 (.slice e0 RZ.org.length f0) (.slice e1 RZ.cur.length f1) (.slice e2 RZ.tx.length f2) (.slice e3 RZ.ty.length f3) (.slice e4 RZ.ends.length f4))
  clear hb
  obtain ⟨Wb, HWb⟩ : ∃ g, Hid (w3.heap.size = g) := ⟨_, rfl⟩
  rw [HWb.out] at HWX
  have u0 := HOX.out.c0
  have u1 := HOX.out.c1
  have u2 := HOX.out.c2
  have u3 := HOX.out.c3
  have u4 := HOX.out.c4
  have t0 := HT.out.c0
  have t1 := HT.out.c1
  go_upto_region 5 with (fail)
  rw [HWb.out]
  generalize (w3.alloc (.cells #[.slice e0 RZ.org.length f0, .slice e1 RZ.cur.length f1, .slice e2 RZ.tx.length f2, .slice e3 RZ.ty.length f3, .slice e4 RZ.ends.length f4] 31)) = W3 at *
  go_wp2_with fail
  have HP := Lib.hid (put_c Z b0 b1 b2 b3 b4 d0 d1 d2 d3 d4 x y q W3 HO.out HLG.out)
  rw [HR.out] at HP
  refine (HP.out).mono ?_
  rintro e w4 ⟨g0, g1, g2, g3, g4, k0, k1, k2, k3, k4, rfl, ho, hb⟩
  replace HX := Lib.hid (HX.out.below hb)
  replace HT := Lib.hid (HT.out.below hb)
  replace HZ := Lib.hid (HZ.out.below hb)
  replace HO := Lib.hid (HO.out.below hb)
  replace HOX := Lib.hid (HOX.out.below hb)
  replace HW := Lib.hid (HW.out.below hb)
  replace HWX := Lib.hid (HWX.out.below hb)
  replace HB := Lib.hid (bel_next HB.out hb)
  have HG := Lib.hid ho.isIn
  clear ho hb u0 u1 u2 u3 u4 t0 t1 HP
  simp only [zv]
  have hb := bel_alloc (Below.refl w4.heap.size w4) (.cells #[.slice g0 RZ.org.length k0, .slice g1 RZ.cur.length k1, .slice g2 RZ.tx.length k2, .slice g3 RZ.ty.length k3, .slice g4 RZ.ends.length k4] 31)
  replace HX := Lib.hid (HX.out.below hb)
  replace HT := Lib.hid (HT.out.below hb)
  replace HZ := Lib.hid (HZ.out.below hb)
  replace HO := Lib.hid (HO.out.below hb)
  replace HOX := Lib.hid (HOX.out.below hb)
  replace HW := Lib.hid (HW.out.below hb)
  replace HWX := Lib.hid (HWX.out.below hb)
  replace HG := Lib.hid (HG.out.below hb)
  replace HB := Lib.hid (bel_next HB.out hb)
  have HGX := Lib.hid (bxW_new w4 (.slice g0 RZ.org.length k0) (.slice g1 RZ.cur.length k1) (.slice g2 RZ.tx.length k2) (.slice g3 RZ.ty.length k3) (.slice g4 RZ.ends.length k4))
  clear hb
  obtain ⟨Gb, HGb⟩ : ∃ g, Hid (w4.heap.size = g) := ⟨_, rfl⟩
  rw [HGb.out] at HGX
  have u0 := HGX.out.c0
  have u1 := HGX.out.c1
  have u2 := HGX.out.c2
  have u3 := HGX.out.c3
  have u4 := HGX.out.c4
  have v0 := HWX.out.c0
  have v1 := HWX.out.c1
  have v2 := HWX.out.c2
  have v3 := HWX.out.c3
  have v4 := HWX.out.c4
  go_upto_region 6 with (fail)
  rw [HGb.out]
  generalize (w4.alloc (.cells #[.slice g0 RZ.org.length k0, .slice g1 RZ.cur.length k1, .slice g2 RZ.tx.length k2, .slice g3 RZ.ty.length k3, .slice g4 RZ.ends.length k4] 31)) = W4 at *
  go_wp2_with fail
  refine (same_c RZ g0 g1 g2 g3 g4 e0 e1 e2 e3 e4 k0 k1 k2 k3 k4 f0 f1 f2 f3 f4 W4 HG.out HW.out HRL.out).mono ?_
  rintro e w5 ⟨rfl, hb⟩
  replace HX := Lib.hid (HX.out.below hb)
  replace HZ := Lib.hid (HZ.out.below hb)
  replace HO := Lib.hid (HO.out.below hb)
  replace HOX := Lib.hid (HOX.out.below hb)
  replace HB := Lib.hid (bel_next HB.out hb)
  clear hb u0 u1 u2 u3 u4 v0 v1 v2 v3 v4
  have u0 := HOX.out.c0
  have u1 := HOX.out.c1
  have u2 := HOX.out.c2
  have u3 := HOX.out.c3
  have u4 := HOX.out.c4
  have z0 := HX.out.c0
  have z1 := HX.out.c1
  have z2 := HX.out.c2
  have z3 := HX.out.c3
  have z4 := HX.out.c4
  go_wp2_with fail
  refine (same_c Z b0 b1 b2 b3 b4 a0 a1 a2 a3 a4 d0 d1 d2 d3 d4 c0 c1 c2 c3 c4 w5 HO.out HZ.out HLG.out).mono ?_
  rintro e w6 ⟨rfl, hb⟩
  replace HB := Lib.hid (bel_next HB.out hb)
  clear hb
  go_wp2_with fail
  go_ret
  exact ⟨rfl, HB.out⟩
end gstatePuts
end Go.Proofs.Ytnoadceeenioeaa
