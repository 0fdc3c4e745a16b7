/-
  What the document's Copy of a zone answers: the zone in rows of its own.
-/
import Derived.Test.YtnoadceeenioeaaZq
namespace Go.Proofs.Ytnoadceeenioeaa
open Go.RowKit Go.PlainAid
set_option linter.unusedSimpArgs false
set_option linter.unusedVariables false

/-- append of a row that is read to the row that is none. -/
theorem wpList_copyR {t e : TypeId} {s by' : Nat} (H : ElT t e s by') {ops : Array Oper} {rest : List Oper} {o : Oper} {f : Act} {Q : Exit → Act → World → Prop} (hgd : o.guard = none) (sl x : Operand)
    (ho : o.op = .call { callee := .builtin .append, args := #[sl, x], argTypes := #[t, t] })
    (w : World) (a : Option Addr) (m cap : Nat) (news : List Value) (hs : f.eval sl = .slice none 0 0) (hx : f.eval x = .slice a m cap)
    (hl : news.length = m * s) (hsrc : m = 0 ∨ ∃ b off, a = some ⟨b, off, none⟩ ∧ Lies w b off news) (h1 : ∀ u ∈ news, u.oneCell' = true)
    (hb : m * by' ≤ 140737488355328) (hm : m ≤ 140737488355328)
    (h : ∀ a' c' w', w'.ownsRow w.heap.size e s (.slice a' m c') m news → Below w.heap.size w w' → wpList Try.prog ops Q rest (f.put o.dst (.slice a' m c')) w') :
    wpList Try.prog ops Q (o :: rest) f w := by
  refine wpList_appR H hgd sl x ho w w.heap.size none 0 0 [] a m cap news hs hx own_nil hl hsrc h1 (by rw [Nat.zero_add]; exact hb) (by omega) (Nat.le_refl _) ?_
  intro a' c' w' h2 h3 _
  rw [Nat.zero_add] at h2 ⊢
  exact h a' c' w' h2 (bel_grownA (e := e) (s := s) (Below.refl _ _) own_nil h3 (Nat.le_refl _))

theorem keepO {w : World} {b o o' : Nat} {u : Value} (h : o ≠ o') : (w.setCell ⟨b, o, none⟩ u).cell? ⟨b, o', none⟩ = w.cell? ⟨b, o', none⟩ := World.cell?_setCell_other w _ _ _ (fun e => h (by cases e; rfl))
theorem BxW.put0 {V : World} {g : Nat} {v0 v1 v2 v3 v4 : Value} (H : BxW V g v0 v1 v2 v3 v4) (u : Value) : BxW (V.setCell ⟨g, 0, none⟩ u) g u v1 v2 v3 v4 := ⟨World.cell?_setCell_same _ _ _ (by rw [H.c0]), (keepO (by decide)).trans H.c1, (keepO (by decide)).trans H.c2, (keepO (by decide)).trans H.c3, (keepO (by decide)).trans H.c4⟩
theorem BxW.put1 {V : World} {g : Nat} {v0 v1 v2 v3 v4 : Value} (H : BxW V g v0 v1 v2 v3 v4) (u : Value) : BxW (V.setCell ⟨g, 1, none⟩ u) g v0 u v2 v3 v4 := ⟨(keepO (by decide)).trans H.c0, World.cell?_setCell_same _ _ _ (by rw [H.c1]), (keepO (by decide)).trans H.c2, (keepO (by decide)).trans H.c3, (keepO (by decide)).trans H.c4⟩
theorem BxW.put2 {V : World} {g : Nat} {v0 v1 v2 v3 v4 : Value} (H : BxW V g v0 v1 v2 v3 v4) (u : Value) : BxW (V.setCell ⟨g, 2, none⟩ u) g v0 v1 u v3 v4 := ⟨(keepO (by decide)).trans H.c0, (keepO (by decide)).trans H.c1, World.cell?_setCell_same _ _ _ (by rw [H.c2]), (keepO (by decide)).trans H.c3, (keepO (by decide)).trans H.c4⟩
theorem BxW.put3 {V : World} {g : Nat} {v0 v1 v2 v3 v4 : Value} (H : BxW V g v0 v1 v2 v3 v4) (u : Value) : BxW (V.setCell ⟨g, 3, none⟩ u) g v0 v1 v2 u v4 := ⟨(keepO (by decide)).trans H.c0, (keepO (by decide)).trans H.c1, (keepO (by decide)).trans H.c2, World.cell?_setCell_same _ _ _ (by rw [H.c3]), (keepO (by decide)).trans H.c4⟩
theorem BxW.put4 {V : World} {g : Nat} {v0 v1 v2 v3 v4 : Value} (H : BxW V g v0 v1 v2 v3 v4) (u : Value) : BxW (V.setCell ⟨g, 4, none⟩ u) g v0 v1 v2 v3 u := ⟨(keepO (by decide)).trans H.c0, (keepO (by decide)).trans H.c1, (keepO (by decide)).trans H.c2, (keepO (by decide)).trans H.c3, World.cell?_setCell_same _ _ _ (by rw [H.c4])⟩
/-- Cells that may be written. -/
structure Fz5 (V : World) (g : Nat) : Prop where
  f0 : V.frozen? ⟨g, 0, none⟩ = false
  f1 : V.frozen? ⟨g, 1, none⟩ = false
  f2 : V.frozen? ⟨g, 2, none⟩ = false
  f3 : V.frozen? ⟨g, 3, none⟩ = false
  f4 : V.frozen? ⟨g, 4, none⟩ = false
theorem Fz5.below {V V' : World} {g : Nat} {v0 v1 v2 v3 v4 : Value} (H : Fz5 V g) (B : BxW V g v0 v1 v2 v3 v4) (hb : Below V.heap.size V V') : Fz5 V' g := ⟨keepF hb B.c0 H.f0, keepF hb B.c1 H.f1, keepF hb B.c2 H.f2, keepF hb B.c3 H.f3, keepF hb B.c4 H.f4⟩
theorem Fz5.set {V : World} {g : Nat} (H : Fz5 V g) (p : Addr) (u : Value) : Fz5 (V.setCell p u) g := ⟨(frozen_set _ _ _ _).trans H.f0, (frozen_set _ _ _ _).trans H.f1, (frozen_set _ _ _ _).trans H.f2, (frozen_set _ _ _ _).trans H.f3, (frozen_set _ _ _ _).trans H.f4⟩
theorem fz5_new (w : World) (v0 v1 v2 v3 v4 : Value) : Fz5 (w.alloc (.cells #[v0, v1, v2, v3, v4] 31)) w.heap.size := by constructor <;> simp [go_sem]

/-- What came in at h, the result at h + 1, the zone to come at h + 2. -/
structure CyW (w V : World) (h : Nat) (v0 v1 v2 v3 v4 u0 u1 u2 u3 u4 : Value) : Prop where
  c : BxW V h v0 v1 v2 v3 v4
  o : BxW V (h + 1) (.slice none 0 0) (.slice none 0 0) (.slice none 0 0) (.slice none 0 0) (.slice none 0 0)
  u : BxW V (h + 2) u0 u1 u2 u3 u4
  fo : Fz5 V (h + 1)
  fu : Fz5 V (h + 2)
  bel : Below h w V
  sz : h + 3 ≤ V.heap.size
  hh : h = w.heap.size
theorem CyW.below {w V V' : World} {h : Nat} {v0 v1 v2 v3 v4 u0 u1 u2 u3 u4 : Value} (H : CyW w V h v0 v1 v2 v3 v4 u0 u1 u2 u3 u4) (hb : Below V.heap.size V V') : CyW w V' h v0 v1 v2 v3 v4 u0 u1 u2 u3 u4 :=
  ⟨H.c.below hb, H.o.below hb, H.u.below hb, H.fo.below H.o hb, H.fu.below H.u hb, bel_to H.bel hb (by have := H.sz; omega), by have := H.sz; have := hb.size; omega, H.hh⟩
theorem CyW.put0 {w V : World} {h : Nat} {v0 v1 v2 v3 v4 u0 u1 u2 u3 u4 : Value} (H : CyW w V h v0 v1 v2 v3 v4 u0 u1 u2 u3 u4) (x : Value) : CyW w (V.setCell ⟨h + 2, 0, none⟩ x) h v0 v1 v2 v3 v4 x u1 u2 u3 u4 :=
  ⟨H.c.set (b := h + 2) 0 x (by omega), H.o.set (b := h + 2) 0 x (by omega), H.u.put0 x, H.fo.set _ _, H.fu.set _ _, bel_set H.bel (by omega) _, by simpa [go_sem] using H.sz, H.hh⟩
theorem CyW.put1 {w V : World} {h : Nat} {v0 v1 v2 v3 v4 u0 u1 u2 u3 u4 : Value} (H : CyW w V h v0 v1 v2 v3 v4 u0 u1 u2 u3 u4) (x : Value) : CyW w (V.setCell ⟨h + 2, 1, none⟩ x) h v0 v1 v2 v3 v4 u0 x u2 u3 u4 :=
  ⟨H.c.set (b := h + 2) 1 x (by omega), H.o.set (b := h + 2) 1 x (by omega), H.u.put1 x, H.fo.set _ _, H.fu.set _ _, bel_set H.bel (by omega) _, by simpa [go_sem] using H.sz, H.hh⟩
theorem CyW.put2 {w V : World} {h : Nat} {v0 v1 v2 v3 v4 u0 u1 u2 u3 u4 : Value} (H : CyW w V h v0 v1 v2 v3 v4 u0 u1 u2 u3 u4) (x : Value) : CyW w (V.setCell ⟨h + 2, 2, none⟩ x) h v0 v1 v2 v3 v4 u0 u1 x u3 u4 :=
  ⟨H.c.set (b := h + 2) 2 x (by omega), H.o.set (b := h + 2) 2 x (by omega), H.u.put2 x, H.fo.set _ _, H.fu.set _ _, bel_set H.bel (by omega) _, by simpa [go_sem] using H.sz, H.hh⟩
theorem CyW.put3 {w V : World} {h : Nat} {v0 v1 v2 v3 v4 u0 u1 u2 u3 u4 : Value} (H : CyW w V h v0 v1 v2 v3 v4 u0 u1 u2 u3 u4) (x : Value) : CyW w (V.setCell ⟨h + 2, 3, none⟩ x) h v0 v1 v2 v3 v4 u0 u1 u2 x u4 :=
  ⟨H.c.set (b := h + 2) 3 x (by omega), H.o.set (b := h + 2) 3 x (by omega), H.u.put3 x, H.fo.set _ _, H.fu.set _ _, bel_set H.bel (by omega) _, by simpa [go_sem] using H.sz, H.hh⟩
theorem CyW.put4 {w V : World} {h : Nat} {v0 v1 v2 v3 v4 u0 u1 u2 u3 u4 : Value} (H : CyW w V h v0 v1 v2 v3 v4 u0 u1 u2 u3 u4) (x : Value) : CyW w (V.setCell ⟨h + 2, 4, none⟩ x) h v0 v1 v2 v3 v4 u0 u1 u2 u3 x :=
  ⟨H.c.set (b := h + 2) 4 x (by omega), H.o.set (b := h + 2) 4 x (by omega), H.u.put4 x, H.fo.set _ _, H.fu.set _ _, bel_set H.bel (by omega) _, by simpa [go_sem] using H.sz, H.hh⟩
theorem cyW_new (w : World) (v0 v1 v2 v3 v4 : Value) : CyW w (((w.alloc (.cells #[v0, v1, v2, v3, v4] 31)).alloc (.cells #[.slice none 0 0, .slice none 0 0, .slice none 0 0, .slice none 0 0, .slice none 0 0] 31)).alloc (.cells #[.slice none 0 0, .slice none 0 0, .slice none 0 0, .slice none 0 0, .slice none 0 0] 31)) w.heap.size v0 v1 v2 v3 v4 (.slice none 0 0) (.slice none 0 0) (.slice none 0 0) (.slice none 0 0) (.slice none 0 0) := by
  refine ⟨?_, ?_, ?_, ?_, ?_, bel_alloc (bel_alloc (bel_alloc (Below.refl _ _) _) _) _, ?_, rfl⟩
  any_goals (constructor <;> simp [go_sem])
  simp [go_sem]

set_option maxRecDepth 20000 in
set_option maxHeartbeats 4000000 in
theorem copyZ_c (Z : Zn) (a0 a1 a2 a3 a4 : Option Addr) (c0 c1 c2 c3 c4 : Nat) (w : World) (hz : ZIn w Z a0 a1 a2 a3 a4) (hl : ZLong Z) :
    Calls Try.prog 18 #[.agg #[.slice a0 Z.org.length c0, .slice a1 Z.cur.length c1, .slice a2 Z.tx.length c2, .slice a3 Z.ty.length c3, .slice a4 Z.ends.length c4]] w (ZonePost w Z) := by
  obtain ⟨Zo, Zc, Zx, Zy, Ze⟩ := Z
  dsimp only
  obtain ⟨h, HH⟩ : ∃ h, Hid (w.heap.size = h) := ⟨_, rfl⟩
  have HC := Lib.hid (cyW_new w (.slice a0 Zo.length c0) (.slice a1 Zc.length c1) (.slice a2 Zx.length c2) (.slice a3 Zy.length c3) (.slice a4 Ze.length c4))
  rw [HH.out] at HC
  have HR0 : Hid (∀ V, Below h w V → IsR clS V a0 Zo) := fun V hb => hz.r0.below (by have := HH.out; subst this; exact hb)
  have HR1 : Hid (∀ V, Below h w V → IsR clS V a1 Zc) := fun V hb => hz.r1.below (by have := HH.out; subst this; exact hb)
  have HR2 : Hid (∀ V, Below h w V → IsR clB V a2 Zx) := fun V hb => hz.r2.below (by have := HH.out; subst this; exact hb)
  have HR3 : Hid (∀ V, Below h w V → IsR clB V a3 Zy) := fun V hb => hz.r3.below (by have := HH.out; subst this; exact hb)
  have HR4 : Hid (∀ V, Below h w V → IsR clI V a4 Ze) := fun V hb => hz.r4.below (by have := HH.out; subst this; exact hb)
  have HL := Lib.hid hl
  clear hz hl
  go_enter Try.func18, Try.ntmps18
  have HS := Lib.hid HC.out.sz
  go_upto_region 2 with (fail)
  rw [HH.out, show h + 1 + 1 = h + 2 from rfl]
  generalize (((w.alloc (.cells #[.slice a0 Zo.length c0, .slice a1 Zc.length c1, .slice a2 Zx.length c2, .slice a3 Zy.length c3, .slice a4 Ze.length c4] 31)).alloc (.cells #[.slice none 0 0, .slice none 0 0, .slice none 0 0, .slice none 0 0, .slice none 0 0] 31)).alloc (.cells #[.slice none 0 0, .slice none 0 0, .slice none 0 0, .slice none 0 0, .slice none 0 0] 31)) = W at *
  have k0 := HC.out.c.c0
  have z0 := HC.out.u.c0
  go_wp2_with (at_builtin; first
    | (refine wpList_copyR elS rfl _ _ rfl _ a0 Zo.length c0 (Zo.flatMap clS) rfl rfl (flat_length clS_length Zo) (isR_src (HR0.out _ HC.out.bel)) oneS (by have := HL.out.l0; dsimp only at this; omega) (by have := HL.out.l0; dsimp only at this; omega) ?_; intro b0 d0 w1 ho hb; replace HC := Lib.hid (HC.out.below hb); have hsz := HC.out.sz; have x0 := HC.out.u.c0; have y0 := HC.out.fu.f0; have HO0 := Lib.hid (own_setLow ho ⟨h + 2, 0, none⟩ (.slice b0 Zo.length d0) (by have := HS.out; dsimp only; omega)); have HS0 := HS; replace HC := Lib.hid (HC.out.put0 (.slice b0 Zo.length d0)); replace HS := Lib.hid HC.out.sz; have HO0p := Lib.hid HO0.out; clear ho hb hsz; have k1 := HC.out.c.c1; have z1 := HC.out.u.c1)
    | (refine wpList_copyR elS rfl _ _ rfl _ a1 Zc.length c1 (Zc.flatMap clS) rfl rfl (flat_length clS_length Zc) (isR_src (HR1.out _ HC.out.bel)) oneS (by have := HL.out.l1; dsimp only at this; omega) (by have := HL.out.l1; dsimp only at this; omega) ?_; intro b1 d1 w2 ho hb; replace HC := Lib.hid (HC.out.below hb); have hsz := HC.out.sz; have x1 := HC.out.u.c1; have y1 := HC.out.fu.f1; have HO1 := Lib.hid (own_setLow ho ⟨h + 2, 1, none⟩ (.slice b1 Zc.length d1) (by have := HS.out; dsimp only; omega)); replace HO0 := Lib.hid (own_setLow (own_below HO0.out hb) ⟨h + 2, 1, none⟩ (.slice b1 Zc.length d1) (by have := HS0.out; dsimp only; omega)); have HA01 := Lib.hid (apart_late HO0p.out ho); have HS1 := HS; replace HC := Lib.hid (HC.out.put1 (.slice b1 Zc.length d1)); replace HS := Lib.hid HC.out.sz; clear ho hb hsz; have k2 := HC.out.c.c2; have z2 := HC.out.u.c2)
    | (refine wpList_copyR elB rfl _ _ rfl _ a2 Zx.length c2 (Zx.flatMap clB) rfl rfl (flat_length clB_length Zx) (isR_src (HR2.out _ HC.out.bel)) oneB (by have := HL.out.l2; dsimp only at this; omega) (by have := HL.out.l2; dsimp only at this; omega) ?_; intro b2 d2 w3 ho hb; replace HC := Lib.hid (HC.out.below hb); have hsz := HC.out.sz; have x2 := HC.out.u.c2; have y2 := HC.out.fu.f2; have HO2 := Lib.hid (own_setLow ho ⟨h + 2, 2, none⟩ (.slice b2 Zx.length d2) (by have := HS.out; dsimp only; omega)); replace HO0 := Lib.hid (own_setLow (own_below HO0.out hb) ⟨h + 2, 2, none⟩ (.slice b2 Zx.length d2) (by have := HS0.out; dsimp only; omega)); replace HO1 := Lib.hid (own_setLow (own_below HO1.out hb) ⟨h + 2, 2, none⟩ (.slice b2 Zx.length d2) (by have := HS1.out; dsimp only; omega)); have HS2 := HS; replace HC := Lib.hid (HC.out.put2 (.slice b2 Zx.length d2)); replace HS := Lib.hid HC.out.sz; have HO2p := Lib.hid HO2.out; clear ho hb hsz; have k3 := HC.out.c.c3; have z3 := HC.out.u.c3)
    | (refine wpList_copyR elB rfl _ _ rfl _ a3 Zy.length c3 (Zy.flatMap clB) rfl rfl (flat_length clB_length Zy) (isR_src (HR3.out _ HC.out.bel)) oneB (by have := HL.out.l3; dsimp only at this; omega) (by have := HL.out.l3; dsimp only at this; omega) ?_; intro b3 d3 w4 ho hb; replace HC := Lib.hid (HC.out.below hb); have hsz := HC.out.sz; have x3 := HC.out.u.c3; have y3 := HC.out.fu.f3; have HO3 := Lib.hid (own_setLow ho ⟨h + 2, 3, none⟩ (.slice b3 Zy.length d3) (by have := HS.out; dsimp only; omega)); replace HO0 := Lib.hid (own_setLow (own_below HO0.out hb) ⟨h + 2, 3, none⟩ (.slice b3 Zy.length d3) (by have := HS0.out; dsimp only; omega)); replace HO1 := Lib.hid (own_setLow (own_below HO1.out hb) ⟨h + 2, 3, none⟩ (.slice b3 Zy.length d3) (by have := HS1.out; dsimp only; omega)); replace HO2 := Lib.hid (own_setLow (own_below HO2.out hb) ⟨h + 2, 3, none⟩ (.slice b3 Zy.length d3) (by have := HS2.out; dsimp only; omega)); have HA23 := Lib.hid (apart_late HO2p.out ho); have HS3 := HS; replace HC := Lib.hid (HC.out.put3 (.slice b3 Zy.length d3)); replace HS := Lib.hid HC.out.sz; clear ho hb hsz; have k4 := HC.out.c.c4; have z4 := HC.out.u.c4)
    | (refine wpList_copyR elI rfl _ _ rfl _ a4 Ze.length c4 (Ze.flatMap clI) rfl rfl (flat_length clI_length Ze) (isR_src (HR4.out _ HC.out.bel)) oneI (by have := HL.out.l4; dsimp only at this; omega) (by have := HL.out.l4; dsimp only at this; omega) ?_; intro b4 d4 w5 ho hb; replace HC := Lib.hid (HC.out.below hb); have hsz := HC.out.sz; have x4 := HC.out.u.c4; have y4 := HC.out.fu.f4; have HO4 := Lib.hid (own_setLow ho ⟨h + 2, 4, none⟩ (.slice b4 Ze.length d4) (by have := HS.out; dsimp only; omega)); replace HO0 := Lib.hid (own_setLow (own_below HO0.out hb) ⟨h + 2, 4, none⟩ (.slice b4 Ze.length d4) (by have := HS0.out; dsimp only; omega)); replace HO1 := Lib.hid (own_setLow (own_below HO1.out hb) ⟨h + 2, 4, none⟩ (.slice b4 Ze.length d4) (by have := HS1.out; dsimp only; omega)); replace HO2 := Lib.hid (own_setLow (own_below HO2.out hb) ⟨h + 2, 4, none⟩ (.slice b4 Ze.length d4) (by have := HS2.out; dsimp only; omega)); replace HO3 := Lib.hid (own_setLow (own_below HO3.out hb) ⟨h + 2, 4, none⟩ (.slice b4 Ze.length d4) (by have := HS3.out; dsimp only; omega)); have HS4 := HS; replace HC := Lib.hid (HC.out.put4 (.slice b4 Ze.length d4)); replace HS := Lib.hid HC.out.sz; clear ho hb hsz; have k0 := HC.out.u.c0; have k1 := HC.out.u.c1; have k2 := HC.out.u.c2; have k3 := HC.out.u.c3; have k4 := HC.out.u.c4; have o0 := HC.out.o.c0; have f0 := HC.out.fo.f0; have o1 := HC.out.o.c1; have f1 := HC.out.fo.f1; have o2 := HC.out.o.c2; have f2 := HC.out.fo.f2; have o3 := HC.out.o.c3; have f3 := HC.out.fo.f3; have o4 := HC.out.o.c4; have f4 := HC.out.fo.f4))
  have HZ : ZOwn _ (h + 3) ⟨Zo, Zc, Zx, Zy, Ze⟩ b0 b1 b2 b3 b4 d0 d1 d2 d3 d4 := ⟨own_base HO0.out HS0.out, own_base HO1.out HS1.out, own_base HO2.out HS2.out, own_base HO3.out HS3.out, own_base HO4.out HS4.out, HA01.out, HA23.out⟩
  have hh := HH.out
  refine bodyPost_ret (v := .agg #[.slice b0 Zo.length d0, .slice b1 Zc.length d1, .slice b2 Zx.length d2, .slice b3 Zy.length d3, .slice b4 Ze.length d4]) (by simp [results, Try.results18, go_sem, o0, o1, o2, o3, o4]) rfl ⟨b0, b1, b2, b3, b4, d0, d1, d2, d3, d4, rfl, ?_, ?_⟩
  · exact (((((HZ.setLow ⟨h + 1, 0, none⟩ (.slice b0 Zo.length d0) (by simp)).setLow ⟨h + 1, 1, none⟩ (.slice b1 Zc.length d1) (by simp)).setLow ⟨h + 1, 2, none⟩ (.slice b2 Zx.length d2) (by simp)).setLow ⟨h + 1, 3, none⟩ (.slice b3 Zy.length d3) (by simp)).setLow ⟨h + 1, 4, none⟩ (.slice b4 Ze.length d4) (by simp)).base (by omega)
  · rw [hh]
    refine bel_set (bel_set (bel_set (bel_set (bel_set HC.out.bel ?_ _) ?_ _) ?_ _) ?_ _) ?_ _ <;> omega

end Go.Proofs.Ytnoadceeenioeaa
