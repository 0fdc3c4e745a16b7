/-
  What copied of package gstate answers: the zone in rows of its own.
-/
import Derived.Test.YtnoadceeenioeaaZf
import Derived.Test.YtnoadceeenioeaaZe
import Derived.Deep.RegionHeld3
namespace Go.Proofs.Ytnoadceeenioeaa
open Go.RowKit Go.PlainAid
set_option linter.unusedSimpArgs false
set_option linter.unusedVariables false

theorem own_setLow {w : World} {B : Nat} {e : TypeId} {s n : Nat} {v : Value} {xs : List Value} (h : w.ownsRow B e s v n xs) (p : Addr) (u : Value) (hp : p.block < B) : (w.setCell p u).ownsRow B e s v n xs :=
  own_keep h fun g hg => Below.heap_setCell _ _ _ _ (by have := (h.lt g hg).1; omega)
theorem ZOwn.setLow {w : World} {B : Nat} {Z : Zn} {a0 a1 a2 a3 a4 : Option Addr} {c0 c1 c2 c3 c4 : Nat} (h : ZOwn w B Z a0 a1 a2 a3 a4 c0 c1 c2 c3 c4) (p : Addr) (u : Value) (hp : p.block < B) : ZOwn (w.setCell p u) B Z a0 a1 a2 a3 a4 c0 c1 c2 c3 c4 :=
  ⟨own_setLow h.o0 p u hp, own_setLow h.o1 p u hp, own_setLow h.o2 p u hp, own_setLow h.o3 p u hp, own_setLow h.o4 p u hp, h.h01, h.h23⟩

/-- A zone's cells in the block h, an empty one's in the next. -/
structure CpW (w V : World) (h : Nat) (v0 v1 v2 v3 v4 : Value) : Prop where
  c0 : V.cell? ⟨h, 0, none⟩ = some v0
  c1 : V.cell? ⟨h, 1, none⟩ = some v1
  c2 : V.cell? ⟨h, 2, none⟩ = some v2
  c3 : V.cell? ⟨h, 3, none⟩ = some v3
  c4 : V.cell? ⟨h, 4, none⟩ = some v4
  o0 : V.cell? ⟨h + 1, 0, none⟩ = some (.slice none 0 0)
  o1 : V.cell? ⟨h + 1, 1, none⟩ = some (.slice none 0 0)
  o2 : V.cell? ⟨h + 1, 2, none⟩ = some (.slice none 0 0)
  o3 : V.cell? ⟨h + 1, 3, none⟩ = some (.slice none 0 0)
  o4 : V.cell? ⟨h + 1, 4, none⟩ = some (.slice none 0 0)
  f0 : V.frozen? ⟨h + 1, 0, none⟩ = false
  f1 : V.frozen? ⟨h + 1, 1, none⟩ = false
  f2 : V.frozen? ⟨h + 1, 2, none⟩ = false
  f3 : V.frozen? ⟨h + 1, 3, none⟩ = false
  f4 : V.frozen? ⟨h + 1, 4, none⟩ = false
  bel : Below h w V
  sz : h + 2 ≤ V.heap.size
  hh : h = w.heap.size
theorem CpW.below {w V V' : World} {h : Nat} {v0 v1 v2 v3 v4 : Value} (H : CpW w V h v0 v1 v2 v3 v4) (hb : Below V.heap.size V V') : CpW w V' h v0 v1 v2 v3 v4 :=
  ⟨keepC hb H.c0, keepC hb H.c1, keepC hb H.c2, keepC hb H.c3, keepC hb H.c4, keepC hb H.o0, keepC hb H.o1, keepC hb H.o2, keepC hb H.o3, keepC hb H.o4, keepF hb H.o0 H.f0, keepF hb H.o1 H.f1, keepF hb H.o2 H.f2, keepF hb H.o3 H.f3, keepF hb H.o4 H.f4, bel_to H.bel hb (by have := H.sz; omega), by have := H.sz; have := hb.size; omega, H.hh⟩
theorem CpW.drew {w V : World} {h : Nat} {v0 v1 v2 v3 v4 : Value} (H : CpW w V h v0 v1 v2 v3 v4) : CpW w V.drew h v0 v1 v2 v3 v4 := H.below ((Below.refl _ _).drew)
theorem cpW_new (w : World) (v0 v1 v2 v3 v4 : Value) : CpW w ((w.alloc (.cells #[v0, v1, v2, v3, v4] 31)).alloc (.cells #[.slice none 0 0, .slice none 0 0, .slice none 0 0, .slice none 0 0, .slice none 0 0] 31)) w.heap.size v0 v1 v2 v3 v4 := by
  refine ⟨?_, ?_, ?_, ?_, ?_, ?_, ?_, ?_, ?_, ?_, ?_, ?_, ?_, ?_, ?_, bel_alloc (bel_alloc (Below.refl _ _) _) _, ?_, rfl⟩ <;> simp [go_sem]

/-- What answers a zone of its own. -/
def ZonePost (w : World) (Z : Zn) (e : Ending) (w' : World) : Prop := ∃ a0 a1 a2 a3 a4 c0 c1 c2 c3 c4, e = .returned (zv Z a0 a1 a2 a3 a4 c0 c1 c2 c3 c4) ∧ ZOwn w' w.heap.size Z a0 a1 a2 a3 a4 c0 c1 c2 c3 c4 ∧ Below w.heap.size w w'

set_option maxRecDepth 20000 in
set_option maxHeartbeats 4000000 in
theorem copied_c (Z : Zn) (a0 a1 a2 a3 a4 : Option Addr) (c0 c1 c2 c3 c4 : Nat) (w : World) (hz : ZIn w Z a0 a1 a2 a3 a4) (hl : ZLong Z) :
    Calls Try.prog 39 #[.agg #[.slice a0 Z.org.length c0, .slice a1 Z.cur.length c1, .slice a2 Z.tx.length c2, .slice a3 Z.ty.length c3, .slice a4 Z.ends.length c4]] w (ZonePost w Z) := by
  obtain ⟨Zo, Zc, Zx, Zy, Ze⟩ := Z
  dsimp only
  obtain ⟨h, HH⟩ : ∃ h, Hid (w.heap.size = h) := ⟨_, rfl⟩
  have HM := Lib.hid (cpW_new w (.slice a0 Zo.length c0) (.slice a1 Zc.length c1) (.slice a2 Zx.length c2) (.slice a3 Zy.length c3) (.slice a4 Ze.length c4))
  rw [HH.out] at HM
  have HC0 : Hid (∀ V, CpW w V h (.slice a0 Zo.length c0) (.slice a1 Zc.length c1) (.slice a2 Zx.length c2) (.slice a3 Zy.length c3) (.slice a4 Ze.length c4) → Calls Try.prog 30 #[.slice a0 Zo.length c0] V (ClonePost V 38 2 Zo.length (Zo.flatMap clS))) := fun V H => cloneS_c a0 c0 Zo V (hz.r0.below (by have := H.hh; subst this; exact H.bel)) (by have := hl.l0; dsimp only at this; omega)
  have HC1 : Hid (∀ V, CpW w V h (.slice a0 Zo.length c0) (.slice a1 Zc.length c1) (.slice a2 Zx.length c2) (.slice a3 Zy.length c3) (.slice a4 Ze.length c4) → Calls Try.prog 30 #[.slice a1 Zc.length c1] V (ClonePost V 38 2 Zc.length (Zc.flatMap clS))) := fun V H => cloneS_c a1 c1 Zc V (hz.r1.below (by have := H.hh; subst this; exact H.bel)) (by have := hl.l1; dsimp only at this; omega)
  have HC2 : Hid (∀ V, CpW w V h (.slice a0 Zo.length c0) (.slice a1 Zc.length c1) (.slice a2 Zx.length c2) (.slice a3 Zy.length c3) (.slice a4 Ze.length c4) → Calls Try.prog 48 #[.slice a2 Zx.length c2] V (ClonePost V 4 1 Zx.length (Zx.flatMap clB))) := fun V H => cloneB_c a2 c2 Zx V (hz.r2.below (by have := H.hh; subst this; exact H.bel)) (by have := hl.l2; dsimp only at this; omega)
  have HC3 : Hid (∀ V, CpW w V h (.slice a0 Zo.length c0) (.slice a1 Zc.length c1) (.slice a2 Zx.length c2) (.slice a3 Zy.length c3) (.slice a4 Ze.length c4) → Calls Try.prog 48 #[.slice a3 Zy.length c3] V (ClonePost V 4 1 Zy.length (Zy.flatMap clB))) := fun V H => cloneB_c a3 c3 Zy V (hz.r3.below (by have := H.hh; subst this; exact H.bel)) (by have := hl.l3; dsimp only at this; omega)
  have HC4 : Hid (∀ V, CpW w V h (.slice a0 Zo.length c0) (.slice a1 Zc.length c1) (.slice a2 Zx.length c2) (.slice a3 Zy.length c3) (.slice a4 Ze.length c4) → Calls Try.prog 49 #[.slice a4 Ze.length c4] V (ClonePost V 3 1 Ze.length (Ze.flatMap clI))) := fun V H => cloneI_c a4 c4 Ze V (hz.r4.below (by have := H.hh; subst this; exact H.bel)) (by have := hl.l4; dsimp only at this; omega)
  clear hz hl
  go_enter Try.func39, Try.ntmps39
  go_wp2_with fail
  rw [HH.out]
  generalize ((w.alloc (.cells #[.slice a0 Zo.length c0, .slice a1 Zc.length c1, .slice a2 Zx.length c2, .slice a3 Zy.length c3, .slice a4 Ze.length c4] 31)).alloc (.cells #[.slice none 0 0, .slice none 0 0, .slice none 0 0, .slice none 0 0, .slice none 0 0] 31)) = W at *
  replace HM := Lib.hid HM.out.drew
  go_region_held3 (fun V => V.cell? ⟨h, 0, none⟩ = some (.slice a0 Zo.length c0) ∧ V.cell? ⟨h, 1, none⟩ = some (.slice a1 Zc.length c1) ∧ V.cell? ⟨h, 2, none⟩ = some (.slice a2 Zx.length c2) ∧ V.cell? ⟨h, 3, none⟩ = some (.slice a3 Zy.length c3) ∧ V.cell? ⟨h, 4, none⟩ = some (.slice a4 Ze.length c4)) (first | with_reducible exact ⟨HM.out.c0, HM.out.c1, HM.out.c2, HM.out.c3, HM.out.c4⟩ | exact ⟨(((((keepS (by omega)).trans (keepS (by omega))).trans (keepS (by omega))).trans (keepS (by omega))).trans (keepS (by omega))).trans HM.out.c0, (((((keepS (by omega)).trans (keepS (by omega))).trans (keepS (by omega))).trans (keepS (by omega))).trans (keepS (by omega))).trans HM.out.c1, (((((keepS (by omega)).trans (keepS (by omega))).trans (keepS (by omega))).trans (keepS (by omega))).trans (keepS (by omega))).trans HM.out.c2, (((((keepS (by omega)).trans (keepS (by omega))).trans (keepS (by omega))).trans (keepS (by omega))).trans (keepS (by omega))).trans HM.out.c3, (((((keepS (by omega)).trans (keepS (by omega))).trans (keepS (by omega))).trans (keepS (by omega))).trans (keepS (by omega))).trans HM.out.c4⟩)
    (first
      | (go_at_call 30; refine (HC0.out _ HM.out).mono ?_; rintro e w1 ⟨b0, d0, rfl, ho, hb⟩; have HO0 := Lib.hid ho; have HO0p := Lib.hid ho; have HB0 := Lib.hid HM.out.sz; replace HM := Lib.hid (HM.out.below hb); clear ho hb; have o0 := HM.out.o0; have f0 := HM.out.f0; have o1 := HM.out.o1; have f1 := HM.out.f1; have o2 := HM.out.o2; have f2 := HM.out.f2; have o3 := HM.out.o3; have f3 := HM.out.f3; have o4 := HM.out.o4; have f4 := HM.out.f4)
      | (go_at_call 30; refine (HC1.out _ HM.out).mono ?_; rintro e w2 ⟨b1, d1, rfl, ho, hb⟩; have HO1 := Lib.hid ho; replace HO0 := Lib.hid (own_below HO0.out hb); have HA01 := Lib.hid (apart_late HO0p.out ho); have HB1 := Lib.hid HM.out.sz; replace HM := Lib.hid (HM.out.below hb); clear ho hb; have o0 := HM.out.o0; have f0 := HM.out.f0; have o1 := HM.out.o1; have f1 := HM.out.f1; have o2 := HM.out.o2; have f2 := HM.out.f2; have o3 := HM.out.o3; have f3 := HM.out.f3; have o4 := HM.out.o4; have f4 := HM.out.f4)
      | (go_at_call 48; refine (HC2.out _ HM.out).mono ?_; rintro e w3 ⟨b2, d2, rfl, ho, hb⟩; have HO2 := Lib.hid ho; replace HO0 := Lib.hid (own_below HO0.out hb); replace HO1 := Lib.hid (own_below HO1.out hb); have HO2p := Lib.hid ho; have HB2 := Lib.hid HM.out.sz; replace HM := Lib.hid (HM.out.below hb); clear ho hb; have o0 := HM.out.o0; have f0 := HM.out.f0; have o1 := HM.out.o1; have f1 := HM.out.f1; have o2 := HM.out.o2; have f2 := HM.out.f2; have o3 := HM.out.o3; have f3 := HM.out.f3; have o4 := HM.out.o4; have f4 := HM.out.f4)
      | (go_at_call 48; refine (HC3.out _ HM.out).mono ?_; rintro e w4 ⟨b3, d3, rfl, ho, hb⟩; have HO3 := Lib.hid ho; replace HO0 := Lib.hid (own_below HO0.out hb); replace HO1 := Lib.hid (own_below HO1.out hb); replace HO2 := Lib.hid (own_below HO2.out hb); have HA23 := Lib.hid (apart_late HO2p.out ho); have HB3 := Lib.hid HM.out.sz; replace HM := Lib.hid (HM.out.below hb); clear ho hb; have o0 := HM.out.o0; have f0 := HM.out.f0; have o1 := HM.out.o1; have f1 := HM.out.f1; have o2 := HM.out.o2; have f2 := HM.out.f2; have o3 := HM.out.o3; have f3 := HM.out.f3; have o4 := HM.out.o4; have f4 := HM.out.f4)
      | (go_at_call 49; refine (HC4.out _ HM.out).mono ?_; rintro e w5 ⟨b4, d4, rfl, ho, hb⟩; have HO4 := Lib.hid ho; replace HO0 := Lib.hid (own_below HO0.out hb); replace HO1 := Lib.hid (own_below HO1.out hb); replace HO2 := Lib.hid (own_below HO2.out hb); replace HO3 := Lib.hid (own_below HO3.out hb); have HB4 := Lib.hid HM.out.sz; replace HM := Lib.hid (HM.out.below hb); clear ho hb; have o0 := HM.out.o0; have f0 := HM.out.f0; have o1 := HM.out.o1; have f1 := HM.out.f1; have o2 := HM.out.o2; have f2 := HM.out.f2; have o3 := HM.out.o3; have f3 := HM.out.f3; have o4 := HM.out.o4; have f4 := HM.out.f4))
  go_wp2_with fail
  have HZ : ZOwn w5 (h + 2) ⟨Zo, Zc, Zx, Zy, Ze⟩ b0 b1 b2 b3 b4 d0 d1 d2 d3 d4 := ⟨own_base HO0.out HB0.out, own_base HO1.out HB1.out, own_base HO2.out HB2.out, own_base HO3.out HB3.out, own_base HO4.out HB4.out, HA01.out, HA23.out⟩
  refine bodyPost_ret (v := .agg #[.slice b0 Zo.length d0, .slice b1 Zc.length d1, .slice b2 Zx.length d2, .slice b3 Zy.length d3, .slice b4 Ze.length d4]) (by simp [results, Try.results39, go_sem, o0, o1, o2, o3, o4]) rfl ⟨b0, b1, b2, b3, b4, d0, d1, d2, d3, d4, rfl, ?_, ?_⟩
  · have hh := HH.out
    have := (((((HZ.setLow ⟨h + 1, 0, none⟩ (.slice b0 Zo.length d0) (by simp)).setLow ⟨h + 1, 1, none⟩ (.slice b1 Zc.length d1) (by simp)).setLow ⟨h + 1, 2, none⟩ (.slice b2 Zx.length d2) (by simp)).setLow ⟨h + 1, 3, none⟩ (.slice b3 Zy.length d3) (by simp)).setLow ⟨h + 1, 4, none⟩ (.slice b4 Ze.length d4) (by simp))
    exact this.base (by omega)
  · have hh := HH.out
    rw [hh]
    refine bel_set (bel_set (bel_set (bel_set (bel_set HM.out.bel ?_ _) ?_ _) ?_ _) ?_ _) ?_ _ <;> omega

end Go.Proofs.Ytnoadceeenioeaa
