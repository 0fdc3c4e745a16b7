/-
  What Put of package gstate answers.
-/
import Derived.Test.YtnoadceeenioeaaZp
namespace Go.Proofs.Ytnoadceeenioeaa
open Go.RowKit Go.PlainAid
set_option linter.unusedSimpArgs false
set_option linter.unusedVariables false

/-- Behind a call that changes nothing that was there. -/
structure CpO (V : World) (h : Nat) : Prop where
  o0 : V.cell? ⟨h + 1, 0, none⟩ = some (.slice none 0 0)
  o1 : V.cell? ⟨h + 1, 1, none⟩ = some (.slice none 0 0)
  o2 : V.cell? ⟨h + 1, 2, none⟩ = some (.slice none 0 0)
  o3 : V.cell? ⟨h + 1, 3, none⟩ = some (.slice none 0 0)
  o4 : V.cell? ⟨h + 1, 4, none⟩ = some (.slice none 0 0)
theorem frozen_set (V : World) (p q : Addr) (u : Value) : (V.setCell p u).frozen? q = V.frozen? q := by simp [go_sem]
theorem CpW.setHi {w V : World} {h : Nat} {v0 v1 v2 v3 v4 : Value} (H : CpW w V h v0 v1 v2 v3 v4) {b : Nat} (o : Nat) (u : Value) (hb : h + 2 ≤ b) : CpW w (V.setCell ⟨b, o, none⟩ u) h v0 v1 v2 v3 v4 := by
  refine ⟨(keepS (by omega)).trans H.c0, (keepS (by omega)).trans H.c1, (keepS (by omega)).trans H.c2, (keepS (by omega)).trans H.c3, (keepS (by omega)).trans H.c4, (keepS (by omega)).trans H.o0, (keepS (by omega)).trans H.o1, (keepS (by omega)).trans H.o2, (keepS (by omega)).trans H.o3, (keepS (by omega)).trans H.o4, (frozen_set _ _ _ _).trans H.f0, (frozen_set _ _ _ _).trans H.f1, (frozen_set _ _ _ _).trans H.f2, (frozen_set _ _ _ _).trans H.f3, (frozen_set _ _ _ _).trans H.f4, bel_set H.bel (by omega) _, by simpa [go_sem] using H.sz, H.hh⟩
/-- A zone's cells. -/
structure BxW (V : World) (g : Nat) (v0 v1 v2 v3 v4 : Value) : Prop where
  c0 : V.cell? ⟨g, 0, none⟩ = some v0
  c1 : V.cell? ⟨g, 1, none⟩ = some v1
  c2 : V.cell? ⟨g, 2, none⟩ = some v2
  c3 : V.cell? ⟨g, 3, none⟩ = some v3
  c4 : V.cell? ⟨g, 4, none⟩ = some v4
theorem BxW.below {V V' : World} {g : Nat} {v0 v1 v2 v3 v4 : Value} (H : BxW V g v0 v1 v2 v3 v4) (hb : Below V.heap.size V V') : BxW V' g v0 v1 v2 v3 v4 := ⟨keepC hb H.c0, keepC hb H.c1, keepC hb H.c2, keepC hb H.c3, keepC hb H.c4⟩
theorem BxW.set {V : World} {g : Nat} {v0 v1 v2 v3 v4 : Value} (H : BxW V g v0 v1 v2 v3 v4) {b : Nat} (o : Nat) (u : Value) (hb : b ≠ g) : BxW (V.setCell ⟨b, o, none⟩ u) g v0 v1 v2 v3 v4 := ⟨(keepS hb).trans H.c0, (keepS hb).trans H.c1, (keepS hb).trans H.c2, (keepS hb).trans H.c3, (keepS hb).trans H.c4⟩
theorem bxW_new (w : World) (v0 v1 v2 v3 v4 : Value) : BxW (w.alloc (.cells #[v0, v1, v2, v3, v4] 31)) w.heap.size v0 v1 v2 v3 v4 := by constructor <;> simp [go_sem]
theorem sound_len {Z : Zn} (h : soundB Z = true) : Z.org.length ≤ 4096 ∧ Z.cur.length = Z.org.length ∧ Z.tx.length = Z.org.length ∧ Z.ty.length = Z.org.length := by
  simp only [soundB, Bool.and_eq_true, decide_eq_true_eq] at h
  exact ⟨h.1.1.1.1.1.1, h.1.1.1.1.1.2, h.1.1.1.1.2, h.1.1.1.2⟩
theorem own_cell {w : World} {B : Nat} {e : TypeId} {s n g c : Nat} {xs : List Value} (h : w.ownsRow B e s (.slice (some ⟨g, 0, none⟩) n c) n xs) {i : Nat} (hi : i < n * s) : ∃ u, w.cell? ⟨g, i, none⟩ = some u := by
  obtain ⟨u, hu⟩ := get_of (show i < xs.length by rw [h.1]; exact hi)
  have := own_lies h i u hu
  rw [Nat.zero_add] at this
  exact ⟨u, this⟩
theorem axO_le (axis : Int) : axO axis ≤ 1 := by unfold axO; split <;> omega

set_option maxRecDepth 20000 in
set_option maxHeartbeats 4000000 in
theorem put_c (Z : Zn) (a0 a1 a2 a3 a4 : Option Addr) (c0 c1 c2 c3 c4 : Nat) (axis p q : Int) (w : World) (hz : ZIn w Z a0 a1 a2 a3 a4) (hl : ZLong Z) :
    Calls Try.prog 24 #[.agg #[.slice a0 Z.org.length c0, .slice a1 Z.cur.length c1, .slice a2 Z.tx.length c2, .slice a3 Z.ty.length c3, .slice a4 Z.ends.length c4], .int .i64 axis, .int .i64 p, .int .i64 q] w (ZeroPost w (putZ Z axis p q)) := by
  obtain ⟨R, HR⟩ : ∃ R, Hid (putZ Z axis p q = R) := ⟨_, rfl⟩
  rw [HR.out]
  obtain ⟨h, HH⟩ : ∃ h, Hid (w.heap.size = h) := ⟨_, rfl⟩
  have HSO : Hid (∀ V, CpW w V h (.slice a0 Z.org.length c0) (.slice a1 Z.cur.length c1) (.slice a2 Z.tx.length c2) (.slice a3 Z.ty.length c3) (.slice a4 Z.ends.length c4) → Calls Try.prog 17 #[.agg #[.slice a0 Z.org.length c0, .slice a1 Z.cur.length c1, .slice a2 Z.tx.length c2, .slice a3 Z.ty.length c3, .slice a4 Z.ends.length c4]] V fun e w' => e = .returned (.bool (soundB Z)) ∧ Below V.heap.size V w') := fun V H => sound_c Z _ _ _ _ _ _ _ _ _ _ V (hz.below (by have := H.hh; subst this; exact H.bel)) hl
  have HCO : Hid (∀ V, CpW w V h (.slice a0 Z.org.length c0) (.slice a1 Z.cur.length c1) (.slice a2 Z.tx.length c2) (.slice a3 Z.ty.length c3) (.slice a4 Z.ends.length c4) → Calls Try.prog 39 #[.agg #[.slice a0 Z.org.length c0, .slice a1 Z.cur.length c1, .slice a2 Z.tx.length c2, .slice a3 Z.ty.length c3, .slice a4 Z.ends.length c4]] V (ZonePost V Z)) := fun V H => copied_c Z _ _ _ _ _ _ _ _ _ _ V (hz.below (by have := H.hh; subst this; exact H.bel)) hl
  have HM := Lib.hid (cpW_new w (.slice a0 Z.org.length c0) (.slice a1 Z.cur.length c1) (.slice a2 Z.tx.length c2) (.slice a3 Z.ty.length c3) (.slice a4 Z.ends.length c4))
  rw [HH.out] at HM
  have HL := Lib.hid hl
  clear hz hl
  obtain ⟨Zo, Zc, Zx, Zy, Ze⟩ := Z
  dsimp only at *

  cases hs : soundB ⟨Zo, Zc, Zx, Zy, Ze⟩
  · have HSB := Lib.hid hs
    have HE : Hid (R = (zn0, 91)) := by rw [Hid, ← HR.out, putZ, hs]; rfl
    clear hs
    go_enter Try.func24, Try.ntmps24
    go_wp2_with fail
    rw [HH.out]
    generalize ((w.alloc (.cells #[.slice a0 Zo.length c0, .slice a1 Zc.length c1, .slice a2 Zx.length c2, .slice a3 Zy.length c3, .slice a4 Ze.length c4] 31)).alloc (.cells #[.slice none 0 0, .slice none 0 0, .slice none 0 0, .slice none 0 0, .slice none 0 0] 31)) = W at *
    skip
    refine (HSO.out _ HM.out).mono ?_
    rintro e w1 ⟨rfl, hb1⟩
    rw [HSB.out]
    replace HM := Lib.hid (HM.out.below hb1)
    clear HSO
    clear hb1
    have k0 := HM.out.c0
    have k1 := HM.out.c1
    have k2 := HM.out.c2
    have k3 := HM.out.c3
    have k4 := HM.out.c4
    have o0 := HM.out.o0
    have f0 := HM.out.f0
    have o1 := HM.out.o1
    have f1 := HM.out.f1
    have o2 := HM.out.o2
    have f2 := HM.out.f2
    have o3 := HM.out.o3
    have f3 := HM.out.f3
    have o4 := HM.out.o4
    have f4 := HM.out.f4
    go_wp2_with fail
    refine bodyPost_ret (v := .tuple #[.agg #[.slice none 0 0, .slice none 0 0, .slice none 0 0, .slice none 0 0, .slice none 0 0], .int .i64 91]) (by simp [results, Try.results24, go_sem, o0, o1, o2, o3, o4]) rfl (zeroPost_no HE.out rfl (by rw [HH.out]; refine bel_set (bel_set (bel_set (bel_set (bel_set HM.out.bel ?_ _) ?_ _) ?_ _) ?_ _) ?_ _ <;> omega))
  · have HSB := Lib.hid hs
    by_cases hax : axis = 0 ∨ axis = 1
    · have hax2 : (axis == 0 || axis == 1) = true := by simpa using hax
      have HAX : Hid (∀ V : World, Calls Try.prog 38 #[.int .i64 axis] V fun e w' => e = .returned (.bool true) ∧ V = w') := by have := fun V => isAxis_c axis V; rw [hax2] at this; exact this
      by_cases hp0 : 0 ≤ p
      · have hp0' : ¬ p < 0 := by omega
        by_cases hp1 : p < (Zo.length : Int)
        · have hp1' : ¬ (Zo.length : Int) ≤ p := by omega
          cases hq : fixB q
          · have HE : Hid (R = (zn0, 94)) := by rw [Hid, ← HR.out, putZ, hs, hax2, decide_eq_true hp0, decide_eq_true (p := p < _) hp1, hq]; rfl
            have HQ := Lib.hid hq
            clear hs hax hax2 hp0 hp1 hq
            go_enter Try.func24, Try.ntmps24
            go_wp2_with fail
            rw [HH.out]
            generalize ((w.alloc (.cells #[.slice a0 Zo.length c0, .slice a1 Zc.length c1, .slice a2 Zx.length c2, .slice a3 Zy.length c3, .slice a4 Ze.length c4] 31)).alloc (.cells #[.slice none 0 0, .slice none 0 0, .slice none 0 0, .slice none 0 0, .slice none 0 0] 31)) = W at *
            skip
            refine (HSO.out _ HM.out).mono ?_
            rintro e w1 ⟨rfl, hb1⟩
            rw [HSB.out]
            replace HM := Lib.hid (HM.out.below hb1)
            clear HSO
            clear hb1
            have k0 := HM.out.c0
            have k1 := HM.out.c1
            have k2 := HM.out.c2
            have k3 := HM.out.c3
            have k4 := HM.out.c4
            have o0 := HM.out.o0
            have f0 := HM.out.f0
            have o1 := HM.out.o1
            have f1 := HM.out.f1
            have o2 := HM.out.o2
            have f2 := HM.out.f2
            have o3 := HM.out.o3
            have f3 := HM.out.f3
            have o4 := HM.out.o4
            have f4 := HM.out.f4
            go_wp2_with fail
            refine (HAX.out _).mono ?_
            rintro e w2 ⟨rfl, rfl⟩
            clear HAX
            go_wp2_with fail
            refine (check_no q HQ _).mono ?_
            rintro e w2 ⟨rfl, hb2⟩
            replace HM := Lib.hid (HM.out.below hb2)
            clear hb2
            have o0 := HM.out.o0
            have f0 := HM.out.f0
            have o1 := HM.out.o1
            have f1 := HM.out.f1
            have o2 := HM.out.o2
            have f2 := HM.out.f2
            have o3 := HM.out.o3
            have f3 := HM.out.f3
            have o4 := HM.out.o4
            have f4 := HM.out.f4
            go_wp2_with fail
            refine bodyPost_ret (v := .tuple #[.agg #[.slice none 0 0, .slice none 0 0, .slice none 0 0, .slice none 0 0, .slice none 0 0], .int .i64 94]) (by simp [results, Try.results24, go_sem, o0, o1, o2, o3, o4]) rfl (zeroPost_no HE.out rfl (by rw [HH.out]; refine bel_set (bel_set (bel_set (bel_set (bel_set HM.out.bel ?_ _) ?_ _) ?_ _) ?_ _) ?_ _ <;> omega))
          · have HE : Hid (R = ((Zn.setCur ⟨Zo, Zc, Zx, Zy, Ze⟩ axis p.toNat q).touch axis p.toNat, 0)) := by rw [Hid, ← HR.out, putZ, hs, hax2, decide_eq_true hp0, decide_eq_true (p := p < _) hp1, hq]; rfl
            have HQ := Lib.hid hq
            have HAX3 := Lib.hid hax
            have HSS := Lib.hid hs
            obtain ⟨k, rfl⟩ : ∃ k : Nat, p = k := ⟨p.toNat, by omega⟩
            have HP1 : Hid (k < Zo.length) := by unfold Hid; omega
            clear hs hax hax2 hp0 hq hp0' hp1'
            have hp1' : ¬ (Zo.length : Int) ≤ (k : Int) := by omega
            have hp0' : ¬ (k : Int) < 0 := by omega
            clear hp1
            go_enter Try.func24, Try.ntmps24
            go_wp2_with fail
            rw [HH.out]
            generalize ((w.alloc (.cells #[.slice a0 Zo.length c0, .slice a1 Zc.length c1, .slice a2 Zx.length c2, .slice a3 Zy.length c3, .slice a4 Ze.length c4] 31)).alloc (.cells #[.slice none 0 0, .slice none 0 0, .slice none 0 0, .slice none 0 0, .slice none 0 0] 31)) = W at *
            skip
            refine (HSO.out _ HM.out).mono ?_
            rintro e w1 ⟨rfl, hb1⟩
            rw [HSB.out]
            replace HM := Lib.hid (HM.out.below hb1)
            clear HSO
            clear hb1
            have k0 := HM.out.c0
            have k1 := HM.out.c1
            have k2 := HM.out.c2
            have k3 := HM.out.c3
            have k4 := HM.out.c4
            have o0 := HM.out.o0
            have f0 := HM.out.f0
            have o1 := HM.out.o1
            have f1 := HM.out.f1
            have o2 := HM.out.o2
            have f2 := HM.out.f2
            have o3 := HM.out.o3
            have f3 := HM.out.f3
            have o4 := HM.out.o4
            have f4 := HM.out.f4
            go_wp2_with fail
            refine (HAX.out _).mono ?_
            rintro e w2 ⟨rfl, rfl⟩
            clear HAX
            go_wp2_with fail
            refine (check_yes q HQ _).mono ?_
            rintro e w2 ⟨rfl, hb2⟩
            replace HM := Lib.hid (HM.out.below hb2)
            clear hb2
            have k0 := HM.out.c0
            have k1 := HM.out.c1
            have k2 := HM.out.c2
            have k3 := HM.out.c3
            have k4 := HM.out.c4
            have o0 := HM.out.o0
            have f0 := HM.out.f0
            have o1 := HM.out.o1
            have f1 := HM.out.f1
            have o2 := HM.out.o2
            have f2 := HM.out.f2
            have o3 := HM.out.o3
            have f3 := HM.out.f3
            have o4 := HM.out.o4
            have f4 := HM.out.f4
            go_wp2_with fail
            refine (HCO.out _ HM.out).mono ?_
            rintro e w3 ⟨b0, b1, b2, b3, b4, d0, d1, d2, d3, d4, rfl, ho, hb3⟩
            have HO := Lib.hid (ho.base HM.out.sz)
            replace HM := Lib.hid (HM.out.below hb3)
            clear ho hb3
            unfold zv
            dsimp only
            go_wp2_with fail
            obtain ⟨l1, l2, l3, l4⟩ := sound_len HSS.out
            dsimp only at l1 l2 l3 l4
            obtain ⟨g1, rfl, hg1, hg1b, _⟩ := own_some HO.out.o1 (by have := HP1.out; dsimp only; omega)
            obtain ⟨g2, rfl, hg2, hg2b, _⟩ := own_some HO.out.o2 (by have := HP1.out; dsimp only; omega)
            obtain ⟨g3, rfl, hg3, hg3b, _⟩ := own_some HO.out.o3 (by have := HP1.out; dsimp only; omega)
            have HBX := Lib.hid (bxW_new w3 (.slice b0 Zo.length d0) (.slice (some ⟨g1, 0, none⟩) Zc.length d1) (.slice (some ⟨g2, 0, none⟩) Zx.length d2) (.slice (some ⟨g3, 0, none⟩) Zy.length d3) (.slice b4 Ze.length d4))
            have hbu := bel_alloc (Below.refl w3.heap.size w3) (.cells #[.slice b0 Zo.length d0, .slice (some ⟨g1, 0, none⟩) Zc.length d1, .slice (some ⟨g2, 0, none⟩) Zx.length d2, .slice (some ⟨g3, 0, none⟩) Zy.length d3, .slice b4 Ze.length d4] 31)
            replace HO := Lib.hid (HO.out.below hbu)
            replace HM := Lib.hid (HM.out.below hbu)
            clear hbu
            obtain ⟨G, HG⟩ : ∃ G, Hid (w3.heap.size = G) := ⟨_, rfl⟩
            rw [HG.out] at HBX hg1b hg2b hg3b ⊢
            generalize (w3.alloc (.cells #[.slice b0 Zo.length d0, .slice (some ⟨g1, 0, none⟩) Zc.length d1, .slice (some ⟨g2, 0, none⟩) Zx.length d2, .slice (some ⟨g3, 0, none⟩) Zy.length d3, .slice b4 Ze.length d4] 31)) = U at *
            obtain ⟨u, hu⟩ := own_cell (n := Zc.length) (s := 2) HO.out.o1 (i := k * 2 + axO axis) (by have := axO_le axis; have := HP1.out; omega)
            have HGG : Hid (h + 2 ≤ g1 ∧ g1 < G) := ⟨hg1, hg1b⟩
            have HG2 : Hid (h + 2 ≤ g2 ∧ g2 < G) := ⟨hg2, hg2b⟩
            have HG3 : Hid (h + 2 ≤ g3 ∧ g3 < G) := ⟨hg3, hg3b⟩
            have HLL := Lib.hid (And.intro l2 (And.intro l3 l4))
            clear hg1 hg1b hg2 hg2b hg3 hg3b l1 l2 l3 l4
            refine (set_c b0 (some ⟨g2, 0, none⟩) (some ⟨g3, 0, none⟩) b4 Zo.length Zc.length Zx.length Zy.length Ze.length d0 d1 d2 d3 d4 g1 k axis q u U (by have := HLL.out.1; have := HP1.out; omega) hu (own_frozen HO.out.o1 _)).mono ?_
            rintro e w4 ⟨rfl, rfl⟩
            clear hu
            have hbu := bel_alloc (Below.refl U.heap.size U) (.cells #[.slice b0 Zo.length d0, .slice (some ⟨g1, 0, none⟩) Zc.length d1, .slice (some ⟨g2, 0, none⟩) Zx.length d2, .slice (some ⟨g3, 0, none⟩) Zy.length d3, .slice b4 Ze.length d4] 31)
            replace HO := Lib.hid ((HO.out.below hbu).setCur axis k q)
            replace HM := Lib.hid ((HM.out.below hbu).setHi (k * 2 + axO axis) (.int .i64 q) HGG.out.1)
            replace HBX := Lib.hid ((HBX.out.below hbu).set (b := g1) (k * 2 + axO axis) (.int .i64 q) (by have := HGG.out.2; omega))
            clear hbu
            generalize ((U.alloc (.cells #[.slice b0 Zo.length d0, .slice (some ⟨g1, 0, none⟩) Zc.length d1, .slice (some ⟨g2, 0, none⟩) Zx.length d2, .slice (some ⟨g3, 0, none⟩) Zy.length d3, .slice b4 Ze.length d4] 31)).setCell ⟨g1, k * 2 + axO axis, none⟩ (.int .i64 q)) = U4 at *
            have k0 := HBX.out.c0
            have k1 := HBX.out.c1
            have k2 := HBX.out.c2
            have k3 := HBX.out.c3
            have k4 := HBX.out.c4
            by_cases ha0 : axis = 0
            · subst ha0
              go_wp2_with fail
              refine (touches_c b0 (some ⟨g1, 0, none⟩) (some ⟨g2, 0, none⟩) (some ⟨g3, 0, none⟩) b4 Zo.length Zc.length Zx.length Zy.length Ze.length d0 d1 d2 d3 d4 0 _ (.slice (some ⟨g2, 0, none⟩) Zx.length d2) rfl).mono ?_
              rintro e w5 ⟨rfl, hb5⟩
              replace HO := Lib.hid (HO.out.below hb5)
              replace HM := Lib.hid (HM.out.below hb5)
              replace HBX := Lib.hid (HBX.out.below hb5)
              clear hb5 k0 k1 k2 k3 k4
              obtain ⟨u, hu⟩ := own_cell (n := Zx.length) (s := 1) HO.out.o2 (i := k) (by have := HP1.out; have := HLL.out.2.1; omega)
              have hfu := own_frozen HO.out.o2 k
              have hkt : (k : Int) < (Zx.length : Int) := by have := HP1.out; have := HLL.out.2.1; omega
              have HM6 := Lib.hid (HM.out.setHi k (.bool true) HG2.out.1)
              have HBX6 := Lib.hid (HBX.out.set (b := g2) k (.bool true) (by have := HG2.out.2; omega))
              have HO6 := Lib.hid (HO.out.touchX k)
              have k0 := HBX6.out.c0
              have k1 := HBX6.out.c1
              have k2 := HBX6.out.c2
              have k3 := HBX6.out.c3
              have k4 := HBX6.out.c4
              have o0 := HM6.out.o0; have f0 := HM6.out.f0; have o1 := HM6.out.o1; have f1 := HM6.out.f1; have o2 := HM6.out.o2; have f2 := HM6.out.f2; have o3 := HM6.out.o3; have f3 := HM6.out.f3; have o4 := HM6.out.o4; have f4 := HM6.out.f4
              clear HO HM HBX
              go_wp2_with fail
              refine bodyPost_ret (v := .tuple #[.agg #[.slice b0 Zo.length d0, .slice (some ⟨g1, 0, none⟩) Zc.length d1, .slice (some ⟨g2, 0, none⟩) Zx.length d2, .slice (some ⟨g3, 0, none⟩) Zy.length d3, .slice b4 Ze.length d4], .int .i64 0]) (by simp [results, Try.results24, go_sem, o0, o1, o2, o3, o4]) rfl ?_
              rw [HE.out]
              refine ⟨b0, some ⟨g1, 0, none⟩, some ⟨g2, 0, none⟩, some ⟨g3, 0, none⟩, b4, d0, d1, d2, d3, d4, ?_, ?_, ?_⟩
              · first | (simp [zv, Zn.setCur, Zn.touch, ha0]; done) | (simp [zv, Zn.setCur, Zn.touch]; done)
              · have hh := HH.out
                exact (((((HO6.out.setLow ⟨h + 1, 0, none⟩ _ (by simp)).setLow ⟨h + 1, 1, none⟩ _ (by simp)).setLow ⟨h + 1, 2, none⟩ _ (by simp)).setLow ⟨h + 1, 3, none⟩ _ (by simp)).setLow ⟨h + 1, 4, none⟩ _ (by simp)).base (by omega)
              · have hh := HH.out
                rw [hh]
                refine bel_set (bel_set (bel_set (bel_set (bel_set HM6.out.bel ?_ _) ?_ _) ?_ _) ?_ _) ?_ _ <;> omega
            · skip
              go_wp2_with fail
              refine (touches_c b0 (some ⟨g1, 0, none⟩) (some ⟨g2, 0, none⟩) (some ⟨g3, 0, none⟩) b4 Zo.length Zc.length Zx.length Zy.length Ze.length d0 d1 d2 d3 d4 axis _ (.slice (some ⟨g3, 0, none⟩) Zy.length d3) (by rw [if_neg ha0])).mono ?_
              rintro e w5 ⟨rfl, hb5⟩
              replace HO := Lib.hid (HO.out.below hb5)
              replace HM := Lib.hid (HM.out.below hb5)
              replace HBX := Lib.hid (HBX.out.below hb5)
              clear hb5 k0 k1 k2 k3 k4
              obtain ⟨u, hu⟩ := own_cell (n := Zy.length) (s := 1) HO.out.o3 (i := k) (by have := HP1.out; have := HLL.out.2.2; omega)
              have hfu := own_frozen HO.out.o3 k
              have hkt : (k : Int) < (Zy.length : Int) := by have := HP1.out; have := HLL.out.2.2; omega
              have HM6 := Lib.hid (HM.out.setHi k (.bool true) HG3.out.1)
              have HBX6 := Lib.hid (HBX.out.set (b := g3) k (.bool true) (by have := HG3.out.2; omega))
              have HO6 := Lib.hid (HO.out.touchY ha0 k)
              have k0 := HBX6.out.c0
              have k1 := HBX6.out.c1
              have k2 := HBX6.out.c2
              have k3 := HBX6.out.c3
              have k4 := HBX6.out.c4
              have o0 := HM6.out.o0; have f0 := HM6.out.f0; have o1 := HM6.out.o1; have f1 := HM6.out.f1; have o2 := HM6.out.o2; have f2 := HM6.out.f2; have o3 := HM6.out.o3; have f3 := HM6.out.f3; have o4 := HM6.out.o4; have f4 := HM6.out.f4
              clear HO HM HBX
              go_wp2_with fail
              refine bodyPost_ret (v := .tuple #[.agg #[.slice b0 Zo.length d0, .slice (some ⟨g1, 0, none⟩) Zc.length d1, .slice (some ⟨g2, 0, none⟩) Zx.length d2, .slice (some ⟨g3, 0, none⟩) Zy.length d3, .slice b4 Ze.length d4], .int .i64 0]) (by simp [results, Try.results24, go_sem, o0, o1, o2, o3, o4]) rfl ?_
              rw [HE.out]
              refine ⟨b0, some ⟨g1, 0, none⟩, some ⟨g2, 0, none⟩, some ⟨g3, 0, none⟩, b4, d0, d1, d2, d3, d4, ?_, ?_, ?_⟩
              · first | (simp [zv, Zn.setCur, Zn.touch, ha0]; done) | (simp [zv, Zn.setCur, Zn.touch]; done)
              · have hh := HH.out
                exact (((((HO6.out.setLow ⟨h + 1, 0, none⟩ _ (by simp)).setLow ⟨h + 1, 1, none⟩ _ (by simp)).setLow ⟨h + 1, 2, none⟩ _ (by simp)).setLow ⟨h + 1, 3, none⟩ _ (by simp)).setLow ⟨h + 1, 4, none⟩ _ (by simp)).base (by omega)
              · have hh := HH.out
                rw [hh]
                refine bel_set (bel_set (bel_set (bel_set (bel_set HM6.out.bel ?_ _) ?_ _) ?_ _) ?_ _) ?_ _ <;> omega
        · have HE : Hid (R = (zn0, 91)) := by rw [Hid, ← HR.out, putZ, hs, hax2, decide_eq_false (p := p < _) hp1, Bool.and_false]; rfl
          have hp1' : (Zo.length : Int) ≤ p := by omega
          clear hs hax hax2 hp0 hp1
          go_enter Try.func24, Try.ntmps24
          go_wp2_with fail
          rw [HH.out]
          generalize ((w.alloc (.cells #[.slice a0 Zo.length c0, .slice a1 Zc.length c1, .slice a2 Zx.length c2, .slice a3 Zy.length c3, .slice a4 Ze.length c4] 31)).alloc (.cells #[.slice none 0 0, .slice none 0 0, .slice none 0 0, .slice none 0 0, .slice none 0 0] 31)) = W at *
          skip
          refine (HSO.out _ HM.out).mono ?_
          rintro e w1 ⟨rfl, hb1⟩
          rw [HSB.out]
          replace HM := Lib.hid (HM.out.below hb1)
          clear HSO
          clear hb1
          have k0 := HM.out.c0
          have k1 := HM.out.c1
          have k2 := HM.out.c2
          have k3 := HM.out.c3
          have k4 := HM.out.c4
          have o0 := HM.out.o0
          have f0 := HM.out.f0
          have o1 := HM.out.o1
          have f1 := HM.out.f1
          have o2 := HM.out.o2
          have f2 := HM.out.f2
          have o3 := HM.out.o3
          have f3 := HM.out.f3
          have o4 := HM.out.o4
          have f4 := HM.out.f4
          go_wp2_with fail
          refine (HAX.out _).mono ?_
          rintro e w2 ⟨rfl, rfl⟩
          clear HAX
          go_wp2_with fail
          refine bodyPost_ret (v := .tuple #[.agg #[.slice none 0 0, .slice none 0 0, .slice none 0 0, .slice none 0 0, .slice none 0 0], .int .i64 91]) (by simp [results, Try.results24, go_sem, o0, o1, o2, o3, o4]) rfl (zeroPost_no HE.out rfl (by rw [HH.out]; refine bel_set (bel_set (bel_set (bel_set (bel_set HM.out.bel ?_ _) ?_ _) ?_ _) ?_ _) ?_ _ <;> omega))
      · have HE : Hid (R = (zn0, 91)) := by rw [Hid, ← HR.out, putZ, hs, hax2, decide_eq_false (p := 0 ≤ p) hp0, Bool.and_false, Bool.false_and]; rfl
        have hp0' : p < 0 := by omega
        clear hs hax hax2 hp0
        go_enter Try.func24, Try.ntmps24
        go_wp2_with fail
        rw [HH.out]
        generalize ((w.alloc (.cells #[.slice a0 Zo.length c0, .slice a1 Zc.length c1, .slice a2 Zx.length c2, .slice a3 Zy.length c3, .slice a4 Ze.length c4] 31)).alloc (.cells #[.slice none 0 0, .slice none 0 0, .slice none 0 0, .slice none 0 0, .slice none 0 0] 31)) = W at *
        skip
        refine (HSO.out _ HM.out).mono ?_
        rintro e w1 ⟨rfl, hb1⟩
        rw [HSB.out]
        replace HM := Lib.hid (HM.out.below hb1)
        clear HSO
        clear hb1
        have k0 := HM.out.c0
        have k1 := HM.out.c1
        have k2 := HM.out.c2
        have k3 := HM.out.c3
        have k4 := HM.out.c4
        have o0 := HM.out.o0
        have f0 := HM.out.f0
        have o1 := HM.out.o1
        have f1 := HM.out.f1
        have o2 := HM.out.o2
        have f2 := HM.out.f2
        have o3 := HM.out.o3
        have f3 := HM.out.f3
        have o4 := HM.out.o4
        have f4 := HM.out.f4
        go_wp2_with fail
        refine (HAX.out _).mono ?_
        rintro e w2 ⟨rfl, rfl⟩
        clear HAX
        go_wp2_with fail
        refine bodyPost_ret (v := .tuple #[.agg #[.slice none 0 0, .slice none 0 0, .slice none 0 0, .slice none 0 0, .slice none 0 0], .int .i64 91]) (by simp [results, Try.results24, go_sem, o0, o1, o2, o3, o4]) rfl (zeroPost_no HE.out rfl (by rw [HH.out]; refine bel_set (bel_set (bel_set (bel_set (bel_set HM.out.bel ?_ _) ?_ _) ?_ _) ?_ _) ?_ _ <;> omega))
    · have hax2 : (axis == 0 || axis == 1) = false := by simpa using hax
      have HAX : Hid (∀ V : World, Calls Try.prog 38 #[.int .i64 axis] V fun e w' => e = .returned (.bool false) ∧ V = w') := by have := fun V => isAxis_c axis V; rw [hax2] at this; exact this
      have HE : Hid (R = (zn0, 91)) := by rw [Hid, ← HR.out, putZ, hs, hax2]; rfl
      clear hs hax hax2
      go_enter Try.func24, Try.ntmps24
      go_wp2_with fail
      rw [HH.out]
      generalize ((w.alloc (.cells #[.slice a0 Zo.length c0, .slice a1 Zc.length c1, .slice a2 Zx.length c2, .slice a3 Zy.length c3, .slice a4 Ze.length c4] 31)).alloc (.cells #[.slice none 0 0, .slice none 0 0, .slice none 0 0, .slice none 0 0, .slice none 0 0] 31)) = W at *
      skip
      refine (HSO.out _ HM.out).mono ?_
      rintro e w1 ⟨rfl, hb1⟩
      rw [HSB.out]
      replace HM := Lib.hid (HM.out.below hb1)
      clear HSO
      clear hb1
      have k0 := HM.out.c0
      have k1 := HM.out.c1
      have k2 := HM.out.c2
      have k3 := HM.out.c3
      have k4 := HM.out.c4
      have o0 := HM.out.o0
      have f0 := HM.out.f0
      have o1 := HM.out.o1
      have f1 := HM.out.f1
      have o2 := HM.out.o2
      have f2 := HM.out.f2
      have o3 := HM.out.o3
      have f3 := HM.out.f3
      have o4 := HM.out.o4
      have f4 := HM.out.f4
      go_wp2_with fail
      refine (HAX.out _).mono ?_
      rintro e w2 ⟨rfl, rfl⟩
      clear HAX
      go_wp2_with fail
      refine bodyPost_ret (v := .tuple #[.agg #[.slice none 0 0, .slice none 0 0, .slice none 0 0, .slice none 0 0, .slice none 0 0], .int .i64 91]) (by simp [results, Try.results24, go_sem, o0, o1, o2, o3, o4]) rfl (zeroPost_no HE.out rfl (by rw [HH.out]; refine bel_set (bel_set (bel_set (bel_set (bel_set HM.out.bel ?_ _) ?_ _) ?_ _) ?_ _) ?_ _ <;> omega))

end Go.Proofs.Ytnoadceeenioeaa
