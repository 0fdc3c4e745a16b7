/-
  What Smooth of package gstate answers.
-/
import Derived.Test.YtnoadceeenioeaaZz
namespace Go.Proofs.Ytnoadceeenioeaa
open Go.RowKit Go.PlainAid
set_option linter.unusedSimpArgs false
set_option linter.unusedVariables false

set_option maxRecDepth 20000 in
set_option maxHeartbeats 4000000 in
theorem smooth_c (Z : Zn) (a0 a1 a2 a3 a4 : Option Addr) (c0 c1 c2 c3 c4 : Nat) (axis : Int) (w : World) (hz : ZIn w Z a0 a1 a2 a3 a4) (hl : ZLong Z) :
    Calls Try.prog 25 #[.agg #[.slice a0 Z.org.length c0, .slice a1 Z.cur.length c1, .slice a2 Z.tx.length c2, .slice a3 Z.ty.length c3, .slice a4 Z.ends.length c4], .int .i64 axis] w (ZeroPost w (smoothZ Z axis)) := by
  obtain ⟨R, HR⟩ : ∃ R, Hid (smoothZ Z axis = R) := ⟨_, rfl⟩
  by_cases hok : (soundB Z && (axis == 0 || axis == 1)) = true
  · simp only [Bool.and_eq_true] at hok
    obtain ⟨l0, l1, l2, l3⟩ := sound_len hok.1
    have := smooth_main Z a0 a1 a2 a3 a4 c0 c1 c2 c3 c4 Z.org.length axis w hz hl hok.1 (by simpa using hok.2) rfl
    rwa [← l1.symm, l2, l3]
  · rw [HR.out]
    obtain ⟨h, HH⟩ : ∃ h, Hid (w.heap.size = h) := ⟨_, rfl⟩
    have HSO : Hid (∀ V, CpW w V h (.slice a0 Z.org.length c0) (.slice a1 Z.cur.length c1) (.slice a2 Z.tx.length c2) (.slice a3 Z.ty.length c3) (.slice a4 Z.ends.length c4) → Calls Try.prog 17 #[.agg #[.slice a0 Z.org.length c0, .slice a1 Z.cur.length c1, .slice a2 Z.tx.length c2, .slice a3 Z.ty.length c3, .slice a4 Z.ends.length c4]] V fun e w' => e = .returned (.bool (soundB Z)) ∧ Below V.heap.size V w') := fun V H => sound_c Z _ _ _ _ _ _ _ _ _ _ V (hz.below (by have := H.hh; subst this; exact H.bel)) hl
    have HM := Lib.hid (cpW_new w (.slice a0 Z.org.length c0) (.slice a1 Z.cur.length c1) (.slice a2 Z.tx.length c2) (.slice a3 Z.ty.length c3) (.slice a4 Z.ends.length c4))
    rw [HH.out] at HM
    clear hz hl
    have HE : Hid (R = (zn0, 91)) := by
      rw [Hid, ← HR.out, smoothZ, if_pos]
      cases h : (soundB Z && (axis == 0 || axis == 1))
      · rfl
      · exact absurd h hok
    obtain ⟨Zo, Zc, Zx, Zy, Ze⟩ := Z
    dsimp only at *
    cases hs : soundB ⟨Zo, Zc, Zx, Zy, Ze⟩
    · have HSB := Lib.hid hs
      clear hs hok HR
      go_enter Try.func25, Try.ntmps25
      go_wp2_with fail
      rw [HH.out]
      generalize ((w.alloc (.cells #[.slice a0 Zo.length c0, .slice a1 Zc.length c1, .slice a2 Zx.length c2, .slice a3 Zy.length c3, .slice a4 Ze.length c4] 31)).alloc (.cells #[.slice none 0 0, .slice none 0 0, .slice none 0 0, .slice none 0 0, .slice none 0 0] 31)) = W at *
      refine (HSO.out _ HM.out).mono ?_
      rintro e w1 ⟨rfl, hb1⟩
      rw [HSB.out]
      replace HM := Lib.hid (HM.out.below hb1)
      clear hb1 HSO
      have o0 := HM.out.o0
      have f0 := HM.out.f0
      have o1 := HM.out.o1
      have f1 := HM.out.f1
      have o2 := HM.out.o2
      have f2 := HM.out.f2
      have o3 := HM.out.o3
      have f3 := HM.out.f3
      have o4 := HM.out.o4
      have f4 := HM.out.f4
      go_wp2_with fail
      refine bodyPost_ret (v := .tuple #[.agg #[.slice none 0 0, .slice none 0 0, .slice none 0 0, .slice none 0 0, .slice none 0 0], .int .i64 91]) (by simp [results, Try.results25, go_sem, o0, o1, o2, o3, o4]) rfl (zeroPost_no HE.out rfl (by rw [HH.out]; refine bel_set (bel_set (bel_set (bel_set (bel_set HM.out.bel ?_ _) ?_ _) ?_ _) ?_ _) ?_ _ <;> omega))
    · have HSB := Lib.hid hs
      have hax2 : (axis == 0 || axis == 1) = false := by
        cases h : (axis == 0 || axis == 1)
        · rfl
        · rw [hs, h] at hok; exact absurd rfl hok
      have HAX : Hid (∀ V : World, Calls Try.prog 38 #[.int .i64 axis] V fun e w' => e = .returned (.bool false) ∧ V = w') := by have := fun V => isAxis_c axis V; rw [hax2] at this; exact this
      clear hs hax2 hok HR
      go_enter Try.func25, Try.ntmps25
      go_wp2_with fail
      rw [HH.out]
      generalize ((w.alloc (.cells #[.slice a0 Zo.length c0, .slice a1 Zc.length c1, .slice a2 Zx.length c2, .slice a3 Zy.length c3, .slice a4 Ze.length c4] 31)).alloc (.cells #[.slice none 0 0, .slice none 0 0, .slice none 0 0, .slice none 0 0, .slice none 0 0] 31)) = W at *
      refine (HSO.out _ HM.out).mono ?_
      rintro e w1 ⟨rfl, hb1⟩
      rw [HSB.out]
      replace HM := Lib.hid (HM.out.below hb1)
      clear hb1 HSO
      have o0 := HM.out.o0
      have f0 := HM.out.f0
      have o1 := HM.out.o1
      have f1 := HM.out.f1
      have o2 := HM.out.o2
      have f2 := HM.out.f2
      have o3 := HM.out.o3
      have f3 := HM.out.f3
      have o4 := HM.out.o4
      have f4 := HM.out.f4
      go_wp2_with fail
      refine (HAX.out _).mono ?_
      rintro e w2 ⟨rfl, rfl⟩
      clear HAX
      go_wp2_with fail
      refine bodyPost_ret (v := .tuple #[.agg #[.slice none 0 0, .slice none 0 0, .slice none 0 0, .slice none 0 0, .slice none 0 0], .int .i64 91]) (by simp [results, Try.results25, go_sem, o0, o1, o2, o3, o4]) rfl (zeroPost_no HE.out rfl (by rw [HH.out]; refine bel_set (bel_set (bel_set (bel_set (bel_set HM.out.bel ?_ _) ?_ _) ?_ _) ?_ _) ?_ _ <;> omega))

end Go.Proofs.Ytnoadceeenioeaa
