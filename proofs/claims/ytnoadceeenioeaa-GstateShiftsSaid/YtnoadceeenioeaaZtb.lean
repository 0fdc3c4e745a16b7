/-
  What follow of package gstate's reckoner answers, where the one behind was ahead.
-/
import Derived.Test.YtnoadceeenioeaaZta
namespace Go.Proofs.Ytnoadceeenioeaa
open Go.RowKit Go.PlainAid
set_option linter.unusedSimpArgs false
set_option linter.unusedVariables false

set_option maxRecDepth 20000 in
set_option maxHeartbeats 20000000 in
theorem follow_swap (g : Int) (a b : Mk) (r : Nat) (f : Bool) (w : World) (h : RkIn w r f) (hsw : b.o < a.o) :
    Calls Try.prog 52 #[.pointer (some ⟨r, 0, none⟩), .int .i64 g, .agg #[.int .i64 a.o, .int .i64 a.c, .bool a.t], .agg #[.int .i64 b.o, .int .i64 b.c, .bool b.t]] w (RkPost w r f (flS g a b)) := by
  obtain ⟨R, HR⟩ : ∃ R, Hid (flS g a b = R) := ⟨_, rfl⟩
  rw [HR.out]
  obtain ⟨ao, ac, at'⟩ := a
  obtain ⟨bo, bc, bt'⟩ := b
  dsimp only at hsw ⊢
  have hlt := h.lt
  have H := Lib.hid h
  clear h
  obtain ⟨N, HN⟩ : ∃ N, Hid (w.heap.size = N) := ⟨_, rfl⟩
  have HL : Hid (R = flH g ⟨bo, bc, bt'⟩ ⟨ao, ac, at'⟩) := by rw [Hid, ← HR.out, flS, lowM, highM, if_pos hsw, if_pos hsw]
  go_enter Try.func52, Try.ntmps52
  go_wp2_with fail
  go_region
  all_goals go_wp2_with fail
  all_goals go_region
  · have hb4 : Below w.heap.size w (((((w.alloc (.cells #[.int .i64 ao, .int .i64 ac, .bool at'] 82)).alloc (.cells #[.int .i64 bo, .int .i64 bc, .bool bt'] 82)).alloc (.cells #[.int .i64 bo, .int .i64 bc, .bool bt'] 82)).alloc (.cells #[.int .i64 ao, .int .i64 ac, .bool at'] 82)).drew.drew) := (bel_alloc (bel_alloc (bel_alloc (bel_alloc (Below.refl _ _) _) _) _) _).drew.drew
    have HF : Hid (FoW w (((((w.alloc (.cells #[.int .i64 ao, .int .i64 ac, .bool at'] 82)).alloc (.cells #[.int .i64 bo, .int .i64 bc, .bool bt'] 82)).alloc (.cells #[.int .i64 bo, .int .i64 bc, .bool bt'] 82)).alloc (.cells #[.int .i64 ao, .int .i64 ac, .bool at'] 82)).drew.drew) r f (w.heap.size + 1 + 1) (w.heap.size + 1 + 1 + 1) ⟨bo, bc, bt'⟩ ⟨ao, ac, at'⟩) := ⟨by simp [go_sem], by simp [go_sem], by simp [go_sem], by simp [go_sem], by simp [go_sem], by simp [go_sem], H.out.below hb4, grown_bel hb4 _, by omega, by omega⟩
    clear hb4 hlt H hsw
    generalize ((((w.alloc (.cells #[.int .i64 ao, .int .i64 ac, .bool at'] 82)).alloc (.cells #[.int .i64 bo, .int .i64 bc, .bool bt'] 82)).alloc (.cells #[.int .i64 bo, .int .i64 bc, .bool bt'] 82)).alloc (.cells #[.int .i64 ao, .int .i64 ac, .bool at'] 82)).drew.drew = W at *
    generalize w.heap.size + 1 + 1 + 1 = GB at *
    generalize w.heap.size + 1 + 1 = GA at *
    by_cases h1 : g ≤ bo
    · have HE : Hid (R = mvS g bo bc) := by rw [Hid, HL.out, flH]; exact if_pos h1
      have k0 := HF.out.a0
      have k1 := HF.out.a1
      have k2 := HF.out.a2
      go_wp2_with fail
      refine (moved_c g bo bc bt' r f _ HF.out.rk).mono ?_
      rintro e w1 ⟨rfl, hk, hg⟩
      have HK := Lib.hid hk
      have HG := Lib.hid (grown_next HF.out.gr hg)
      clear hk hg
      go_wp2_with fail
      go_ret
      exact ⟨by rw [HE.out]; rfl, by rw [HE.out]; exact HK.out, HG.out⟩
    · have z0 := HF.out.a0
      have y0 := HF.out.b0
      by_cases h2 : ao ≤ g
      · have HE : Hid (R = mvS g ao ac) := by rw [Hid, HL.out, flH]; exact (if_neg h1).trans (if_pos h2)
        have k0 := HF.out.b0
        have k1 := HF.out.b1
        have k2 := HF.out.b2
        go_wp2_with fail
        refine (moved_c g ao ac at' r f _ HF.out.rk).mono ?_
        rintro e w1 ⟨rfl, hk, hg⟩
        have HK := Lib.hid hk
        have HG := Lib.hid (grown_next HF.out.gr hg)
        clear hk hg
        go_wp2_with fail
        go_ret
        exact ⟨by rw [HE.out]; rfl, by rw [HE.out]; exact HK.out, HG.out⟩
      · have HE : Hid (R = midS g ⟨bo, bc, bt'⟩ ⟨ao, ac, at'⟩) := by rw [Hid, HL.out, flH]; exact (if_neg h1).trans (if_neg h2)
        obtain ⟨q1, e1, H1⟩ : ∃ x e, Hid (subOr g bo = (x, e)) := ⟨_, _, rfl⟩
        obtain ⟨q2, e2, H2⟩ : ∃ x e, Hid (subOr ao bo = (x, e)) := ⟨_, _, rfl⟩
        obtain ⟨q3, e3, H3⟩ : ∃ x e, Hid (subOr ac bc = (x, e)) := ⟨_, _, rfl⟩
        obtain ⟨q4, e4, H4⟩ : ∃ x e, Hid (mulDiv q1 q3 q2 = (x, e)) := ⟨_, _, rfl⟩
        obtain ⟨q5, e5, H5⟩ : ∃ x e, Hid (sumOr bc q4 = (x, e)) := ⟨_, _, rfl⟩
        have HEE : Hid (R = (q5, decide (e1 ≠ 0) || (decide (e2 ≠ 0) || (decide (e3 ≠ 0) || (decide (e4 ≠ 0) || decide (e5 ≠ 0)))))) := by
          rw [Hid, HE.out, midS]; dsimp only; rw [H1.out, H2.out, H3.out]; dsimp only; rw [H4.out]; dsimp only; rw [H5.out]
        have HMD : Hid (∀ V : World, Calls Try.prog 58 #[.int .i64 q1, .int .i64 q3, .int .i64 q2] V fun e w' => e = .returned (.tuple #[.int .i64 q4, .int .i64 e4]) ∧ Below V.heap.size V w') := by
          intro V
          have b1 := subOr_bd g bo
          have b2 := subOr_bd ao bo
          have b3 := subOr_bd ac bc
          rw [H1.out] at b1
          rw [H2.out] at b2
          rw [H3.out] at b3
          dsimp only at b1 b2 b3
          have := muldiv_low q1 q3 q2 V (by omega) (by omega) (by omega) (by omega) (by omega) (by omega) (by
            have h1 : q1.natAbs ≤ 2147483647 := by omega
            have h3 : q3.natAbs ≤ 2147483647 := by omega
            have := Nat.mul_le_mul h1 h3
            omega)
          rwa [H4.out] at this
        clear HE HR HL
        have T1 := True.intro
        have U1 := True.intro
        have U2 := True.intro
        have U4 := True.intro
        have U5 := True.intro
        go_wp2_with fail
        clear z0 y0
        replace HF := Lib.hid (HF.out.below (Below.refl _ _).drew)
        go_region_held3 (fun V => V.cell? ⟨GA, 0, none⟩ = some (.int .i64 bo) ∧ V.cell? ⟨GB, 0, none⟩ = some (.int .i64 ao)) (first | with_reducible exact ⟨HF.out.a0, HF.out.b0⟩)
          (first
            | (go_at_call 56; have _q := T1; refine (sub_any g bo q1 e1 _ H1).mono ?_; rintro e w1 ⟨rfl, hb⟩; replace HF := Lib.hid (HF.out.below hb); clear hb _q T1)
            | (go_at_call 55; have _q := U1; refine (fix_c q1 e1 r _ _ HF.out.rk).mono ?_; rintro e w2 ⟨rfl, hk, hg⟩; replace HF := Lib.hid (HF.out.fix hk hg); clear hk hg _q U1)
            | (go_at_call 56; refine (sub_any ao bo q2 e2 _ H2).mono ?_; rintro e w3 ⟨rfl, hb⟩; replace HF := Lib.hid (HF.out.below hb); clear hb)
            | (go_at_call 55; have _q := U2; refine (fix_c q2 e2 r _ _ HF.out.rk).mono ?_; rintro e w4 ⟨rfl, hk, hg⟩; replace HF := Lib.hid (HF.out.fix hk hg); clear hk hg _q U2))
        have k1 := HF.out.a1
        have y1 := HF.out.b1
        go_wp2_with fail
        refine (sub_any ac bc q3 e3 _ H3).mono ?_
        rintro e w5 ⟨rfl, hb⟩
        replace HF := Lib.hid (HF.out.below hb)
        clear hb k1 y1
        go_wp2_with fail
        refine (fix_c q3 e3 r _ _ HF.out.rk).mono ?_
        rintro e w6 ⟨rfl, hk, hg⟩
        replace HF := Lib.hid (HF.out.fix hk hg)
        clear hk hg
        go_wp2_with fail
        replace HF := Lib.hid (HF.out.below (Below.refl _ _).drew)
        go_region_held3 (fun V => V.cell? ⟨GA, 1, none⟩ = some (.int .i64 bc)) (first | with_reducible exact HF.out.a1)
          (first
            | (go_at_call 58; refine (HMD.out _).mono ?_; rintro e w7 ⟨rfl, hb⟩; replace HF := Lib.hid (HF.out.below hb); clear hb)
            | (go_at_call 55; have _q := U4; refine (fix_c q4 e4 r _ _ HF.out.rk).mono ?_; rintro e w8 ⟨rfl, hk, hg⟩; replace HF := Lib.hid (HF.out.fix hk hg); clear hk hg _q U4)
            | (go_at_call 57; refine (add_any bc q4 q5 e5 _ H5).mono ?_; rintro e w9 ⟨rfl, hb⟩; replace HF := Lib.hid (HF.out.below hb); clear hb)
            | (go_at_call 55; have _q := U5; refine (fix_c q5 e5 r _ _ HF.out.rk).mono ?_; rintro e wa ⟨rfl, hk, hg⟩; replace HF := Lib.hid (HF.out.fix hk hg); clear hk hg _q U5))
        go_wp2_with fail
        go_ret
        rw [HEE.out]
        exact ⟨rfl, by have := HF.out.rk; simpa only [Bool.or_assoc] using this, HF.out.gr⟩
  · have hb4 : Below w.heap.size w (((((w.alloc (.cells #[.int .i64 ao, .int .i64 ac, .bool at'] 82)).alloc (.cells #[.int .i64 bo, .int .i64 bc, .bool bt'] 82)).alloc (.cells #[.int .i64 ao, .int .i64 ac, .bool at'] 82)).alloc (.cells #[.int .i64 bo, .int .i64 bc, .bool bt'] 82)).drew.drew) := (bel_alloc (bel_alloc (bel_alloc (bel_alloc (Below.refl _ _) _) _) _) _).drew.drew
    have HF : Hid (FoW w (((((w.alloc (.cells #[.int .i64 ao, .int .i64 ac, .bool at'] 82)).alloc (.cells #[.int .i64 bo, .int .i64 bc, .bool bt'] 82)).alloc (.cells #[.int .i64 ao, .int .i64 ac, .bool at'] 82)).alloc (.cells #[.int .i64 bo, .int .i64 bc, .bool bt'] 82)).drew.drew) r f (w.heap.size + 1 + 1 + 1) (w.heap.size + 1 + 1) ⟨bo, bc, bt'⟩ ⟨ao, ac, at'⟩) := ⟨by simp [go_sem], by simp [go_sem], by simp [go_sem], by simp [go_sem], by simp [go_sem], by simp [go_sem], H.out.below hb4, grown_bel hb4 _, by omega, by omega⟩
    clear hb4 hlt H hsw
    generalize ((((w.alloc (.cells #[.int .i64 ao, .int .i64 ac, .bool at'] 82)).alloc (.cells #[.int .i64 bo, .int .i64 bc, .bool bt'] 82)).alloc (.cells #[.int .i64 ao, .int .i64 ac, .bool at'] 82)).alloc (.cells #[.int .i64 bo, .int .i64 bc, .bool bt'] 82)).drew.drew = W at *
    generalize w.heap.size + 1 + 1 + 1 = GB at *
    generalize w.heap.size + 1 + 1 = GA at *
    by_cases h1 : g ≤ bo
    · have HE : Hid (R = mvS g bo bc) := by rw [Hid, HL.out, flH]; exact if_pos h1
      have k0 := HF.out.a0
      have k1 := HF.out.a1
      have k2 := HF.out.a2
      go_wp2_with fail
      refine (moved_c g bo bc bt' r f _ HF.out.rk).mono ?_
      rintro e w1 ⟨rfl, hk, hg⟩
      have HK := Lib.hid hk
      have HG := Lib.hid (grown_next HF.out.gr hg)
      clear hk hg
      go_wp2_with fail
      go_ret
      exact ⟨by rw [HE.out]; rfl, by rw [HE.out]; exact HK.out, HG.out⟩
    · have z0 := HF.out.a0
      have y0 := HF.out.b0
      by_cases h2 : ao ≤ g
      · have HE : Hid (R = mvS g ao ac) := by rw [Hid, HL.out, flH]; exact (if_neg h1).trans (if_pos h2)
        have k0 := HF.out.b0
        have k1 := HF.out.b1
        have k2 := HF.out.b2
        go_wp2_with fail
        refine (moved_c g ao ac at' r f _ HF.out.rk).mono ?_
        rintro e w1 ⟨rfl, hk, hg⟩
        have HK := Lib.hid hk
        have HG := Lib.hid (grown_next HF.out.gr hg)
        clear hk hg
        go_wp2_with fail
        go_ret
        exact ⟨by rw [HE.out]; rfl, by rw [HE.out]; exact HK.out, HG.out⟩
      · have HE : Hid (R = midS g ⟨bo, bc, bt'⟩ ⟨ao, ac, at'⟩) := by rw [Hid, HL.out, flH]; exact (if_neg h1).trans (if_neg h2)
        obtain ⟨q1, e1, H1⟩ : ∃ x e, Hid (subOr g bo = (x, e)) := ⟨_, _, rfl⟩
        obtain ⟨q2, e2, H2⟩ : ∃ x e, Hid (subOr ao bo = (x, e)) := ⟨_, _, rfl⟩
        obtain ⟨q3, e3, H3⟩ : ∃ x e, Hid (subOr ac bc = (x, e)) := ⟨_, _, rfl⟩
        obtain ⟨q4, e4, H4⟩ : ∃ x e, Hid (mulDiv q1 q3 q2 = (x, e)) := ⟨_, _, rfl⟩
        obtain ⟨q5, e5, H5⟩ : ∃ x e, Hid (sumOr bc q4 = (x, e)) := ⟨_, _, rfl⟩
        have HEE : Hid (R = (q5, decide (e1 ≠ 0) || (decide (e2 ≠ 0) || (decide (e3 ≠ 0) || (decide (e4 ≠ 0) || decide (e5 ≠ 0)))))) := by
          rw [Hid, HE.out, midS]; dsimp only; rw [H1.out, H2.out, H3.out]; dsimp only; rw [H4.out]; dsimp only; rw [H5.out]
        have HMD : Hid (∀ V : World, Calls Try.prog 58 #[.int .i64 q1, .int .i64 q3, .int .i64 q2] V fun e w' => e = .returned (.tuple #[.int .i64 q4, .int .i64 e4]) ∧ Below V.heap.size V w') := by
          intro V
          have b1 := subOr_bd g bo
          have b2 := subOr_bd ao bo
          have b3 := subOr_bd ac bc
          rw [H1.out] at b1
          rw [H2.out] at b2
          rw [H3.out] at b3
          dsimp only at b1 b2 b3
          have := muldiv_low q1 q3 q2 V (by omega) (by omega) (by omega) (by omega) (by omega) (by omega) (by
            have h1 : q1.natAbs ≤ 2147483647 := by omega
            have h3 : q3.natAbs ≤ 2147483647 := by omega
            have := Nat.mul_le_mul h1 h3
            omega)
          rwa [H4.out] at this
        clear HE HR HL
        have T1 := True.intro
        have U1 := True.intro
        have U2 := True.intro
        have U4 := True.intro
        have U5 := True.intro
        go_wp2_with fail
        clear z0 y0
        replace HF := Lib.hid (HF.out.below (Below.refl _ _).drew)
        go_region_held3 (fun V => V.cell? ⟨GB, 0, none⟩ = some (.int .i64 bo) ∧ V.cell? ⟨GA, 0, none⟩ = some (.int .i64 ao)) (first | with_reducible exact ⟨HF.out.a0, HF.out.b0⟩)
          (first
            | (go_at_call 56; have _q := T1; refine (sub_any g bo q1 e1 _ H1).mono ?_; rintro e w1 ⟨rfl, hb⟩; replace HF := Lib.hid (HF.out.below hb); clear hb _q T1)
            | (go_at_call 55; have _q := U1; refine (fix_c q1 e1 r _ _ HF.out.rk).mono ?_; rintro e w2 ⟨rfl, hk, hg⟩; replace HF := Lib.hid (HF.out.fix hk hg); clear hk hg _q U1)
            | (go_at_call 56; refine (sub_any ao bo q2 e2 _ H2).mono ?_; rintro e w3 ⟨rfl, hb⟩; replace HF := Lib.hid (HF.out.below hb); clear hb)
            | (go_at_call 55; have _q := U2; refine (fix_c q2 e2 r _ _ HF.out.rk).mono ?_; rintro e w4 ⟨rfl, hk, hg⟩; replace HF := Lib.hid (HF.out.fix hk hg); clear hk hg _q U2))
        have k1 := HF.out.a1
        have y1 := HF.out.b1
        go_wp2_with fail
        refine (sub_any ac bc q3 e3 _ H3).mono ?_
        rintro e w5 ⟨rfl, hb⟩
        replace HF := Lib.hid (HF.out.below hb)
        clear hb k1 y1
        go_wp2_with fail
        refine (fix_c q3 e3 r _ _ HF.out.rk).mono ?_
        rintro e w6 ⟨rfl, hk, hg⟩
        replace HF := Lib.hid (HF.out.fix hk hg)
        clear hk hg
        go_wp2_with fail
        replace HF := Lib.hid (HF.out.below (Below.refl _ _).drew)
        go_region_held3 (fun V => V.cell? ⟨GB, 1, none⟩ = some (.int .i64 bc)) (first | with_reducible exact HF.out.a1)
          (first
            | (go_at_call 58; refine (HMD.out _).mono ?_; rintro e w7 ⟨rfl, hb⟩; replace HF := Lib.hid (HF.out.below hb); clear hb)
            | (go_at_call 55; have _q := U4; refine (fix_c q4 e4 r _ _ HF.out.rk).mono ?_; rintro e w8 ⟨rfl, hk, hg⟩; replace HF := Lib.hid (HF.out.fix hk hg); clear hk hg _q U4)
            | (go_at_call 57; refine (add_any bc q4 q5 e5 _ H5).mono ?_; rintro e w9 ⟨rfl, hb⟩; replace HF := Lib.hid (HF.out.below hb); clear hb)
            | (go_at_call 55; have _q := U5; refine (fix_c q5 e5 r _ _ HF.out.rk).mono ?_; rintro e wa ⟨rfl, hk, hg⟩; replace HF := Lib.hid (HF.out.fix hk hg); clear hk hg _q U5))
        go_wp2_with fail
        go_ret
        rw [HEE.out]
        exact ⟨rfl, by have := HF.out.rk; simpa only [Bool.or_assoc] using this, HF.out.gr⟩

end Go.Proofs.Ytnoadceeenioeaa
