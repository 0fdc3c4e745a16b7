/-
  What Round of package gstate and of the document answer.
-/
import Derived.Test.YtnoadceeenioeaaZrd
namespace Go.Proofs.Ytnoadceeenioeaa
open Go.RowKit
set_option linter.unusedSimpArgs false
set_option linter.unusedVariables false

/-- Rounded, from 0 on. -/
def rdN (n way : Int) : Int := if way = 0 then (n + 32) / 64 * 64 else if way = 1 then n / 64 * 64 + 32 else if way = 2 then (n + 16) / 32 * 32 else if way = 3 then n / 64 * 64 else if way = 4 then (n + 63) / 64 * 64 else n
def rndS (n way : Int) : Int := if fixB n = false then 0 else if n < 0 then -(rdN (-n) way) else rdN n way

theorem rq {n k d : Int} (h0 : 0 ≤ n) (h1 : n ≤ 2147483647) (k0 : 0 ≤ k) (k1 : k ≤ 63) (hd : d = 32 ∨ d = 64) : wrap64 (wrap64 ((wrap64 (n + k)).tdiv d) * d) = (n + k) / d * d := by
  have e1 : wrap64 (n + k) = n + k := by unfold wrap64; omega
  rw [e1, Int.tdiv_eq_ediv_of_nonneg (by omega)]
  rcases hd with rfl | rfl
  · have e2 : wrap64 ((n + k) / 32) = (n + k) / 32 := by unfold wrap64; omega
    rw [e2]; unfold wrap64; omega
  · have e2 : wrap64 ((n + k) / 64) = (n + k) / 64 := by unfold wrap64; omega
    rw [e2]; unfold wrap64; omega
theorem rq0 {n : Int} (h0 : 0 ≤ n) (h1 : n ≤ 2147483647) : wrap64 (wrap64 (n.tdiv 64) * 64) = n / 64 * 64 := by
  rw [Int.tdiv_eq_ediv_of_nonneg (by omega)]
  have e2 : wrap64 (n / 64) = n / 64 := by unfold wrap64; omega
  rw [e2]; unfold wrap64; omega
theorem rq1 {n : Int} (h0 : 0 ≤ n) (h1 : n ≤ 2147483647) : wrap64 (wrap64 (wrap64 (n.tdiv 64) * 64) + 32) = n / 64 * 64 + 32 := by
  rw [rq0 h0 h1]; unfold wrap64; omega

set_option maxRecDepth 20000 in
set_option maxHeartbeats 2000000 in
theorem rounded_c (n way : Int) (w : World) (H : Hid (fixB n = true)) (hn : 0 ≤ n) : Calls Try.prog 29 #[.int .i64 n, .int .i64 way] w fun e w' => e = .returned (.int .i64 (rdN n way)) ∧ Below w.heap.size w w' := by
  obtain ⟨R, HR⟩ : ∃ R, Hid (rdN n way = R) := ⟨_, rfl⟩
  rw [HR.out]
  by_cases h0 : way = 0
  · subst h0
    have HE : Hid (n + 32 - (n + 32) % 64 = R) := by rw [Hid, ← HR.out, rdN, if_pos rfl]; omega
    have HC := Lib.hid (fun V => round_fc n V H)
    rw [HE.out] at HC
    go_enter Try.func29, Try.ntmps29
    go_wp2_with fail
    refine (HC.out _).mono ?_
    rintro e w1 ⟨rfl, hb⟩
    have HB := Lib.hid hb
    clear hb
    go_wp2_with fail
    go_ret
    exact ⟨rfl, HB.out⟩
  · by_cases h1 : way = 1
    · subst h1
      have HE : Hid (n - n % 64 + 32 = R) := by rw [Hid, ← HR.out, rdN, if_neg (by decide), if_pos rfl]; omega
      have HC := Lib.hid (fun V => floor_c n V H)
      obtain ⟨q, HQ⟩ : ∃ q, Hid (n - n % 64 = q) := ⟨_, rfl⟩
      have hw : wrap64 (q + 32) = q + 32 := by have := fixB_true H.out; have := HQ.out; unfold wrap64; omega
      rw [HQ.out] at HC HE
      go_enter Try.func29, Try.ntmps29
      go_wp2_with fail
      refine (HC.out _).mono ?_
      rintro e w1 ⟨rfl, hb⟩
      have HB := Lib.hid hb
      clear hb
      go_wp2_with fail
      go_ret
      refine ⟨?_, HB.out⟩
      show Ending.returned (.int .i64 (wrap64 (q + 32))) = _
      rw [hw, HE.out]
    · by_cases h2 : way = 2
      · subst h2
        have HE : Hid ((n + 16) / 32 * 32 = R) := by rw [Hid, ← HR.out, rdN, if_neg (by decide), if_neg (by decide), if_pos rfl]
        have HF := Lib.hid (fixB_true H.out)
        go_enter Try.func29, Try.ntmps29
        go_wp2
        go_ret
        refine ⟨?_, Below.refl _ _⟩
        show Ending.returned (.int .i64 (wrap64 (wrap64 ((wrap64 (n + 16)).tdiv 32) * 32))) = _
        rw [rq hn HF.out.2 (by decide) (by decide) (.inl rfl), HE.out]
      · by_cases h3 : way = 3
        · subst h3
          have HE : Hid (n - n % 64 = R) := by rw [Hid, ← HR.out, rdN, if_neg (by decide), if_neg (by decide), if_neg (by decide), if_pos rfl]; omega
          have HC := Lib.hid (fun V => floor_c n V H)
          rw [HE.out] at HC
          go_enter Try.func29, Try.ntmps29
          go_wp2_with fail
          refine (HC.out _).mono ?_
          rintro e w1 ⟨rfl, hb⟩
          have HB := Lib.hid hb
          clear hb
          go_wp2_with fail
          go_ret
          exact ⟨rfl, HB.out⟩
        · by_cases h4 : way = 4
          · subst h4
            have HE : Hid (-(-n - -n % 64) = R) := by rw [Hid, ← HR.out, rdN, if_neg (by decide), if_neg (by decide), if_neg (by decide), if_neg (by decide), if_pos rfl]; omega
            have HC := Lib.hid (fun V => ceil_c n V H)
            rw [HE.out] at HC
            go_enter Try.func29, Try.ntmps29
            go_wp2_with fail
            refine (HC.out _).mono ?_
            rintro e w1 ⟨rfl, hb⟩
            have HB := Lib.hid hb
            clear hb
            go_wp2_with fail
            go_ret
            exact ⟨rfl, HB.out⟩
          · have HE : Hid (n = R) := by rw [Hid, ← HR.out, rdN, if_neg h0, if_neg h1, if_neg h2, if_neg h3, if_neg h4]
            go_enter Try.func29, Try.ntmps29
            go_wp2
            go_ret
            exact ⟨by rw [← HE.out]; rfl, Below.refl _ _⟩

set_option maxRecDepth 20000 in
set_option maxHeartbeats 2000000 in
theorem round_c (n way : Int) (w : World) : Calls Try.prog 10 #[.int .i64 n, .int .i64 way] w fun e w' => e = .returned (.int .i64 (rndS n way)) ∧ Below w.heap.size w w' := by
  obtain ⟨R, HR⟩ : ∃ R, Hid (rndS n way = R) := ⟨_, rfl⟩
  rw [HR.out]
  cases hf : fixB n
  · have HF := Lib.hid hf
    have HE : Hid (0 = R) := by rw [Hid, ← HR.out, rndS, if_pos hf]
    clear hf
    go_enter Try.func10, Try.ntmps10
    go_wp2_with fail
    refine (check_no n HF _).mono ?_
    rintro e w1 ⟨rfl, hb⟩
    have HB := Lib.hid hb
    clear hb
    go_wp2_with fail
    go_ret
    exact ⟨by rw [← HE.out]; rfl, HB.out⟩
  · have HF := Lib.hid hf
    have hbd := fixB_true hf
    by_cases hn : n < 0
    · have HE : Hid (-(rdN (-n) way) = R) := by rw [Hid, ← HR.out, rndS, if_neg (by rw [hf]; decide), if_pos hn]
      have HC := Lib.hid (fun V => rounded_c (-n) way V (by unfold Hid fixB; simp; omega) (by omega))
      have hw : wrap64 (-n) = -n := by unfold wrap64; omega
      obtain ⟨q, HQ⟩ : ∃ q, Hid (rdN (-n) way = q) := ⟨_, rfl⟩
      have hw2 : wrap64 (-q) = -q := by
        have := HQ.out
        unfold rdN at this
        unfold wrap64
        repeat' split at this
        all_goals omega
      rw [HQ.out] at HC HE
      clear hf hbd
      go_enter Try.func10, Try.ntmps10
      go_wp2_with fail
      refine (check_yes n HF _).mono ?_
      rintro e w1 ⟨rfl, hb⟩
      have HB := Lib.hid hb
      clear hb
      go_wp2_with fail
      (try rw [hw])
      refine (HC.out _).mono ?_
      rintro e w2 ⟨rfl, hb⟩
      have HB2 := Lib.hid (HB.out.trans (hb.mono HB.out.size))
      clear hb
      go_wp2_with fail
      go_ret
      refine ⟨?_, HB2.out⟩
      show Ending.returned (.int .i64 (wrap64 (-q))) = _
      rw [hw2, HE.out]
    · have HE : Hid (rdN n way = R) := by rw [Hid, ← HR.out, rndS, if_neg (by rw [hf]; decide), if_neg hn]
      have HC := Lib.hid (fun V => rounded_c n way V HF (by omega))
      rw [HE.out] at HC
      clear hf hbd
      go_enter Try.func10, Try.ntmps10
      go_wp2_with fail
      refine (check_yes n HF _).mono ?_
      rintro e w1 ⟨rfl, hb⟩
      have HB := Lib.hid hb
      clear hb
      go_wp2_with fail
      refine (HC.out _).mono ?_
      rintro e w2 ⟨rfl, hb⟩
      have HB2 := Lib.hid (HB.out.trans (hb.mono HB.out.size))
      clear hb
      go_wp2_with fail
      go_ret
      exact ⟨rfl, HB2.out⟩

/-- The document's, from 0 on. -/
theorem refround_up (n way : Int) (w : World) (H : Hid (fixB n = true)) (hn : 0 ≤ n) : Calls Try.prog 11 #[.int .i64 n, .int .i64 way] w fun e w' => e = .returned (.int .i64 (rdN n way)) ∧ w = w' := by
  obtain ⟨R, HR⟩ : ∃ R, Hid (rdN n way = R) := ⟨_, rfl⟩
  rw [HR.out]
  have HF := Lib.hid (fixB_true H.out)
  by_cases h0 : way = 0
  · subst h0
    have HE : Hid ((n + 32) / 64 * 64 = R) := by rw [Hid, ← HR.out, rdN, if_pos rfl]
    go_enter Try.func11, Try.ntmps11
    go_wp2_with fail
    refine (fix_any n _).mono ?_
    rintro e w1 ⟨rfl, rfl⟩
    rw [H.out]
    go_wp2_with fail
    go_ret
    refine ⟨?_, rfl⟩
    show Ending.returned (.int .i64 (wrap64 (wrap64 ((wrap64 (n + 32)).tdiv 64) * 64))) = _
    rw [rq hn HF.out.2 (by decide) (by decide) (.inr rfl), HE.out]
  · by_cases h1 : way = 1
    · subst h1
      have HE : Hid (n / 64 * 64 + 32 = R) := by rw [Hid, ← HR.out, rdN, if_neg (by decide), if_pos rfl]
      go_enter Try.func11, Try.ntmps11
      go_wp2_with fail
      refine (fix_any n _).mono ?_
      rintro e w1 ⟨rfl, rfl⟩
      rw [H.out]
      go_wp2_with fail
      go_ret
      refine ⟨?_, rfl⟩
      show Ending.returned (.int .i64 (wrap64 (wrap64 (wrap64 (n.tdiv 64) * 64) + 32))) = _
      rw [rq1 hn HF.out.2, HE.out]
    · by_cases h2 : way = 2
      · subst h2
        have HE : Hid ((n + 16) / 32 * 32 = R) := by rw [Hid, ← HR.out, rdN, if_neg (by decide), if_neg (by decide), if_pos rfl]
        go_enter Try.func11, Try.ntmps11
        go_wp2_with fail
        refine (fix_any n _).mono ?_
        rintro e w1 ⟨rfl, rfl⟩
        rw [H.out]
        go_wp2_with fail
        go_ret
        refine ⟨?_, rfl⟩
        show Ending.returned (.int .i64 (wrap64 (wrap64 ((wrap64 (n + 16)).tdiv 32) * 32))) = _
        rw [rq hn HF.out.2 (by decide) (by decide) (.inl rfl), HE.out]
      · by_cases h3 : way = 3
        · subst h3
          have HE : Hid (n / 64 * 64 = R) := by rw [Hid, ← HR.out, rdN, if_neg (by decide), if_neg (by decide), if_neg (by decide), if_pos rfl]
          go_enter Try.func11, Try.ntmps11
          go_wp2_with fail
          refine (fix_any n _).mono ?_
          rintro e w1 ⟨rfl, rfl⟩
          rw [H.out]
          go_wp2_with fail
          go_ret
          refine ⟨?_, rfl⟩
          show Ending.returned (.int .i64 (wrap64 (wrap64 (n.tdiv 64) * 64))) = _
          rw [rq0 hn HF.out.2, HE.out]
        · by_cases h4 : way = 4
          · subst h4
            have HE : Hid ((n + 63) / 64 * 64 = R) := by rw [Hid, ← HR.out, rdN, if_neg (by decide), if_neg (by decide), if_neg (by decide), if_neg (by decide), if_pos rfl]
            go_enter Try.func11, Try.ntmps11
            go_wp2_with fail
            refine (fix_any n _).mono ?_
            rintro e w1 ⟨rfl, rfl⟩
            rw [H.out]
            go_wp2_with fail
            go_ret
            refine ⟨?_, rfl⟩
            show Ending.returned (.int .i64 (wrap64 (wrap64 ((wrap64 (n + 63)).tdiv 64) * 64))) = _
            rw [rq hn HF.out.2 (by decide) (by decide) (.inr rfl), HE.out]
          · have HE : Hid (n = R) := by rw [Hid, ← HR.out, rdN, if_neg h0, if_neg h1, if_neg h2, if_neg h3, if_neg h4]
            go_enter Try.func11, Try.ntmps11
            go_wp2_with fail
            refine (fix_any n _).mono ?_
            rintro e w1 ⟨rfl, rfl⟩
            rw [H.out]
            go_wp2_with fail
            go_ret
            exact ⟨by rw [← HE.out]; rfl, rfl⟩

theorem refround_c (n way : Int) (w : World) : Calls Try.prog 11 #[.int .i64 n, .int .i64 way] w fun e w' => e = .returned (.int .i64 (rndS n way)) ∧ w = w' := by
  obtain ⟨R, HR⟩ : ∃ R, Hid (rndS n way = R) := ⟨_, rfl⟩
  rw [HR.out]
  cases hf : fixB n
  · have HF := Lib.hid hf
    have HE : Hid (0 = R) := by rw [Hid, ← HR.out, rndS, if_pos hf]
    clear hf
    go_enter Try.func11, Try.ntmps11
    go_wp2_with fail
    refine (fix_any n _).mono ?_
    rintro e w1 ⟨rfl, rfl⟩
    rw [HF.out]
    go_wp2_with fail
    go_ret
    exact ⟨by rw [← HE.out]; rfl, rfl⟩
  · have HF := Lib.hid hf
    have hbd := fixB_true hf
    by_cases hn : n < 0
    · have HE : Hid (-(rdN (-n) way) = R) := by rw [Hid, ← HR.out, rndS, if_neg (by rw [hf]; decide), if_pos hn]
      have HC := Lib.hid (fun V => refround_up (-n) way V (by unfold Hid fixB; simp; omega) (by omega))
      have hw : wrap64 (-n) = -n := by unfold wrap64; omega
      obtain ⟨q, HQ⟩ : ∃ q, Hid (rdN (-n) way = q) := ⟨_, rfl⟩
      have hw2 : wrap64 (-q) = -q := by
        have := HQ.out
        unfold rdN at this
        unfold wrap64
        repeat' split at this
        all_goals omega
      rw [HQ.out] at HC HE
      clear hf hbd
      go_enter Try.func11, Try.ntmps11
      go_wp2_with fail
      refine (fix_any n _).mono ?_
      rintro e w1 ⟨rfl, rfl⟩
      rw [HF.out]
      go_wp2_with fail
      (try rw [hw])
      refine (HC.out _).mono ?_
      rintro e w2 ⟨rfl, rfl⟩
      go_wp2_with fail
      go_ret
      refine ⟨?_, rfl⟩
      show Ending.returned (.int .i64 (wrap64 (-q))) = _
      rw [hw2, HE.out]
    · have HE : Hid (rdN n way = R) := by rw [Hid, ← HR.out, rndS, if_neg (by rw [hf]; decide), if_neg hn]
      have := refround_up n way w HF (by omega)
      rwa [HE.out] at this

end Go.Proofs.Ytnoadceeenioeaa
