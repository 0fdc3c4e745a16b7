/-
  The walk of GstateRounds: it answers true for all numbers and ways, and changes nothing that was there.
-/
import Derived.Test.YtnoadceeenioeaaZal
namespace Go.Proofs.Ytnoadceeenioeaa
open Go.RowKit
set_option linter.unusedSimpArgs false
set_option linter.unusedVariables false

theorem rdN_ge {m way : Int} (h : 0 ≤ m) : 0 ≤ rdN m way := by unfold rdN; (repeat' split) <;> omega
theorem rdN_near {m way : Int} (h : 0 ≤ m) : -64 < rdN m way - m ∧ rdN m way - m < 64 := by unfold rdN; (repeat' split) <;> omega
theorem rdN_again {m way : Int} (h : 0 ≤ m) : rdN (rdN m way) way = rdN m way := by
  unfold rdN
  by_cases h0 : way = 0
  · simp only [if_pos h0]; omega
  · by_cases h1 : way = 1
    · simp only [if_neg h0, if_pos h1]; omega
    · by_cases h2 : way = 2
      · simp only [if_neg h0, if_neg h1, if_pos h2]; omega
      · by_cases h3 : way = 3
        · simp only [if_neg h0, if_neg h1, if_neg h2, if_pos h3]; omega
        · by_cases h4 : way = 4
          · simp only [if_neg h0, if_neg h1, if_neg h2, if_neg h3, if_pos h4]; omega
          · simp only [if_neg h0, if_neg h1, if_neg h2, if_neg h3, if_neg h4]
theorem rdN_zero {m way : Int} (h : 0 ≤ m) (hz : rdN m way = 0) : rdN 0 way = 0 := by
  unfold rdN at *
  (repeat' split at hz) <;> (repeat' split) <;> omega
theorem rnd_near {n way : Int} (hf : fixB n = true) : -64 < rndS n way - n ∧ rndS n way - n < 64 ∧ (n < 0 → rndS n way ≤ 0) ∧ (¬ n < 0 → 0 ≤ rndS n way) := by
  unfold rndS
  rw [if_neg (by rw [hf]; decide)]
  split
  · rename_i h
    have h1 := rdN_near (m := -n) (way := way) (by omega)
    have h2 := rdN_ge (m := -n) (way := way) (by omega)
    omega
  · rename_i h
    have h1 := rdN_near (m := n) (way := way) (by omega)
    have h2 := rdN_ge (m := n) (way := way) (by omega)
    omega
theorem rnd_again {n way : Int} (hf : fixB n = true) (hr : fixB (rndS n way) = true) : rndS (rndS n way) way = rndS n way := by
  have e : rndS n way = if n < 0 then -(rdN (-n) way) else rdN n way := by rw [rndS, if_neg (by rw [hf]; decide)]
  have e2 : rndS (rndS n way) way = if rndS n way < 0 then -(rdN (-(rndS n way)) way) else rdN (rndS n way) way := by rw [rndS, if_neg (by rw [hr]; decide)]
  rw [e2]
  by_cases h : n < 0
  · rw [if_pos h] at e
    have h2 := rdN_ge (m := -n) (way := way) (by omega)
    rw [e, Int.neg_neg, rdN_again (by omega)]
    split
    · rfl
    · have hz : rdN (-n) way = 0 := by omega
      rw [hz]
      exact rdN_zero (m := -n) (by omega) hz
  · rw [if_neg h] at e
    have h2 := rdN_ge (m := n) (way := way) (by omega)
    rw [e, if_neg (by omega), rdN_again (by omega)]

namespace gstateRounds
set_option maxRecDepth 20000 in
set_option maxHeartbeats 4000000 in
theorem walk (n way : Int) (w : World) (hn : (Lit.int .i64 n).wf = true) (hw : (Lit.int .i64 way).wf = true) : Calls Try.prog 4 #[.int .i64 n, .int .i64 way] w fun e w' => e = .returned (.bool true) ∧ Below w.heap.size w w' := by
  obtain ⟨r, HR⟩ : ∃ r, Hid (rndS n way = r) := ⟨_, rfl⟩
  have HC1 := Lib.hid (fun V => round_c n way V)
  have HC2 := Lib.hid (fun V => refround_c n way V)
  have HC3 := Lib.hid (fun V => round_c r way V)
  rw [HR.out] at HC1 HC2
  cases hf : fixB n
  · have HF := Lib.hid hf
    have HZ : Hid (r = 0) := by rw [Hid, ← HR.out, rndS, if_pos hf]
    have hz := HZ.out
    subst hz
    clear hf HZ
    go_enter Try.func4, Try.ntmps4
    go_wp2_with fail
    refine (alive_c _).mono ?_
    rintro e w1 ⟨rfl, hb⟩
    have HB := Lib.hid hb
    clear hb
    go_wp2_with fail
    refine (HC1.out _).mono ?_
    rintro e w2 ⟨rfl, hb⟩
    replace HB := Lib.hid (HB.out.trans (hb.mono HB.out.size))
    clear hb
    go_wp2_with fail
    refine (HC2.out _).mono ?_
    rintro e w3 ⟨rfl, rfl⟩
    go_wp2_with fail
    refine (fix_any n _).mono ?_
    rintro e w3 ⟨rfl, rfl⟩
    rw [HF.out]
    go_wp2_with fail
    go_ret
    exact ⟨rfl, HB.out⟩
  · have HF := Lib.hid hf
    have hbd := fixB_true hf
    obtain ⟨g1, g2, g3, g4⟩ := rnd_near (way := way) hf
    rw [HR.out] at g1 g2 g3 g4
    have HA : Hid (fixB r = true → rndS r way = r) := by
      intro h
      have := rnd_again (way := way) hf (by rw [HR.out]; exact h)
      rwa [HR.out] at this
    obtain ⟨d, HD⟩ : ∃ d, Hid (r - n = d) := ⟨_, rfl⟩
    have hw1 : wrap64 (r - n) = d := by rw [← HD.out]; unfold wrap64; omega
    rw [HD.out] at g1 g2
    clear hf hbd
    by_cases hng : n < 0
    · have g5 := g3 hng
      clear g3 g4
      cases hfr : fixB r
      · have HFR := Lib.hid hfr
        clear hfr
        go_enter Try.func4, Try.ntmps4
        go_wp2_with fail
        refine (alive_c _).mono ?_
        rintro e w1 ⟨rfl, hb⟩
        have HB := Lib.hid hb
        clear hb
        go_wp2_with fail
        refine (HC1.out _).mono ?_
        rintro e w2 ⟨rfl, hb⟩
        replace HB := Lib.hid (HB.out.trans (hb.mono HB.out.size))
        clear hb
        go_wp2_with fail
        refine (HC2.out _).mono ?_
        rintro e w3 ⟨rfl, rfl⟩
        go_wp2_with fail
        refine (fix_any n _).mono ?_
        rintro e w3 ⟨rfl, rfl⟩
        rw [HF.out]
        go_wp2_with fail
        refine (fix_any r _).mono ?_
        rintro e w3 ⟨rfl, rfl⟩
        rw [HFR.out]
        go_wp2_with fail
        go_ret
        exact ⟨rfl, HB.out⟩
      · have HFR := Lib.hid hfr
        have HRR := Lib.hid (HA.out hfr)
        rw [HRR.out] at HC3
        clear hfr
        go_enter Try.func4, Try.ntmps4
        go_wp2_with fail
        refine (alive_c _).mono ?_
        rintro e w1 ⟨rfl, hb⟩
        have HB := Lib.hid hb
        clear hb
        go_wp2_with fail
        refine (HC1.out _).mono ?_
        rintro e w2 ⟨rfl, hb⟩
        replace HB := Lib.hid (HB.out.trans (hb.mono HB.out.size))
        clear hb
        go_wp2_with fail
        refine (HC2.out _).mono ?_
        rintro e w3 ⟨rfl, rfl⟩
        go_wp2_with fail
        refine (fix_any n _).mono ?_
        rintro e w3 ⟨rfl, rfl⟩
        rw [HF.out]
        go_wp2_with fail
        refine (fix_any r _).mono ?_
        rintro e w3 ⟨rfl, rfl⟩
        rw [HFR.out]
        go_wp2_with fail
        refine (HC3.out _).mono ?_
        rintro e w4 ⟨rfl, hb⟩
        replace HB := Lib.hid (HB.out.trans (hb.mono HB.out.size))
        clear hb
        go_wp2_with fail
        go_ret
        exact ⟨rfl, HB.out⟩
    · have g5 := g4 hng
      have g6 : 0 ≤ n := by omega
      clear g3 g4
      cases hfr : fixB r
      · have HFR := Lib.hid hfr
        clear hfr
        go_enter Try.func4, Try.ntmps4
        go_wp2_with fail
        refine (alive_c _).mono ?_
        rintro e w1 ⟨rfl, hb⟩
        have HB := Lib.hid hb
        clear hb
        go_wp2_with fail
        refine (HC1.out _).mono ?_
        rintro e w2 ⟨rfl, hb⟩
        replace HB := Lib.hid (HB.out.trans (hb.mono HB.out.size))
        clear hb
        go_wp2_with fail
        refine (HC2.out _).mono ?_
        rintro e w3 ⟨rfl, rfl⟩
        go_wp2_with fail
        refine (fix_any n _).mono ?_
        rintro e w3 ⟨rfl, rfl⟩
        rw [HF.out]
        go_wp2_with fail
        refine (fix_any r _).mono ?_
        rintro e w3 ⟨rfl, rfl⟩
        rw [HFR.out]
        go_wp2_with fail
        go_ret
        exact ⟨rfl, HB.out⟩
      · have HFR := Lib.hid hfr
        have HRR := Lib.hid (HA.out hfr)
        rw [HRR.out] at HC3
        clear hfr
        go_enter Try.func4, Try.ntmps4
        go_wp2_with fail
        refine (alive_c _).mono ?_
        rintro e w1 ⟨rfl, hb⟩
        have HB := Lib.hid hb
        clear hb
        go_wp2_with fail
        refine (HC1.out _).mono ?_
        rintro e w2 ⟨rfl, hb⟩
        replace HB := Lib.hid (HB.out.trans (hb.mono HB.out.size))
        clear hb
        go_wp2_with fail
        refine (HC2.out _).mono ?_
        rintro e w3 ⟨rfl, rfl⟩
        go_wp2_with fail
        refine (fix_any n _).mono ?_
        rintro e w3 ⟨rfl, rfl⟩
        rw [HF.out]
        go_wp2_with fail
        refine (fix_any r _).mono ?_
        rintro e w3 ⟨rfl, rfl⟩
        rw [HFR.out]
        go_wp2_with fail
        refine (HC3.out _).mono ?_
        rintro e w4 ⟨rfl, hb⟩
        replace HB := Lib.hid (HB.out.trans (hb.mono HB.out.size))
        clear hb
        go_wp2_with fail
        go_ret
        exact ⟨rfl, HB.out⟩
end gstateRounds
end Go.Proofs.Ytnoadceeenioeaa
