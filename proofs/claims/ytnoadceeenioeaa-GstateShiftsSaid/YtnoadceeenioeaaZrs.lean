/-
  What the document's Sound answers: what the program's does.
-/
import Derived.Test.YtnoadceeenioeaaZq
namespace Go.Proofs.Ytnoadceeenioeaa
open Go.RowKit Go.PlainAid
set_option linter.unusedSimpArgs false
set_option linter.unusedVariables false

theorem all_two {L M : List Sp} {n : Nat} (hL : L.length = n) (hM : M.length = n) (h : ∀ i, i < n → (∀ p, L[i]? = some p → fixP p = true) ∧ ∀ p, M[i]? = some p → fixP p = true) : (L.all fixP && M.all fixP) = true := by
  rw [Bool.and_eq_true, List.all_eq_true, List.all_eq_true]
  refine ⟨fun x hx => ?_, fun x hx => ?_⟩
  · obtain ⟨i, hi⟩ := List.mem_iff_getElem?.1 hx
    exact (h i (by have := (List.getElem?_eq_some_iff.1 hi).1; omega)).1 x hi
  · obtain ⟨i, hi⟩ := List.mem_iff_getElem?.1 hx
    exact (h i (by have := (List.getElem?_eq_some_iff.1 hi).1; omega)).2 x hi

set_option maxRecDepth 20000 in
set_option maxHeartbeats 8000000 in
theorem refsound_main (Z : Zn) (a0 a1 a2 a3 a4 : Option Addr) (c0 c1 c2 c3 c4 n : Nat) (w : World) (hz : ZIn w Z a0 a1 a2 a3 a4) (hl : ZLong Z) (h0 : Z.org.length = n) (h1 : Z.cur.length = n) (hn : n ≤ 4096) :
    Calls Try.prog 19 #[.agg #[.slice a0 n c0, .slice a1 n c1, .slice a2 n c2, .slice a3 n c3, .slice a4 Z.ends.length c4]] w fun e w' => e = .returned (.bool (riseB n (-1) Z.ends && Z.org.all fixP && Z.cur.all fixP)) ∧ Below w.heap.size w w' := by
  obtain ⟨R, HR⟩ : ∃ R, Hid ((riseB n (-1) Z.ends && Z.org.all fixP && Z.cur.all fixP) = R) := ⟨_, rfl⟩
  rw [HR.out]
  have HZ := Lib.hid hz
  have HL : Hid (Z.org.length = n ∧ Z.cur.length = n ∧ n ≤ 4096 ∧ Z.ends.length ≤ 140737488355328) := ⟨h0, h1, hn, by have := hl.l4; omega⟩
  obtain ⟨h, HH⟩ : ∃ h, Hid (w.heap.size = h) := ⟨_, rfl⟩
  have HB : Hid (Below w.heap.size w (w.alloc (.cells #[.slice a0 n c0, .slice a1 n c1, .slice a2 n c2, .slice a3 n c3, .slice a4 Z.ends.length c4] 31))) := bel_alloc (Below.refl _ _) _
  have HX := Lib.hid (bxW_new w (.slice a0 n c0) (.slice a1 n c1) (.slice a2 n c2) (.slice a3 n c3) (.slice a4 Z.ends.length c4))
  rw [HH.out] at HX
  have h1' : ¬ ((4096 : Int) < (n : Int)) := by omega
  clear hz hl h0 h1 hn
  go_enter Try.func19, Try.ntmps19
  go_upto_region 1 with (fail)
  rw [HH.out]
  generalize (w.alloc (.cells #[.slice a0 n c0, .slice a1 n c1, .slice a2 n c2, .slice a3 n c3, .slice a4 Z.ends.length c4] 31)) = W at *
  have k0 := HX.out.c0
  have k1 := HX.out.c1
  have k2 := HX.out.c2
  have k3 := HX.out.c3
  have k4 := HX.out.c4
  go_wp2_with fail
  clear h1'
  go_loopw [36] (fun x wr => ∃ (i : Nat) (b : Int), i ≤ Z.ends.length ∧ x = .int .i64 i ∧ Hid (riseB n (-1) Z.ends = riseB n b (Z.ends.drop i)) ∧ Hid ((i = 0 ∧ b = -1) ∨ (0 < i ∧ 0 ≤ b ∧ Z.ends[i - 1]? = some b)) ∧ wr = W) (fun x _ => Z.ends.length - (intOf x).toNat)
  case atStart => exact ⟨0, -1, Nat.zero_le _, rfl, rfl, .inl ⟨rfl, rfl⟩, rfl⟩
  case round =>
    obtain ⟨i, b, hi, rfl, HA, HP, rfl⟩ := hrel
    by_cases hlt : i < Z.ends.length
    · have hlt' : (i : Int) < (Z.ends.length : Int) := by omega
      have hi0 : (0 : Int) ≤ (i : Int) := by omega
      obtain ⟨e, he⟩ := get_of hlt
      obtain ⟨eb, eo, rfl, x0⟩ := (HZ.out.r4.below HB.out).num he
      have HS := Lib.hid (HA.out.trans (rise_step he))
      have HLT := Lib.hid hlt
      have HXX := Lib.hid (next64 (j := i) (by have := HL.out.2.2.2; omega))
      by_cases e0 : e < 0
      · have HE : Hid (R = false) := by
          have hp := HP.out
          rw [Hid, ← HR.out, HS.out, decide_eq_false (p := b < e) (by rcases hp with ⟨_, h⟩ | ⟨_, h, _⟩ <;> omega)]; simp
        clear he hi hlt
        go_wp2_with fail
        go_ret
        exact ⟨by rw [HE.out]; rfl, HB.out⟩
      · by_cases e1 : (n : Int) ≤ e
        · have HE : Hid (R = false) := by
            rw [Hid, ← HR.out, HS.out, decide_eq_false (p := e < n) (by omega)]; simp
          clear he hi hlt
          go_wp2_with fail
          go_ret
          exact ⟨by rw [HE.out]; rfl, HB.out⟩
        · by_cases hi1 : i = 0
          · have HE : Hid (riseB n (-1) Z.ends = riseB n e (Z.ends.drop (i + 1))) := by
              have hb : b = -1 := by rcases HP.out with ⟨_, h⟩ | ⟨h, _⟩; exact h; omega
              rw [Hid, HS.out, decide_eq_true (p := e < n) (by omega), decide_eq_true (p := b < e) (by omega)]; rfl
            have HP2 : Hid ((i + 1 = 0 ∧ e = -1) ∨ (0 < i + 1 ∧ 0 ≤ e ∧ Z.ends[i + 1 - 1]? = some e)) := .inr ⟨by omega, by omega, he⟩
            have hnp : ¬ (0 : Int) < (i : Int) := by omega
            clear he hi hlt hi1
            go_wp2_with fail
            go_roundw
            case rel => exact ⟨i + 1, e, HLT.out, by first | rfl | go_num | simp, HE, HP2, trivial⟩
            case measure => (try rw [HXX.out]); have := HLT.out; simp only [intOf]; omega
          · have hip : 0 < i := by omega
            have hp := HP.out
            have hq : 0 ≤ b ∧ Z.ends[i - 1]? = some b := by
              rcases hp with ⟨h, _⟩ | ⟨_, h⟩
              · omega
              · exact h
            obtain ⟨eb', eo', e', y0⟩ := (HZ.out.r4.below HB.out).num hq.2
            cases e'
            obtain ⟨j, hj⟩ : ∃ j, j = i - 1 := ⟨_, rfl⟩
            rw [← hj] at y0
            have hw : wrap64 ((i : Int) - 1) = (j : Int) := by have := HL.out.2.2.2; unfold wrap64; omega
            have hj1 : (j : Int) < (Z.ends.length : Int) := by omega
            have hj0 : (0 : Int) ≤ (j : Int) := by omega
            have hjp : (0 : Int) < (i : Int) := by omega
            by_cases e2 : e ≤ b
            · have HE : Hid (R = false) := by
                rw [Hid, ← HR.out, HS.out, decide_eq_false (p := b < e) (by omega)]; simp
              clear he hi hlt hp hq hi1 hip hj
              go_wp2_with fail
              go_ret
              exact ⟨by rw [HE.out]; rfl, HB.out⟩
            · have HE : Hid (riseB n (-1) Z.ends = riseB n e (Z.ends.drop (i + 1))) := by
                rw [Hid, HS.out, decide_eq_true (p := e < n) (by omega), decide_eq_true (p := b < e) (by omega)]; rfl
              have HP2 : Hid ((i + 1 = 0 ∧ e = -1) ∨ (0 < i + 1 ∧ 0 ≤ e ∧ Z.ends[i + 1 - 1]? = some e)) := .inr ⟨by omega, by omega, he⟩
              clear he hi hlt hp hq hi1 hip hj
              go_wp2_with fail
              go_roundw
              case rel => exact ⟨i + 1, e, HLT.out, by rw [HXX.out], HE, HP2, trivial⟩
              case measure => rw [HXX.out]; have := HLT.out; simp only [intOf]; omega
    · have hlt' : ¬ (i : Int) < (Z.ends.length : Int) := by omega
      have HT : Hid (riseB n (-1) Z.ends = true) := by
        have := HA.out
        rw [List.drop_eq_nil_of_le (by omega)] at this
        exact this
      clear hlt hi HA HP
      go_wp2_with fail
      generalize hwq : wr = W at *
      clear hwq
      go_loopw [6] (fun x wx => ∃ i : Nat, i ≤ n ∧ x = .int .i64 i ∧ Hid (∀ j, j < i → (∀ p, Z.org[j]? = some p → fixP p = true) ∧ ∀ p, Z.cur[j]? = some p → fixP p = true) ∧ wx = W) (fun x _ => n - (intOf x).toNat)
      case atStart => exact ⟨0, Nat.zero_le _, rfl, fun j hj => by omega, rfl⟩
      case round =>
        obtain ⟨i, hi, rfl, HF, rfl⟩ := hrel
        by_cases hlt : i < n
        · have hlt' : (i : Int) < (n : Int) := by omega
          have hi0 : (0 : Int) ≤ (i : Int) := by omega
          obtain ⟨s, hs⟩ := get_of (show i < Z.org.length by rw [HL.out.1]; exact hlt)
          obtain ⟨q, hq⟩ := get_of (show i < Z.cur.length by rw [HL.out.2.1]; exact hlt)
          obtain ⟨bo, oo, rfl, x0, x1⟩ := (HZ.out.r0.below HB.out).spot hs
          obtain ⟨bc, oc, rfl, y0, y1⟩ := (HZ.out.r1.below HB.out).spot hq
          have HLT := Lib.hid hlt
          have HXX := Lib.hid (next64 (j := i) (by have := HL.out.2.2.1; omega))
          have HSS := Lib.hid hs
          have HQQ := Lib.hid hq
          clear hs hq hi hlt
          obtain ⟨sx, sy⟩ := s
          obtain ⟨qx, qy⟩ := q
          dsimp only at x0 x1 y0 y1
          have bad : ∀ b : Bool, fixB sx = false ∨ fixB sy = false ∨ fixB qx = false ∨ fixB qy = false → R = false := by
            intro _ hb
            rw [← HR.out, HT.out]
            have h1 : (Z.org.all fixP && Z.cur.all fixP) = false := by
              rcases hb with hb | hb | hb | hb
              · rw [all_no HSS.out (by simp [fixP, hb])]; rfl
              · rw [all_no HSS.out (by simp [fixP, hb])]; rfl
              · rw [all_no HQQ.out (by simp [fixP, hb]), Bool.and_false]
              · rw [all_no HQQ.out (by simp [fixP, hb]), Bool.and_false]
            simpa using h1
          have HBAD := Lib.hid bad
          clear bad
          go_wp2_with fail
          refine (fix_any sx _).mono ?_
          rintro e w3 ⟨rfl, rfl⟩
          cases hb0 : fixB sx
          · have HE := Lib.hid (HBAD.out true (.inl hb0))
            clear hb0
            go_wp2_with fail
            go_ret
            exact ⟨by rw [HE.out]; rfl, HB.out⟩
          · have HG0 := Lib.hid hb0
            clear hb0
            go_wp2_with fail
            refine (fix_any sy _).mono ?_
            rintro e w3 ⟨rfl, rfl⟩
            cases hb0 : fixB sy
            · have HE := Lib.hid (HBAD.out true (.inr (.inl hb0)))
              clear hb0
              go_wp2_with fail
              go_ret
              exact ⟨by rw [HE.out]; rfl, HB.out⟩
            · have HG1 := Lib.hid hb0
              clear hb0
              go_wp2_with fail
              refine (fix_any qx _).mono ?_
              rintro e w3 ⟨rfl, rfl⟩
              cases hb0 : fixB qx
              · have HE := Lib.hid (HBAD.out true (.inr (.inr (.inl hb0))))
                clear hb0
                go_wp2_with fail
                go_ret
                exact ⟨by rw [HE.out]; rfl, HB.out⟩
              · have HG2 := Lib.hid hb0
                clear hb0
                go_wp2_with fail
                refine (fix_any qy _).mono ?_
                rintro e w3 ⟨rfl, rfl⟩
                cases hb0 : fixB qy
                · have HE := Lib.hid (HBAD.out true (.inr (.inr (.inr hb0))))
                  clear hb0
                  go_wp2_with fail
                  go_ret
                  exact ⟨by rw [HE.out]; rfl, HB.out⟩
                · have HG3 := Lib.hid hb0
                  have HF2 : Hid (∀ j, j < i + 1 → (∀ p, Z.org[j]? = some p → fixP p = true) ∧ ∀ p, Z.cur[j]? = some p → fixP p = true) := by
                    intro j hj
                    by_cases hji : j = i
                    · subst hji
                      refine ⟨fun p hp => ?_, fun p hp => ?_⟩
                      · rw [HSS.out] at hp; cases hp; simp [fixP, HG0.out, HG1.out]
                      · rw [HQQ.out] at hp; cases hp; simp [fixP, HG2.out, HG3.out]
                    · exact HF.out j (by omega)
                  clear hb0
                  go_wp2_with fail
                  go_roundw
                  case rel => exact ⟨i + 1, HLT.out, by rw [HXX.out], HF2, trivial⟩
                  case measure => rw [HXX.out]; have := HLT.out; simp only [intOf]; omega
        · have hlt' : ¬ (i : Int) < (n : Int) := by omega
          have HE : Hid (R = true) := by
            have h1 := all_two HL.out.1 HL.out.2.1 (fun j hj => HF.out j (by omega))
            rw [Hid, ← HR.out, HT.out]
            simpa using h1
          clear hlt
          go_wp2_with fail
          go_ret
          exact ⟨by rw [HE.out]; rfl, HB.out⟩

end Go.Proofs.Ytnoadceeenioeaa
