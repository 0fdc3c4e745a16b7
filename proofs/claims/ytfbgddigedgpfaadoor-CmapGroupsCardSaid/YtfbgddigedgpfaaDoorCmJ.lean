/-
  What readFinder of package cmap answers: a function that finds glyphs, or an error; of groups just which.
-/
import Derived.Test.YtfbgddigedgpfaaDoorCmI
namespace Go.Proofs.YtfbgddigedgpfaaDoor
open Go.RowKit Go.PlainAid
set_option linter.unusedSimpArgs false
set_option linter.unusedVariables false

/-- Are there right groups at the place? -/
def isGrp (s : ByteArray) (p : Int) : Prop := (numOr s p 2).2 = 0 ∧ ((numOr s p 2).1 = 12 ∨ (numOr s p 2).1 = 13) ∧ grpGood (s.extract p.toNat s.size)
/-- The answer of a subtable of groups. -/
def grpOf (s : ByteArray) (p : Int) : Int → Int := grpAns (decide ((numOr s p 2).1 = 12)) (numOr (s.extract p.toNat s.size) 12 4).1.toNat (spF (s.extract p.toNat s.size) 16 12 tellG)
/-- What readFinder answers. -/
def FinderPost (s : ByteArray) (p : Int) (w : World) (e : Ending) (w' : World) : Prop :=
  Below w.heap.size w w' ∧ ((∃ a x, x ≠ 0 ∧ e = .returned (.tuple #[.int .i64 a, .nilFunc, .int .i64 x]) ∧ ¬ isGrp s p) ∨
    ∃ v ans, e = .returned (.tuple #[.int .i64 (numOr s p 2).1, v, .int .i64 0]) ∧ FindIs w.heap.size w' v ans ∧ (isGrp s p → ans = grpOf s p))

set_option maxHeartbeats 2000000 in
theorem readFinder_c (g : Nat) (s : ByteArray) (p : Int) (w : World) (hc : w.cell? ⟨g, 0, none⟩ = some (.string s)) (hs : (s.size : Int) ≤ 140737488355328) (hp0 : 0 ≤ p) (hp1 : p ≤ 4294967295) :
    Calls Tryd.prog 21 #[.pointer (some ⟨g, 0, none⟩), .int .i64 p] w (FinderPost s p w) := by
  have HSUB := Lib.hid (subtable_c g s p w hc hs hp0 hp1)
  obtain ⟨f, ef, HF⟩ := numOr_ex s p 2
  have HS : Hid (((s.extract p.toNat s.size).size : Int) ≤ 140737488355328) := by unfold Hid; rw [ByteArray.size_extract]; omega
  have HFG : Hid (isGrp s p ↔ ef = 0 ∧ (f = 12 ∨ f = 13) ∧ grpGood (s.extract p.toNat s.size)) := by unfold Hid isGrp; rw [HF.out]
  have HGO : Hid (grpOf s p = grpAns (decide (f = 12)) (numOr (s.extract p.toNat s.size) 12 4).1.toNat (spF (s.extract p.toNat s.size) 16 12 tellG)) := by unfold Hid grpOf; rw [HF.out]
  have HF1 : Hid ((numOr s p 2).1 = f ∧ (numOr s p 2).2 = ef) := by unfold Hid; rw [HF.out]; exact ⟨rfl, rfl⟩
  clear hc hs hp0 hp1
  go_enter Tryd.func21, Tryd.ntmps21
  go_wp2_with fail
  refine HSUB.out.mono ?_
  rintro e w1 ⟨hb1, ⟨hne, rfl⟩ | ⟨he0, gs, hgs, rfl, hv⟩⟩
  · have HN : Hid (¬ isGrp s p) := fun h => hne h.1
    have HB1 := Lib.hid hb1
    clear hb1 hne
    go_wp2_with fail
    go_ret3
    exact ⟨HB1.out, .inl ⟨0, 51, by decide, rfl, HN.out⟩⟩
  · have HB1 := Lib.hid hb1
    have HV := Lib.hid hv
    have HGS := Lib.hid hgs
    rw [HF1.out.1]
    clear hb1 hv he0 HSUB hgs
    generalize s.extract p.toNat s.size = sub at *
    by_cases h0 : f = 0
    · subst h0
      have HN : Hid (¬ isGrp s p) := fun h => by have := (HFG.out.1 h).2.1; omega
      go_wp2_with fail
      refine (readBytes_c w.heap.size gs sub w1 HB1.out.size HV.out HS.out).mono ?_
      rintro e w2 ⟨hb2, ⟨x, hx, rfl⟩ | ⟨v, ans, rfl, hf⟩⟩
      · have HB2 := Lib.hid (HB1.out.trans (hb2.mono HB1.out.size))
        have HX := Lib.hid hx
        clear hb2 hx
        go_wp2_with fail
        go_ret3
        exact ⟨HB2.out, .inl ⟨_, x, HX.out, rfl, HN.out⟩⟩
      · have HB2 := Lib.hid (HB1.out.trans (hb2.mono HB1.out.size))
        have HFI := Lib.hid hf
        clear hb2 hf
        go_wp2_with fail
        go_ret3
        exact ⟨HB2.out, .inr ⟨v, ans, by rw [HF1.out.1]; rfl, HFI.out, fun h => absurd h HN.out⟩⟩
    · have k0 : (f == 0) = false := by simpa using h0
      by_cases h4 : f = 4
      · subst h4
        have HN : Hid (¬ isGrp s p) := fun h => by have := (HFG.out.1 h).2.1; omega
        go_wp2_with fail
        refine (readSegments_c w.heap.size gs sub w1 HB1.out.size HGS.out HV.out HS.out).mono ?_
        rintro e w2 ⟨hb2, ⟨x, hx, rfl⟩ | ⟨v, ans, rfl, hf⟩⟩
        · have HB2 := Lib.hid (HB1.out.trans (hb2.mono HB1.out.size))
          have HX := Lib.hid hx
          clear hb2 hx
          go_wp2_with fail
          go_ret3
          exact ⟨HB2.out, .inl ⟨_, x, HX.out, rfl, HN.out⟩⟩
        · have HB2 := Lib.hid (HB1.out.trans (hb2.mono HB1.out.size))
          have HFI := Lib.hid hf
          clear hb2 hf
          go_wp2_with fail
          go_ret3
          exact ⟨HB2.out, .inr ⟨v, ans, by rw [HF1.out.1]; rfl, HFI.out, fun h => absurd h HN.out⟩⟩
      · have k4 : (f == 4) = false := by simpa using h4
        by_cases h6 : f = 6
        · subst h6
          have HN : Hid (¬ isGrp s p) := fun h => by have := (HFG.out.1 h).2.1; omega
          go_wp2_with fail
          refine (readRun_c w.heap.size gs sub w1 HB1.out.size HV.out HS.out).mono ?_
          rintro e w2 ⟨hb2, ⟨x, hx, rfl⟩ | ⟨v, ans, rfl, hf⟩⟩
          · have HB2 := Lib.hid (HB1.out.trans (hb2.mono HB1.out.size))
            have HX := Lib.hid hx
            clear hb2 hx
            go_wp2_with fail
            go_ret3
            exact ⟨HB2.out, .inl ⟨_, x, HX.out, rfl, HN.out⟩⟩
          · have HB2 := Lib.hid (HB1.out.trans (hb2.mono HB1.out.size))
            have HFI := Lib.hid hf
            clear hb2 hf
            go_wp2_with fail
            go_ret3
            exact ⟨HB2.out, .inr ⟨v, ans, by rw [HF1.out.1]; rfl, HFI.out, fun h => absurd h HN.out⟩⟩
        · have k6 : (f == 6) = false := by simpa using h6
          by_cases h12 : f = 12
          · subst h12
            go_wp2_with fail
            refine (readGroups_c w.heap.size gs sub true w1 HB1.out.size HV.out HS.out).mono ?_
            rintro e w2 ⟨hb2, ⟨hno, x, hx, rfl⟩ | ⟨hgood, v, rfl, hf⟩⟩
            · have HB2 := Lib.hid (HB1.out.trans (hb2.mono HB1.out.size))
              have HN : Hid (¬ isGrp s p) := fun h => hno (HFG.out.1 h).2.2
              have HX := Lib.hid hx
              clear hb2 hno hx
              go_wp2_with fail
              go_ret3
              exact ⟨HB2.out, .inl ⟨_, x, HX.out, rfl, HN.out⟩⟩
            · have HB2 := Lib.hid (HB1.out.trans (hb2.mono HB1.out.size))
              have HFI := Lib.hid hf
              clear hb2 hf hgood
              go_wp2_with fail
              go_ret3
              exact ⟨HB2.out, .inr ⟨v, _, by rw [HF1.out.1]; rfl, HFI.out, fun _ => by rw [HGO.out]; rfl⟩⟩
          · have k12 : (f == 12) = false := by simpa using h12
            by_cases h13 : f = 13
            · subst h13
              go_wp2_with fail
              refine (readGroups_c w.heap.size gs sub false w1 HB1.out.size HV.out HS.out).mono ?_
              rintro e w2 ⟨hb2, ⟨hno, x, hx, rfl⟩ | ⟨hgood, v, rfl, hf⟩⟩
              · have HB2 := Lib.hid (HB1.out.trans (hb2.mono HB1.out.size))
                have HN : Hid (¬ isGrp s p) := fun h => hno (HFG.out.1 h).2.2
                have HX := Lib.hid hx
                clear hb2 hno hx
                go_wp2_with fail
                go_ret3
                exact ⟨HB2.out, .inl ⟨_, x, HX.out, rfl, HN.out⟩⟩
              · have HB2 := Lib.hid (HB1.out.trans (hb2.mono HB1.out.size))
                have HFI := Lib.hid hf
                clear hb2 hf hgood
                go_wp2_with fail
                go_ret3
                exact ⟨HB2.out, .inr ⟨v, _, by rw [HF1.out.1]; rfl, HFI.out, fun _ => by rw [HGO.out]; rfl⟩⟩
            · have k13 : (f == 13) = false := by simpa using h13
              have HN : Hid (¬ isGrp s p) := fun h => by have := (HFG.out.1 h).2.1; omega
              go_wp2_with fail
              go_ret3
              exact ⟨HB1.out, .inl ⟨_, 52, by decide, rfl, HN.out⟩⟩

end Go.Proofs.YtfbgddigedgpfaaDoor
