/-
  What Sound of package gstate answers.
-/
import Derived.Test.YtnoadceeenioeaaZd
namespace Go.Proofs.Ytnoadceeenioeaa
open Go.RowKit Go.PlainAid
set_option linter.unusedSimpArgs false
set_option linter.unusedVariables false

/-- Is the zone sound? -/
def soundB (Z : Zn) : Bool := decide (Z.org.length ≤ 4096) && decide (Z.cur.length = Z.org.length) && decide (Z.tx.length = Z.org.length) && decide (Z.ty.length = Z.org.length) && riseB Z.org.length (-1) Z.ends && Z.org.all fixP && Z.cur.all fixP

set_option maxRecDepth 20000 in
set_option maxHeartbeats 2000000 in
theorem sound_c (Z : Zn) (a0 a1 a2 a3 a4 : Option Addr) (c0 c1 c2 c3 c4 : Nat) (w : World) (hz : ZIn w Z a0 a1 a2 a3 a4) (hl : ZLong Z) :
    Calls Try.prog 17 #[.agg #[.slice a0 Z.org.length c0, .slice a1 Z.cur.length c1, .slice a2 Z.tx.length c2, .slice a3 Z.ty.length c3, .slice a4 Z.ends.length c4]] w fun e w' => e = .returned (.bool (soundB Z)) ∧ Below w.heap.size w w' := by
  obtain ⟨Zo, Zc, Zx, Zy, Ze⟩ := Z
  dsimp only
  have HZ := Lib.hid hz
  have HL := Lib.hid hl
  clear hz hl
  have HB : Hid (Below w.heap.size w (w.alloc (.cells #[.slice a0 Zo.length c0, .slice a1 Zc.length c1, .slice a2 Zx.length c2, .slice a3 Zy.length c3, .slice a4 Ze.length c4] 31))) := bel_alloc (Below.refl _ _) _
  by_cases h1 : Zo.length ≤ 4096
  · by_cases h2 : Zc.length = Zo.length
    · by_cases h3 : Zx.length = Zo.length
      · by_cases h4 : Zy.length = Zo.length
        · have HS : Hid (soundB ⟨Zo, Zc, Zx, Zy, Ze⟩ = (riseB Zo.length (-1) Ze && Zo.all fixP && Zc.all fixP)) := by simp [Hid, soundB, h1, h2, h3, h4]
          have h1' : ¬ ((4096 : Int) < (Zo.length : Int)) := by omega
          rw [h2, h3, h4] at HB ⊢
          have hr := rise_c a4 c4 Ze Zo.length (w.alloc (.cells #[.slice a0 Zo.length c0, .slice a1 Zo.length c1, .slice a2 Zo.length c2, .slice a3 Zo.length c3, .slice a4 Ze.length c4] 31)) (HZ.out.r4.below HB.out) (by have := HL.out.l4; dsimp only at this; omega)
          have HR := Lib.hid hr
          have HN := Lib.hid h1
          have HC := Lib.hid h2
          clear hr h1 h2 h3 h4
          cases hk : riseB Zo.length (-1) Ze
          · rw [hk] at HS HR
            clear hk
            go_enter Try.func17, Try.ntmps17
            go_wp2_with fail
            refine HR.out.mono ?_
            rintro e w1 ⟨rfl, rfl⟩
            go_wp2_with fail
            go_ret
            exact ⟨by rw [HS.out]; rfl, HB.out⟩
          · rw [hk] at HS HR
            clear hk
            have HF := Lib.hid (allFixP_c a0 c0 Zo _ (HZ.out.r0.below HB.out) (by have := HN.out; omega))
            cases hk : Zo.all fixP
            · rw [hk] at HS HF
              clear hk
              go_enter Try.func17, Try.ntmps17
              go_wp2_with fail
              refine HR.out.mono ?_
              rintro e w1 ⟨rfl, rfl⟩
              go_wp2_with fail
              refine HF.out.mono ?_
              rintro e w1 ⟨rfl, hb1⟩
              have HB1 := Lib.hid (bel_next HB.out hb1)
              clear hb1
              go_wp2_with fail
              go_ret
              exact ⟨by rw [HS.out]; rfl, HB1.out⟩
            · rw [hk] at HS HF
              clear hk
              have HG := Lib.hid (fun w1 (h : IsR clS w1 a1 Zc) => allFixP_c a1 c1 Zc w1 h (by have := HN.out; have := HC.out; omega))
              rw [HC.out] at HG
              cases hk : Zc.all fixP
              all_goals
                rw [hk] at HS HG
                clear hk
                go_enter Try.func17, Try.ntmps17
                go_wp2_with fail
                refine HR.out.mono ?_
                rintro e w1 ⟨rfl, rfl⟩
                go_wp2_with fail
                refine HF.out.mono ?_
                rintro e w1 ⟨rfl, hb1⟩
                have HB1 := Lib.hid (bel_next HB.out hb1)
                have hc1 : w1.cell? ⟨w.heap.size, 1, none⟩ = some (.slice a1 Zo.length c1) := keepC hb1 (by go_simp)
                clear hb1
                go_wp2_with fail
                refine (HG.out _ (HZ.out.r1.below HB1.out)).mono ?_
                rintro e w2 ⟨rfl, hb2⟩
                have HB2 := Lib.hid (bel_next HB1.out hb2)
                clear hb2
                go_wp2_with fail
                go_ret
                exact ⟨by rw [HS.out]; rfl, HB2.out⟩
        · have HS : Hid (soundB ⟨Zo, Zc, Zx, Zy, Ze⟩ = false) := by simp [Hid, soundB, h1, h2, h3, h4]
          have h1' : ¬ ((4096 : Int) < (Zo.length : Int)) := by omega
          have h4' : ¬ ((Zy.length : Int) = (Zo.length : Int)) := by omega
          rw [h2, h3] at HB ⊢
          clear h1 h2 h3
          go_enter Try.func17, Try.ntmps17
          go_wp2_with fail
          go_ret
          exact ⟨by rw [HS.out]; rfl, HB.out⟩
      · have HS : Hid (soundB ⟨Zo, Zc, Zx, Zy, Ze⟩ = false) := by simp [Hid, soundB, h1, h2, h3]
        have h1' : ¬ ((4096 : Int) < (Zo.length : Int)) := by omega
        have h3' : ¬ ((Zx.length : Int) = (Zo.length : Int)) := by omega
        rw [h2] at HB ⊢
        clear h1 h2
        go_enter Try.func17, Try.ntmps17
        go_wp2_with fail
        go_ret
        exact ⟨by rw [HS.out]; rfl, HB.out⟩
    · have HS : Hid (soundB ⟨Zo, Zc, Zx, Zy, Ze⟩ = false) := by simp [Hid, soundB, h1, h2]
      have h1' : ¬ ((4096 : Int) < (Zo.length : Int)) := by omega
      have h2' : ¬ ((Zc.length : Int) = (Zo.length : Int)) := by omega
      clear h1
      go_enter Try.func17, Try.ntmps17
      go_wp2_with fail
      go_ret
      exact ⟨by rw [HS.out]; rfl, HB.out⟩
  · have HS : Hid (soundB ⟨Zo, Zc, Zx, Zy, Ze⟩ = false) := by simp [Hid, soundB, h1]
    have h1' : ((4096 : Int) < (Zo.length : Int)) := by omega
    clear h1
    go_enter Try.func17, Try.ntmps17
    go_wp2_with fail
    go_ret
    exact ⟨by rw [HS.out]; rfl, HB.out⟩

end Go.Proofs.Ytnoadceeenioeaa
