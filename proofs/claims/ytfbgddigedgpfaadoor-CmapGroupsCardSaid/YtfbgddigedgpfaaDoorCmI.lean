/-
  What readSegments of package cmap answers.
-/
import Derived.Test.YtfbgddigedgpfaaDoorCmH
namespace Go.Proofs.YtfbgddigedgpfaaDoor
open Go.RowKit Go.PlainAid
set_option linter.unusedSimpArgs false
set_option linter.unusedVariables false

theorem seg_nonneg (s : ByteArray) (k : Nat) (code : Int) : 0 ≤ segAns s k code := by
  unfold segAns
  simp only
  split
  · split
    · omega
    · split
      · omega
      · omega
  · omega

set_option maxRecDepth 20000 in
set_option maxHeartbeats 2000000 in
theorem readSegments_c (N : Nat) (g : Nat) (s : ByteArray) (w : World) (hN : N ≤ w.heap.size) (hNg : N ≤ g) (hc : w.cell? ⟨g, 0, none⟩ = some (.string s)) (hs : (s.size : Int) ≤ 140737488355328) :
    Calls Tryd.prog 32 #[.pointer (some ⟨g, 0, none⟩)] w (ReadPost N w) := by
  have HNN0 := Lib.hid hN
  have HNG := Lib.hid hNg
  clear hN hNg
  have hmf : ∀ (fn : Fn) (first cap : Array Value) (w : World), (Instr.makeFunc fn first cap).run Tryd.prog w = .ok (.func fn first cap) w := fun _ _ _ _ => rfl
  have hb0 := (Below.refl w.heap.size w).alloc (Nat.le_refl _) (.cells #[.pointer (some ⟨g, 0, none⟩)] 39)
  have HC := Lib.hid (keepC hb0 hc)
  have HS := Lib.hid hs
  have HB0 := Lib.hid hb0
  obtain ⟨d, ed, HD⟩ := numOr_ex s 6 2
  have HDB := Lib.hid (num16_bound HD.out)
  clear hc hs hb0
  by_cases h1 : ed = 0
  · subst h1
    cases h2 : (d == 0)
    · have hm : d.tmod 2 = d % 2 := Int.tmod_eq_emod_of_nonneg HDB.out.1
      cases h3 : (d % 2 != 0)
      · obtain ⟨k, HKD⟩ : ∃ k : Nat, Hid (d = 2 * (k : Int)) := ⟨(d / 2).toNat, by have := HDB.out; simp at h3; unfold Hid; omega⟩
        have hq : wrap64 (d.tdiv 2) = (k : Int) := by have := HDB.out; have := HKD.out; rw [Int.tdiv_eq_ediv_of_nonneg (by omega)]; unfold wrap64; omega
        by_cases h4 : (4096 : Int) < (k : Int)
        · go_enter Tryd.func32, Tryd.ntmps32
          go_wp2_with fail
          refine (u16_c g 6 d 0 s _ HC.out HS.out (by decide) HD).mono ?_
          rintro e w1 ⟨rfl, rfl⟩
          go_wp2_with fail
          go_ret2
          exact ⟨HB0.out, .inl ⟨53, by decide, rfl⟩⟩
        · have HK : Hid (k ≤ 4096) := by unfold Hid; omega
          have hpp : ((16 + 6 * k : Nat) : Int) = 16 + 6 * (k : Int) := by omega
          have HPP := Lib.hid hpp
          clear hpp
          have HBB : Hid (Below w.heap.size w ((w.alloc (.cells #[.pointer (some ⟨g, 0, none⟩)] 39)).alloc (.cells #[.int .i64 (16 + 6 * (k : Int))] 3))) := HB0.out.alloc (by simp [go_sem]) _
          have HCB : Hid (((w.alloc (.cells #[.pointer (some ⟨g, 0, none⟩)] 39)).alloc (.cells #[.int .i64 (16 + 6 * (k : Int))] 3)).cell? ⟨g, 0, none⟩ = some (.string s)) := keepC ((Below.refl _ _).alloc (Nat.le_refl _) _) HC.out
          by_cases h5 : 16 + 8 * k ≤ s.size
          · have hu := u16s_yes g (16 + 6 * k) k s _ HCB.out HS.out (by have := HK.out; omega) (by omega)
            rw [HPP.out] at hu
            have HU := Lib.hid hu
            clear hu
            have HM1 : Hid (((w.alloc (.cells #[.pointer (some ⟨g, 0, none⟩)] 39)).alloc (.cells #[.int .i64 (16 + 6 * (k : Int))] 3)).cell? ⟨w.heap.size, 0, none⟩ = some (.pointer (some ⟨g, 0, none⟩))) := by unfold Hid; simp [go_sem]
            have HM2 : Hid (((w.alloc (.cells #[.pointer (some ⟨g, 0, none⟩)] 39)).alloc (.cells #[.int .i64 (16 + 6 * (k : Int))] 3)).cell? ⟨w.heap.size + 1, 0, none⟩ = some (.int .i64 (16 + 6 * (k : Int)))) := by unfold Hid; simp [go_sem]
            have HZ : Hid (((w.alloc (.cells #[.pointer (some ⟨g, 0, none⟩)] 39)).alloc (.cells #[.int .i64 (16 + 6 * (k : Int))] 3)).heap.size = w.heap.size + 1 + 1) := by unfold Hid; simp [go_sem]
            have H5 := Lib.hid h5
            clear h5
            go_enter Tryd.func32, Tryd.ntmps32
            go_wp2_with fail
            refine (u16_c g 6 d 0 s _ HC.out HS.out (by decide) HD).mono ?_
            rintro e w1 ⟨rfl, rfl⟩
            go_wp2_with fail
            refine HU.out.mono ?_
            rintro e w2 ⟨rfl, hi, hb2⟩
            rw [HZ.out] at hi ⊢
            have hb3 := (Below.refl w2.heap.size w2).alloc (Nat.le_refl _) (.cells #[.slice (some ⟨w.heap.size + 1 + 1, 0, none⟩) k k] 43)
            have HBC := Lib.hid ((HBB.out.trans (hb2.mono HBB.out.size)).alloc ((HBB.out.trans (hb2.mono HBB.out.size)).size) (.cells #[.slice (some ⟨w.heap.size + 1 + 1, 0, none⟩) k k] 43))
            have HV := Lib.hid (keepC hb3 (keepC hb2 HCB.out))
            have HN1 := Lib.hid (keepC hb3 (keepC hb2 HM1.out))
            have HN2c := Lib.hid (keepC hb3 (keepC hb2 HM2.out))
            have HN2 : Hid (N ≤ w2.heap.size) := Nat.le_trans (Nat.le_trans HNN0.out HBB.out.size) hb2.size
            have hsl := keepC hb3 (keepC hb2 HM1.out)
            have HN3 : Hid ((w2.alloc (.cells #[.slice (some ⟨w.heap.size + 1 + 1, 0, none⟩) k k] 43)).cell? ⟨w2.heap.size, 0, none⟩ = some (.slice (some ⟨w.heap.size + 1 + 1, 0, none⟩) k k)) := by unfold Hid; simp [go_sem]
            have HI := Lib.hid (hi.below hb3)
            have m1 := keepC hb2 HM1.out
            clear hi hb2 hb3 HU HM1 HM2 HZ HB0 HC HBB HCB
            go_wp2_with fail
            refine (segmentSpans_c g k s _ HV.out HS.out HK.out H5.out).mono ?_
            rintro e w4 ⟨hb4, rfl | ⟨gg, hgg, rfl, hfl, hri⟩⟩
            · have HB4 := Lib.hid (HBC.out.trans (hb4.mono HBC.out.size))
              clear hb4
              go_wp2_with fail
              go_ret2
              exact ⟨HB4.out.alloc HB4.out.size _, .inl ⟨51, by decide, rfl⟩⟩
            · have HB4 := Lib.hid (HBC.out.trans (hb4.mono HBC.out.size))
              have HQ1 := Lib.hid (keepC hb4 HN1.out)
              have HQ2 := Lib.hid (keepC hb4 HN2c.out)
              have HQ3 := Lib.hid (keepC hb4 HN3.out)
              have HQV := Lib.hid (keepC hb4 HV.out)
              have HQI := Lib.hid (HI.out.below hb4)
              have HFL := Lib.hid hfl
              have HRI := Lib.hid hri
              have HGG : Hid (N ≤ gg) := Nat.le_trans (Nat.le_trans HNN0.out HBC.out.size) hgg
              have HN4 : Hid (N ≤ w4.heap.size) := Nat.le_trans HNN0.out HB4.out.size
              clear hb4 hfl hri hgg
              go_wp2_with fail
              go_ret2
              refine ⟨HB4.out.alloc HB4.out.size _, .inr ⟨_, fun code => segAns s k code, rfl, _, _, rfl, fun args w => by kernel_rfl, ?_⟩⟩
              intro w' hb' code h0 h1
              have hba := (Below.refl w4.heap.size w4).alloc (Nat.le_refl _) (.cells #[.slice (some ⟨gg, 0, none⟩) k k] 48)
              refine ⟨seg_nonneg _ _ _, segment1_c w4.heap.size w2.heap.size w.heap.size (w.heap.size + 1) g (w.heap.size + 1 + 1) gg k s code w' (hb'.cell HN4.out (by simp [go_sem])) (hb'.cell HN2.out (keepC hba HQ3.out)) (hb'.cell HNN0.out (keepC hba HQ1.out)) (hb'.cell (by have := HNN0.out; omega) (keepC hba ?_)) (hb'.cell HNG.out (keepC hba HQV.out)) HS.out ?_ (hb'.flat HGG.out (HFL.out.below hba)) HRI.out HK.out h0 h1⟩
              · exact HQ2.out
              · exact hb'.ints (by have := HNN0.out; omega) (HQI.out.below hba)
          · have HU : Hid (Calls Tryd.prog 43 #[.pointer (some ⟨g, 0, none⟩), .int .i64 (16 + 6 * (k : Int)), .int .i64 (k : Int)] ((w.alloc (.cells #[.pointer (some ⟨g, 0, none⟩)] 39)).alloc (.cells #[.int .i64 (16 + 6 * (k : Int))] 3)) fun e w' => e = .returned (.tuple #[.slice none 0 0, .int .i64 21]) ∧ ((w.alloc (.cells #[.pointer (some ⟨g, 0, none⟩)] 39)).alloc (.cells #[.int .i64 (16 + 6 * (k : Int))] 3)) = w') := by
              have hh : hasB s (16 + 6 * (k : Int)) (2 * (k : Int)) = false := by simp [hasB]; omega
              cases hq : hasB s (16 + 6 * (k : Int)) (k : Int)
              · exact u16s_no1 g (16 + 6 * (k : Int)) k s _ HCB.out HS.out (by have := HK.out; omega) hq
              · exact u16s_no2 g (16 + 6 * (k : Int)) k s _ HCB.out HS.out (by have := HK.out; omega) hq hh
            clear h5
            go_enter Tryd.func32, Tryd.ntmps32
            go_wp2_with fail
            refine (u16_c g 6 d 0 s _ HC.out HS.out (by decide) HD).mono ?_
            rintro e w1 ⟨rfl, rfl⟩
            go_wp2_with fail
            refine HU.out.mono ?_
            rintro e w2 ⟨rfl, rfl⟩
            go_wp2_with fail
            go_ret2
            exact ⟨HBB.out.alloc (by simp [go_sem]; omega) _, .inl ⟨51, by decide, rfl⟩⟩
      · go_enter Tryd.func32, Tryd.ntmps32
        go_wp2_with fail
        refine (u16_c g 6 d 0 s _ HC.out HS.out (by decide) HD).mono ?_
        rintro e w1 ⟨rfl, rfl⟩
        go_wp2_with fail
        go_ret2
        exact ⟨HB0.out, .inl ⟨51, by decide, rfl⟩⟩
    · go_enter Tryd.func32, Tryd.ntmps32
      go_wp2_with fail
      refine (u16_c g 6 d 0 s _ HC.out HS.out (by decide) HD).mono ?_
      rintro e w1 ⟨rfl, rfl⟩
      go_wp2_with fail
      go_ret2
      exact ⟨HB0.out, .inl ⟨51, by decide, rfl⟩⟩
  · go_enter Tryd.func32, Tryd.ntmps32
    go_wp2_with fail
    refine (u16_c g 6 d ed s _ HC.out HS.out (by decide) HD).mono ?_
    rintro e w1 ⟨rfl, rfl⟩
    go_wp2_with fail
    go_ret2
    exact ⟨HB0.out, .inl ⟨51, by decide, rfl⟩⟩

end Go.Proofs.YtfbgddigedgpfaaDoor
