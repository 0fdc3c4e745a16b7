/-
  The walk of MetricBack: it answers true of any metrics, and changes nothing that was there.
-/
import Derived.Test.YtbcjicmledckbaaBackP
namespace Go.Proofs.Ytbcjicmledckbaa.metricBack
open Go.RowKit Go.PlainAid
set_option linter.unusedSimpArgs false
set_option linter.unusedVariables false

theorem mvar_set0 {w : World} {g : Nat} {u0 u1 u2 u3 u4 u5 u6 u7 u8 u : Value} (h : MVar w g [u0, u1, u2, u3, u4, u5, u6, u7, u8]) : MVar (w.setCell ⟨g, 0, none⟩ u) g [u, u1, u2, u3, u4, u5, u6, u7, u8] := by
  intro i hi
  cases i with
  | zero => rw [World.cell?_setCell_same _ _ _ (h 0 (by omega))]; rfl
  | succ i => rw [World.cell?_setCell_other _ _ _ _ (by simp), h (i + 1) hi]; rfl

set_option maxHeartbeats 8000000 in
set_option maxRecDepth 20000 in
theorem walk (v : Value) (m : Met) (A B P : Option Addr) (cA cB cP : Nat) (w : World) (hv : MetIn w m v A B P cA cB cP) :
    Calls Try.prog 5 #[v] w fun e w' => e = .returned (.bool true) ∧ Below w.heap.size w w' := by
  obtain ⟨rfl, hA, hB, hP, hr, hlA, hlB, hlP⟩ := hv
  obtain ⟨kd, u, G, a, d, gp, adv, bear, places⟩ := m
  simp only at *
  have HA := Lib.hid hA
  have HBB := Lib.hid hB
  have HP := Lib.hid hP
  clear hA hB hP hr hlA hlB hlP
  generalize hna : adv.length = nA at *
  generalize hnb : bear.length = nB at *
  generalize hnp : places.length = nP at *
  have HLN := Lib.hid (And.intro hna (And.intro hnb hnp))
  clear hna hnb hnp
  have HV0 := Lib.hid (mvar_alloc w [.int .i64 kd, .int .i64 u, .int .i64 G, .int .i64 a, .int .i64 d, .int .i64 gp, .slice A nA cA, .slice B nB cB, .slice P nP cP] 35)
  have HB0 : Hid (Below w.heap.size w (w.alloc (.cells #[.int .i64 kd, .int .i64 u, .int .i64 G, .int .i64 a, .int .i64 d, .int .i64 gp, .slice A nA cA, .slice B nB cB, .slice P nP cP] 35))) := (Below.refl _ _).alloc (Nat.le_refl _) _
  have hfz : (w.alloc (.cells #[.int .i64 kd, .int .i64 u, .int .i64 G, .int .i64 a, .int .i64 d, .int .i64 gp, .slice A nA cA, .slice B nB cB, .slice P nP cP] 35)).frozen? ⟨w.heap.size, 0, none⟩ = false := by simp [go_sem]
  have hlt0 : w.heap.size < (w.alloc (.cells #[.int .i64 kd, .int .i64 u, .int .i64 G, .int .i64 a, .int .i64 d, .int .i64 gp, .slice A nA cA, .slice B nB cB, .slice P nP cP] 35)).heap.size := by simp [go_sem]
  have HFZ := Lib.hid hfz
  have HLT0 := Lib.hid hlt0
  clear hfz hlt0
  go_enter Try.func5, Try.ntmps5
  go_wp2_with fail
  refine (alive_c _).mono ?_
  rintro e w1 ⟨rfl, hb1⟩
  have HV1 : Hid (MVar w1 w.heap.size [.int .i64 kd, .int .i64 u, .int .i64 G, .int .i64 a, .int .i64 d, .int .i64 gp, .slice A nA cA, .slice B nB cB, .slice P nP cP]) := HV0.out.below rfl hb1
  have HB1 := Lib.hid (HB0.out.trans (hb1.mono HB0.out.size))
  have HF1 : Hid (w1.frozen? ⟨w.heap.size, 0, none⟩ = false) := by unfold Hid; rw [hb1.frozen (by exact HLT0.out)]; exact HFZ.out
  have HLT1 : Hid (w.heap.size < w1.heap.size) := Nat.lt_of_lt_of_le HLT0.out hb1.size
  clear hb1 HV0 HB0 HFZ HLT0
  obtain ⟨d0, d1, d2, d3, d4, d5, d6, d7, d8⟩ := mvar_cells HV1.out
  by_cases c1 : u < 16
  · skip
    go_wp2_with fail
    go_ret
    exact ⟨rfl, HB1.out⟩
  by_cases c2 : 16384 < u
  · skip
    go_wp2_with fail
    go_ret
    exact ⟨rfl, HB1.out⟩
  by_cases c3 : G < 1
  · skip
    go_wp2_with fail
    go_ret
    exact ⟨rfl, HB1.out⟩
  by_cases c4 : 4096 < G
  · skip
    go_wp2_with fail
    go_ret
    exact ⟨rfl, HB1.out⟩
  by_cases c5 : ¬ (nA : Int) = G
  · skip
    have c5' : ((nA : Int) != G) = true := by simpa using c5
    go_wp2_with fail
    go_ret
    exact ⟨rfl, HB1.out⟩
  have c5' : ((nA : Int) != G) = false := by simpa using c5
  by_cases c6 : ¬ (nB : Int) = G
  · skip
    have c6' : ((nB : Int) != G) = true := by simpa using c6
    go_wp2_with fail
    go_ret
    exact ⟨rfl, HB1.out⟩
  have c6' : ((nB : Int) != G) = false := by simpa using c6
  by_cases c7 : 0 < nP
  · skip
    have c7' : (0 : Int) < (nP : Int) := by omega
    go_wp2_with fail
    go_ret
    exact ⟨rfl, HB1.out⟩
  have c7' : ¬ (0 : Int) < (nP : Int) := by omega
  have HU : Hid (16 ≤ u ∧ u ≤ 16384) := by unfold Hid; omega
  have HG : Hid (1 ≤ G ∧ G ≤ 4096 ∧ (nA : Int) = G ∧ (nB : Int) = G ∧ nP = 0) := by unfold Hid; simp at c5 c6; omega
  go_wp2_with fail
  clear c1 c2 c3 c4 c5 c6 c7 c5' c6' c7'
  go_loop [56] (fun i => ∃ k : Nat, k ≤ nA ∧ i = .int .i64 k ∧ Hid (∀ j, j < k → (0 ≤ adv.getD j 0 ∧ adv.getD j 0 ≤ 65535) ∧ (-32768 ≤ bear.getD j 0 ∧ bear.getD j 0 ≤ 32767))) (fun i => nA - (intOf i).toNat)
  case atStart => exact ⟨0, Nat.zero_le _, rfl, fun j hj => by omega⟩
  case round =>
    obtain ⟨k, hk, rfl, HAL⟩ := hrel
    by_cases hlt : k < nA
    · have hlt' : (k : Int) < (nA : Int) := by omega
      have hltb : (k : Int) < (nB : Int) := by have := HG.out; omega
      obtain ⟨_, h0 | ⟨bA, oA, rfl, hcA⟩⟩ := HA.out
      · omega
      obtain ⟨_, h0 | ⟨bB, oB, rfl, hcB⟩⟩ := HBB.out
      · omega
      have hx := keepC HB1.out (hcA k hlt)
      have hy := keepC HB1.out (hcB k (by have := HG.out; omega))
      have HNX : Hid ((0 ≤ adv.getD k 0 ∧ adv.getD k 0 ≤ 65535) → (-32768 ≤ bear.getD k 0 ∧ bear.getD k 0 ≤ 32767) → ∀ j, j < k + 1 → (0 ≤ adv.getD j 0 ∧ adv.getD j 0 ≤ 65535) ∧ (-32768 ≤ bear.getD j 0 ∧ bear.getD j 0 ≤ 32767)) := by
        intro h1 h2 j hj
        by_cases e : j = k
        · subst e; exact ⟨h1, h2⟩
        · exact HAL.out j (by omega)
      generalize adv.getD k 0 = x at *
      generalize bear.getD k 0 = y at *
      clear hcA hcB
      by_cases e1 : x < 0
      · go_wp2_with fail
        go_ret
        exact ⟨rfl, HB1.out⟩
      by_cases e2 : 65535 < x
      · go_wp2_with fail
        go_ret
        exact ⟨rfl, HB1.out⟩
      by_cases e3 : y < -32768
      · go_wp2_with fail
        go_ret
        exact ⟨rfl, HB1.out⟩
      by_cases e4 : 32767 < y
      · go_wp2_with fail
        go_ret
        exact ⟨rfl, HB1.out⟩
      · have HN2 := Lib.hid (HNX.out (by omega) (by omega))
        go_wp2_with fail
        have HW7 : Hid (wrap64 ((k : Int) + 1) = ((k + 1 : Nat) : Int)) := by have := HG.out; unfold Hid wrap64; omega
        go_round
        case rel => exact ⟨k + 1, by omega, by first | rfl | rw [HW7.out], HN2⟩
        case measure => (try rw [HW7.out]); simp only [intOf]; omega
    · have hlt' : ¬ (k : Int) < (nA : Int) := by omega
      have HADV : Hid ((∀ x ∈ adv, 0 ≤ x ∧ x ≤ 65535) ∧ ∀ x ∈ bear, -32768 ≤ x ∧ x ≤ 32767) := by
        have h1 := HLN.out
        have h2 := HG.out
        exact ⟨getD_all (fun j hj => (HAL.out j (by omega)).1), getD_all (fun j hj => (HAL.out j (by omega)).2)⟩
      have hb2 : Below w1.heap.size w1 (w1.alloc (.cells #[.int .i64 a, .int .i64 d, .int .i64 gp] 3)) := (Below.refl _ _).alloc (Nat.le_refl _) _
      have HI2 : Hid (IntsAt (w1.alloc (.cells #[.int .i64 a, .int .i64 d, .int .i64 gp] 3)) w1.heap.size [a, d, gp]) := intsAt_alloc w1 [a, d, gp]
      have HB2 := Lib.hid (HB1.out.trans (hb2.mono HB1.out.size))
      have HV2 := Lib.hid (HV1.out.below rfl hb2)
      have HF2 : Hid ((w1.alloc (.cells #[.int .i64 a, .int .i64 d, .int .i64 gp] 3)).frozen? ⟨w.heap.size, 0, none⟩ = false) := by unfold Hid; rw [hb2.frozen (by exact HLT1.out)]; exact HF1.out
      have HLT2 : Hid (w.heap.size < (w1.alloc (.cells #[.int .i64 a, .int .i64 d, .int .i64 gp] 3)).heap.size) := Nat.lt_of_lt_of_le HLT1.out hb2.size
      clear hb2
      go_wp2_with fail
      clear d0 d1 d2 d3 d4 d5 d6 d7 d8 HB1 HF1 HLT1 HAL hk hlt hlt'
      generalize (w1.alloc (.cells #[.int .i64 a, .int .i64 d, .int .i64 gp] 3)) = w2 at *
      generalize w1.heap.size = g1 at *
      go_loop [98] (fun i => ∃ k : Nat, k ≤ 3 ∧ i = .int .i64 k ∧ Hid (∀ j, j < k → -32768 ≤ [a, d, gp].getD j 0 ∧ [a, d, gp].getD j 0 ≤ 32767)) (fun i => 3 - (intOf i).toNat)
      case atStart => exact ⟨0, Nat.zero_le _, rfl, fun j hj => by omega⟩
      case round =>
        obtain ⟨k, hk, rfl, HAL⟩ := hrel
        by_cases hlt : k < 3
        · have hlt' : (k : Int) < 3 := by omega
          have hx := HI2.out.cell (i := k) (by simpa using hlt)
          have HNX : Hid ((-32768 ≤ [a, d, gp].getD k 0 ∧ [a, d, gp].getD k 0 ≤ 32767) → ∀ j, j < k + 1 → -32768 ≤ [a, d, gp].getD j 0 ∧ [a, d, gp].getD j 0 ≤ 32767) := by
            intro h1 j hj
            by_cases e : j = k
            · subst e; exact h1
            · exact HAL.out j (by omega)
          generalize [a, d, gp].getD k 0 = x at *
          by_cases e1 : x < -32768
          · go_wp2_with fail
            go_ret
            exact ⟨rfl, HB2.out⟩
          by_cases e2 : 32767 < x
          · go_wp2_with fail
            go_ret
            exact ⟨rfl, HB2.out⟩
          · have HN2 := Lib.hid (HNX.out (by omega))
            go_wp2_with fail
            have HW7 : Hid (wrap64 ((k : Int) + 1) = ((k + 1 : Nat) : Int)) := by unfold Hid wrap64; omega
            go_round
            case rel => exact ⟨k + 1, by omega, by first | rfl | rw [HW7.out], HN2⟩
            case measure => (try rw [HW7.out]); simp only [intOf]; omega
        · have hlt' : ¬ (k : Int) < 3 := by omega
          have HLIM : Hid (Lim ⟨2, u, G, a, d, gp, adv, bear, places⟩) := by
            have h1 := HLN.out
            have h2 := HG.out
            exact ⟨HU.out, ⟨h2.1, h2.2.1⟩, by rw [h1.1]; exact h2.2.2.1, by rw [h1.2.1]; exact h2.2.2.2.1, List.eq_nil_of_length_eq_zero (by rw [h1.2.2]; exact h2.2.2.2.2), HADV.out.1, HADV.out.2, getD_all (fun j hj => HAL.out j (by simp at hj; omega))⟩
          clear HAL hk hlt
          obtain ⟨d0, d1, d2, d3, d4, d5, d6, d7, d8⟩ := mvar_cells HV2.out
          have hf2 := HF2.out
          have HB3 : Hid (Below w.heap.size w (w2.setCell ⟨w.heap.size, 0, none⟩ (.int .i64 2))) := HB2.out.setCell (p := ⟨w.heap.size, 0, none⟩) (Nat.le_refl _) _
          have HV3 : Hid (MVar (w2.setCell ⟨w.heap.size, 0, none⟩ (.int .i64 2)) w.heap.size [.int .i64 2, .int .i64 u, .int .i64 G, .int .i64 a, .int .i64 d, .int .i64 gp, .slice A nA cA, .slice B nB cB, .slice P nP cP]) := mvar_set0 HV2.out
          have HM3 : Hid (IsMet (w2.setCell ⟨w.heap.size, 0, none⟩ (.int .i64 2)) ⟨2, u, G, a, d, gp, adv, bear, places⟩ (.agg #[.int .i64 2, .int .i64 u, .int .i64 G, .int .i64 a, .int .i64 d, .int .i64 gp, .slice A nA cA, .slice B nB cB, .slice P nP cP])) := by
            have h1 := HLN.out
            have h2 := HG.out
            refine ⟨A, B, P, cA, cB, cP, by simp only [h1.1, h1.2.1, h1.2.2], ?_, ?_, ?_, ?_, ?_, ?_⟩
            · have := HA.out.below HB3.out; simp only [h1.1]; exact this
            · have := HBB.out.below HB3.out; simp only [h1.2.1]; exact this
            · have := HP.out.below HB3.out; simp only [h1.2.2]; exact this
            · simp only [h1.1]; omega
            · simp only [h1.2.1]; omega
            · simp only [h1.2.2]; omega
          go_wp2_with fail
          clear d0 d1 d2 d3 d4 d5 d6 d7 d8 hf2 HB2 HV2 HF2 HLT2 HI2
          generalize (w2.setCell ⟨w.heap.size, 0, none⟩ (.int .i64 2)) = w0 at *
          refine (pieces_c ⟨2, u, G, a, d, gp, adv, bear, places⟩ _ w0 HM3.out HLIM.out.fine).mono ?_
          rintro e w4 ⟨g2, c2, l, Bp, rfl, ho2, hp2, hB1, hB2, hb2⟩
          have hgc := cff_cells w4
          have HO2 := Lib.hid (owns_stay ho2 hgc.2.2)
          have HLL : Hid (l.length = 4) := by
            have h9 := pcIs_length (hp2 w4 (Below.refl _ _))
            unfold piecesOf at h9
            rw [if_pos (by exact HLIM.out.places)] at h9
            exact h9
          have HPP := Lib.hid hp2
          have HBP := Lib.hid (And.intro hB1 hB2)
          have HB02 := Lib.hid hb2
          have HBa := Lib.hid (hgc.2.2.mono hB2)
          have hg0 := hgc.1
          have hg1 := hgc.2.1
          have hbz := hgc.2.2.size
          have HBZ := Lib.hid hbz
          clear hgc ho2 hp2 hb2 hB1 hB2 hbz
          go_wp2_with (at_builtin; refine wpList_addP rfl _ _ rfl (w4.alloc (.cells #[.string ⟨#[67, 70, 70, 32]⟩, .slice none 0 0] 48)) Bp g2 c2 l ⟨tagB cffTg, none, 0, 0⟩ w4.heap.size l.length rfl rfl rfl HO2.out hg0 hg1 (by have := HLL.out; omega) (by have := HBP.out; have := HBZ.out; omega) ?_; intro g3 c3 w5 ho3 hg3 hat3; have HO3 := Lib.hid ho3; have HB5 := Lib.hid (grown_below HBa.out hg3 (by have := HBP.out; have := HBZ.out; omega) (owns_lt HO2.out).2); clear ho3 hg3 hat3)
          have HP3 := Lib.hid (sort_cff (m := ⟨2, u, G, a, d, gp, adv, bear, places⟩) HLIM.out.places (HPP.out w5 HB5.out) none 0 (none_isB w5))
          have HB05 := Lib.hid (HB02.out.trans (HB5.out.mono HBP.out.1))
          clear HB02 HBa HB5 hg0 hg1 HO2 HPP
          refine (sorted_n g3 c3 (l.length + 1) (l ++ [⟨tagB cffTg, none, 0, 0⟩]) w5 (by simp) (ownP_in HO3.out) (by have := HLL.out; simp; omega)).mono ?_
          rintro e w6 ⟨g4, c4, rfl, ho4, hb4⟩
          have HIP := Lib.hid (inP_isP (ownP_in ho4) (PcIs.below hb4 HP3.out))
          have HB06 := Lib.hid (HB05.out.trans (hb4.mono HB05.out.size))
          clear ho4 hb4 HB05 HP3 HO3
          have HBK := Lib.hid (HLIM.out.back rfl)
          have HGC := Lib.hid (goodC ⟨2, u, G, a, d, gp, adv, bear, places⟩)
          have HBC : Hid (bigEnough (cffPieces ⟨2, u, G, a, d, gp, adv, bear, places⟩)) := bigC _ (by have h1 := HLIM.out.adv; have h2 := HLIM.out.bear; simp only at h1 h2 ⊢; omega) (by have h1 := HLIM.out.adv; have h2 := HLIM.out.glyphs; simp only at h1 h2 ⊢; omega)
          have HCL : Hid ((cffPieces ⟨2, u, G, a, d, gp, adv, bear, places⟩).length = 5) := by unfold Hid; simp [cffPieces]
          generalize cffPieces ⟨2, u, G, a, d, gp, adv, bear, places⟩ = cps at *
          go_wp2_with fail
          refine (build2_n g4 c4 (l.length + 1) cps w6 (by have := HLL.out; have := HCL.out; omega) HIP.out HGC.out HBC.out).mono ?_
          rintro e w7 ⟨g5, c5, rfl, ho5, hb5⟩
          have HO5 := Lib.hid ho5
          have HB07 := Lib.hid (HB06.out.trans (hb5.mono HB06.out.size))
          clear ho5 hb5 HB06 HIP
          generalize madeB 2 cps = file at *
          generalize rowsL 92 cps = rows at *
          go_wp2_with fail
          refine (open_of HO5.out HBK.out.1).mono ?_
          rintro e w8 ⟨gf, rfl, hf8, hb8⟩
          have HF8 := Lib.hid hf8
          have HB08 := Lib.hid (HB07.out.trans (hb8.mono HB07.out.size))
          clear hf8 hb8 HB07 HO5
          go_wp2_with fail
          refine (read_c w8.heap.size gf 2 (.inr rfl) rows file w8 HF8.out (Nat.le_refl _)).mono ?_
          rw [HBK.out.2]
          rintro e w9 ⟨v, rfl, hm9, hb9⟩
          have HB09 := Lib.hid (HB08.out.trans (hb9.mono HB08.out.size))
          have HV9 := Lib.hid (HV3.out.below rfl HB09.out)
          have HM9 := Lib.hid (HM3.out.below HB09.out)
          have HI9 := Lib.hid hm9.isMet
          obtain ⟨ga, gb, pv, hv, h91, h92, h93, h94, hp, h95⟩ := hm9
          clear h91 h92 h93 h94 h95
          obtain ⟨pa, pn, pc, rfl⟩ := rowAt_slice hp
          simp only at hv
          generalize adv.length = la at *
          generalize bear.length = lb at *
          subst hv
          clear hb9 hp HB08 HF8
          have hba : Below w9.heap.size w9 (w9.alloc (.cells #[.int .i64 2, .int .i64 u, .int .i64 G, .int .i64 a, .int .i64 d, .int .i64 gp, .slice (some ⟨ga, 0, none⟩) la la, .slice (some ⟨gb, 0, none⟩) lb lb, .slice pa pn pc] 35)) := (Below.refl _ _).alloc (Nat.le_refl _) _
          have HB10 := Lib.hid (HB09.out.trans (hba.mono HB09.out.size))
          obtain ⟨d0, d1, d2, d3, d4, d5, d6, d7, d8⟩ := mvar_cells (HV9.out.below rfl hba)
          have HI10 := Lib.hid (HI9.out.below hba)
          have HM10 := Lib.hid (HM9.out.below hba)
          clear hba
          go_wp2_with fail
          refine (same_c ⟨2, u, G, a, d, gp, adv, bear, places⟩ _ _ _ HI10.out HM10.out).mono ?_
          rintro e w11 ⟨rfl, hb11⟩
          have HB11 := Lib.hid (HB10.out.trans (hb11.mono HB10.out.size))
          clear hb11
          go_wp2_with fail
          go_ret
          exact ⟨rfl, HB3.out.trans (HB11.out.mono HB3.out.size)⟩

end Go.Proofs.Ytbcjicmledckbaa.metricBack
