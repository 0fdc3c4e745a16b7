/-
  The walk of MetricAsks: it answers true of any metrics and glyph, and changes nothing that was there.
-/
import Derived.Test.YtbcjicmledckbaaMAskC
namespace Go.Proofs.Ytbcjicmledckbaa.metricAsks
open Go.RowKit Go.PlainAid
set_option linter.unusedSimpArgs false
set_option linter.unusedVariables false

set_option maxHeartbeats 8000000 in
set_option maxRecDepth 20000 in
theorem walk (v : Value) (m : Met) (A B P : Option Addr) (cA cB cP : Nat) (g : Int) (w : World) (hv : MetIn w m v A B P cA cB cP) (hg : (Lit.int .i64 g).wf = true) :
    Calls Try.prog 6 #[v, .int .i64 g] w fun e w' => e = .returned (.bool true) ∧ Below w.heap.size w w' := by
  obtain ⟨rfl, hA, hB, hP, hr, hlA, hlB, hlP⟩ := hv
  obtain ⟨kd, u, G, a, d, gp, adv, bear, places⟩ := m
  simp only at *
  have HA := Lib.hid hA
  have HP := Lib.hid hP
  have HR := Lib.hid (hr G (by simp))
  have HLP := Lib.hid hlP
  have HLA := Lib.hid hlA
  clear hA hB hP hr hlA hlB hlP
  generalize adv.length = nA at *
  generalize bear.length = nB at *
  generalize places.length = nP at *
  have HV0 := Lib.hid (mvar_alloc w [.int .i64 kd, .int .i64 u, .int .i64 G, .int .i64 a, .int .i64 d, .int .i64 gp, .slice A nA cA, .slice B nB cB, .slice P nP cP] 35)
  have HB0 := Lib.hid (box_bel kd u G a d gp A B P nA cA nB cB nP cP w)
  go_enter Try.func6, Try.ntmps6
  go_wp2_with fail
  refine (alive_c _).mono ?_
  rintro e w1 ⟨rfl, hb1⟩
  have HV1 : Hid (MVar w1 w.heap.size [.int .i64 kd, .int .i64 u, .int .i64 G, .int .i64 a, .int .i64 d, .int .i64 gp, .slice A nA cA, .slice B nB cB, .slice P nP cP]) := HV0.out.below rfl hb1
  have HB1 := Lib.hid (HB0.out.trans (hb1.mono HB0.out.size))
  clear hb1 HV0 HB0
  obtain ⟨d0, d1, d2, d3, d4, d5, d6, d7, d8⟩ := mvar_cells HV1.out
  by_cases h1 : g < 0
  · have HBAD : Hid (g < 0 ∨ G ≤ g ∨ (nA : Int) < G) := .inl h1
    go_wp2_with fail
    refine (adv_no kd u G a d gp g A B P nA cA nB cB nP cP w1 HBAD.out).mono ?_
    rintro e w2 ⟨rfl, hb2⟩
    have HV2 := Lib.hid (HV1.out.below rfl hb2)
    have HB2 := Lib.hid (HB1.out.trans (hb2.mono HB1.out.size))
    obtain ⟨d0, d1, d2, d3, d4, d5, d6, d7, d8⟩ := mvar_cells HV2.out
    clear hb2
    go_wp2_with fail
    refine (place_no kd u G a d gp g A B P nA cA nB cB nP cP w2 HBAD.out).mono ?_
    rintro e w3 ⟨rfl, hb3⟩
    have HB3 := Lib.hid (HB2.out.trans (hb3.mono HB2.out.size))
    have HV3 := Lib.hid (HV2.out.below rfl hb3)
    clear d0 d1 d2 d3 d4 d5 d6 d7 d8
    obtain ⟨d0, d1, d2, d3, d4, d5, d6, d7, d8⟩ := mvar_cells HV3.out
    clear hb3
    go_wp2_with fail
    go_ret
    exact ⟨rfl, HB3.out⟩
  by_cases h2 : G ≤ g
  · have HBAD : Hid (g < 0 ∨ G ≤ g ∨ (nA : Int) < G) := .inr (.inl h2)
    go_wp2_with fail
    refine (adv_no kd u G a d gp g A B P nA cA nB cB nP cP w1 HBAD.out).mono ?_
    rintro e w2 ⟨rfl, hb2⟩
    have HV2 := Lib.hid (HV1.out.below rfl hb2)
    have HB2 := Lib.hid (HB1.out.trans (hb2.mono HB1.out.size))
    obtain ⟨d0, d1, d2, d3, d4, d5, d6, d7, d8⟩ := mvar_cells HV2.out
    clear hb2
    go_wp2_with fail
    refine (place_no kd u G a d gp g A B P nA cA nB cB nP cP w2 HBAD.out).mono ?_
    rintro e w3 ⟨rfl, hb3⟩
    have HB3 := Lib.hid (HB2.out.trans (hb3.mono HB2.out.size))
    have HV3 := Lib.hid (HV2.out.below rfl hb3)
    clear d0 d1 d2 d3 d4 d5 d6 d7 d8
    obtain ⟨d0, d1, d2, d3, d4, d5, d6, d7, d8⟩ := mvar_cells HV3.out
    clear hb3
    go_wp2_with fail
    go_ret
    exact ⟨rfl, HB3.out⟩
  by_cases h3 : (nA : Int) < G
  · have HBAD : Hid (g < 0 ∨ G ≤ g ∨ (nA : Int) < G) := .inr (.inr h3)
    go_wp2_with fail
    refine (adv_no kd u G a d gp g A B P nA cA nB cB nP cP w1 HBAD.out).mono ?_
    rintro e w2 ⟨rfl, hb2⟩
    have HV2 := Lib.hid (HV1.out.below rfl hb2)
    have HB2 := Lib.hid (HB1.out.trans (hb2.mono HB1.out.size))
    obtain ⟨d0, d1, d2, d3, d4, d5, d6, d7, d8⟩ := mvar_cells HV2.out
    clear hb2
    go_wp2_with fail
    refine (place_no kd u G a d gp g A B P nA cA nB cB nP cP w2 HBAD.out).mono ?_
    rintro e w3 ⟨rfl, hb3⟩
    have HB3 := Lib.hid (HB2.out.trans (hb3.mono HB2.out.size))
    have HV3 := Lib.hid (HV2.out.below rfl hb3)
    clear d0 d1 d2 d3 d4 d5 d6 d7 d8
    obtain ⟨d0, d1, d2, d3, d4, d5, d6, d7, d8⟩ := mvar_cells HV3.out
    clear hb3
    go_wp2_with fail
    go_ret
    exact ⟨rfl, HB3.out⟩
  obtain ⟨k, rfl⟩ : ∃ k : Nat, g = k := ⟨g.toNat, by omega⟩
  obtain ⟨n, rfl⟩ : ∃ n : Nat, G = n := ⟨G.toNat, by omega⟩
  have HKN : Hid (k < n ∧ n ≤ nA) := by unfold Hid; omega
  obtain ⟨_, h0 | ⟨bA, oA, rfl, hcA⟩⟩ := HA.out
  · omega
  have hxa := keepC HB1.out (hcA k (by omega))
  generalize adv.getD k 0 = xa at *
  have hq1 : decide ((k : Int) < 0) = false := by simp
  have hq2 : decide (n ≤ k) = false := by simp; omega
  have hq3 : decide (nA < n) = false := by simp; omega
  have hq4 : ¬ n ≤ k := by omega
  have hq5 : ¬ nA < n := by omega
  have hkA : (k : Int) < (nA : Int) := by omega
  have hxx : (xa != xa) = false := by simp
  clear hcA h1 h2 h3
  by_cases h4 : nP = 0
  · subst h4
    go_wp2_with fail
    refine (adv_yes kd u n a d gp k bA oA xa B P nA cA nB cB 0 cP w1 (by have := HKN.out; omega) (by have := HKN.out; omega) hxa).mono ?_
    rintro e w2 ⟨rfl, hb2⟩
    have HV2 := Lib.hid (HV1.out.below rfl hb2)
    have HB2 := Lib.hid (HB1.out.trans (hb2.mono HB1.out.size))
    obtain ⟨d0, d1, d2, d3, d4, d5, d6, d7, d8⟩ := mvar_cells HV2.out
    have hxa := keepC hb2 hxa
    clear hb2
    go_wp2_with fail
    refine (place_none kd u n a d gp k (some ⟨bA, oA, none⟩) B P nA cA nB cB cP w2 (by omega) (by have := HKN.out; omega) (by have := HKN.out; omega)).mono ?_
    rintro e w3 ⟨rfl, hb3⟩
    have HB3 := Lib.hid (HB2.out.trans (hb3.mono HB2.out.size))
    have HV3 := Lib.hid (HV2.out.below rfl hb3)
    clear d0 d1 d2 d3 d4 d5 d6 d7 d8
    obtain ⟨d0, d1, d2, d3, d4, d5, d6, d7, d8⟩ := mvar_cells HV3.out
    have hxa := keepC hb3 hxa
    clear hb3
    go_wp2_with fail
    go_ret
    exact ⟨rfl, HB3.out⟩
  by_cases h5 : nP = n + 1
  rotate_left
  · have h4' : ((nP : Int) == 0) = false := by simp; omega
    have h5' : ¬ (nP : Int) = wrap64 ((n : Int) + 1) := by have := HR.out; unfold wrap64; omega
    have h6' : wrap64 ((nP : Int) - 1) = (nP : Int) - 1 := by have := HLP.out; unfold wrap64; omega
    have h7' : (((nP : Int) - 1) != (n : Int)) = true := by simp; omega
    have h4'' : ¬ (nP : Int) = 0 := by omega
    have H4 := Lib.hid h4''
    have H5 := Lib.hid h5'
    clear h4'' h5'
    go_wp2_with fail
    refine (adv_yes kd u n a d gp k bA oA xa B P nA cA nB cB nP cP w1 (by have := HKN.out; omega) (by have := HKN.out; omega) hxa).mono ?_
    rintro e w2 ⟨rfl, hb2⟩
    have HV2 := Lib.hid (HV1.out.below rfl hb2)
    have HB2 := Lib.hid (HB1.out.trans (hb2.mono HB1.out.size))
    obtain ⟨d0, d1, d2, d3, d4, d5, d6, d7, d8⟩ := mvar_cells HV2.out
    have hxa := keepC hb2 hxa
    clear hb2
    go_wp2_with fail
    refine (place_len kd u n a d gp k (some ⟨bA, oA, none⟩) B P nA cA nB cB nP cP w2 (by omega) (by have := HKN.out; omega) (by have := HKN.out; omega) H4.out H5.out).mono ?_
    rintro e w3 ⟨rfl, hb3⟩
    have HB3 := Lib.hid (HB2.out.trans (hb3.mono HB2.out.size))
    have HV3 := Lib.hid (HV2.out.below rfl hb3)
    clear d0 d1 d2 d3 d4 d5 d6 d7 d8
    obtain ⟨d0, d1, d2, d3, d4, d5, d6, d7, d8⟩ := mvar_cells HV3.out
    have hxa := keepC hb3 hxa
    clear hb3
    go_wp2_with fail
    go_ret
    exact ⟨rfl, HB3.out⟩
  subst h5
  obtain ⟨_, h0 | ⟨bP, oP, rfl, hcP⟩⟩ := HP.out
  · omega
  have hx := hcP k (by have := HKN.out; omega)
  have hy := hcP (k + 1) (by have := HKN.out; omega)
  generalize places.getD k 0 = x at *
  generalize places.getD (k + 1) 0 = y at *
  clear hcP
  have hx := keepC HB1.out hx
  have hy := keepC HB1.out hy
  generalize hN : n + 1 = N at *
  have HN := Lib.hid hN
  have h4' : ((N : Int) == 0) = false := by simp; omega
  have h6' : wrap64 ((N : Int) - 1) = (n : Int) := by have := HLP.out; unfold wrap64; omega
  have h7' : ((n : Int) != (n : Int)) = false := by simp
  have HX1 := Lib.hid hx
  have HY1 := Lib.hid hy
  clear h4 hN hx hy
  go_wp2_with fail
  refine (adv_yes kd u n a d gp k bA oA xa B (some ⟨bP, oP, none⟩) nA cA nB cB N cP w1 (by have := HKN.out; omega) (by have := HKN.out; omega) hxa).mono ?_
  rintro e w2 ⟨rfl, hb2⟩
  have HV2 := Lib.hid (HV1.out.below rfl hb2)
  have HB2 := Lib.hid (HB1.out.trans (hb2.mono HB1.out.size))
  obtain ⟨d0, d1, d2, d3, d4, d5, d6, d7, d8⟩ := mvar_cells HV2.out
  have hxa := keepC hb2 hxa
  have HX2 := Lib.hid (keepC hb2 HX1.out)
  have HY2 := Lib.hid (keepC hb2 HY1.out)
  clear hb2
  go_wp2_with fail
  refine (place_yes kd u a d gp k n N bP oP HN.out.symm x y (some ⟨bA, oA, none⟩) B nA cA nB cB cP w2 HKN.out.1 HKN.out.2 (by have := HLP.out; have := HN.out; omega) HX2.out HY2.out).mono ?_
  rintro e w3 ⟨rfl, hb3⟩
  have HB3 := Lib.hid (HB2.out.trans (hb3.mono HB2.out.size))
  have HV3 := Lib.hid (HV2.out.below rfl hb3)
  clear d0 d1 d2 d3 d4 d5 d6 d7 d8
  obtain ⟨d0, d1, d2, d3, d4, d5, d6, d7, d8⟩ := mvar_cells HV3.out
  have hxa := keepC hb3 hxa
  have HX3 := Lib.hid (keepC hb3 HX2.out)
  have HY3 := Lib.hid (keepC hb3 HY2.out)
  clear hb3
  go_wp2_with fail
  have i1 : (k : Int) < (N : Int) := by have := HKN.out; have := HN.out; omega
  have i2 : (k : Int) + 1 < (N : Int) := by have := HKN.out; have := HN.out; omega
  have i3 : (0 : Int) ≤ (k : Int) + 1 := by omega
  have i4 : IntKind.i64.wrap ((k : Int) + 1) = (k : Int) + 1 := by have := HKN.out; have := HLP.out; have := HN.out; rw [IntWalk.i64_left]; unfold wrap64; omega
  have hx := HX3.out
  have hy := HY3.out
  by_cases hx0 : x < 0
  · go_quiet (fail)
    go_wp2_with fail
    go_ret
    exact ⟨rfl, bel_drewN HB3.out _⟩
  by_cases hyx : y < x
  · go_quiet (fail)
    go_wp2_with fail
    go_ret
    exact ⟨rfl, bel_drewN HB3.out _⟩
  · have hz1 : (x == x) = true := by simp
    have hz2 : (wrap64 (y - x) == wrap64 (y - x)) = true := by simp
    go_quiet (fail)
    go_wp2_with fail
    go_quiet (fail)
    go_wp2_with fail
    go_ret
    exact ⟨by simp, bel_drewN (bel_drewN HB3.out _) _⟩

end Go.Proofs.Ytbcjicmledckbaa.metricAsks
