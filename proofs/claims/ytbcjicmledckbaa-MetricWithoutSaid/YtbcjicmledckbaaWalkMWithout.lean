/-
  The walk of MetricWithout: it answers true in every world, and changes nothing that was there.
-/
import Derived.Test.YtbcjicmledckbaaAddPs
namespace Go.Proofs.Ytbcjicmledckbaa.metricWithout
open Go.RowKit Go.PlainAid
set_option linter.unusedSimpArgs false
set_option linter.unusedVariables false

/-- Metrics in new rows. -/
theorem metW_rows (w : World) : let w1 := ((w.alloc (.cells #[.int .i64 1] 3)).alloc (.cells #[.int .i64 1] 3)).alloc (.cells #[.int .i64 0, .int .i64 0] 3)
    IsMet w1 metW (.agg #[.int .i64 1, .int .i64 16, .int .i64 1, .int .i64 0, .int .i64 0, .int .i64 0, .slice (some ⟨w.heap.size, 0, none⟩) 1 1, .slice (some ⟨w.heap.size + 1, 0, none⟩) 1 1, .slice (some ⟨w.heap.size + 1 + 1, 0, none⟩) 2 2]) ∧ Below w.heap.size w w1 := by
  intro w1
  have i1 : IntsAt (w.alloc (.cells #[.int .i64 1] 3)) w.heap.size [1] := intsAt_alloc w [1]
  have b1 : Below w.heap.size w (w.alloc (.cells #[.int .i64 1] 3)) := (Below.refl _ _).alloc (Nat.le_refl _) _
  have z1 : (w.alloc (.cells #[.int .i64 1] 3)).heap.size = w.heap.size + 1 := by simp [go_sem]
  show IsMet (((w.alloc (.cells #[.int .i64 1] 3)).alloc (.cells #[.int .i64 1] 3)).alloc (.cells #[.int .i64 0, .int .i64 0] 3)) _ _ ∧ Below _ _ (((w.alloc (.cells #[.int .i64 1] 3)).alloc (.cells #[.int .i64 1] 3)).alloc (.cells #[.int .i64 0, .int .i64 0] 3))
  generalize (w.alloc (.cells #[.int .i64 1] 3)) = wa at *
  have i2 : IntsAt (wa.alloc (.cells #[.int .i64 1] 3)) wa.heap.size [1] := intsAt_alloc wa [1]
  have b2 : Below wa.heap.size wa (wa.alloc (.cells #[.int .i64 1] 3)) := (Below.refl _ _).alloc (Nat.le_refl _) _
  have z2 : (wa.alloc (.cells #[.int .i64 1] 3)).heap.size = w.heap.size + 2 := by simp [go_sem, z1]
  generalize (wa.alloc (.cells #[.int .i64 1] 3)) = wb at *
  have i3 : IntsAt (wb.alloc (.cells #[.int .i64 0, .int .i64 0] 3)) wb.heap.size [0, 0] := intsAt_alloc wb [0, 0]
  have b3 : Below wb.heap.size wb (wb.alloc (.cells #[.int .i64 0, .int .i64 0] 3)) := (Below.refl _ _).alloc (Nat.le_refl _) _
  generalize (wb.alloc (.cells #[.int .i64 0, .int .i64 0] 3)) = wc at *
  rw [z1] at i2
  rw [z2] at i3
  refine ⟨⟨_, _, _, 1, 1, 2, rfl, (i1.below b2 |>.below b3).isI rfl 1, (i2.below b3).isI rfl 1, i3.isI rfl 2, by simp [metW], by simp [metW], by simp [metW]⟩, (b1.trans (b2.mono (by omega))).trans (b3.mono (by omega))⟩

theorem in_drop {w w' : World} {g : Nat} {l : List Pv} (h : InP w g l) (hb : Below w.heap.size w w') (k : Nat) : InPa w' (some ⟨g, k * 2, none⟩) (l.drop k) := by
  refine .inr ⟨g, k * 2, rfl, fun i p hp => ?_⟩
  have h1 := (h.below hb) (k + i) p (by rwa [List.getElem?_drop] at hp)
  rwa [show (k + i) * 2 = k * 2 + i * 2 by omega] at h1

set_option maxHeartbeats 4000000 in
theorem walk (n : Int) (w : World) (hn : (Lit.int .i64 n).wf = true) : Calls Try.prog 7 #[.int .i64 n] w fun e w' => e = .returned (.bool true) ∧ Below w.heap.size w w' := by
  go_enter Try.func7, Try.ntmps7
  go_wp2_with fail
  refine (alive_c _).mono ?_
  rintro e w1 ⟨rfl, hb1⟩
  have HB1 := Lib.hid hb1
  clear hb1
  have hM := metW_rows w1
  have hz0 : (((w1.alloc (.cells #[.int .i64 1] 3)).alloc (.cells #[.int .i64 1] 3)).alloc (.cells #[.int .i64 0, .int .i64 0] 3)).heap.size = w1.heap.size + 1 + 1 + 1 := by simp [go_sem]
  have hba : Below (((w1.alloc (.cells #[.int .i64 1] 3)).alloc (.cells #[.int .i64 1] 3)).alloc (.cells #[.int .i64 0, .int .i64 0] 3)).heap.size (((w1.alloc (.cells #[.int .i64 1] 3)).alloc (.cells #[.int .i64 1] 3)).alloc (.cells #[.int .i64 0, .int .i64 0] 3)) ((((w1.alloc (.cells #[.int .i64 1] 3)).alloc (.cells #[.int .i64 1] 3)).alloc (.cells #[.int .i64 0, .int .i64 0] 3)).alloc (.cells #[.int .i64 1, .int .i64 16, .int .i64 1, .int .i64 0, .int .i64 0, .int .i64 0, .slice (some ⟨w1.heap.size, 0, none⟩) 1 1, .slice (some ⟨w1.heap.size + 1, 0, none⟩) 1 1, .slice (some ⟨w1.heap.size + 1 + 1, 0, none⟩) 2 2] 35)) := (Below.refl _ _).alloc (Nat.le_refl _) _
  have HM0 := Lib.hid (hM.1.below hba)
  have HV0 : Hid (MVar ((((w1.alloc (.cells #[.int .i64 1] 3)).alloc (.cells #[.int .i64 1] 3)).alloc (.cells #[.int .i64 0, .int .i64 0] 3)).alloc (.cells #[.int .i64 1, .int .i64 16, .int .i64 1, .int .i64 0, .int .i64 0, .int .i64 0, .slice (some ⟨w1.heap.size, 0, none⟩) 1 1, .slice (some ⟨w1.heap.size + 1, 0, none⟩) 1 1, .slice (some ⟨w1.heap.size + 1 + 1, 0, none⟩) 2 2] 35)) (w1.heap.size + 1 + 1 + 1) [.int .i64 1, .int .i64 16, .int .i64 1, .int .i64 0, .int .i64 0, .int .i64 0, .slice (some ⟨w1.heap.size, 0, none⟩) 1 1, .slice (some ⟨w1.heap.size + 1, 0, none⟩) 1 1, .slice (some ⟨w1.heap.size + 1 + 1, 0, none⟩) 2 2]) := by have := mvar_alloc (((w1.alloc (.cells #[.int .i64 1] 3)).alloc (.cells #[.int .i64 1] 3)).alloc (.cells #[.int .i64 0, .int .i64 0] 3)) [.int .i64 1, .int .i64 16, .int .i64 1, .int .i64 0, .int .i64 0, .int .i64 0, .slice (some ⟨w1.heap.size, 0, none⟩) 1 1, .slice (some ⟨w1.heap.size + 1, 0, none⟩) 1 1, .slice (some ⟨w1.heap.size + 1 + 1, 0, none⟩) 2 2] 35; rwa [hz0] at this
  have HB0 : Hid (Below w.heap.size w ((((w1.alloc (.cells #[.int .i64 1] 3)).alloc (.cells #[.int .i64 1] 3)).alloc (.cells #[.int .i64 0, .int .i64 0] 3)).alloc (.cells #[.int .i64 1, .int .i64 16, .int .i64 1, .int .i64 0, .int .i64 0, .int .i64 0, .slice (some ⟨w1.heap.size, 0, none⟩) 1 1, .slice (some ⟨w1.heap.size + 1, 0, none⟩) 1 1, .slice (some ⟨w1.heap.size + 1 + 1, 0, none⟩) 2 2] 35))) := HB1.out.trans ((hM.2.trans (hba.mono hM.2.size)).mono HB1.out.size)
  clear hM hz0 hba HB1
  go_wp2_with fail
  generalize hW0 : ((((w1.alloc (.cells #[.int .i64 1] 3)).alloc (.cells #[.int .i64 1] 3)).alloc (.cells #[.int .i64 0, .int .i64 0] 3)).alloc (.cells #[.int .i64 1, .int .i64 16, .int .i64 1, .int .i64 0, .int .i64 0, .int .i64 0, .slice (some ⟨w1.heap.size, 0, none⟩) 1 1, .slice (some ⟨w1.heap.size + 1, 0, none⟩) 1 1, .slice (some ⟨w1.heap.size + 1 + 1, 0, none⟩) 2 2] 35)) = w0 at *
  clear hW0
  generalize hG : w1.heap.size + 1 + 1 + 1 = G at *
  clear hG
  refine (pieces_c metW _ w0 HM0.out fineW).mono ?_
  rintro e w2 ⟨g2, c2, l, Bp, rfl, ho2, hp2, hB1, hB2, hb2⟩
  have hgc := glyf_cells w2
  have HO2 := Lib.hid (owns_stay ho2 hgc.2.2)
  have HLL := Lib.hid (pcIs_length (hp2 w2 (Below.refl _ _)))
  have HPP := Lib.hid hp2
  have HBP := Lib.hid (And.intro hB1 hB2)
  have HBW2 := Lib.hid (HB0.out.trans (hb2.mono HB0.out.size))
  have HB02 := Lib.hid hb2
  have HBa := Lib.hid (hgc.2.2.mono hB2)
  have hg0 := hgc.1
  have hg1 := hgc.2.1
  have hbz := hgc.2.2.size
  have HBZ := Lib.hid hbz
  clear hgc ho2 hp2 hb2 hB1 hB2 hbz
  go_wp2_with (at_builtin; refine wpList_addP rfl _ _ rfl (w2.alloc (.cells #[.string ⟨#[103, 108, 121, 102]⟩, .slice none 0 0] 48)) Bp g2 c2 l ⟨tagB glyfTg, none, 0, 0⟩ w2.heap.size l.length rfl rfl rfl HO2.out hg0 hg1 (by have := HLL.out; simp [piecesOf, metW] at this; omega) (by have := HBP.out; have := HBZ.out; omega) ?_; intro g3 c3 w3 ho3 hg3 hat3; have HO3 := Lib.hid ho3; have HB3 := Lib.hid (grown_below HBa.out hg3 (by have := HBP.out; have := HBZ.out; omega) (owns_lt HO2.out).2); clear ho3 hg3 hat3)
  have HP3 := Lib.hid (sort_glyf (m := metW) (by simp [metW]) (HPP.out w3 HB3.out) none 0 (none_isB w3))
  have HB03 := Lib.hid (HB02.out.trans (HB3.out.mono HBP.out.1))
  clear HB02 HBa HB3 HBW2 hg0 hg1 HO2
  have h6 : l.length + 1 = 6 := by have := HLL.out; rw [this]; rfl
  rw [h6]
  refine (sorted_n g3 c3 6 (l ++ [⟨tagB glyfTg, none, 0, 0⟩]) w3 (by simp; omega) (ownP_in HO3.out) (by have := HLL.out; simp [piecesOf, metW] at this; simp; omega)).mono ?_
  rintro e w4 ⟨g4, c4, rfl, ho4, hb4⟩
  have HO4 := Lib.hid ho4
  have HP4 := Lib.hid (PcIs.below hb4 HP3.out)
  have HB04 := Lib.hid (HB03.out.trans (hb4.mono HB03.out.size))
  have HSL : Hid ((sortV (l ++ [⟨tagB glyfTg, none, 0, 0⟩])).length = 6) := by unfold Hid; rw [sortV_length]; simp; omega
  generalize sortV (l ++ [⟨tagB glyfTg, none, 0, 0⟩]) = S at *
  have HC4 : Hid (6 ≤ c4) := by
    rcases HO4.out.2 with ⟨hv, _⟩ | ⟨g', cap', cur, hv, _, _, hnc, _⟩
    · cases hv
    · cases hv; have := HSL.out; unfold Hid; omega
  clear ho4 hb4 HB03 HP3 HO3 h6
  by_cases hneg : n < 0
  · go_wp2_with fail
    go_ret
    exact ⟨rfl, HB0.out.trans (HB04.out.mono HB0.out.size)⟩
  by_cases hbig : (6 : Int) ≤ n
  · go_wp2_with fail
    go_ret
    exact ⟨rfl, HB0.out.trans (HB04.out.mono HB0.out.size)⟩
  obtain ⟨k, rfl⟩ : ∃ k : Nat, n = k := ⟨n.toNat, by omega⟩
  have hk6 : (k : Int) < 6 := by omega
  have hd1 : decide ((k : Int) < 0) = false := by simp
  have hd2 : decide ((6 : Int) ≤ (k : Int)) = false := by simp; omega
  have hk7 : (k : Int) ≤ (c4 : Int) := by have := HC4.out; omega
  have hk8 : wrap64 ((k : Int) + 1) = ((k + 1 : Nat) : Int) := by unfold wrap64; omega
  have hk9 : ((k + 1 : Nat) : Int) ≤ 6 := by omega
  have hk10 : (6 : Int) ≤ (c4 : Int) := by have := HC4.out; omega
  go_wp2_with fail
  have hm1 : IntKind.i64.wrap ((k : Int) + 1) = (k : Int) + 1 := by rw [IntWalk.i64_left]; unfold wrap64; omega
  have hm2 : (0 : Int) ≤ (k : Int) + 1 := by omega
  have hm3 : (k : Int) + 1 ≤ 6 := by omega
  have hb5 : Below w4.heap.size w4 (w4.drew.alloc (.cells #[] 48)) := bel_undrew ((Below.refl _ _).alloc (Nat.le_refl _) _)
  have ho5 : OwnP w4.heap.size (w4.drew.alloc (.cells #[] 48)) w4.heap.size 0 [] := own_none w4.drew w4.drew (Nat.le_refl _)
  have hi5 := (ownP_in HO4.out).below hb5
  have ha5 : InPa (w4.drew.alloc (.cells #[] 48)) (some ⟨g4, 0, none⟩) (S.take k) := by
    refine .inr ⟨g4, 0, rfl, fun i p hp => ?_⟩
    have h9 : S[i]? = some p := by rw [List.getElem?_take] at hp; split at hp; exact hp; cases hp
    simpa using hi5 i p h9
  go_region_held3 (fun W => True) (trivial)
    (first | (refine step_addPs (by rfl) _ _ (by rfl) (w4.drew.alloc (.cells #[] 48)) w4.heap.size w4.heap.size 0 [] (S.take k) (some ⟨g4, 0, none⟩) c4 0 k rfl (by rw [List.length_take, HSL.out]; omega) (by rfl) (by rfl) ho5 ha5 (by simp; have := HSL.out; omega) hb5.size ?_; intro g6 c6 w6 ho6 hg6 hat6; have HB6 := Lib.hid (grown_below hb5 hg6 hb5.size (Nat.le_refl _)); have ha6 : InPa w6 (if c4 = k + 1 then some ⟨g4, 0, none⟩ else some ⟨g4, (k + 1) * 2, none⟩) (S.drop (k + 1)) := (by split; exact .inl (List.drop_of_length_le (by have := HSL.out; have := HC4.out; omega)); exact in_drop (ownP_in HO4.out) HB6.out (k + 1)); rw [List.nil_append] at ho6; clear hat6) | (refine step_addPs (by rfl) _ _ (by rfl) w6 w4.heap.size g6 c6 (S.take k) (S.drop (k + 1)) (if c4 = k + 1 then some ⟨g4, 0, none⟩ else some ⟨g4, (k + 1) * 2, none⟩) (c4 - (k + 1)) (0 + k) (5 - k) (by rw [List.length_take, HSL.out]; omega) (by rw [List.length_drop, HSL.out]; omega) (by rfl) (by rfl) ho6 ha6 (by rw [List.length_take, List.length_drop, HSL.out]; omega) HB6.out.size ?_; intro g7 c7 w7 ho7 hg7 hat7; clear hat7))
  have hk : k < 6 := by omega
  have HB7 := Lib.hid (grown_below HB6.out hg7 HB6.out.size (owns_lt ho6).2)
  have HP7 : Hid (PcIs w7 (S.take k ++ S.drop (k + 1)) (lessP k)) := by
    have h8 := PcIs.below HB7.out HP4.out
    exact pcIs_join (pcIs_take k h8) (pcIs_drop (k + 1) h8)
  have HIP := Lib.hid (inP_isP (ownP_in ho7) HP7.out)
  have HB07 := Lib.hid (HB04.out.trans (HB7.out.mono HB04.out.size))
  clear ho7 hg7 ho6 hg6 ha6 HB6 hb5 ho5 hi5 ha5 hm1 hm2 hm3 hk7 hk8 hk9 hk10 HB7
  go_wp2_with fail
  all_goals
    refine (build1_n g7 c7 _ (lessP k) w7 (by rw [lenW k hk]; omega) HIP.out (goodW hk) (bigW hk)).mono ?_
    rintro e w8 ⟨g8, c8, rfl, ho8, hb8⟩
    have HO8 := Lib.hid ho8
    have HB08 := Lib.hid (HB07.out.trans (hb8.mono HB07.out.size))
    clear ho8 hb8 HB07 HIP HP7
    have HOA := Lib.hid (openW hk)
    have HRA := Lib.hid (readW k hk)
    generalize madeB 1 (lessP k) = file at *
    generalize rowsL 92 (lessP k) = rows at *
    go_wp2_with fail
    refine (open_of HO8.out HOA.out).mono ?_
    rintro e w9 ⟨gf, rfl, hf9, hb9⟩
    have HF9 := Lib.hid hf9
    have HB09 := Lib.hid (HB08.out.trans (hb9.mono HB08.out.size))
    clear hf9 hb9 HB08 HO8
    go_wp2_with fail
    refine (read_c w9.heap.size gf 1 (.inl rfl) rows file w9 HF9.out (Nat.le_refl _)).mono ?_
    rw [HRA.out]
    rintro e w10 ⟨rfl, hb10⟩
    have HB10 := Lib.hid (HB09.out.trans (hb10.mono HB09.out.size))
    have HV10 := Lib.hid (HV0.out.below rfl HB10.out)
    clear hb10 HB09 HF9
    unfold noneMet
    have hba : Below w10.heap.size w10 (w10.alloc (.cells #[.int .i64 0, .int .i64 0, .int .i64 0, .int .i64 0, .int .i64 0, .int .i64 0, .slice none 0 0, .slice none 0 0, .slice none 0 0] 35)) := (Below.refl _ _).alloc (Nat.le_refl _) _
    have HB11 := Lib.hid (HB10.out.trans (hba.mono HB10.out.size))
    have HV11 := Lib.hid (HV10.out.below rfl hba)
    clear hba
    go_wp2_with fail
    refine (same_c met0 _ _ _ (noneMet_is _) (noneMet_is _)).mono ?_
    rintro e w12 ⟨rfl, hb12⟩
    have HB12 := Lib.hid (HB11.out.trans (hb12.mono HB11.out.size))
    have hc8 := (mvar_cells (HV11.out.below rfl hb12)).2.2.2.2.2.2.2.2
    clear hb12
    go_wp2_with fail
    refine (sameInts_len _ _ 2 0 _ _ w12 (by decide)).mono ?_
    rintro e w13 ⟨rfl, hb13⟩
    have HB13 := Lib.hid (HB12.out.trans (hb13.mono HB12.out.size))
    clear hb13
    go_wp2_with fail
    go_ret
    exact ⟨rfl, HB0.out.trans (HB13.out.mono HB0.out.size)⟩
end Go.Proofs.Ytbcjicmledckbaa.metricWithout
