/-
  What outlines of package metric's reader does: the font's kind, and the places of a font of the kind that has them.
-/
import Derived.Test.YtbcjicmledckbaaMtE
namespace Go.Proofs.Ytbcjicmledckbaa
open Go.RowKit Go.PlainAid
set_option linter.unusedSimpArgs false
set_option linter.unusedVariables false

theorem allPlaces_length (lo : ByteArray) (form : Int) (n : Nat) : (allPlaces lo form n).length = n := by simp [allPlaces]
theorem allPlaces_next (lo : ByteArray) (form : Int) (n : Nat) : allPlaces lo form (n + 1) = allPlaces lo form n ++ [placeAt lo form n] := by simp [allPlaces, List.range_succ]
theorem allPlaces_get (lo : ByteArray) (form : Int) {n i : Nat} (h : i < n) : (allPlaces lo form n).getD i 0 = placeAt lo form i := by simp [allPlaces, List.getD, h]

theorem placeL_shape {lo : ByteArray} {form size : Int} : ∀ (k : Nat) {m : List Int}, placeL lo form size k = some m → m = allPlaces lo form k
  | 0, m, h => by rw [placeL] at h; cases h; rfl
  | k + 1, m, h => by
    rw [placeL] at h
    cases e : placeL lo form size k with
    | none => rw [e] at h; cases h
    | some q =>
      rw [e] at h
      simp only at h
      split at h
      · cases h
      · cases h; rw [placeL_shape k e, allPlaces_next]
theorem placeL_all {lo : ByteArray} {form size : Int} : ∀ (k : Nat), (∀ i : Nat, i + 1 < k → placeAt lo form (i : Nat) ≤ placeAt lo form ((i + 1 : Nat) : Int)) → (∀ i : Nat, i < k → placeAt lo form (i : Nat) ≤ size) → placeL lo form size k = some (allPlaces lo form k)
  | 0, _, _ => rfl
  | k + 1, h1, h2 => by
    rw [placeL, placeL_all k (fun i hi => h1 i (by omega)) (fun i hi => h2 i (by omega))]
    have hk := h2 k (by omega)
    simp only
    rw [if_neg, allPlaces_next]
    rintro (⟨h3, h4⟩ | h3)
    · rw [allPlaces_get lo form (by omega : k - 1 < k)] at h4
      have := h1 (k - 1) (by omega)
      rw [show k - 1 + 1 = k by omega] at this
      omega
    · omega
theorem placeL_more {lo : ByteArray} {form size : Int} {k : Nat} (h : placeL lo form size k = none) : ∀ j, placeL lo form size (k + j) = none
  | 0 => h
  | j + 1 => by rw [← Nat.add_assoc, placeL, placeL_more h j]
theorem placeL_fall {lo : ByteArray} {form size : Int} {k i : Nat} (hi : i + 1 < k) (h : placeAt lo form ((i + 1 : Nat) : Int) < placeAt lo form (i : Nat)) : placeL lo form size k = none := by
  have : placeL lo form size (i + 1 + 1) = none := by
    rw [placeL]
    cases e : placeL lo form size (i + 1) with
    | none => rfl
    | some m =>
      have hm := placeL_shape _ e
      simp only
      rw [if_pos]
      refine .inl ⟨by omega, ?_⟩
      rw [hm, Nat.add_sub_cancel, allPlaces_get lo form (by omega)]
      exact h
  have := placeL_more this (k - (i + 1 + 1))
  rwa [show i + 1 + 1 + (k - (i + 1 + 1)) = k by omega] at this
theorem placeL_big {lo : ByteArray} {form size : Int} {k i : Nat} (hi : i < k) (h : size < placeAt lo form (i : Nat)) : placeL lo form size k = none := by
  have : placeL lo form size (i + 1) = none := by
    rw [placeL]
    cases e : placeL lo form size i with
    | none => rfl
    | some m =>
      simp only
      rw [if_pos (.inr h)]
  have := placeL_more this (k - (i + 1))
  rwa [show i + 1 + (k - (i + 1)) = k by omega] at this

theorem placeAt_low (lo : ByteArray) (form g : Int) : 0 ≤ placeAt lo form g := by
  unfold placeAt
  split
  · exact (num32_bound (s := lo) (at' := 4 * g) (x := (numOr lo (4 * g) 4).1) (f := (numOr lo (4 * g) 4).2) rfl).1
  · have := (num16_bound (s := lo) (at' := 2 * g) (x := (numOr lo (2 * g) 2).1) (f := (numOr lo (2 * g) 2).2) rfl).1
    omega

theorem places_c (gr gf n N : Nat) (hN : N = n + 1) (kd form : Int) (hf : form = 0 ∨ form = 1) (l : List Row) (s : ByteArray) (w : World) (vs : List Value) (hR : Rd w gr gf vs) (hn : vs[2]? = some (.int .i64 n)) (hF : FontIn gr w gf kd l s) (hn2 : n ≤ 4096) :
    Calls Try.prog 58 #[.pointer (some ⟨gr, 0, none⟩), .int .i64 form] w (PlacesPost w N form (tabN l s locaTg (((n : Int) + 1) * (2 + 2 * form)))) := by
  rcases hf with rfl | rfl
  · rw [show ((n : Int) + 1) * (2 + 2 * 0) = 2 * (N : Int) by omega]
    exact places0_c gr gf n N hN kd l s w vs hR hn hF hn2
  · rw [show ((n : Int) + 1) * (2 + 2 * 1) = 4 * (N : Int) by omega]
    exact places1_c gr gf n N hN kd l s w vs hR hn hF hn2

/-- A row of numbers of a call's own, or the row that is none. -/
def RowAt (B : Nat) (w : World) (v : Value) (L : List Int) : Prop := (v = .slice none 0 0 ∧ L = []) ∨ ∃ g, v = .slice (some ⟨g, 0, none⟩) L.length L.length ∧ IntsAt w g L ∧ B ≤ g
/-- All blocks but one are kept. -/
def But (gr : Nat) (w w' : World) : Prop := ∀ g, g ≠ gr → g < w.heap.size → w'.heap[g]? = w.heap[g]?

theorem set_same {l : List Value} {i : Nat} {v : Value} (h : l[i]? = some v) : l.set i v = l := by
  apply List.ext_getElem?
  intro j
  by_cases e : i = j
  · subst e; rw [List.getElem?_set_self (List.getElem?_eq_some_iff.1 h).1, h]
  · rw [List.getElem?_set_ne e]
/-- The place ahead of the k-th, or 0. -/
def lastAt (lo : ByteArray) (form : Int) : Nat → Int
  | 0 => 0
  | k + 1 => placeAt lo form (k : Nat)
/-- The first k places rise. -/
def RiseTo (lo : ByteArray) (form : Int) (k : Nat) : Prop := ∀ i : Nat, i + 1 < k → placeAt lo form (i : Nat) ≤ placeAt lo form ((i + 1 : Nat) : Int)
theorem riseTo_next {lo : ByteArray} {form : Int} {k : Nat} (h : RiseTo lo form k) (h1 : lastAt lo form k ≤ placeAt lo form (k : Nat)) : RiseTo lo form (k + 1) := by
  intro i hi
  by_cases e : i + 1 < k
  · exact h i e
  · have : k = i + 1 := by omega
    subst this
    exact h1
theorem rise_le {lo : ByteArray} {form : Int} {N : Nat} (h : RiseTo lo form N) : ∀ (d i : Nat), i + d + 1 = N → placeAt lo form (i : Nat) ≤ lastAt lo form N
  | 0, i, e => by subst e; exact Int.le_refl _
  | d + 1, i, e => Int.le_trans (h i (by omega)) (rise_le h d (i + 1) (by omega))
theorem fall_not {lo : ByteArray} {form size : Int} {k N : Nat} (hk : k < N) (h1 : placeAt lo form (k : Nat) < lastAt lo form k) : placeL lo form size N = none := by
  cases k with
  | zero => have := placeAt_low lo form ((0 : Nat) : Int); simp only [lastAt] at h1; omega
  | succ k => exact placeL_fall hk h1

/-- How outlines ends. -/
def OutPost (gr gf : Nat) (w : World) (vs : List Value) (kd : Int) (r : Int × List Int) (e : Ending) (w' : World) : Prop :=
  (r.1 ≠ 0 ∧ e = gave r.1 ∧ Below gr w w') ∨ (r.1 = 0 ∧ e = .returned (.tuple #[]) ∧ Below gr w w' ∧ But gr w w' ∧ ∃ pv, Rd w' gr gf ((vs.set 0 (.int .i64 kd)).set 8 pv) ∧ RowAt w.heap.size w' pv r.2)
theorem outPost_give {gr gf : Nat} {w w' : World} {vs : List Value} {kd n : Int} {r : Int × List Int} {q : List Int} (h : r = (n, q)) (hn : n ≠ 0) (hb : Below gr w w') : OutPost gr gf w vs kd r (gave n) w' := by subst h; exact .inl ⟨hn, rfl, hb⟩
theorem outPost_yes {gr gf : Nat} {w w' : World} {vs : List Value} {kd : Int} {r : Int × List Int} {L : List Int} {pv : Value} (h : r = (0, L)) (hb : Below gr w w') (hk : But gr w w') (hr : Rd w' gr gf ((vs.set 0 (.int .i64 kd)).set 8 pv)) (hp : RowAt w.heap.size w' pv L) : OutPost gr gf w vs kd r (.returned (.tuple #[])) w' := by
  subst h; exact .inr ⟨rfl, rfl, hb, hk, pv, hr, hp⟩

set_option maxHeartbeats 2000000 in
theorem outlines_c (gr gf n : Nat) (kd form : Int) (hk : kd = 1 ∨ kd = 2) (hf : form = 0 ∨ form = 1) (l : List Row) (s : ByteArray) (w : World) (vs : List Value) (hR : Rd w gr gf vs) (hn : vs[2]? = some (.int .i64 n)) (h8 : vs[8]? = some (.slice none 0 0)) (hF : FontIn gr w gf kd l s) (hn2 : n ≤ 4096) :
    Calls Try.prog 39 #[.pointer (some ⟨gr, 0, none⟩), .int .i64 form] w (OutPost gr gf w vs kd (rPlaces kd l s n form)) := by
  have HR := Lib.hid hR
  have HF := Lib.hid hF
  have HG := Lib.hid hR.lt
  have HS := Lib.hid hF.size
  have HW := Lib.hid hn2
  have HNN := Lib.hid hn
  have H8 := Lib.hid h8
  have HFM := Lib.hid hf
  have hp := hR.p
  obtain ⟨z, hz⟩ := hR.at 0 (by omega)
  have hfz := hR.f 1 (by omega)
  have HB1 := Lib.hid ((Below.refl gr w).setCell (p := ⟨gr, 1, none⟩) (Nat.le_refl _) (.int .i64 kd))
  have HR1 := Lib.hid (hR.set 0 (by omega) (.int .i64 kd))
  have HZ1 : Hid ((w.setCell ⟨gr, 1, none⟩ (.int .i64 kd)).heap.size = w.heap.size) := by unfold Hid; simp [go_sem]
  have HBT1 : Hid (But gr w (w.setCell ⟨gr, 1, none⟩ (.int .i64 kd))) := fun g hg _ => Below.heap_setCell _ _ _ _ hg
  have hk1 : (w.setCell ⟨gr, 1, none⟩ (.int .i64 kd)).cell? ⟨gr, 1, none⟩ = some (.int .i64 kd) := World.cell?_setCell_same _ _ _ hz
  clear hR hF hn hn2 h8 hf
  go_enter Try.func39, Try.ntmps39
  go_wp2_with fail
  refine (fkind_c gr gf kd l s w HF.out).mono ?_
  rintro e wq ⟨rfl, rfl⟩
  rcases hk with rfl | rfl
  · go_wp2_with fail
    generalize (w.setCell ⟨gr, 1, none⟩ (.int .i64 1)) = w1 at *
    clear hz hfz hp
    have hn1 : (vs.set 0 (.int .i64 1))[2]? = some (.int .i64 n) := by simpa using HNN.out
    have HGW : Hid (gr < w1.heap.size) := by have := HG.out; have := HZ1.out; unfold Hid; omega
    obtain ⟨v, HV⟩ : ∃ v, Hid (tabN l s locaTg (((n : Int) + 1) * (2 + 2 * form)) = v) := ⟨_, rfl⟩
    refine (places_c gr gf n (n + 1) rfl 1 form HFM.out l s w1 _ HR1.out hn1 (HF.out.kept HB1.out) HW.out).mono ?_
    rw [HV.out]
    cases v with
    | none =>
      have HE : Hid (rPlaces 1 l s n form = (41, [])) := by unfold Hid rPlaces; rw [if_neg (by decide), HV.out]
      rintro e w2 ⟨rfl, hb2⟩
      unfold gave
      go_wp2_with fail
      exact ⟨rfl, outPost_give HE.out (by decide) (HB1.out.trans (hb2.mono (Nat.le_of_lt HGW.out)))⟩
    | some lo =>
      rintro e w2 ⟨rfl, hb2, hi2⟩
      have hr2 := HR1.out.kept hb2 HGW.out
      obtain ⟨z, hz⟩ := hr2.at 8 (by omega)
      have hfz := hr2.f 9 (by omega)
      generalize hN : n + 1 = N at *
      have HB3 := Lib.hid ((HB1.out.trans (hb2.mono (Nat.le_of_lt HGW.out))).setCell (p := ⟨gr, 9, none⟩) (Nat.le_refl _) (.slice (some ⟨w1.heap.size, 0, none⟩) N N))
      have HR3 := Lib.hid (hr2.set 8 (by omega) (.slice (some ⟨w1.heap.size, 0, none⟩) N N))
      have HI3 := Lib.hid (hi2.other ⟨gr, 9, none⟩ (.slice (some ⟨w1.heap.size, 0, none⟩) N N) (by have := HGW.out; show gr ≠ w1.heap.size; omega))
      have HT3 : Hid (But gr w (w2.setCell ⟨gr, 9, none⟩ (.slice (some ⟨w1.heap.size, 0, none⟩) N N))) := fun g hg hlt => by rw [Below.heap_setCell _ _ _ _ hg, hb2.block g (by have := HZ1.out; omega)]; exact HBT1.out g hg hlt
      have HZ3 : Hid (w1.heap.size < (w2.setCell ⟨gr, 9, none⟩ (.slice (some ⟨w1.heap.size, 0, none⟩) N N)).heap.size) := by
        have := hi2.lt
        unfold Hid; simpa [go_sem] using this
      have hs3 : (w2.setCell ⟨gr, 9, none⟩ (.slice (some ⟨w1.heap.size, 0, none⟩) N N)).cell? ⟨gr, 9, none⟩ = some (.slice (some ⟨w1.heap.size, 0, none⟩) N N) := World.cell?_setCell_same _ _ _ hz
      clear hb2 hi2 hr2 hk1
      go_wp2_with fail
      clear hz hfz
      generalize (w2.setCell ⟨gr, 9, none⟩ (.slice (some ⟨w1.heap.size, 0, none⟩) N N)) = w3 at *
      go_loop [4, 37] (fun la i => ∃ k : Nat, k ≤ N ∧ la = .int .i64 (lastAt lo form k) ∧ i = .int .i64 k ∧ Hid (RiseTo lo form k)) (fun _ i => N - (intOf i).toNat)
      case atStart => exact ⟨0, Nat.zero_le _, rfl, rfl, fun i hi => by omega⟩
      case round =>
        obtain ⟨k, hk, rfl, rfl, HRI⟩ := hrel
        by_cases hlt : k < N
        · have hlt' : (k : Int) < (N : Int) := by omega
          have hca := HI3.out.cell (i := k) (by rw [allPlaces_length]; exact hlt)
          rw [allPlaces_get lo form hlt] at hca
          by_cases hge : lastAt lo form k ≤ placeAt lo form (k : Nat)
          · have HRI' := Lib.hid (riseTo_next HRI.out hge)
            go_wp2_with fail
            refine (ask_t (by first | rfl | exact decide_eq_true hge) _ _).mono ?_
            rintro e wq ⟨rfl, rfl⟩
            go_wp2_with fail
            have HW7 : Hid (wrap64 ((k : Int) + 1) = ((k + 1 : Nat) : Int)) := by have := HW.out; unfold Hid wrap64; omega
            go_round
            case rel => exact ⟨k + 1, by omega, rfl, by rw [HW7.out], HRI'⟩
            case measure => rw [HW7.out]; simp only [intOf]; omega
          · have HE : Hid (rPlaces 1 l s n form = (41, [])) := by
              unfold Hid rPlaces
              rw [if_neg (by decide), HV.out]
              simp only
              split
              · rfl
              · rw [fall_not (k := k) (N := ((n : Int) + 1).toNat) (by omega) (Int.not_le.1 hge)]
            go_wp2_with fail
            refine (ask_f (by first | rfl | exact decide_eq_false (by omega)) _ _).mono ?_
            rintro e wq ⟨rfl, rfl⟩
            unfold gave
            go_wp2_with fail
            exact ⟨rfl, outPost_give HE.out (by decide) HB3.out⟩
        · have hlt' : ¬ (k : Int) < (N : Int) := by omega
          have e : k = N := by omega
          subst e
          go_wp2_with fail
          obtain ⟨v, HV2⟩ : ∃ v, Hid (tabN l s glyfTg 0 = v) := ⟨_, rfl⟩
          have HG3 : Hid (gr < w3.heap.size) := by have := HGW.out; have := HZ3.out; unfold Hid; omega
          refine (need_c w3.heap.size gr gf 1 0 l s _ w3 HR3.out.p ((HF.out.kept HB3.out).mono (Nat.le_of_lt HG3.out)) (Nat.le_refl _)).mono ?_
          rw [show (ByteArray.toList ⟨#[103, 108, 121, 102]⟩) = glyfTg from tl_glyfTg, HV2.out]
          cases v with
          | none =>
            have HE : Hid (rPlaces 1 l s n form = (41, [])) := by unfold Hid rPlaces; rw [if_neg (by decide), HV.out]; simp only; rw [HV2.out]
            rintro e w4 ⟨rfl, hb4⟩
            unfold gave
            go_wp2_with fail
            exact ⟨rfl, outPost_give HE.out (by decide) (HB3.out.trans (hb4.mono (Nat.le_of_lt HG3.out)))⟩
          | some gl =>
            rintro e w4 ⟨gv, rfl, hc4, hs4, hb4⟩
            have HB4 := Lib.hid (HB3.out.trans (hb4.mono (Nat.le_of_lt HG3.out)))
            have HR4 := Lib.hid (HR3.out.kept hb4 HG3.out)
            have HI4 := Lib.hid (HI3.out.below hb4)
            have HT4 : Hid (But gr w w4) := fun g hg hlt => by rw [hb4.block g (by have := HZ3.out; have := HZ1.out; omega)]; exact HT3.out g hg hlt
            clear hs4 hb4
            go_wp2_with fail
            refine (len_c gv gl w4 hc4).mono ?_
            rintro e wq ⟨rfl, rfl⟩
            by_cases hsz : lastAt lo form k ≤ (gl.size : Int)
            · have HE : Hid (rPlaces 1 l s n form = (0, allPlaces lo form k)) := by
                unfold Hid rPlaces
                rw [if_neg (by decide), HV.out]; simp only; rw [HV2.out]; simp only
                rw [show ((n : Int) + 1).toNat = k by omega, placeL_all k HRI.out (fun i hi => Int.le_trans (rise_le HRI.out (k - i - 1) i (by omega)) hsz)]
              go_wp2_with fail
              refine (ask_t (by first | rfl | exact decide_eq_true hsz) _ _).mono ?_
              rintro e wq ⟨rfl, rfl⟩
              go_wp2_with fail
              go_end0
              exact outPost_yes HE.out HB4.out HT4.out HR4.out (.inr ⟨w1.heap.size, by rw [allPlaces_length], HI4.out, by have := HZ1.out; omega⟩)
            · have HE : Hid (rPlaces 1 l s n form = (41, [])) := by
                unfold Hid rPlaces
                rw [if_neg (by decide), HV.out]; simp only; rw [HV2.out]; simp only
                obtain ⟨m, rfl⟩ : ∃ m, k = m + 1 := ⟨n, by omega⟩
                rw [placeL_big (i := m) (k := ((n : Int) + 1).toNat) (by omega) (by simp only [lastAt] at hsz; omega)]
              go_wp2_with fail
              refine (ask_f (by first | rfl | exact decide_eq_false (by omega)) _ _).mono ?_
              rintro e wq ⟨rfl, rfl⟩
              unfold gave
              go_wp2_with fail
              exact ⟨rfl, outPost_give HE.out (by decide) HB4.out⟩
  · go_wp2_with fail
    clear hz hfz hp
    generalize (w.setCell ⟨gr, 1, none⟩ (.int .i64 2)) = w1 at *
    obtain ⟨v, HV⟩ : ∃ v, Hid (tabN l s cffTg 0 = v) := ⟨_, rfl⟩
    refine (need_c w1.heap.size gr gf 2 0 l s _ w1 HR1.out.p ((HF.out.kept HB1.out).mono (by have := HG.out; have := HZ1.out; omega)) (Nat.le_refl _)).mono ?_
    rw [show (ByteArray.toList ⟨#[67, 70, 70, 32]⟩) = cffTg from tl_cffTg, HV.out]
    have HGW : Hid (gr ≤ w1.heap.size) := by have := HG.out; have := HZ1.out; unfold Hid; omega
    cases v with
    | none =>
      have HE : Hid (rPlaces 2 l s n form = (41, [])) := by unfold Hid rPlaces; rw [if_pos rfl, HV.out]
      rintro e w2 ⟨rfl, hb2⟩
      unfold gave
      go_wp2_with fail
      exact ⟨rfl, outPost_give HE.out (by decide) (HB1.out.trans (hb2.mono HGW.out))⟩
    | some b =>
      have HE : Hid (rPlaces 2 l s n form = (0, [])) := by unfold Hid rPlaces; rw [if_pos rfl, HV.out]
      rintro e w2 ⟨gv, rfl, hc2, hs2, hb2⟩
      have HB2 := Lib.hid (HB1.out.trans (hb2.mono HGW.out))
      have HT2 : Hid (But gr w w2) := fun g hg hlt => by rw [hb2.block g (by have := HZ1.out; omega)]; exact HBT1.out g hg hlt
      have HR2 : Hid (Rd w2 gr gf ((vs.set 0 (.int .i64 2)).set 8 (.slice none 0 0))) := by
        have h3 := HR1.out.kept hb2 (by have := HG.out; have := HZ1.out; omega)
        rw [set_same (by simpa using H8.out)]
        exact h3
      clear hc2 hs2 hb2
      go_wp2_with fail
      refine bodyPost_ret (results_none rfl _ _ _) rfl ?_
      exact outPost_yes HE.out HB2.out HT2.out HR2.out (.inl ⟨rfl, rfl⟩)

end Go.Proofs.Ytbcjicmledckbaa
