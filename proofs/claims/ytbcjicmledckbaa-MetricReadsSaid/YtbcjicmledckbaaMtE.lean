/-
  What places of package metric's reader answers: a new row of the places that loca says, in either form.
-/
import Derived.Test.YtbcjicmledckbaaMtD
namespace Go.Proofs.Ytbcjicmledckbaa
open Go.RowKit Go.PlainAid
set_option linter.unusedSimpArgs false
set_option linter.unusedVariables false

/-- All places, in their order. -/
def allPlaces (lo : ByteArray) (form : Int) (n : Nat) : List Int := (List.range n).map fun (g : Nat) => placeAt lo form (g : Int)

/-- How places ends. -/
def PlacesPost (w : World) (n : Nat) (form : Int) (v : Option ByteArray) (e : Ending) (w' : World) : Prop :=
  match v with
  | none => e = gave 41 ∧ Below w.heap.size w w'
  | some lo => e = .returned (.slice (some ⟨w.heap.size, 0, none⟩) n n) ∧ Below w.heap.size w w' ∧ IntsAt w' w.heap.size (allPlaces lo form n)
theorem placesPost_no {w w' : World} {n : Nat} {form : Int} {v : Option ByteArray} (hv : v = none) (hb : Below w.heap.size w w') : PlacesPost w n form v (gave 41) w' := by subst hv; exact ⟨rfl, hb⟩
theorem placesPost_yes {w w' : World} {n : Nat} {form : Int} {v : Option ByteArray} {lo : ByteArray} (hv : v = some lo) (hb : Below w.heap.size w w') (hi : IntsAt w' w.heap.size (allPlaces lo form n)) : PlacesPost w n form v (.returned (.slice (some ⟨w.heap.size, 0, none⟩) n n)) w' := by subst hv; exact ⟨rfl, hb, hi⟩

/-- The state of the loop. -/
structure PLoop (w : World) (n gv : Nat) (form : Int) (lo : ByteArray) (k : Nat) (wr : World) : Prop where
  bel : Below w.heap.size w wr
  a : IntsAt wr w.heap.size (partL (fun g => placeAt lo form g) n k)
  v : wr.cell? ⟨gv, 0, none⟩ = some (.string lo)
  ord : w.heap.size < gv

theorem ploop_next {w wr : World} {n gv : Nat} {form : Int} {lo : ByteArray} {k : Nat} (h : PLoop w n gv form lo k wr) {x : Int} (hx : placeAt lo form k = x) : PLoop w n gv form lo (k + 1) (wr.setCell ⟨w.heap.size, k, none⟩ (.int .i64 x)) := by
  obtain ⟨h1, h2, h3, h4⟩ := h
  subst hx
  refine ⟨h1.setCell (p := ⟨w.heap.size, k, none⟩) (Nat.le_refl _) _, ?_, ?_, h4⟩
  · have := h2.set k (placeAt lo form k)
    rwa [partL_set (fun g => placeAt lo form g) n k] at this
  · rw [World.cell?_setCell_other _ _ _ _ (by intro q; cases q; omega)]; exact h3

theorem placeAt_zero (lo : ByteArray) (k : Int) : placeAt lo 0 k = 2 * (numOr lo (2 * k) 2).1 := by unfold placeAt; rw [if_neg (by omega)]
theorem placeAt_one (lo : ByteArray) (k : Int) : placeAt lo 1 k = (numOr lo (4 * k) 4).1 := by unfold placeAt; rw [if_pos rfl]

set_option maxHeartbeats 2000000 in
theorem places0_c (gr gf n N : Nat) (hN : N = n + 1) (kd : Int) (l : List Row) (s : ByteArray) (w : World) (vs : List Value) (hR : Rd w gr gf vs) (hn : vs[2]? = some (.int .i64 n)) (hF : FontIn gr w gf kd l s) (hn2 : n ≤ 4096) :
    Calls Try.prog 58 #[.pointer (some ⟨gr, 0, none⟩), .int .i64 0] w (PlacesPost w N 0 (tabN l s locaTg (2 * (N : Int)))) := by
  have HR := Lib.hid hR
  have HF := Lib.hid hF
  have HG := Lib.hid hR.lt
  have HS := Lib.hid hF.size
  have HW := Lib.hid hn2
  have hc3 := (hR.c 2 (by omega)).trans hn
  clear hR hF hn
  obtain ⟨v, HV⟩ : ∃ v, Hid (tabN l s locaTg (2 * (N : Int)) = v) := ⟨_, rfl⟩
  have e1 : wrap64 ((n : Int) + 1) = (N : Int) := by unfold wrap64; omega
  have e2 : wrap64 (2 * (N : Int)) = 2 * (N : Int) := by unfold wrap64; omega
  have HN : Hid (N ≤ 4097) := by unfold Hid; omega
  obtain ⟨w2, hmk1, hi1, hbb1, hz1⟩ := make_ints N (by omega) w
  have HI1 := Lib.hid hi1
  have HBB1 := Lib.hid hbb1
  have HZ1 := Lib.hid hz1
  clear hn2 hi1 hbb1 hz1 hN
  go_enter Try.func58, Try.ntmps58
  go_wp2_with fail
  refine (need_c w2.heap.size gr gf kd (2 * (N : Int)) l s _ w2 (HR.out.kept HBB1.out HG.out).p ((HF.out.kept (HBB1.out.mono (Nat.le_of_lt HG.out))).mono (by have := HG.out; have := HZ1.out; omega)) (Nat.le_refl _)).mono ?_
  rw [show (ByteArray.toList ⟨#[108, 111, 99, 97]⟩) = locaTg from tl_locaTg, HV.out]
  cases v with
  | none =>
    rintro e w1 ⟨rfl, hb1⟩
    unfold gave
    go_wp2_with fail
    exact ⟨rfl, placesPost_no (by first | exact HV.out | rfl) (HBB1.out.trans (hb1.mono HBB1.out.size))⟩
  | some b =>
    have HZ := Lib.hid (tab_small HV.out HS.out)
    rintro e w1 ⟨gv, rfl, hc1, hs1, hb1⟩
    have HL0 : Hid (PLoop w N gv 0 b 0 w1) := ⟨HBB1.out.trans (hb1.mono HBB1.out.size), by rw [partL_start]; exact HI1.out.below hb1, hc1, by have := HZ1.out; omega⟩
    clear hb1 hs1 hc1 hmk1 hc3
    go_wp2_with fail
    go_loopw [26] (fun i wr => ∃ k : Nat, k ≤ N ∧ i = .int .i64 k ∧ Hid (PLoop w N gv 0 b k wr)) (fun i _ => N - (intOf i).toNat)
    case atStart => exact ⟨0, Nat.zero_le _, rfl, HL0⟩
    case round =>
      clear HL0
      obtain ⟨k, hk, rfl, HL⟩ := hrel
      by_cases hlt : k < N
      · have hlt' : (k : Int) < (N : Int) := by omega
        have hv := HL.out.v
        have hca := HL.out.a.cell (i := k) (by rw [partL_length]; exact hlt)
        have hfa := HL.out.a.frozen k
        have X1 := num_in (b := b) (a := 2 * (k : Int)) (n := 2) (by omega) (by omega) (by have := HZ.out; omega)
        have HY1 : Hid (placeAt b 0 k = 2 * (numOr b (2 * (k : Int)) 2).1) := placeAt_zero b k
        have B1 := Lib.hid (num16_bound X1.out)
        generalize (numOr b (2 * (k : Int)) 2).1 = x1 at *
        have hm1 : wrap64 (2 * (k : Int)) = 2 * (k : Int) := by have := HN.out; unfold wrap64; omega
        have hm2 : wrap64 (2 * x1) = 2 * x1 := by have := B1.out; unfold wrap64; omega
        have HY3 := Lib.hid (ploop_next HL.out HY1.out)
        go_wp2_with fail
        rw [hm1]
        refine (u16_c gv (2 * (k : Int)) x1 0 b wr hv (by have := HZ.out; omega) (by have := HN.out; omega) X1).mono ?_
        rintro e wq ⟨rfl, rfl⟩
        go_wp2_with fail
        refine (number_yes _ _).mono ?_
        rintro e wq ⟨rfl, rfl⟩
        go_wp2_with fail
        have HW7 : Hid (wrap64 ((k : Int) + 1) = ((k + 1 : Nat) : Int)) := by have := HN.out; unfold Hid wrap64; omega
        go_roundw
        case rel => exact ⟨k + 1, by omega, by rw [HW7.out], HY3⟩
        case measure => rw [HW7.out]; simp only [intOf]; omega
      · have hlt' : ¬ (k : Int) < (N : Int) := by omega
        have e : k = N := by omega
        have HA : Hid (IntsAt wr w.heap.size (allPlaces b 0 N)) := by
          have := HL.out.a
          rw [e, partL_end] at this
          exact this
        have HP := Lib.hid HL.out.bel
        clear e
        go_wp2_with fail
        go_ret
        exact placesPost_yes HV.out HP.out HA.out

set_option maxHeartbeats 2000000 in
theorem places1_c (gr gf n N : Nat) (hN : N = n + 1) (kd : Int) (l : List Row) (s : ByteArray) (w : World) (vs : List Value) (hR : Rd w gr gf vs) (hn : vs[2]? = some (.int .i64 n)) (hF : FontIn gr w gf kd l s) (hn2 : n ≤ 4096) :
    Calls Try.prog 58 #[.pointer (some ⟨gr, 0, none⟩), .int .i64 1] w (PlacesPost w N 1 (tabN l s locaTg (4 * (N : Int)))) := by
  have HR := Lib.hid hR
  have HF := Lib.hid hF
  have HG := Lib.hid hR.lt
  have HS := Lib.hid hF.size
  have HW := Lib.hid hn2
  have hc3 := (hR.c 2 (by omega)).trans hn
  clear hR hF hn
  obtain ⟨v, HV⟩ : ∃ v, Hid (tabN l s locaTg (4 * (N : Int)) = v) := ⟨_, rfl⟩
  have e1 : wrap64 ((n : Int) + 1) = (N : Int) := by unfold wrap64; omega
  have e2 : wrap64 (4 * (N : Int)) = 4 * (N : Int) := by unfold wrap64; omega
  have HN : Hid (N ≤ 4097) := by unfold Hid; omega
  obtain ⟨w2, hmk1, hi1, hbb1, hz1⟩ := make_ints N (by omega) w
  have HI1 := Lib.hid hi1
  have HBB1 := Lib.hid hbb1
  have HZ1 := Lib.hid hz1
  clear hn2 hi1 hbb1 hz1 hN
  go_enter Try.func58, Try.ntmps58
  go_wp2_with fail
  refine (need_c w2.heap.size gr gf kd (4 * (N : Int)) l s _ w2 (HR.out.kept HBB1.out HG.out).p ((HF.out.kept (HBB1.out.mono (Nat.le_of_lt HG.out))).mono (by have := HG.out; have := HZ1.out; omega)) (Nat.le_refl _)).mono ?_
  rw [show (ByteArray.toList ⟨#[108, 111, 99, 97]⟩) = locaTg from tl_locaTg, HV.out]
  cases v with
  | none =>
    rintro e w1 ⟨rfl, hb1⟩
    unfold gave
    go_wp2_with fail
    exact ⟨rfl, placesPost_no (by first | exact HV.out | rfl) (HBB1.out.trans (hb1.mono HBB1.out.size))⟩
  | some b =>
    have HZ := Lib.hid (tab_small HV.out HS.out)
    rintro e w1 ⟨gv, rfl, hc1, hs1, hb1⟩
    have HL0 : Hid (PLoop w N gv 1 b 0 w1) := ⟨HBB1.out.trans (hb1.mono HBB1.out.size), by rw [partL_start]; exact HI1.out.below hb1, hc1, by have := HZ1.out; omega⟩
    clear hb1 hs1 hc1 hmk1 hc3
    go_wp2_with fail
    go_loopw [49] (fun i wr => ∃ k : Nat, k ≤ N ∧ i = .int .i64 k ∧ Hid (PLoop w N gv 1 b k wr)) (fun i _ => N - (intOf i).toNat)
    case atStart => exact ⟨0, Nat.zero_le _, rfl, HL0⟩
    case round =>
      clear HL0
      obtain ⟨k, hk, rfl, HL⟩ := hrel
      by_cases hlt : k < N
      · have hlt' : (k : Int) < (N : Int) := by omega
        have hv := HL.out.v
        have hca := HL.out.a.cell (i := k) (by rw [partL_length]; exact hlt)
        have hfa := HL.out.a.frozen k
        have X1 := num_in (b := b) (a := 4 * (k : Int)) (n := 4) (by omega) (by omega) (by have := HZ.out; omega)
        have HY1 : Hid (placeAt b 1 k = (numOr b (4 * (k : Int)) 4).1) := placeAt_one b k
        have B1 := Lib.hid (num32_bound X1.out)
        generalize (numOr b (4 * (k : Int)) 4).1 = x1 at *
        have hm1 : wrap64 (4 * (k : Int)) = 4 * (k : Int) := by have := HN.out; unfold wrap64; omega
        have HY3 := Lib.hid (ploop_next HL.out HY1.out)
        go_wp2_with fail
        rw [hm1]
        refine (u32_c gv (4 * (k : Int)) x1 0 b wr hv (by have := HZ.out; omega) (by have := HN.out; omega) X1).mono ?_
        rintro e wq ⟨rfl, rfl⟩
        go_wp2_with fail
        refine (number_yes _ _).mono ?_
        rintro e wq ⟨rfl, rfl⟩
        go_wp2_with fail
        have HW7 : Hid (wrap64 ((k : Int) + 1) = ((k + 1 : Nat) : Int)) := by have := HN.out; unfold Hid wrap64; omega
        go_roundw
        case rel => exact ⟨k + 1, by omega, by rw [HW7.out], HY3⟩
        case measure => rw [HW7.out]; simp only [intOf]; omega
      · have hlt' : ¬ (k : Int) < (N : Int) := by omega
        have e : k = N := by omega
        have HA : Hid (IntsAt wr w.heap.size (allPlaces b 1 N)) := by
          have := HL.out.a
          rw [e, partL_end] at this
          exact this
        have HP := Lib.hid HL.out.bel
        clear e
        go_wp2_with fail
        go_ret
        exact placesPost_yes HV.out HP.out HA.out

end Go.Proofs.Ytbcjicmledckbaa
