/-
  The walk of PeekCuts: it answers true at every slice of bytes and every two integers, in every world, and changes nothing that was there. Condition: the slice has at most 2 to the 46th bytes.
-/
import Derived.Test.YtckadnegilmdbaaPeekU
import Derived.BigQuiet
import Derived.Deep.RegionHeld3
namespace Go.Proofs.Ytckadnegilmdbaa.peekCuts
open Go.RowKit Go.PlainAid
set_option linter.unusedSimpArgs false
set_option linter.unusedVariables false

set_option maxRecDepth 20000 in
set_option maxHeartbeats 1000000 in
theorem walkA (a : Option Addr) (cap : Nat) (s : ByteArray) (at' n : Int) (w : World) (hB : IsB w a s.size cap s) (hs : (s.size : Int) ≤ 70368744177664) (ha : at' ≤ 9223372036854775807) (h : hasB s at' n = false) :
    Calls Try.prog 4 #[.slice a s.size cap, .int .i64 at', .int .i64 n] w fun e w' => e = .returned (.bool true) ∧ Below w.heap.size w w' := by
  have HB := Lib.hid hB
  have HS := Lib.hid hs
  have HA := Lib.hid ha
  have HH := Lib.hid h
  clear hB hs ha h
  go_enter Try.func4, Try.ntmps4
  go_wp2_with fail
  refine (alive_c _).mono ?_
  rintro e w1 ⟨rfl, hb1⟩
  have HB1 := Lib.hid (HB.out.below hb1)
  have HW1 := Lib.hid hb1
  clear hb1
  go_wp2_with (at_builtin; refine wpList_copy rfl _ _ rfl w1 a s.size cap s rfl rfl HB1.out (by have := HS.out; omega) ?_; intro go co w2 hown hb2)
  have HC2 := Lib.hid (isB_of_owns hown)
  have HW2 := Lib.hid (HW1.out.trans (hb2.mono HW1.out.size))
  clear hb2 hown HB1
  refine (new_c _ _ _ s _ HC2.out).mono ?_
  rintro e w3 ⟨rfl, hw3⟩
  have hb3 : Below w2.heap.size w2 w3 := by rw [hw3]; exact (Below.refl _ _).alloc (Nat.le_refl _) _
  have HC3 : Hid (w3.cell? ⟨w2.heap.size, 0, none⟩ = some (.string s)) := by unfold Hid; rw [hw3]; simp [go_sem]
  have HW3 := Lib.hid (HW2.out.trans (hb3.mono HW2.out.size))
  generalize w2.heap.size = gv at *
  clear hw3 hb3 HC2 HW2 HW1
  go_wp2_with fail
  refine (cut_no gv at' n s _ HC3.out (by have := HS.out; omega) HA.out HH.out).mono ?_
  rintro e w4 ⟨rfl, rfl⟩
  go_wp2_with fail
  refine (u16s_no1 gv at' n s _ HC3.out (by have := HS.out; omega) HA.out HH.out).mono ?_
  rintro e w4 ⟨rfl, rfl⟩
  by_cases h1 : 0 ≤ n
  · by_cases h2 : n ≤ (s.size : Int)
    · have hw : wrap64 (2 * n) = 2 * n := by have := HS.out; unfold wrap64; omega
      have HT := Lib.hid (hasB_twice HH.out h1)
      go_wp2_with fail
      rw [hw]
      refine (has_c a s.size cap s at' (2 * n) _ rfl (by have := HS.out; omega)).mono ?_
      rintro e w4 ⟨rfl, rfl⟩
      rw [HT.out]
      go_wp2_with fail
      go_loop [78] (fun i => i = .int .i64 0) (fun i => 0)
      case atStart => rfl
      case round =>
        subst hrel
        go_wp2_with fail
        refine (has_c a s.size cap s at' n _ rfl (by have := HS.out; omega)).mono ?_
        rintro e w4 ⟨rfl, rfl⟩
        rw [HH.out]
        go_wp2_with fail
        go_ret
        exact ⟨rfl, HW3.out⟩
    · go_wp2_with fail
      go_loop [78] (fun i => i = .int .i64 0) (fun i => 0)
      case atStart => rfl
      case round =>
        subst hrel
        go_wp2_with fail
        refine (has_c a s.size cap s at' n _ rfl (by have := HS.out; omega)).mono ?_
        rintro e w4 ⟨rfl, rfl⟩
        rw [HH.out]
        go_wp2_with fail
        go_ret
        exact ⟨rfl, HW3.out⟩
  · go_wp2_with fail
    go_loop [78] (fun i => i = .int .i64 0) (fun i => 0)
    case atStart => rfl
    case round =>
      subst hrel
      go_wp2_with fail
      refine (has_c a s.size cap s at' n _ rfl (by have := HS.out; omega)).mono ?_
      rintro e w4 ⟨rfl, rfl⟩
      rw [HH.out]
      go_wp2_with fail
      go_ret
      exact ⟨rfl, HW3.out⟩

theorem num_past (t : ByteArray) : Hid (numOr t t.size 1 = (0, 21)) := by
  unfold Hid numOr
  rw [if_neg (by simp [hasB])]
theorem bytes_view {g : Nat} {t : ByteArray} {w w' : World} (hw : w' = Lib.bytesWorld w 5 t) (h : w.cell? ⟨g, 0, none⟩ = some (.string t)) : Hid (w'.cell? ⟨g, 0, none⟩ = some (.string t)) := by
  unfold Hid
  rw [hw, Lib.bytesWorld_old _ _ _ _ (World.block_lt_of_cell? w _ h)]
  exact h
theorem bytes_isB {t : ByteArray} {w w' : World} (hw : w' = Lib.bytesWorld w 5 t) : Hid (IsB w' (some ⟨w.heap.size, 0, none⟩) t.size (grownCap w t.size 0 5) t) := by
  rw [hw]; exact isB_bytes w t _
theorem bytes_bel {t : ByteArray} {w0 w w' : World} (hw : w' = Lib.bytesWorld w 5 t) (h : Below w0.heap.size w0 w) : Hid (Below w0.heap.size w0 w') := by
  rw [hw]; exact h.trans ((below_bytes w t _).mono h.size)

/-- What is kept while the list is gone through. -/
structure Lst (w : World) (s t : ByteArray) (p gc gl : Nat) (wr : World) : Prop where
  bel : Below w.heap.size w wr
  c : wr.cell? ⟨gc, 0, none⟩ = some (.string t)
  nums : ∀ i, i < t.size → wr.cell? ⟨gl, i, none⟩ = some (.int .i64 (numN s (p + 2 * i) 2))
theorem Lst.drewN {w : World} {s t : ByteArray} {p gc gl : Nat} {wr : World} (h : Lst w s t p gc gl wr) (n : Nat) : Lst w s t p gc gl (wr.drewN n) :=
  ⟨⟨h.bel.os, h.bel.tape, h.bel.output, h.bel.size, h.bel.block⟩, h.c, h.nums⟩

set_option maxRecDepth 20000 in
set_option maxHeartbeats 1000000 in
theorem walkB (a : Option Addr) (cap p : Nat) (s t : ByteArray) (w : World) (hB : IsB w a s.size cap s) (hs : (s.size : Int) ≤ 70368744177664) (h : p + t.size ≤ s.size) (h2 : ¬ p + 2 * t.size ≤ s.size) (HT : Hid (s.extract p (p + t.size) = t)) :
    Calls Try.prog 4 #[.slice a s.size cap, .int .i64 p, .int .i64 t.size] w fun e w' => e = .returned (.bool true) ∧ Below w.heap.size w w' := by
  have HB := Lib.hid hB
  have HS := Lib.hid hs
  have HP := Lib.hid h
  have HE : Hid (hasB s p t.size = true) := by unfold Hid; simp [hasB]; omega
  have HF : Hid (hasB s p (2 * (t.size : Int)) = false) := by unfold Hid; simp [hasB]; omega
  have hw : wrap64 (2 * (t.size : Int)) = 2 * (t.size : Int) := by unfold wrap64; omega
  have hw2 : wrap64 ((p : Int) + (t.size : Int)) = ((p + t.size : Nat) : Int) := by unfold wrap64; omega
  have h3 : (t.size : Int) ≤ (s.size : Int) := by omega
  have h4 : (0 : Int) ≤ (t.size : Int) := by omega
  clear hB hs h h2
  go_enter Try.func4, Try.ntmps4
  go_wp2_with fail
  refine (alive_c _).mono ?_
  rintro e w1 ⟨rfl, hb1⟩
  have HB1 := Lib.hid (HB.out.below hb1)
  have HW1 := Lib.hid hb1
  clear hb1
  go_wp2_with (at_builtin; refine wpList_copy rfl _ _ rfl w1 a s.size cap s rfl rfl HB1.out (by have := HS.out; omega) ?_; intro go co w2 hown hb2)
  have HC2 := Lib.hid (isB_of_owns hown)
  have HW2 := Lib.hid (HW1.out.trans (hb2.mono HW1.out.size))
  clear hb2 hown HB1
  refine (new_c _ _ _ s _ HC2.out).mono ?_
  rintro e w3 ⟨rfl, hw3⟩
  have hb3 : Below w2.heap.size w2 w3 := by rw [hw3]; exact (Below.refl _ _).alloc (Nat.le_refl _) _
  have HC3 : Hid (w3.cell? ⟨w2.heap.size, 0, none⟩ = some (.string s)) := by unfold Hid; rw [hw3]; simp [go_sem]
  have HW3 := Lib.hid (HW2.out.trans (hb3.mono HW2.out.size))
  generalize w2.heap.size = gv at *
  clear hw3 hb3 HC2 HW2 HW1
  go_wp2_with fail
  refine (cut_yes gv p t.size s _ HC3.out (by have := HS.out; omega) HP.out).mono ?_
  rintro e w4 ⟨rfl, hw4⟩
  rw [HT.out] at hw4
  have hb4 : Below w3.heap.size w3 w4 := by rw [hw4]; exact (Below.refl _ _).alloc (Nat.le_refl _) _
  have HC4 : Hid (w4.cell? ⟨w3.heap.size, 0, none⟩ = some (.string t)) := by unfold Hid; rw [hw4]; simp [go_sem]
  have HV4 : Hid (w4.cell? ⟨gv, 0, none⟩ = some (.string s)) := by
    unfold Hid; rw [hb4.cell (p := ⟨gv, 0, none⟩) (World.block_lt_of_cell? w3 _ HC3.out)]; exact HC3.out
  have HW4 := Lib.hid (HW3.out.trans (hb4.mono HW3.out.size))
  generalize w3.heap.size = gc at *
  clear hw4 hb4 HC3 HW3
  go_wp2_with fail
  refine (u16s_no2 gv p t.size s _ HV4.out (by have := HS.out; omega) (by have := HS.out; have := HP.out; omega) HE.out HF.out).mono ?_
  rintro e w5 ⟨rfl, rfl⟩
  go_wp2_with fail
  rw [hw]
  refine (has_c a s.size cap s p (2 * (t.size : Int)) _ rfl (by have := HS.out; omega)).mono ?_
  rintro e w5 ⟨rfl, rfl⟩
  rw [HF.out]
  go_wp2_with fail
  go_loop [78] (fun i => i = .int .i64 0) (fun i => 0)
  case atStart => rfl
  case round =>
    subst hrel
    go_wp2_with fail
    refine (has_c a s.size cap s p t.size _ rfl (by have := HS.out; omega)).mono ?_
    rintro e w5 ⟨rfl, rfl⟩
    rw [HE.out]
    obtain ⟨a2, c2, hsl, hpart⟩ := slice_bytes a cap p t.size s w HB.out HP.out
    rw [HT.out] at hpart
    have HQ := Lib.hid hpart
    have htt : (t.toList == t.toList) = true := by simp
    have hnn : ((t.size : Int) != (t.size : Int)) = false := by simp
    rw [show ((p + t.size : Nat) : Int) = (p : Int) + (t.size : Int) by omega] at hsl
    have hcap : (p : Int) + (t.size : Int) ≤ (cap : Int) := by have := HB.out.2.1; have := HP.out; omega
    have hp0 : (0 : Int) ≤ (p : Int) := by omega
    have hp1 : (p : Int) ≤ (p : Int) + (t.size : Int) := by omega
    clear hpart
    go_wp2_with fail
    have hiw : IntKind.i64.wrap ((p : Int) + (t.size : Int)) = (p : Int) + (t.size : Int) := by rw [IntWalk.i64_left, hw2]; omega
    clear hw2
    go_region_held3 (fun W => W.cell? ⟨gc, 0, none⟩ = some (.string t)) (first | exact HC4.out | exact HC6.out)
      (first
        | (go_at_call 8; refine (len_c gc t w4.drew HC4.out).mono ?_; rintro e w6 ⟨rfl, rfl⟩)
        | (go_at_call 10; refine (bytes_c gc t w4.drew HC4.out).mono ?_; rintro e w6 ⟨rfl, hw6⟩; have HC6 := bytes_view hw6 HC4.out; have HO6 := bytes_isB hw6; have HW6 := bytes_bel hw6 HW4.out.drew; clear hw6)
        | (go_at_call 9; refine (same_c _ _ _ _ _ _ t t w6 HO6.out (HQ.out w6 HW6.out)).mono ?_; rintro e w7 ⟨rfl, rfl⟩; rw [htt]))
    go_wp2_with fail
    refine (u8_c gc t.size 0 21 t _ HC6.out (by have := HS.out; have := HP.out; omega) (by have := HS.out; have := HP.out; omega) (num_past t)).mono ?_
    rintro e w7 ⟨rfl, rfl⟩
    go_wp2_with fail
    go_ret
    exact ⟨rfl, HW6.out⟩

set_option maxRecDepth 20000 in
set_option maxHeartbeats 1000000 in
theorem walkC (a : Option Addr) (cap p : Nat) (s t : ByteArray) (w : World) (hB : IsB w a s.size cap s) (hs : (s.size : Int) ≤ 70368744177664) (h : p + t.size ≤ s.size) (h2 : p + 2 * t.size ≤ s.size) (HT : Hid (s.extract p (p + t.size) = t)) :
    Calls Try.prog 4 #[.slice a s.size cap, .int .i64 p, .int .i64 t.size] w fun e w' => e = .returned (.bool true) ∧ Below w.heap.size w w' := by
  have HB := Lib.hid hB
  have HS := Lib.hid hs
  have HP := Lib.hid h
  have HE : Hid (hasB s p t.size = true) := by unfold Hid; simp [hasB]; omega
  have HP2 := Lib.hid h2
  have HF : Hid (hasB s p (2 * (t.size : Int)) = true) := by unfold Hid; simp [hasB]; omega
  have hw : wrap64 (2 * (t.size : Int)) = 2 * (t.size : Int) := by unfold wrap64; omega
  have hw2 : wrap64 ((p : Int) + (t.size : Int)) = ((p + t.size : Nat) : Int) := by unfold wrap64; omega
  have h3 : (t.size : Int) ≤ (s.size : Int) := by omega
  have h4 : (0 : Int) ≤ (t.size : Int) := by omega
  clear hB hs h h2
  go_enter Try.func4, Try.ntmps4
  go_wp2_with fail
  refine (alive_c _).mono ?_
  rintro e w1 ⟨rfl, hb1⟩
  have HB1 := Lib.hid (HB.out.below hb1)
  have HW1 := Lib.hid hb1
  clear hb1
  go_wp2_with (at_builtin; refine wpList_copy rfl _ _ rfl w1 a s.size cap s rfl rfl HB1.out (by have := HS.out; omega) ?_; intro go co w2 hown hb2)
  have HC2 := Lib.hid (isB_of_owns hown)
  have HW2 := Lib.hid (HW1.out.trans (hb2.mono HW1.out.size))
  clear hb2 hown HB1
  refine (new_c _ _ _ s _ HC2.out).mono ?_
  rintro e w3 ⟨rfl, hw3⟩
  have hb3 : Below w2.heap.size w2 w3 := by rw [hw3]; exact (Below.refl _ _).alloc (Nat.le_refl _) _
  have HC3 : Hid (w3.cell? ⟨w2.heap.size, 0, none⟩ = some (.string s)) := by unfold Hid; rw [hw3]; simp [go_sem]
  have HW3 := Lib.hid (HW2.out.trans (hb3.mono HW2.out.size))
  generalize w2.heap.size = gv at *
  clear hw3 hb3 HC2 HW2 HW1
  go_wp2_with fail
  refine (cut_yes gv p t.size s _ HC3.out (by have := HS.out; omega) HP.out).mono ?_
  rintro e w4 ⟨rfl, hw4⟩
  rw [HT.out] at hw4
  have hb4 : Below w3.heap.size w3 w4 := by rw [hw4]; exact (Below.refl _ _).alloc (Nat.le_refl _) _
  have HC4 : Hid (w4.cell? ⟨w3.heap.size, 0, none⟩ = some (.string t)) := by unfold Hid; rw [hw4]; simp [go_sem]
  have HV4 : Hid (w4.cell? ⟨gv, 0, none⟩ = some (.string s)) := by
    unfold Hid; rw [hb4.cell (p := ⟨gv, 0, none⟩) (World.block_lt_of_cell? w3 _ HC3.out)]; exact HC3.out
  have HW4 := Lib.hid (HW3.out.trans (hb4.mono HW3.out.size))
  generalize w3.heap.size = gc at *
  clear hw4 hb4 HC3 HW3
  go_wp2_with fail
  refine (u16s_yes gv p t.size s _ HV4.out HS.out HP2.out).mono ?_
  rintro e w5 ⟨rfl, nums⟩
  have HL5 : Hid (Lst w s t p gc w4.heap.size w5) := ⟨HW4.out.trans (nums.bel.mono HW4.out.size), by rw [nums.bel.cell (p := ⟨gc, 0, none⟩) (World.block_lt_of_cell? w4 _ HC4.out)]; exact HC4.out, nums.nums⟩
  clear nums HC4 HV4 HW4
  generalize w4.heap.size = gl at *
  go_wp2_with fail
  rw [hw]
  refine (has_c a s.size cap s p (2 * (t.size : Int)) _ rfl (by have := HS.out; omega)).mono ?_
  rintro e w5 ⟨rfl, rfl⟩
  rw [HF.out]
  go_wp2_with fail
  go_loopw [78] (fun i wr => ∃ j : Nat, j ≤ t.size ∧ i = .int .i64 j ∧ Lst w s t p gc gl wr) (fun i _ => t.size - (intOf i).toNat)
  case atStart => exact ⟨0, Nat.zero_le _, rfl, HL5.out⟩
  case round =>
    clear HL5
    obtain ⟨j, hj, rfl, lst⟩ := hrel
    by_cases hlt : j < t.size
    · have hlt' : (j : Int) < (t.size : Int) := by omega
      have hj0 : (0 : Int) ≤ (j : Int) := by omega
      have hcell := lst.nums j hlt
      have HL := Lib.hid lst
      clear lst
      obtain ⟨x, HX⟩ : ∃ x, Hid (x = numN s (p + 2 * j) 2) := ⟨_, rfl⟩
      rw [← HX.out] at hcell
      have HN : Hid (numOr s ((p : Int) + 2 * (j : Int)) 2 = (x, 0)) := by
        have := HP2.out
        have e1 : ((p : Int) + 2 * (j : Int)).toNat = p + 2 * j := by omega
        unfold Hid numOr
        rw [if_pos (by simp [hasB]; omega), HX.out, e1]
        rfl
      have hxx : (x != x) = false := by simp
      have HW7 : Hid (wrap64 ((j : Int) + 1) = ((j + 1 : Nat) : Int)) := by have := HS.out; have := HP.out; unfold Hid wrap64; omega
      have hm1 : IntKind.i64.wrap (2 * (j : Int)) = 2 * (j : Int) := by rw [IntWalk.i64_left]; have := HS.out; have := HP.out; unfold wrap64; omega
      have hm2 : IntKind.i64.wrap ((p : Int) + 2 * (j : Int)) = (p : Int) + 2 * (j : Int) := by rw [IntWalk.i64_left]; have := HS.out; have := HP2.out; unfold wrap64; omega
      go_wp2_with fail
      go_quiet ((go_at_call 23; refine Calls.quiet_of_same ((refu16_c a s.size cap s ((p : Int) + 2 * (j : Int)) x 0 _ (HB.out.below (HL.out.drewN _).bel) (by have := HS.out; omega) HN).mono fun e w' ⟨he, hw⟩ => ⟨he, hw.symm⟩)))
      go_wp2_with fail
      go_roundw
      case rel => exact ⟨j + 1, by omega, by rw [HW7.out], HL.out.drewN _⟩
      case measure => rw [HW7.out]; simp only [intOf]; omega
    · have hlt' : ¬ (j : Int) < (t.size : Int) := by omega
      have HL := Lib.hid lst
      clear lst
      go_wp2_with fail
      refine (has_c a s.size cap s p t.size _ rfl (by have := HS.out; omega)).mono ?_
      rintro e w5 ⟨rfl, rfl⟩
      rw [HE.out]
      obtain ⟨a2, c2, hsl, hpart⟩ := slice_bytes a cap p t.size s w HB.out HP.out
      rw [HT.out] at hpart
      have HQ := Lib.hid hpart
      have htt : (t.toList == t.toList) = true := by simp
      have hnn : ((t.size : Int) != (t.size : Int)) = false := by simp
      rw [show ((p + t.size : Nat) : Int) = (p : Int) + (t.size : Int) by omega] at hsl
      have hcap : (p : Int) + (t.size : Int) ≤ (cap : Int) := by have := HB.out.2.1; have := HP.out; omega
      have hp0 : (0 : Int) ≤ (p : Int) := by omega
      have hp1 : (p : Int) ≤ (p : Int) + (t.size : Int) := by omega
      clear hpart
      go_wp2_with fail
      have hiw : IntKind.i64.wrap ((p : Int) + (t.size : Int)) = (p : Int) + (t.size : Int) := by rw [IntWalk.i64_left, hw2]; omega
      clear hw2
      go_region_held3 (fun W => W.cell? ⟨gc, 0, none⟩ = some (.string t)) (first | exact HL.out.c | exact HC6.out)
        (first
          | (go_at_call 8; refine (len_c gc t wr.drew HL.out.c).mono ?_; rintro e w6 ⟨rfl, rfl⟩)
          | (go_at_call 10; refine (bytes_c gc t wr.drew HL.out.c).mono ?_; rintro e w6 ⟨rfl, hw6⟩; have HC6 := bytes_view hw6 HL.out.c; have HO6 := bytes_isB hw6; have HW6 := bytes_bel hw6 HL.out.bel.drew; clear hw6)
          | (go_at_call 9; refine (same_c _ _ _ _ _ _ t t w6 HO6.out (HQ.out w6 HW6.out)).mono ?_; rintro e w7 ⟨rfl, rfl⟩; rw [htt]))
      go_wp2_with fail
      refine (u8_c gc t.size 0 21 t _ HC6.out (by have := HS.out; have := HP.out; omega) (by have := HS.out; have := HP.out; omega) (num_past t)).mono ?_
      rintro e w7 ⟨rfl, rfl⟩
      go_wp2_with fail
      go_ret
      exact ⟨rfl, HW6.out⟩

theorem walk (a : Option Addr) (cap : Nat) (s : ByteArray) (at' n : Int) (w : World) (hB : IsB w a s.size cap s) (hz : (s.size : Int) ≤ 140737488351232) (hu : s.size ≤ 1048576) (w1 : (Lit.int .i64 at').wf = true) (w2 : (Lit.int .i64 n).wf = true) :
    Calls Try.prog 4 #[.slice a s.size cap, .int .i64 at', .int .i64 n] w fun e w' => e = .returned (.bool true) ∧ Below w.heap.size w w' := by
  have ha : at' ≤ 9223372036854775807 := by simp [Lit.wf, IntKind.min, IntKind.max, IntKind.signed, IntKind.bits] at w1; omega
  cases h : hasB s at' n
  · exact walkA a cap s at' n w hB (by omega) ha h
  · simp [hasB] at h
    obtain ⟨p, rfl⟩ := Int.eq_ofNat_of_zero_le h.1.1
    obtain ⟨k, rfl⟩ := Int.eq_ofNat_of_zero_le h.1.2
    have hk : (s.extract p (p + k)).size = k := by rw [ByteArray.size_extract]; omega
    obtain ⟨t, ht⟩ : ∃ t, t = s.extract p (p + k) := ⟨_, rfl⟩
    have e : k = t.size := by rw [ht, hk]
    subst e
    by_cases h2 : p + 2 * t.size ≤ s.size
    · exact walkC a cap p s t w hB (by omega) (by omega) h2 ht.symm
    · exact walkB a cap p s t w hB (by omega) (by omega) h2 ht.symm

end Go.Proofs.Ytckadnegilmdbaa.peekCuts
