/-
  What the document's Has, Num, U16, U32, I16 and Tag answer, as contracts over the translated program: no world is changed.
-/
import Derived.Test.YtbcjicmledckbaaMet
namespace Go.Proofs.Ytbcjicmledckbaa
open Go.RowKit Go.PlainAid
set_option linter.unusedSimpArgs false
set_option linter.unusedVariables false

set_option maxHeartbeats 400000 in
theorem has_c (a : Option Addr) (len cap : Nat) (s : ByteArray) (at' n : Int) (w : World) (hl : s.size = len) (hs : (len : Int) ≤ 140737488355328) :
    Calls Try.prog 22 #[.slice a len cap, .int .i64 at', .int .i64 n] w fun e w' => e = .returned (.bool (hasB s at' n)) ∧ w = w' := by
  subst hl
  by_cases h1 : 0 ≤ at'
  · by_cases h2 : 0 ≤ n
    · by_cases h3 : at' ≤ (s.size : Int)
      · have HW : wrap64 ((s.size : Int) - at') = (s.size : Int) - at' := by unfold wrap64; omega
        have HE := Lib.hid (hasB_sub (s := s) h1 h2)
        clear hs
        go_enter Try.func22, Try.ntmps22
        go_wp2
        go_ret
        rw [HE.out, HW]
        exact ⟨rfl, rfl⟩
      · have HE : Hid (hasB s at' n = false) := by unfold Hid; rw [hasB_sub h1 h2]; simp; omega
        clear hs
        go_enter Try.func22, Try.ntmps22
        go_wp2
        go_ret
        rw [HE.out]
        exact ⟨rfl, rfl⟩
    · have HE := Lib.hid (hasB_no2 (s := s) (a := at') h2)
      clear hs
      go_enter Try.func22, Try.ntmps22
      go_wp2
      go_ret
      rw [HE.out]
      exact ⟨rfl, rfl⟩
  · have HE := Lib.hid (hasB_no1 (s := s) (n := n) h1)
    clear hs
    go_enter Try.func22, Try.ntmps22
    go_wp2
    go_ret
    rw [HE.out]
    exact ⟨rfl, rfl⟩

set_option maxHeartbeats 400000 in
theorem refnum_c (a : Option Addr) (len cap : Nat) (s : ByteArray) (at' n x f : Int) (w : World) (hB : IsB w a len cap s) (hs : (len : Int) ≤ 140737488355328) (hn1 : 1 ≤ n) (hn4 : n ≤ 4) (HX : Hid (numOr s at' n = (x, f))) :
    Calls Try.prog 45 #[.slice a len cap, .int .i64 at', .int .i64 n] w fun e w' => e = .returned (.tuple #[.int .i64 x, .int .i64 f]) ∧ w = w' := by
  have HH := Lib.hid (has_c a len cap s at' n w hB.1 hs)
  cases h : hasB s at' n
  · have HE := Lib.hid h
    have HY : Hid ((0 : Int) = x ∧ (21 : Int) = f) := by have := HX.out; rw [numOr, h] at this; unfold Hid; simpa using this
    clear h hs hn1 hn4 hB
    go_enter Try.func45, Try.ntmps45
    go_wp2_with fail
    refine HH.out.mono ?_
    rintro e w1 ⟨rfl, rfl⟩
    rw [HE.out]
    go_wp2_with fail
    go_ret2
    rw [HY.out.1, HY.out.2]
    exact ⟨rfl, rfl⟩
  · have HE := Lib.hid h
    have HY : Hid (numN s at'.toNat n.toNat = x ∧ (0 : Int) = f) := by have := HX.out; rw [numOr, h] at this; unfold Hid; simpa using this
    simp [hasB] at h
    obtain ⟨hl, _, rfl | ⟨b, off, rfl, hc⟩⟩ := hB
    · exfalso; omega
    obtain ⟨p, rfl⟩ := Int.eq_ofNat_of_zero_le h.1.1
    obtain ⟨k, rfl⟩ := Int.eq_ofNat_of_zero_le h.1.2
    have HP : Hid (p + k ≤ len) := by unfold Hid; omega
    have HS := Lib.hid hs
    have HK : Hid (k ≤ 4) := by unfold Hid; omega
    have HC := Lib.hid hc
    clear h hs hn1 hn4 hc
    go_enter Try.func45, Try.ntmps45
    go_wp2_with fail
    refine HH.out.mono ?_
    rintro e w1 ⟨rfl, rfl⟩
    rw [HE.out]
    go_wp2_with fail
    go_loop [8, 9] (fun x i => ∃ j : Nat, ∃ m : Int, j ≤ k ∧ x = .int .i64 m ∧ i = .int .i64 (j : Int) ∧ Hid (m = numN s p j)) (fun x i => k - (intOf i).toNat)
    case atStart => exact ⟨0, 0, Nat.zero_le _, rfl, rfl, rfl⟩
    case round =>
      obtain ⟨j, m, hj, rfl, rfl, HM⟩ := hrel
      by_cases hlt : j < k
      · have hcell := HC.out (p + j) (by have := HP.out; omega)
        have h0 := bt_nonneg s (p + j)
        have h1 := bt_le s (p + j)
        have HN : Hid (m * 256 + bt s (p + j) = numN s p (j + 1)) := by unfold Hid; rw [HM.out]; rfl
        have HB2 : Hid (0 ≤ m ∧ m < 4294967296) := by
          have hk := HK.out
          have hn := numN_bound s p j
          have : (256 : Int) ^ j ≤ 4294967296 := by
            have h4 : j = 0 ∨ j = 1 ∨ j = 2 ∨ j = 3 := by omega
            rcases h4 with rfl | rfl | rfl | rfl <;> decide
          unfold Hid
          rw [HM.out]
          omega
        have hw1 : wrap64 ((p : Int) + (j : Int)) = ((p + j : Nat) : Int) := by have := HP.out; have := HS.out; unfold wrap64; omega
        have hi1 : (0 : Int) ≤ ((p + j : Nat) : Int) := by omega
        have hi2 : ((p + j : Nat) : Int) < (len : Int) := by have := HP.out; omega
        generalize bt s (p + j) = c at *
        have hw2 : wrap64 (m * 256) = m * 256 := by have := HB2.out; unfold wrap64; omega
        have hw3 : wrap64 c = c := by unfold wrap64; omega
        have hw4 : wrap64 (m * 256 + c) = m * 256 + c := by have := HB2.out; unfold wrap64; omega
        have HJ : Hid (wrap64 ((j : Int) + 1) = ((j + 1 : Nat) : Int)) := by have := HK.out; unfold Hid wrap64; omega
        go_wp2_with fail
        go_round
        case rel => exact ⟨j + 1, m * 256 + c, by omega, by rw [hw4], by rw [HJ.out], HN⟩
        case measure => rw [HJ.out]; simp only [intOf]; omega
      · go_wp2_with fail
        go_ret2
        have e : j = k := by omega
        subst e
        have := HY.out.1
        simp only [Int.toNat_natCast] at this
        rw [HM.out, this, HY.out.2]
        exact ⟨rfl, rfl⟩

set_option maxHeartbeats 400000 in
theorem refu16_c (a : Option Addr) (len cap : Nat) (s : ByteArray) (at' x f : Int) (w : World) (hB : IsB w a len cap s) (hs : (len : Int) ≤ 140737488355328) (HX : Hid (numOr s at' 2 = (x, f))) :
    Calls Try.prog 24 #[.slice a len cap, .int .i64 at'] w fun e w' => e = .returned (.int .i64 x) ∧ w = w' := by
  have HN := Lib.hid (refnum_c a len cap s at' 2 x f w hB hs (by decide) (by decide) HX)
  clear hs hB
  go_enter Try.func24, Try.ntmps24
  go_wp2_with fail
  refine HN.out.mono ?_
  rintro e w1 ⟨rfl, rfl⟩
  go_wp2_with fail
  go_ret
  exact ⟨rfl, rfl⟩

set_option maxHeartbeats 400000 in
theorem refi16_c (a : Option Addr) (len cap : Nat) (s : ByteArray) (at' x f : Int) (w : World) (hB : IsB w a len cap s) (hs : (len : Int) ≤ 140737488355328) (HX : Hid (numOr s at' 2 = (x, f))) :
    Calls Try.prog 33 #[.slice a len cap, .int .i64 at'] w fun e w' => e = .returned (.int .i64 (sign16 x)) ∧ w = w' := by
  have HN := Lib.hid (refu16_c a len cap s at' x f w hB hs HX)
  have hb := num16_bound HX.out
  clear hs hB
  by_cases h : 32768 ≤ x
  · have hw : wrap64 (x - 65536) = x - 65536 := by unfold wrap64; omega
    have HE : Hid (sign16 x = x - 65536) := by unfold Hid sign16; rw [if_pos h]
    clear hb
    go_enter Try.func33, Try.ntmps33
    go_wp2_with fail
    refine HN.out.mono ?_
    rintro e w1 ⟨rfl, rfl⟩
    go_wp2_with fail
    go_ret
    rw [HE.out, hw]
    exact ⟨rfl, rfl⟩
  · have HE : Hid (sign16 x = x) := by unfold Hid sign16; rw [if_neg h]
    clear hb
    go_enter Try.func33, Try.ntmps33
    go_wp2_with fail
    refine HN.out.mono ?_
    rintro e w1 ⟨rfl, rfl⟩
    go_wp2_with fail
    go_ret
    rw [HE.out]
    exact ⟨rfl, rfl⟩

set_option maxHeartbeats 400000 in
theorem reftag_c (a : Option Addr) (len cap : Nat) (s t : ByteArray) (at' f : Int) (w : World) (hB : IsB w a len cap s) (hs : (len : Int) ≤ 140737488355328) (HX : Hid (tagOr s at' = (t, f))) :
    Calls Try.prog 23 #[.slice a len cap, .int .i64 at'] w fun e w' => e = .returned (.string t) ∧ w = w' := by
  have HH := Lib.hid (has_c a len cap s at' 4 w hB.1 hs)
  cases h : hasB s at' 4
  · have HE := Lib.hid h
    have HY : Hid (ByteArray.empty = t ∧ (21 : Int) = f) := by have := HX.out; rw [tagOr, h] at this; unfold Hid; simpa using this
    clear h hs hB
    go_enter Try.func23, Try.ntmps23
    go_wp2_with fail
    refine HH.out.mono ?_
    rintro e w1 ⟨rfl, rfl⟩
    rw [HE.out]
    go_wp2_with fail
    go_ret
    rw [← HY.out.1]
    exact ⟨rfl, rfl⟩
  · have HE := Lib.hid h
    have HY : Hid (s.extract at'.toNat (at'.toNat + 4) = t ∧ (0 : Int) = f) := by have := HX.out; rw [tagOr, h] at this; unfold Hid; simpa using this
    simp [hasB] at h
    have hB' := hB
    obtain ⟨hl, hlc, rfl | ⟨b, off, rfl, hc⟩⟩ := hB'
    · exfalso; omega
    obtain ⟨p, rfl⟩ := Int.eq_ofNat_of_zero_le h.1
    have hk := (hB.cut (p := p) (q := p + 4) (c := cap - p) (by omega) (by omega) (by omega)).conv
    have e1 : p + 4 - p = 4 := by omega
    rw [e1] at hk
    have HT : Hid (s.extract p (p + 4) = t) := by have := HY.out.1; unfold Hid; simpa using this
    rw [HT.out] at hk
    have hw : wrap64 ((p : Int) + 4) = ((p + 4 : Nat) : Int) := by unfold wrap64; omega
    have h0 : (0 : Int) ≤ (p : Int) := by omega
    have h1 : (p : Int) ≤ ((p + 4 : Nat) : Int) := by omega
    have h2 : ((p + 4 : Nat) : Int) ≤ (cap : Int) := by omega
    clear h hs hB hc
    go_enter Try.func23, Try.ntmps23
    go_wp2_with fail
    refine HH.out.mono ?_
    rintro e w1 ⟨rfl, rfl⟩
    rw [HE.out]
    go_wp2_with fail
    go_ret
    exact ⟨rfl, rfl⟩

set_option maxHeartbeats 400000 in
theorem refu32_c (a : Option Addr) (len cap : Nat) (s : ByteArray) (at' x f : Int) (w : World) (hB : IsB w a len cap s) (hs : (len : Int) ≤ 140737488355328) (HX : Hid (numOr s at' 4 = (x, f))) :
    Calls Try.prog 25 #[.slice a len cap, .int .i64 at'] w fun e w' => e = .returned (.int .i64 x) ∧ w = w' := by
  have HN := Lib.hid (refnum_c a len cap s at' 4 x f w hB hs (by decide) (by decide) HX)
  clear hs hB
  go_enter Try.func25, Try.ntmps25
  go_wp2_with fail
  refine HN.out.mono ?_
  rintro e w1 ⟨rfl, rfl⟩
  go_wp2_with fail
  go_ret
  exact ⟨rfl, rfl⟩

end Go.Proofs.Ytbcjicmledckbaa
