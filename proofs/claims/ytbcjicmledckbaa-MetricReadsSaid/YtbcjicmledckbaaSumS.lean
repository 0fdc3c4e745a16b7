/-
  What Sum of package sfnt and the document's Sum answer, as contracts over the translated program: the sum, modulo 2 to the 32nd, of the bytes taken four at a time. Condition: the slice has at most 2 to the 47th bytes.
-/
import Derived.Test.YtbcjicmledckbaaView
namespace Go.Proofs.Ytbcjicmledckbaa
open Go.RowKit Go.PlainAid
set_option linter.unusedSimpArgs false
set_option linter.unusedVariables false

/-- What a byte at the place k counts. -/
def wtN (k : Nat) : Int := if k % 4 = 0 then 16777216 else if k % 4 = 1 then 65536 else if k % 4 = 2 then 256 else 1
/-- The sum of the first k bytes, not reduced. -/
def rawN (s : ByteArray) : Nat → Int
  | 0 => 0
  | k + 1 => rawN s k + bt s k * wtN k
/-- The sum. -/
def sumB (s : ByteArray) : Int := rawN s s.size % 4294967296

theorem sumB_lo (s : ByteArray) : 0 ≤ sumB s := by unfold sumB; omega
theorem sumB_hi (s : ByteArray) : sumB s < 4294967296 := by unfold sumB; omega

set_option maxHeartbeats 400000 in
theorem sum_c (a : Option Addr) (len cap : Nat) (s : ByteArray) (w : World) (hB : IsB w a len cap s) (hs : (len : Int) ≤ 140737488355328) :
    Calls Try.prog 66 #[.slice a len cap] w fun e w' => e = .returned (.int .i64 (sumB s)) ∧ w = w' := by
  obtain ⟨hl, _, hc⟩ := hB
  have HL := Lib.hid hl
  have HS := Lib.hid hs
  have HC := Lib.hid hc
  clear hl hs hc
  go_enter Try.func66, Try.ntmps66
  go_wp2
  go_loop [3, 8] (fun x i => ∃ j : Nat, ∃ m : Int, j ≤ len ∧ x = .int .u32 m ∧ i = .int .i64 (j : Int) ∧ Hid (m = rawN s j % 4294967296)) (fun x i => len - (intOf i).toNat)
  case atStart => exact ⟨0, 0, Nat.zero_le _, rfl, rfl, rfl⟩
  case round =>
    obtain ⟨j, m, hj, rfl, rfl, HM⟩ := hrel
    by_cases hlt : j < len
    · have hc := HC.out
      have hlt' : (j : Int) < (len : Int) := by omega
      have hj0 : (0 : Int) ≤ (j : Int) := by omega
      rcases hc with h0 | ⟨b, off, rfl, hcell⟩
      · omega
      have hcj := hcell j hlt
      clear hcell
      have h0 := bt_nonneg s j
      have h1 := bt_le s j
      have h4 : j % 4 = 0 ∨ j % 4 = 1 ∨ j % 4 = 2 ∨ j % 4 = 3 := by omega
      have HW7 : Hid (wrap64 ((j : Int) + 1) = ((j + 1 : Nat) : Int)) := by have := HS.out; unfold Hid wrap64; omega
      have HN : Hid (rawN s (j + 1) = rawN s j + bt s j * wtN j) := rfl
      generalize bt s j = c at *
      rcases h4 with h4 | h4 | h4 | h4
      · have ht : (j : Int).tmod 4 = 0 := by rw [Int.tmod_eq_emod_of_nonneg hj0]; omega
        go_wp2_with fail
        go_round
        case rel => exact ⟨j + 1, _, by omega, rfl, by rw [HW7.out], by unfold Hid; rw [HN.out, HM.out]; simp [wtN, h4]; try omega⟩
        case measure => rw [HW7.out]; simp only [intOf]; omega
      · have ht : (j : Int).tmod 4 = 1 := by rw [Int.tmod_eq_emod_of_nonneg hj0]; omega
        go_wp2_with fail
        go_round
        case rel => exact ⟨j + 1, _, by omega, rfl, by rw [HW7.out], by unfold Hid; rw [HN.out, HM.out]; simp [wtN, h4]; try omega⟩
        case measure => rw [HW7.out]; simp only [intOf]; omega
      · have ht : (j : Int).tmod 4 = 2 := by rw [Int.tmod_eq_emod_of_nonneg hj0]; omega
        go_wp2_with fail
        go_round
        case rel => exact ⟨j + 1, _, by omega, rfl, by rw [HW7.out], by unfold Hid; rw [HN.out, HM.out]; simp [wtN, h4]; try omega⟩
        case measure => rw [HW7.out]; simp only [intOf]; omega
      · have ht : (j : Int).tmod 4 = 3 := by rw [Int.tmod_eq_emod_of_nonneg hj0]; omega
        go_wp2_with fail
        go_round
        case rel => exact ⟨j + 1, _, by omega, rfl, by rw [HW7.out], by unfold Hid; rw [HN.out, HM.out]; simp [wtN, h4]; try omega⟩
        case measure => rw [HW7.out]; simp only [intOf]; omega
    · have hlt' : ¬ (j : Int) < (len : Int) := by omega
      go_wp2_with fail
      go_ret
      have e : j = len := by omega
      subst e
      have hl := HL.out
      subst hl
      have hm : m = sumB s := HM.out
      have hz : wrap64 (sumB s) = sumB s := by have := sumB_lo s; have := sumB_hi s; unfold wrap64; omega
      rw [hm, hz]
      exact ⟨rfl, rfl⟩

theorem rawN_past (s : ByteArray) : ∀ k, rawN s (s.size + k) = rawN s s.size
  | 0 => rfl
  | k + 1 => by
    rw [← Nat.add_assoc, rawN, rawN_past s k, bt_end s (by omega)]
    simp
theorem rawN_ge (s : ByteArray) (k : Nat) (h : s.size ≤ k) : rawN s k = rawN s s.size := by
  have := rawN_past s (k - s.size)
  rwa [show s.size + (k - s.size) = k by omega] at this
theorem rawN_four (s : ByteArray) (p : Nat) (hp : p % 4 = 0) : rawN s (p + 4) = rawN s p + numN s p 4 := by
  have e0 : wtN p = 16777216 := by simp [wtN, hp]
  have e1 : wtN (p + 1) = 65536 := by simp [wtN, show (p + 1) % 4 = 1 by omega]
  have e2 : wtN (p + 2) = 256 := by simp [wtN, show (p + 2) % 4 = 2 by omega]
  have e3 : wtN (p + 3) = 1 := by simp [wtN, show (p + 3) % 4 = 3 by omega]
  rw [show p + 4 = p + 1 + 1 + 1 + 1 by omega]
  simp only [rawN, numN, Nat.add_assoc, Nat.reduceAdd, e0, e1, e2, e3, Nat.add_zero]
  omega

set_option maxHeartbeats 400000 in
theorem refsum_c (a : Option Addr) (len cap : Nat) (s : ByteArray) (w : World) (hB : IsB w a len cap s) (hs : (len : Int) ≤ 140737488355328) :
    Calls Try.prog 26 #[.slice a len cap] w fun e w' => e = .returned (.int .i64 (sumB s)) ∧ w = w' := by
  obtain ⟨hl, _, hc⟩ := hB
  have HL := Lib.hid hl
  have HS := Lib.hid hs
  have HC := Lib.hid hc
  clear hl hs hc
  go_enter Try.func26, Try.ntmps26
  go_wp2
  go_loop [3, 4] (fun x i => ∃ p : Nat, ∃ m : Int, p ≤ len + 3 ∧ x = .int .i64 m ∧ i = .int .i64 (p : Int) ∧ Hid (m = rawN s p % 4294967296) ∧ Hid (p % 4 = 0)) (fun x i => len + 4 - (intOf i).toNat)
  case atStart => exact ⟨0, 0, by omega, rfl, rfl, rfl, rfl⟩
  case round =>
    obtain ⟨p, m, hq, rfl, rfl, HM, HP4⟩ := hrel
    by_cases hlt : p < len
    · have hlt' : (p : Int) < (len : Int) := by omega
      have hc := HC.out
      rcases hc with h0 | ⟨b, off, rfl, hcell⟩
      · omega
      have HC2 := Lib.hid hcell
      clear hcell
      go_wp2_with fail
      go_loop [5, 6] (fun x i => ∃ j : Nat, ∃ n : Int, j ≤ 4 ∧ x = .int .i64 n ∧ i = .int .i64 (j : Int) ∧ Hid (n = numN s (p) j)) (fun x i => 4 - (intOf i).toNat)
      case atStart => exact ⟨0, 0, by omega, rfl, rfl, rfl⟩
      case round =>
        obtain ⟨j, n, hj, rfl, rfl, HN⟩ := hrel
        have HB2 : Hid (0 ≤ n ∧ n ≤ 4294967295) := by
          have hn := numN_bound s (p) j
          have : (256 : Int) ^ j ≤ 4294967296 := by
            have h4 : j = 0 ∨ j = 1 ∨ j = 2 ∨ j = 3 ∨ j = 4 := by omega
            rcases h4 with rfl | rfl | rfl | rfl | rfl <;> decide
          unfold Hid
          rw [HN.out]
          omega
        by_cases hj4 : j < 4
        · have hj4' : (j : Int) < 4 := by omega
          have hw1 : wrap64 (n * 256) = n * 256 := by have := HB2.out; unfold wrap64; omega
          have hw2 : wrap64 ((p : Int) + (j : Int)) = ((p + j : Nat) : Int) := by have := HS.out; unfold wrap64; omega
          have HW7 : Hid (wrap64 ((j : Int) + 1) = ((j + 1 : Nat) : Int)) := by unfold Hid wrap64; omega
          have HN2 : Hid (numN s (p) (j + 1) = n * 256 + bt s (p + j)) := by unfold Hid; rw [HN.out]; rfl
          have h0 := bt_nonneg s (p + j)
          have h1 := bt_le s (p + j)
          by_cases hin : p + j < len
          · have hin' : ((p + j : Nat) : Int) < (len : Int) := by omega
            have hin0 : (0 : Int) ≤ ((p + j : Nat) : Int) := by omega
            have hcj := HC2.out (p + j) hin
            generalize bt s (p + j) = c at *
            have hw3 : wrap64 c = c := by unfold wrap64; omega
            have hw4 : wrap64 (n * 256 + c) = n * 256 + c := by have := HB2.out; unfold wrap64; omega
            go_wp2_with fail
            go_round
            case rel => exact ⟨j + 1, _, by omega, by rw [hw4], by go_num, by unfold Hid; rw [HN2.out]⟩
            case measure => simp only [intOf]; omega
          · have hin' : ¬ ((p + j : Nat) : Int) < (len : Int) := by omega
            have HZ : Hid (bt s (p + j) = 0) := bt_end s (by have := HL.out; omega)
            go_wp2_with fail
            go_round
            case rel => exact ⟨j + 1, _, by omega, rfl, by go_num, by unfold Hid; rw [HN2.out, HZ.out]; omega⟩
            case measure => simp only [intOf]; omega
        · have hj4' : ¬ (j : Int) < 4 := by omega
          have e : j = 4 := by omega
          subst e
          have HMB : Hid (0 ≤ m ∧ m ≤ 4294967295) := by unfold Hid; rw [HM.out]; omega
          have HR := Lib.hid (rawN_four s p HP4.out)
          have hw1 : wrap64 (m + n) = m + n := by have := HB2.out; have := HMB.out; unfold wrap64; omega
          have hmn : 0 ≤ m + n := by have := HB2.out; have := HMB.out; omega
          have ht : (m + n).tmod 4294967296 = (m + n) % 4294967296 := Int.tmod_eq_emod_of_nonneg hmn
          have HW7 : Hid (wrap64 ((p : Int) + 4) = ((p + 4 : Nat) : Int)) := by have := HS.out; unfold Hid wrap64; omega
          go_wp2_with fail
          go_round
          case rel => exact ⟨p + 4, _, by omega, rfl, by rw [HW7.out], by unfold Hid; rw [HR.out, HM.out, HN.out]; omega, by have := HP4.out; unfold Hid; omega⟩
          case measure => rw [HW7.out]; simp only [intOf]; omega
    · have hlt' : ¬ (p : Int) < (len : Int) := by omega
      go_wp2_with fail
      go_ret
      have hl := HL.out
      subst hl
      have hm : m = sumB s := by rw [HM.out, rawN_ge s _ (by omega)]; rfl
      rw [hm]
      exact ⟨rfl, rfl⟩

end Go.Proofs.Ytbcjicmledckbaa
