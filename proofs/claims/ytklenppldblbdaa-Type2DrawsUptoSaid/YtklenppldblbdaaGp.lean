/-
  What the functions of package peek answer that package glyf calls: within, join, number, U8, U16, I16, Len, New, Cut. A view is a pointer to a block with one cell, the text of its bytes.
-/
import Derived.Test.YtklenppldblbdaaGk
namespace Go.Proofs.Ytklenppldblbdaa
open Go.RowKit Go.PlainAid
set_option linter.unusedSimpArgs false
set_option linter.unusedVariables false

/-- Do the n bytes from place at on all lie within? -/
def hasB (s : ByteArray) (at' n : Int) : Bool := decide (0 ≤ at') && decide (0 ≤ n) && decide (n ≤ (s.size : Int) - at')

/-- The number that the k bytes from place p on write, the highest first. -/
def numN (s : ByteArray) (p : Nat) : Nat → Int
  | 0 => 0
  | k + 1 => numN s p k * 256 + bt s (p + k)

theorem numN_bound (s : ByteArray) (p : Nat) : ∀ k, 0 ≤ numN s p k ∧ numN s p k < 256 ^ k
  | 0 => by simp [numN]
  | k + 1 => by
    have h := numN_bound s p k
    have h1 := bt_nonneg s (p + k)
    have h2 := bt_le s (p + k)
    simp only [numN, Int.pow_succ]
    omega

/-- The number, or refused. -/
def numOr (s : ByteArray) (at' n : Int) : Int × Int := if hasB s at' n = true then (numN s at'.toNat n.toNat, 0) else (0, 21)

theorem hasB_sub {s : ByteArray} {a n : Int} (h1 : 0 ≤ a) (h2 : 0 ≤ n) : hasB s a n = decide (n ≤ (s.size : Int) - a) := by simp [hasB, h1, h2]

theorem hasB_no1 {s : ByteArray} {a n : Int} (h1 : ¬ 0 ≤ a) : hasB s a n = false := by simp [hasB, h1]

theorem hasB_no2 {s : ByteArray} {a n : Int} (h1 : ¬ 0 ≤ n) : hasB s a n = false := by simp [hasB, h1]

set_option maxHeartbeats 400000 in
theorem within_c (g : Nat) (s : ByteArray) (at' n : Int) (w : World) (hc : w.cell? ⟨g, 0, none⟩ = some (.string s)) (hs : (s.size : Int) ≤ 140737488355328) (ha : at' ≤ 9223372036854775807) :
    Calls Try.prog 43 #[.pointer (some ⟨g, 0, none⟩), .int .i64 at', .int .i64 n] w fun e w' => e = .returned (.bool (hasB s at' n)) ∧ w = w' := by
  by_cases h1 : 0 ≤ at'
  · by_cases h2 : 0 ≤ n
    · have HW : wrap64 ((s.size : Int) - at') = (s.size : Int) - at' := by unfold wrap64; omega
      have HE := Lib.hid (hasB_sub (s := s) h1 h2)
      clear hs ha
      go_enter Try.func43, Try.ntmps43
      go_wp2
      go_ret
      rw [HE.out, HW]
      exact ⟨rfl, rfl⟩
    · have HE := Lib.hid (hasB_no2 (s := s) (a := at') h2)
      clear hs ha
      go_enter Try.func43, Try.ntmps43
      go_wp2
      go_ret
      rw [HE.out]
      exact ⟨rfl, rfl⟩
  · have HE := Lib.hid (hasB_no1 (s := s) (n := n) h1)
    clear hs ha
    go_enter Try.func43, Try.ntmps43
    go_wp2
    go_ret
    rw [HE.out]
    exact ⟨rfl, rfl⟩

theorem bits_or_i64_nat (a b : Nat) (ha : a < 9223372036854775808) (hb : b < 9223372036854775808) : bits .or .i64 (a : Int) (b : Int) = ((a ||| b : Nat) : Int) := by
  have hx : a ||| b < 2 ^ 63 := Nat.or_lt_two_pow (by omega) (by omega)
  have h1 : (BitVec.ofInt 64 (a : Int)).toNat = a := by
    rw [BitVec.ofInt_natCast, BitVec.toNat_ofNat]; exact Nat.mod_eq_of_lt (by omega)
  have h2 : (BitVec.ofInt 64 (b : Int)).toNat = b := by
    rw [BitVec.ofInt_natCast, BitVec.toNat_ofNat]; exact Nat.mod_eq_of_lt (by omega)
  show IntKind.i64.wrap ((BitVec.ofInt 64 (a : Int) ||| BitVec.ofInt 64 (b : Int)).toNat : Int) = _
  rw [BitVec.toNat_or, h1, h2, IntKind.wrap_i64]
  omega

theorem or_byte (m b : Int) (m0 : 0 ≤ m) (m1 : m < 1099511627776) (b0 : 0 ≤ b) (b1 : b ≤ 255) : bits .or .i64 (wrap64 (m * 256)) (wrap64 b) = m * 256 + b := by
  have e1 : wrap64 (m * 256) = m * 256 := by unfold wrap64; omega
  have e2 : wrap64 b = b := by unfold wrap64; omega
  rw [e1, e2]
  obtain ⟨x, rfl⟩ := Int.eq_ofNat_of_zero_le m0
  obtain ⟨y, rfl⟩ := Int.eq_ofNat_of_zero_le b0
  have e3 : ((x : Int) * 256) = ((x * 256 : Nat) : Int) := by omega
  rw [e3, bits_or_i64_nat _ _ (by omega) (by omega)]
  have e4 : x * 256 ||| y = x * 256 + y := by
    have := Nat.shiftLeft_add_eq_or_of_lt (show y < 2 ^ 8 by omega) x
    rw [Nat.shiftLeft_eq] at this
    exact this.symm
  rw [e4]
  omega

set_option maxHeartbeats 400000 in
theorem join_c (g p k : Nat) (s : ByteArray) (w : World) (hc : w.cell? ⟨g, 0, none⟩ = some (.string s)) (hs : (s.size : Int) ≤ 140737488355328) (hk : k ≤ 4) (hp : p + k ≤ s.size) :
    Calls Try.prog 56 #[.pointer (some ⟨g, 0, none⟩), .int .i64 p, .int .i64 k] w fun e w' => e = .returned (.int .i64 (numN s p k)) ∧ w = w' := by
  have HW : wrap64 ((p : Int) + (k : Int)) = ((p + k : Nat) : Int) := by unfold wrap64; omega
  have HS := Lib.hid hs
  have HP := Lib.hid hp
  have HK := Lib.hid hk
  have hb := get_bt s
  clear hs hp hk
  go_enter Try.func56, Try.ntmps56
  go_wp2
  go_loop [7, 8] (fun x i => ∃ j : Nat, ∃ m : Int, j ≤ k ∧ x = .int .i64 m ∧ i = .int .i64 ((p + j : Nat) : Int) ∧ Hid (m = numN s p j)) (fun x i => (p + k) - (intOf i).toNat)
  case atStart => exact ⟨0, 0, Nat.zero_le _, rfl, rfl, rfl⟩
  case round =>
    obtain ⟨j, m, hj, rfl, rfl, HM⟩ := hrel
    by_cases hlt : j < k
    · have hi1 : (0 : Int) ≤ ((p + j : Nat) : Int) := by omega
      have hi2 : ((p + j : Nat) : Int) < (s.size : Int) := by have := HP.out; omega
      have hi3 : ((p + j : Nat) : Int) < ((p + k : Nat) : Int) := by omega
      have HO : Hid (bits .or .i64 (wrap64 (m * 256)) (wrap64 (bt s (p + j))) = m * 256 + bt s (p + j)) := by
        have hk := HK.out
        have hm := HM.out
        have hn := numN_bound s p j
        have : (256 : Int) ^ j ≤ 4294967296 := by
          have h4 : j = 0 ∨ j = 1 ∨ j = 2 ∨ j = 3 := by omega
          rcases h4 with rfl | rfl | rfl | rfl <;> decide
        exact or_byte m _ (by omega) (by omega) (bt_nonneg _ _) (bt_le _ _)
      have HX : Hid (wrap64 ((p : Int) + (j : Int) + 1) = ((p + (j + 1) : Nat) : Int)) := by
        have := HP.out; have := HS.out; unfold Hid wrap64; omega
      go_wp2
      go_round
      case rel => exact ⟨j + 1, m * 256 + bt s (p + j), by omega, by rw [HO.out], by rw [HX.out], by unfold Hid; rw [HM.out]; rfl⟩
      case measure => rw [HX.out]; simp only [intOf]; omega
    · have hi3 : ¬ ((p + j : Nat) : Int) < ((p + k : Nat) : Int) := by omega
      go_wp2
      go_ret
      have e : j = k := by omega
      subst e
      rw [HM.out]
      exact ⟨rfl, rfl⟩

set_option maxHeartbeats 400000 in
theorem number_c (g : Nat) (at' n x f : Int) (s : ByteArray) (w : World) (hc : w.cell? ⟨g, 0, none⟩ = some (.string s)) (hs : (s.size : Int) ≤ 140737488355328) (ha : at' ≤ 9223372036854775807) (hn : n ≤ 4)
    (HX : Hid (numOr s at' n = (x, f))) :
    Calls Try.prog 44 #[.pointer (some ⟨g, 0, none⟩), .int .i64 at', .int .i64 n] w fun e w' => e = .returned (.tuple #[.int .i64 x, .int .i64 f]) ∧ w = w' := by
  have HC := Lib.hid (within_c g s at' n w hc hs ha)
  cases h : hasB s at' n
  · have HE := Lib.hid h
    have HY : Hid ((0 : Int) = x ∧ (21 : Int) = f) := by have := HX.out; rw [numOr, h] at this; unfold Hid; simpa using this
    clear h hs ha hn
    go_enter Try.func44, Try.ntmps44
    go_wp2_with fail
    refine HC.out.mono ?_
    rintro e w1 ⟨rfl, rfl⟩
    rw [HE.out]
    go_wp2_with fail
    go_ret2
    rw [HY.out.1, HY.out.2]
    exact ⟨rfl, rfl⟩
  · have HE := Lib.hid h
    have HY : Hid (numN s at'.toNat n.toNat = x ∧ (0 : Int) = f) := by have := HX.out; rw [numOr, h] at this; unfold Hid; simpa using this
    simp [hasB] at h
    obtain ⟨p, rfl⟩ := Int.eq_ofNat_of_zero_le h.1.1
    obtain ⟨k, rfl⟩ := Int.eq_ofNat_of_zero_le h.1.2
    have HJ := Lib.hid (join_c g p k s w hc hs (by omega) (by omega))
    clear h hs ha hn
    go_enter Try.func44, Try.ntmps44
    go_wp2_with fail
    refine HC.out.mono ?_
    rintro e w1 ⟨rfl, rfl⟩
    rw [HE.out]
    go_wp2_with fail
    refine HJ.out.mono ?_
    rintro e w1 ⟨rfl, rfl⟩
    go_wp2_with fail
    go_ret2
    have := HY.out.1
    simp only [Int.toNat_natCast] at this
    rw [this, HY.out.2]
    exact ⟨rfl, rfl⟩

set_option maxHeartbeats 400000 in
theorem u16_c (g : Nat) (at' x f : Int) (s : ByteArray) (w : World) (hc : w.cell? ⟨g, 0, none⟩ = some (.string s)) (hs : (s.size : Int) ≤ 140737488355328) (ha : at' ≤ 9223372036854775807) (HX : Hid (numOr s at' 2 = (x, f))) :
    Calls Try.prog 57 #[.pointer (some ⟨g, 0, none⟩), .int .i64 at'] w fun e w' => e = .returned (.tuple #[.int .i64 x, .int .i64 f]) ∧ w = w' := by
  have HN := Lib.hid (number_c g at' 2 x f s w hc hs ha (by decide) HX)
  clear hs ha
  go_enter Try.func57, Try.ntmps57
  go_wp2_with fail
  refine HN.out.mono ?_
  rintro e w1 ⟨rfl, rfl⟩
  go_wp2_with fail
  go_ret2
  exact ⟨rfl, rfl⟩

set_option maxHeartbeats 400000 in
theorem new_c (a : Option Addr) (len cap : Nat) (s : ByteArray) (w : World) (hB : IsB w a len cap s) :
    Calls Try.prog 15 #[.slice a len cap] w fun e w' => e = .returned (.pointer (some ⟨w.heap.size, 0, none⟩)) ∧ w' = w.alloc (.cells #[.string s] 63) := by
  have hk := hB.conv
  clear hB
  go_enter Try.func15, Try.ntmps15
  go_wp2
  go_ret
  exact ⟨rfl, rfl⟩

set_option maxHeartbeats 400000 in
theorem cut_no (g : Nat) (at' n : Int) (s : ByteArray) (w : World) (hc : w.cell? ⟨g, 0, none⟩ = some (.string s)) (hs : (s.size : Int) ≤ 140737488355328) (ha : at' ≤ 9223372036854775807) (h : hasB s at' n = false) :
    Calls Try.prog 28 #[.pointer (some ⟨g, 0, none⟩), .int .i64 at', .int .i64 n] w fun e w' => e = .returned (.tuple #[.pointer none, .int .i64 21]) ∧ w = w' := by
  have HC := Lib.hid (within_c g s at' n w hc hs ha)
  have HE := Lib.hid h
  clear h hs ha
  go_enter Try.func28, Try.ntmps28
  go_wp2_with fail
  refine HC.out.mono ?_
  rintro e w1 ⟨rfl, rfl⟩
  rw [HE.out]
  go_wp2_with fail
  go_ret2
  exact ⟨rfl, rfl⟩

set_option maxHeartbeats 400000 in
theorem cut_yes (g p k : Nat) (s : ByteArray) (w : World) (hc : w.cell? ⟨g, 0, none⟩ = some (.string s)) (hs : (s.size : Int) ≤ 140737488355328) (h : p + k ≤ s.size) :
    Calls Try.prog 28 #[.pointer (some ⟨g, 0, none⟩), .int .i64 p, .int .i64 k] w fun e w' => e = .returned (.tuple #[.pointer (some ⟨w.heap.size, 0, none⟩), .int .i64 0]) ∧ w' = w.alloc (.cells #[.string (s.extract p (p + k))] 63) := by
  have HC := Lib.hid (within_c g s p k w hc hs (by omega))
  have HE : Hid (hasB s p k = true) := by unfold Hid; simp [hasB]; omega
  have hw : wrap64 ((p : Int) + (k : Int)) = ((p + k : Nat) : Int) := by unfold wrap64; omega
  have h0 : (0 : Int) ≤ (p : Int) := by omega
  have h1 : (p : Int) ≤ ((p + k : Nat) : Int) := by omega
  have h2 : ((p + k : Nat) : Int) ≤ (s.size : Int) := by omega
  clear h hs
  go_enter Try.func28, Try.ntmps28
  go_wp2_with fail
  refine HC.out.mono ?_
  rintro e w1 ⟨rfl, rfl⟩
  rw [HE.out]
  go_wp2_with fail
  go_ret2
  exact ⟨rfl, rfl⟩

set_option maxHeartbeats 400000 in
theorem len_c (g : Nat) (s : ByteArray) (w : World) (hc : w.cell? ⟨g, 0, none⟩ = some (.string s)) :
    Calls Try.prog 49 #[.pointer (some ⟨g, 0, none⟩)] w fun e w' => e = .returned (.int .i64 s.size) ∧ w = w' := by
  go_enter Try.func49, Try.ntmps49
  go_wp2
  go_ret
  exact ⟨rfl, rfl⟩

set_option maxHeartbeats 400000 in
theorem u8_c (g : Nat) (at' x f : Int) (s : ByteArray) (w : World) (hc : w.cell? ⟨g, 0, none⟩ = some (.string s)) (hs : (s.size : Int) ≤ 140737488355328) (ha : at' ≤ 9223372036854775807) (HX : Hid (numOr s at' 1 = (x, f))) :
    Calls Try.prog 29 #[.pointer (some ⟨g, 0, none⟩), .int .i64 at'] w fun e w' => e = .returned (.tuple #[.int .i64 x, .int .i64 f]) ∧ w = w' := by
  have HN := Lib.hid (number_c g at' 1 x f s w hc hs ha (by decide) HX)
  clear hs ha
  go_enter Try.func29, Try.ntmps29
  go_wp2_with fail
  refine HN.out.mono ?_
  rintro e w1 ⟨rfl, rfl⟩
  go_wp2_with fail
  go_ret2
  exact ⟨rfl, rfl⟩

theorem cut_at (g p k : Nat) (n : Int) (hn : n = (k : Int)) (s : ByteArray) (w : World) (hc : w.cell? ⟨g, 0, none⟩ = some (.string s)) (hs : (s.size : Int) ≤ 140737488355328) (h : p + k ≤ s.size) :
    Calls Try.prog 28 #[.pointer (some ⟨g, 0, none⟩), .int .i64 p, .int .i64 n] w fun e w' => e = .returned (.tuple #[.pointer (some ⟨w.heap.size, 0, none⟩), .int .i64 0]) ∧ w' = w.alloc (.cells #[.string (s.extract p (p + k))] 63) := by
  subst hn
  exact cut_yes g p k s w hc hs h

theorem numOr_ex (s : ByteArray) (p k : Int) : ∃ x f, Hid (numOr s p k = (x, f)) := ⟨_, _, rfl⟩

theorem num16_bound {s : ByteArray} {at' x f : Int} (h : numOr s at' 2 = (x, f)) : 0 ≤ x ∧ x ≤ 65535 := by
  unfold numOr at h
  have hb := numN_bound s at'.toNat 2
  split at h <;> simp at h <;> omega

/-- A row of k numbers, the first j of which are written. -/
def partL (f : Nat → Int) (k j : Nat) : List Int := (List.range k).map fun i => if i < j then f i else 0

theorem partL_length (f : Nat → Int) (k j : Nat) : (partL f k j).length = k := by simp [partL]

theorem partL_set (f : Nat → Int) (k j : Nat) : (partL f k j).set j (f j) = partL f k (j + 1) := by
  apply List.ext_getElem
  · simp [partL]
  · intro i h1 h2
    simp [partL] at h1 h2
    rw [List.getElem_set]
    by_cases e : j = i
    · subst e; simp [partL]
    · simp only [if_neg e, partL, List.getElem_map, List.getElem_range]
      by_cases h : i < j
      · simp [h, show i < j + 1 by omega]
      · simp [h, show ¬ i < j + 1 by omega]

theorem partL_zero (f : Nat → Int) (k : Nat) : partL f k 0 = List.replicate k 0 := by
  apply List.ext_getElem
  · simp [partL]
  · intro i h1 h2; simp [partL]

theorem partL_full (f : Nat → Int) (k : Nat) : partL f k k = (List.range k).map f := by
  apply List.ext_getElem
  · simp [partL]
  · intro i h1 h2
    simp [partL] at h1
    simp [partL, h1]

theorem num8_bound {s : ByteArray} {at' x f : Int} (h : numOr s at' 1 = (x, f)) : 0 ≤ x ∧ x ≤ 255 := by
  unfold numOr at h
  have hb := numN_bound s at'.toNat 1
  split at h <;> simp at h <;> omega

/-- A number of two bytes, with its sign. -/
def sign16 (x : Int) : Int := if 32768 ≤ x then x - 65536 else x

theorem wrap_i16 (n : Int) : IntKind.i16.wrap n = (n + 32768) % 65536 - 32768 := by
  have h : IntKind.i16.wrap n = if n % 65536 ≥ 32768 then n % 65536 - 65536 else n % 65536 := by simp [IntKind.wrap, IntKind.bits, IntKind.signed]
  rw [h]
  split <;> omega

set_option maxHeartbeats 400000 in
theorem i16_c (g : Nat) (at' x f : Int) (s : ByteArray) (w : World) (hc : w.cell? ⟨g, 0, none⟩ = some (.string s)) (hs : (s.size : Int) ≤ 140737488355328) (ha : at' ≤ 9223372036854775807) (HX : Hid (numOr s at' 2 = (x, f))) :
    Calls Try.prog 68 #[.pointer (some ⟨g, 0, none⟩), .int .i64 at'] w fun e w' => e = .returned (.tuple #[.int .i64 (sign16 x), .int .i64 f]) ∧ w = w' := by
  have HN := Lib.hid (number_c g at' 2 x f s w hc hs ha (by decide) HX)
  have HB := Lib.hid (num16_bound HX.out)
  clear hs ha
  go_enter Try.func68, Try.ntmps68
  go_wp2_with fail
  refine HN.out.mono ?_
  rintro e w1 ⟨rfl, rfl⟩
  go_wp2_with fail
  go_ret2
  have HW : wrap64 (IntKind.i16.wrap x) = sign16 x := by
    have := HB.out
    rw [wrap_i16]
    unfold wrap64 sign16
    split <;> omega
  rw [HW]
  exact ⟨rfl, rfl⟩

end Go.Proofs.Ytklenppldblbdaa
