/-
  What the functions of package peek answer that later layers call, as contracts over the translated program: within, join, number, U8, U16, U24, U32, Len, New, Cut, U16s. A view is a pointer to a block with one cell, the text of its bytes. No conditions but those that each theorem names.
-/
import Derived.Test.YtfbgddigedgpfaaDoorInts
namespace Go.Proofs.YtfbgddigedgpfaaDoor
open Go.RowKit Go.PlainAid
set_option linter.unusedSimpArgs false
set_option linter.unusedVariables false

/-- Do the n bytes from place at on all lie within? -/
def hasB (s : ByteArray) (at' n : Int) : Bool := decide (0 ≤ at') && decide (0 ≤ n) && decide (n ≤ (s.size : Int) - at')

/-- The number that the k bytes from place p on write, the highest first. -/
def numN (s : ByteArray) (p : Nat) : Nat → Int
  | 0 => 0
  | k + 1 => numN s p k * 256 + bt s (p + k)

theorem numN_bound (s : ByteArray) (p : Nat) : ∀ k, 0 ≤ numN s p k ∧ numN s p k < 256 ^ k
  | 0 => by simp [numN]
  | k + 1 => by
    have h := numN_bound s p k
    have h1 := bt_nonneg s (p + k)
    have h2 := bt_le s (p + k)
    simp only [numN, Int.pow_succ]
    omega

/-- The number, or refused. -/
def numOr (s : ByteArray) (at' n : Int) : Int × Int := if hasB s at' n = true then (numN s at'.toNat n.toNat, 0) else (0, 21)

theorem hasB_sub {s : ByteArray} {a n : Int} (h1 : 0 ≤ a) (h2 : 0 ≤ n) : hasB s a n = decide (n ≤ (s.size : Int) - a) := by simp [hasB, h1, h2]

theorem hasB_no1 {s : ByteArray} {a n : Int} (h1 : ¬ 0 ≤ a) : hasB s a n = false := by simp [hasB, h1]

theorem hasB_no2 {s : ByteArray} {a n : Int} (h1 : ¬ 0 ≤ n) : hasB s a n = false := by simp [hasB, h1]

set_option maxHeartbeats 400000 in
theorem within_c (g : Nat) (s : ByteArray) (at' n : Int) (w : World) (hc : w.cell? ⟨g, 0, none⟩ = some (.string s)) (hs : (s.size : Int) ≤ 140737488355328) (ha : at' ≤ 9223372036854775807) :
    Calls Tryd.prog 39 #[.pointer (some ⟨g, 0, none⟩), .int .i64 at', .int .i64 n] w fun e w' => e = .returned (.bool (hasB s at' n)) ∧ w = w' := by
  by_cases h1 : 0 ≤ at'
  · by_cases h2 : 0 ≤ n
    · have HW : wrap64 ((s.size : Int) - at') = (s.size : Int) - at' := by unfold wrap64; omega
      have HE := Lib.hid (hasB_sub (s := s) h1 h2)
      clear hs ha
      go_enter Tryd.func39, Tryd.ntmps39
      go_wp2
      go_ret
      rw [HE.out, HW]
      exact ⟨rfl, rfl⟩
    · have HE := Lib.hid (hasB_no2 (s := s) (a := at') h2)
      clear hs ha
      go_enter Tryd.func39, Tryd.ntmps39
      go_wp2
      go_ret
      rw [HE.out]
      exact ⟨rfl, rfl⟩
  · have HE := Lib.hid (hasB_no1 (s := s) (n := n) h1)
    clear hs ha
    go_enter Tryd.func39, Tryd.ntmps39
    go_wp2
    go_ret
    rw [HE.out]
    exact ⟨rfl, rfl⟩

theorem bits_or_i64_nat (a b : Nat) (ha : a < 9223372036854775808) (hb : b < 9223372036854775808) : bits .or .i64 (a : Int) (b : Int) = ((a ||| b : Nat) : Int) := by
  have hx : a ||| b < 2 ^ 63 := Nat.or_lt_two_pow (by omega) (by omega)
  have h1 : (BitVec.ofInt 64 (a : Int)).toNat = a := by
    rw [BitVec.ofInt_natCast, BitVec.toNat_ofNat]; exact Nat.mod_eq_of_lt (by omega)
  have h2 : (BitVec.ofInt 64 (b : Int)).toNat = b := by
    rw [BitVec.ofInt_natCast, BitVec.toNat_ofNat]; exact Nat.mod_eq_of_lt (by omega)
  show IntKind.i64.wrap ((BitVec.ofInt 64 (a : Int) ||| BitVec.ofInt 64 (b : Int)).toNat : Int) = _
  rw [BitVec.toNat_or, h1, h2, IntKind.wrap_i64]
  omega

theorem or_byte (m b : Int) (m0 : 0 ≤ m) (m1 : m < 1099511627776) (b0 : 0 ≤ b) (b1 : b ≤ 255) : bits .or .i64 (wrap64 (m * 256)) (wrap64 b) = m * 256 + b := by
  have e1 : wrap64 (m * 256) = m * 256 := by unfold wrap64; omega
  have e2 : wrap64 b = b := by unfold wrap64; omega
  rw [e1, e2]
  obtain ⟨x, rfl⟩ := Int.eq_ofNat_of_zero_le m0
  obtain ⟨y, rfl⟩ := Int.eq_ofNat_of_zero_le b0
  have e3 : ((x : Int) * 256) = ((x * 256 : Nat) : Int) := by omega
  rw [e3, bits_or_i64_nat _ _ (by omega) (by omega)]
  have e4 : x * 256 ||| y = x * 256 + y := by
    have := Nat.shiftLeft_add_eq_or_of_lt (show y < 2 ^ 8 by omega) x
    rw [Nat.shiftLeft_eq] at this
    exact this.symm
  rw [e4]
  omega

set_option maxHeartbeats 400000 in
theorem join_c (g p k : Nat) (s : ByteArray) (w : World) (hc : w.cell? ⟨g, 0, none⟩ = some (.string s)) (hs : (s.size : Int) ≤ 140737488355328) (hk : k ≤ 4) (hp : p + k ≤ s.size) :
    Calls Tryd.prog 53 #[.pointer (some ⟨g, 0, none⟩), .int .i64 p, .int .i64 k] w fun e w' => e = .returned (.int .i64 (numN s p k)) ∧ w = w' := by
  have HW : wrap64 ((p : Int) + (k : Int)) = ((p + k : Nat) : Int) := by unfold wrap64; omega
  have HS := Lib.hid hs
  have HP := Lib.hid hp
  have HK := Lib.hid hk
  have hb := get_bt s
  clear hs hp hk
  go_enter Tryd.func53, Tryd.ntmps53
  go_wp2
  go_loop [7, 8] (fun x i => ∃ j : Nat, ∃ m : Int, j ≤ k ∧ x = .int .i64 m ∧ i = .int .i64 ((p + j : Nat) : Int) ∧ Hid (m = numN s p j)) (fun x i => (p + k) - (intOf i).toNat)
  case atStart => exact ⟨0, 0, Nat.zero_le _, rfl, rfl, rfl⟩
  case round =>
    obtain ⟨j, m, hj, rfl, rfl, HM⟩ := hrel
    by_cases hlt : j < k
    · have hi1 : (0 : Int) ≤ ((p + j : Nat) : Int) := by omega
      have hi2 : ((p + j : Nat) : Int) < (s.size : Int) := by have := HP.out; omega
      have hi3 : ((p + j : Nat) : Int) < ((p + k : Nat) : Int) := by omega
      have HO : Hid (bits .or .i64 (wrap64 (m * 256)) (wrap64 (bt s (p + j))) = m * 256 + bt s (p + j)) := by
        have hk := HK.out
        have hm := HM.out
        have hn := numN_bound s p j
        have : (256 : Int) ^ j ≤ 4294967296 := by
          have h4 : j = 0 ∨ j = 1 ∨ j = 2 ∨ j = 3 := by omega
          rcases h4 with rfl | rfl | rfl | rfl <;> decide
        exact or_byte m _ (by omega) (by omega) (bt_nonneg _ _) (bt_le _ _)
      have HX : Hid (wrap64 ((p : Int) + (j : Int) + 1) = ((p + (j + 1) : Nat) : Int)) := by
        have := HP.out; have := HS.out; unfold Hid wrap64; omega
      go_wp2
      go_round
      case rel => exact ⟨j + 1, m * 256 + bt s (p + j), by omega, by rw [HO.out], by rw [HX.out], by unfold Hid; rw [HM.out]; rfl⟩
      case measure => rw [HX.out]; simp only [intOf]; omega
    · have hi3 : ¬ ((p + j : Nat) : Int) < ((p + k : Nat) : Int) := by omega
      go_wp2
      go_ret
      have e : j = k := by omega
      subst e
      rw [HM.out]
      exact ⟨rfl, rfl⟩

set_option maxHeartbeats 400000 in
theorem number_c (g : Nat) (at' n x f : Int) (s : ByteArray) (w : World) (hc : w.cell? ⟨g, 0, none⟩ = some (.string s)) (hs : (s.size : Int) ≤ 140737488355328) (ha : at' ≤ 9223372036854775807) (hn : n ≤ 4)
    (HX : Hid (numOr s at' n = (x, f))) :
    Calls Tryd.prog 38 #[.pointer (some ⟨g, 0, none⟩), .int .i64 at', .int .i64 n] w fun e w' => e = .returned (.tuple #[.int .i64 x, .int .i64 f]) ∧ w = w' := by
  have HC := Lib.hid (within_c g s at' n w hc hs ha)
  cases h : hasB s at' n
  · have HE := Lib.hid h
    have HY : Hid ((0 : Int) = x ∧ (21 : Int) = f) := by have := HX.out; rw [numOr, h] at this; unfold Hid; simpa using this
    clear h hs ha hn
    go_enter Tryd.func38, Tryd.ntmps38
    go_wp2_with fail
    refine HC.out.mono ?_
    rintro e w1 ⟨rfl, rfl⟩
    rw [HE.out]
    go_wp2_with fail
    go_ret2
    rw [HY.out.1, HY.out.2]
    exact ⟨rfl, rfl⟩
  · have HE := Lib.hid h
    have HY : Hid (numN s at'.toNat n.toNat = x ∧ (0 : Int) = f) := by have := HX.out; rw [numOr, h] at this; unfold Hid; simpa using this
    simp [hasB] at h
    obtain ⟨p, rfl⟩ := Int.eq_ofNat_of_zero_le h.1.1
    obtain ⟨k, rfl⟩ := Int.eq_ofNat_of_zero_le h.1.2
    have HJ := Lib.hid (join_c g p k s w hc hs (by omega) (by omega))
    clear h hs ha hn
    go_enter Tryd.func38, Tryd.ntmps38
    go_wp2_with fail
    refine HC.out.mono ?_
    rintro e w1 ⟨rfl, rfl⟩
    rw [HE.out]
    go_wp2_with fail
    refine HJ.out.mono ?_
    rintro e w1 ⟨rfl, rfl⟩
    go_wp2_with fail
    go_ret2
    have := HY.out.1
    simp only [Int.toNat_natCast] at this
    rw [this, HY.out.2]
    exact ⟨rfl, rfl⟩

set_option maxHeartbeats 400000 in
theorem u16_c (g : Nat) (at' x f : Int) (s : ByteArray) (w : World) (hc : w.cell? ⟨g, 0, none⟩ = some (.string s)) (hs : (s.size : Int) ≤ 140737488355328) (ha : at' ≤ 9223372036854775807) (HX : Hid (numOr s at' 2 = (x, f))) :
    Calls Tryd.prog 27 #[.pointer (some ⟨g, 0, none⟩), .int .i64 at'] w fun e w' => e = .returned (.tuple #[.int .i64 x, .int .i64 f]) ∧ w = w' := by
  have HN := Lib.hid (number_c g at' 2 x f s w hc hs ha (by decide) HX)
  clear hs ha
  go_enter Tryd.func27, Tryd.ntmps27
  go_wp2_with fail
  refine HN.out.mono ?_
  rintro e w1 ⟨rfl, rfl⟩
  go_wp2_with fail
  go_ret2
  exact ⟨rfl, rfl⟩

set_option maxHeartbeats 400000 in
theorem u32_c (g : Nat) (at' x f : Int) (s : ByteArray) (w : World) (hc : w.cell? ⟨g, 0, none⟩ = some (.string s)) (hs : (s.size : Int) ≤ 140737488355328) (ha : at' ≤ 9223372036854775807) (HX : Hid (numOr s at' 4 = (x, f))) :
    Calls Tryd.prog 29 #[.pointer (some ⟨g, 0, none⟩), .int .i64 at'] w fun e w' => e = .returned (.tuple #[.int .i64 x, .int .i64 f]) ∧ w = w' := by
  have HN := Lib.hid (number_c g at' 4 x f s w hc hs ha (by decide) HX)
  clear hs ha
  go_enter Tryd.func29, Tryd.ntmps29
  go_wp2_with fail
  refine HN.out.mono ?_
  rintro e w1 ⟨rfl, rfl⟩
  go_wp2_with fail
  go_ret2
  exact ⟨rfl, rfl⟩

set_option maxHeartbeats 400000 in
theorem new_c (a : Option Addr) (len cap : Nat) (s : ByteArray) (w : World) (hB : IsB w a len cap s) :
    Calls Tryd.prog 13 #[.slice a len cap] w fun e w' => e = .returned (.pointer (some ⟨w.heap.size, 0, none⟩)) ∧ w' = w.alloc (.cells #[.string s] 56) := by
  have hk := hB.conv
  clear hB
  go_enter Tryd.func13, Tryd.ntmps13
  go_wp2
  go_ret
  exact ⟨rfl, rfl⟩

set_option maxHeartbeats 400000 in
theorem cut_no (g : Nat) (at' n : Int) (s : ByteArray) (w : World) (hc : w.cell? ⟨g, 0, none⟩ = some (.string s)) (hs : (s.size : Int) ≤ 140737488355328) (ha : at' ≤ 9223372036854775807) (h : hasB s at' n = false) :
    Calls Tryd.prog 28 #[.pointer (some ⟨g, 0, none⟩), .int .i64 at', .int .i64 n] w fun e w' => e = .returned (.tuple #[.pointer none, .int .i64 21]) ∧ w = w' := by
  have HC := Lib.hid (within_c g s at' n w hc hs ha)
  have HE := Lib.hid h
  clear h hs ha
  go_enter Tryd.func28, Tryd.ntmps28
  go_wp2_with fail
  refine HC.out.mono ?_
  rintro e w1 ⟨rfl, rfl⟩
  rw [HE.out]
  go_wp2_with fail
  go_ret2
  exact ⟨rfl, rfl⟩

set_option maxHeartbeats 400000 in
theorem cut_yes (g p k : Nat) (s : ByteArray) (w : World) (hc : w.cell? ⟨g, 0, none⟩ = some (.string s)) (hs : (s.size : Int) ≤ 140737488355328) (h : p + k ≤ s.size) :
    Calls Tryd.prog 28 #[.pointer (some ⟨g, 0, none⟩), .int .i64 p, .int .i64 k] w fun e w' => e = .returned (.tuple #[.pointer (some ⟨w.heap.size, 0, none⟩), .int .i64 0]) ∧ w' = w.alloc (.cells #[.string (s.extract p (p + k))] 56) := by
  have HC := Lib.hid (within_c g s p k w hc hs (by omega))
  have HE : Hid (hasB s p k = true) := by unfold Hid; simp [hasB]; omega
  have hw : wrap64 ((p : Int) + (k : Int)) = ((p + k : Nat) : Int) := by unfold wrap64; omega
  have h0 : (0 : Int) ≤ (p : Int) := by omega
  have h1 : (p : Int) ≤ ((p + k : Nat) : Int) := by omega
  have h2 : ((p + k : Nat) : Int) ≤ (s.size : Int) := by omega
  clear h hs
  go_enter Tryd.func28, Tryd.ntmps28
  go_wp2_with fail
  refine HC.out.mono ?_
  rintro e w1 ⟨rfl, rfl⟩
  rw [HE.out]
  go_wp2_with fail
  go_ret2
  exact ⟨rfl, rfl⟩

set_option maxHeartbeats 400000 in
theorem len_c (g : Nat) (s : ByteArray) (w : World) (hc : w.cell? ⟨g, 0, none⟩ = some (.string s)) :
    Calls Tryd.prog 40 #[.pointer (some ⟨g, 0, none⟩)] w fun e w' => e = .returned (.int .i64 s.size) ∧ w = w' := by
  go_enter Tryd.func40, Tryd.ntmps40
  go_wp2
  go_ret
  exact ⟨rfl, rfl⟩

set_option maxHeartbeats 400000 in
theorem u8_c (g : Nat) (at' x f : Int) (s : ByteArray) (w : World) (hc : w.cell? ⟨g, 0, none⟩ = some (.string s)) (hs : (s.size : Int) ≤ 140737488355328) (ha : at' ≤ 9223372036854775807) (HX : Hid (numOr s at' 1 = (x, f))) :
    Calls Tryd.prog 42 #[.pointer (some ⟨g, 0, none⟩), .int .i64 at'] w fun e w' => e = .returned (.tuple #[.int .i64 x, .int .i64 f]) ∧ w = w' := by
  have HN := Lib.hid (number_c g at' 1 x f s w hc hs ha (by decide) HX)
  clear hs ha
  go_enter Tryd.func42, Tryd.ntmps42
  go_wp2_with fail
  refine HN.out.mono ?_
  rintro e w1 ⟨rfl, rfl⟩
  go_wp2_with fail
  go_ret2
  exact ⟨rfl, rfl⟩

set_option maxHeartbeats 400000 in
theorem u24_c (g : Nat) (at' x f : Int) (s : ByteArray) (w : World) (hc : w.cell? ⟨g, 0, none⟩ = some (.string s)) (hs : (s.size : Int) ≤ 140737488355328) (ha : at' ≤ 9223372036854775807) (HX : Hid (numOr s at' 3 = (x, f))) :
    Calls Tryd.prog 35 #[.pointer (some ⟨g, 0, none⟩), .int .i64 at'] w fun e w' => e = .returned (.tuple #[.int .i64 x, .int .i64 f]) ∧ w = w' := by
  have HN := Lib.hid (number_c g at' 3 x f s w hc hs ha (by decide) HX)
  clear hs ha
  go_enter Tryd.func35, Tryd.ntmps35
  go_wp2_with fail
  refine HN.out.mono ?_
  rintro e w1 ⟨rfl, rfl⟩
  go_wp2_with fail
  go_ret2
  exact ⟨rfl, rfl⟩

theorem keepC {w w' : World} {p : Addr} {v : Value} (hb : Below w.heap.size w w') (hc : w.cell? p = some v) : w'.cell? p = some v := by
  rw [hb.cell (World.block_lt_of_cell? w _ hc)]; exact hc

theorem cut_at (g p k : Nat) (n : Int) (hn : n = (k : Int)) (s : ByteArray) (w : World) (hc : w.cell? ⟨g, 0, none⟩ = some (.string s)) (hs : (s.size : Int) ≤ 140737488355328) (h : p + k ≤ s.size) :
    Calls Tryd.prog 28 #[.pointer (some ⟨g, 0, none⟩), .int .i64 p, .int .i64 n] w fun e w' => e = .returned (.tuple #[.pointer (some ⟨w.heap.size, 0, none⟩), .int .i64 0]) ∧ w' = w.alloc (.cells #[.string (s.extract p (p + k))] 56) := by
  subst hn
  exact cut_yes g p k s w hc hs h

theorem numOr_ex (s : ByteArray) (p k : Int) : ∃ x f, Hid (numOr s p k = (x, f)) := ⟨_, _, rfl⟩

theorem num32_bound {s : ByteArray} {at' x f : Int} (h : numOr s at' 4 = (x, f)) : 0 ≤ x ∧ x ≤ 4294967295 := by
  unfold numOr at h
  have hb := numN_bound s at'.toNat 4
  split at h <;> simp at h <;> omega

theorem num16_bound {s : ByteArray} {at' x f : Int} (h : numOr s at' 2 = (x, f)) : 0 ≤ x ∧ x ≤ 65535 := by
  unfold numOr at h
  have hb := numN_bound s at'.toNat 2
  split at h <;> simp at h <;> omega

theorem hasB_twice {s : ByteArray} {a n : Int} (h : hasB s a n = false) (h0 : 0 ≤ n) : hasB s a (2 * n) = false := by
  simp [hasB] at h ⊢
  intro h1 _
  have := h h1 h0
  omega

set_option maxHeartbeats 400000 in
theorem u16s_no1 (g : Nat) (at' n : Int) (s : ByteArray) (w : World) (hc : w.cell? ⟨g, 0, none⟩ = some (.string s)) (hs : (s.size : Int) ≤ 140737488355328) (ha : at' ≤ 9223372036854775807) (h : hasB s at' n = false) :
    Calls Tryd.prog 43 #[.pointer (some ⟨g, 0, none⟩), .int .i64 at', .int .i64 n] w fun e w' => e = .returned (.tuple #[.slice none 0 0, .int .i64 21]) ∧ w = w' := by
  have HC := Lib.hid (within_c g s at' n w hc hs ha)
  have HE := Lib.hid h
  clear h hs ha
  go_enter Tryd.func43, Tryd.ntmps43
  go_wp2_with fail
  refine HC.out.mono ?_
  rintro e w1 ⟨rfl, rfl⟩
  rw [HE.out]
  go_wp2_with fail
  go_ret2
  exact ⟨rfl, rfl⟩

set_option maxHeartbeats 400000 in
theorem u16s_no2 (g : Nat) (at' n : Int) (s : ByteArray) (w : World) (hc : w.cell? ⟨g, 0, none⟩ = some (.string s)) (hs : (s.size : Int) ≤ 140737488355328) (ha : at' ≤ 9223372036854775807) (h : hasB s at' n = true) (h2 : hasB s at' (2 * n) = false) :
    Calls Tryd.prog 43 #[.pointer (some ⟨g, 0, none⟩), .int .i64 at', .int .i64 n] w fun e w' => e = .returned (.tuple #[.slice none 0 0, .int .i64 21]) ∧ w = w' := by
  have HC := Lib.hid (within_c g s at' n w hc hs ha)
  have HD := Lib.hid (within_c g s at' (2 * n) w hc hs ha)
  have hw : wrap64 (2 * n) = 2 * n := by simp [hasB] at h; unfold wrap64; omega
  have HE := Lib.hid h
  have HF := Lib.hid h2
  clear h hs ha h2
  go_enter Tryd.func43, Tryd.ntmps43
  go_wp2_with fail
  refine HC.out.mono ?_
  rintro e w1 ⟨rfl, rfl⟩
  rw [HE.out]
  go_wp2_with fail
  rw [hw]
  refine HD.out.mono ?_
  rintro e w1 ⟨rfl, rfl⟩
  rw [HF.out]
  go_wp2_with fail
  go_ret2
  exact ⟨rfl, rfl⟩

/-- A row of k numbers, the first j of which are written. -/
def partL (f : Nat → Int) (k j : Nat) : List Int := (List.range k).map fun i => if i < j then f i else 0
theorem partL_length (f : Nat → Int) (k j : Nat) : (partL f k j).length = k := by simp [partL]
theorem partL_set (f : Nat → Int) (k j : Nat) : (partL f k j).set j (f j) = partL f k (j + 1) := by
  apply List.ext_getElem
  · simp [partL]
  · intro i h1 h2
    simp [partL] at h1 h2
    rw [List.getElem_set]
    by_cases e : j = i
    · subst e; simp [partL]
    · simp only [if_neg e, partL, List.getElem_map, List.getElem_range]
      by_cases h : i < j
      · simp [h, show i < j + 1 by omega]
      · simp [h, show ¬ i < j + 1 by omega]
theorem partL_zero (f : Nat → Int) (k : Nat) : partL f k 0 = List.replicate k 0 := by
  apply List.ext_getElem
  · simp [partL]
  · intro i h1 h2; simp [partL]
theorem partL_full (f : Nat → Int) (k : Nat) : partL f k k = (List.range k).map f := by
  apply List.ext_getElem
  · simp [partL]
  · intro i h1 h2
    simp [partL] at h1
    simp [partL, h1]

/-- The numbers of two bytes from a place on. -/
def numsL (s : ByteArray) (p k : Nat) : List Int := (List.range k).map fun i => numN s (p + 2 * i) 2
theorem numsL_length (s : ByteArray) (p k : Nat) : (numsL s p k).length = k := by simp [numsL]

set_option maxHeartbeats 400000 in
theorem u16s_yes (g p k : Nat) (s : ByteArray) (w : World) (hc : w.cell? ⟨g, 0, none⟩ = some (.string s)) (hs : (s.size : Int) ≤ 140737488355328) (hk : k ≤ 1048577) (h : p + 2 * k ≤ s.size) :
    Calls Tryd.prog 43 #[.pointer (some ⟨g, 0, none⟩), .int .i64 p, .int .i64 k] w fun e w' => e = .returned (.tuple #[.slice (some ⟨w.heap.size, 0, none⟩) k k, .int .i64 0]) ∧ IntsAt w' w.heap.size (numsL s p k) ∧ Below w.heap.size w w' := by
  have HC := Lib.hid (within_c g s p k w hc (by omega) (by omega))
  have HD := Lib.hid (within_c g s p (2 * (k : Int)) w hc (by omega) (by omega))
  have HE : Hid (hasB s p k = true) := by unfold Hid; simp [hasB]; omega
  have HF : Hid (hasB s p (2 * (k : Int)) = true) := by unfold Hid; simp [hasB]; omega
  have hw : wrap64 (2 * (k : Int)) = 2 * (k : Int) := by unfold wrap64; omega
  have HCC := Lib.hid hc
  have HS := Lib.hid hs
  have HP := Lib.hid h
  obtain ⟨w0, hmk, hb0, hbel0, hz0⟩ := make_ints k hk w
  have HN0 : Hid (IntsAt w0 w.heap.size (partL (fun i => numN s (p + 2 * i) 2) k 0)) := by unfold Hid; rw [partL_zero]; exact hb0
  have HB0 := Lib.hid hbel0
  clear h hs hc hk hb0 hbel0 hz0
  go_enter Tryd.func43, Tryd.ntmps43
  go_wp2_with fail
  refine HC.out.mono ?_
  rintro e w1 ⟨rfl, rfl⟩
  rw [HE.out]
  go_wp2_with fail
  rw [hw]
  refine HD.out.mono ?_
  rintro e w1 ⟨rfl, rfl⟩
  rw [HF.out]
  go_wp2_with fail
  go_loopw [27] (fun i wr => ∃ j : Nat, j ≤ k ∧ i = .int .i64 j ∧ Hid (IntsAt wr w.heap.size (partL (fun i => numN s (p + 2 * i) 2) k j)) ∧ Hid (Below w.heap.size w wr)) (fun i _ => k - (intOf i).toNat)
  case atStart => exact ⟨0, Nat.zero_le _, rfl, HN0, HB0⟩
  case round =>
    clear HN0 HB0
    obtain ⟨j, hj, rfl, HN, HB⟩ := hrel
    by_cases hlt : j < k
    · have hlt' : (j : Int) < (k : Int) := by omega
      have hy := HN.out.cell (i := j) (by rw [partL_length]; omega)
      have hf := HN.out.frozen j
      have hj0 := (join_c g (p + 2 * j) 2 s wr (keepC HB.out HCC.out) (by have := HS.out; omega) (by decide) (by have := HP.out; omega))
      rw [show ((p + 2 * j : Nat) : Int) = (p : Int) + 2 * (j : Int) by omega] at hj0
      have HJ := Lib.hid hj0
      clear hj0
      have hw1 : wrap64 (2 * (j : Int)) = 2 * (j : Int) := by have := HS.out; have := HP.out; unfold wrap64; omega
      have hw2 : wrap64 ((p : Int) + 2 * (j : Int)) = ((p + 2 * j : Nat) : Int) := by have := HS.out; have := HP.out; unfold wrap64; omega
      have HX : Hid (wrap64 ((j : Int) + 1) = ((j + 1 : Nat) : Int)) := by have := HS.out; have := HP.out; unfold Hid wrap64; omega
      have HN1 : Hid (IntsAt (wr.setCell ⟨w.heap.size, j, none⟩ (.int .i64 (numN s (p + 2 * j) 2))) w.heap.size (partL (fun i => numN s (p + 2 * i) 2) k (j + 1))) := by
        have := HN.out.set j (numN s (p + 2 * j) 2)
        unfold Hid; rw [← partL_set]; exact this
      have HB1 := Lib.hid (HB.out.setCell (p := ⟨w.heap.size, j, none⟩) (Nat.le_refl _) (.int .i64 (numN s (p + 2 * j) 2)))
      clear HN HB
      go_wp2_with fail
      refine HJ.out.mono ?_
      rintro e w1 ⟨rfl, rfl⟩
      go_wp2_with fail
      go_roundw
      case rel => exact ⟨j + 1, by omega, by rw [HX.out], HN1, HB1⟩
      case measure => rw [HX.out]; simp only [intOf]; omega
    · have hlt' : ¬ (j : Int) < (k : Int) := by omega
      have e : j = k := by omega
      subst e
      have HE2 : Hid (IntsAt wr w.heap.size (numsL s p j)) := by unfold Hid numsL; rw [← partL_full]; exact HN.out
      clear HN
      go_wp2_with fail
      go_ret2
      exact ⟨rfl, HE2.out, HB.out⟩

theorem num24_bound {s : ByteArray} {at' x f : Int} (h : numOr s at' 3 = (x, f)) : 0 ≤ x ∧ x ≤ 16777215 := by
  unfold numOr at h
  have hb := numN_bound s at'.toNat 3
  split at h <;> simp at h <;> omega
theorem num8_bound {s : ByteArray} {at' x f : Int} (h : numOr s at' 1 = (x, f)) : 0 ≤ x ∧ x ≤ 255 := by
  unfold numOr at h
  have hb := numN_bound s at'.toNat 1
  split at h <;> simp at h <;> omega

end Go.Proofs.YtfbgddigedgpfaaDoor
