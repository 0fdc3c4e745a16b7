import Derived.Test.YtklenppldblbdaaGreatK01
import Derived.Test.YtklenppldblbdaaGreatRows
import Derived.ChangeSame
import Derived.ChangeSlices
import Derived.OpenShut
import Derived.SizedLaws
import Derived.WalkKit
import Derived.ProofKit
import Derived.Below
import Derived.WalkSmall
import Derived.IntWalk
import Derived.Lib.Hide
import Derived.Outline
import Derived.Lib.Mul64
import Derived.Laws.Bits64b
import Derived.BigQuiet
import Derived.Deep.QuietTactic
import Derived.RegionTactic
set_option linter.unusedSimpArgs false
set_option linter.unusedVariables false
namespace Go.Proofs.YtklenppldblbdaaGreat
open Go.RowKit Go.PlainAid
def hasB (s : ByteArray) (at' n : Int) : Bool := decide (0 ≤ at') && decide (0 ≤ n) && decide (n ≤ (s.size : Int) - at')
def numN (s : ByteArray) (p : Nat) : Nat → Int
 | 0 => 0
 | k + 1 => numN s p k * 256 + bt s (p + k)
theorem numN_bound (s : ByteArray) (p : Nat) : ∀ k, 0 ≤ numN s p k ∧ numN s p k < 256 ^ k
 | 0 => by simp [numN]
 | k + 1 => by
   have h := numN_bound s p k
   have h1 := bt_nonneg s (p + k)
   have h2 := bt_le s (p + k)
   simp only [numN, Int.pow_succ]
   omega
def numOr (s : ByteArray) (at' n : Int) : Int × Int := if hasB s at' n = true then (numN s at'.toNat n.toNat, 0) else (0, 21)
theorem hasB_sub {s : ByteArray} {a n : Int} (h1 : 0 ≤ a) (h2 : 0 ≤ n) : hasB s a n = decide (n ≤ (s.size : Int) - a) := by simp [hasB, h1, h2]
theorem hasB_no1 {s : ByteArray} {a n : Int} (h1 : ¬ 0 ≤ a) : hasB s a n = false := by simp [hasB, h1]
theorem hasB_no2 {s : ByteArray} {a n : Int} (h1 : ¬ 0 ≤ n) : hasB s a n = false := by simp [hasB, h1]
set_option maxHeartbeats 400000 in
theorem within_c (g : Nat) (s : ByteArray) (at' n : Int) (w : World) (hc : w.cell? ⟨g, 0, none⟩ = some (.string s)) (hs : (s.size : Int) ≤ 140737488355328) (ha : at' ≤ 9223372036854775807) :
 Calls Tryz.prog 52 #[.pointer (some ⟨g, 0, none⟩), .int .i64 at', .int .i64 n] w fun e w' => e = .returned (.bool (hasB s at' n)) ∧ w = w' := by
 by_cases h1 : 0 ≤ at'
 ·by_cases h2 : 0 ≤ n
  ·have HW : wrap64 ((s.size : Int) - at') = (s.size : Int) - at' := by unfold wrap64; omega
   have HE := Lib.hid (hasB_sub (s := s) h1 h2)
   clear hs ha
   go_enter Tryz.func52, Tryz.ntmps52
   go_wp2
   go_ret
   rw [HE.out, HW]
   exact ⟨rfl, rfl⟩
  ·have HE := Lib.hid (hasB_no2 (s := s) (a := at') h2)
   clear hs ha
   go_enter Tryz.func52, Tryz.ntmps52
   go_wp2
   go_ret
   rw [HE.out]
   exact ⟨rfl, rfl⟩
 ·have HE := Lib.hid (hasB_no1 (s := s) (n := n) h1)
  clear hs ha
  go_enter Tryz.func52, Tryz.ntmps52
  go_wp2
  go_ret
  rw [HE.out]
  exact ⟨rfl, rfl⟩
theorem bits_or_i64_nat (a b : Nat) (ha : a < 9223372036854775808) (hb : b < 9223372036854775808) : bits .or .i64 (a : Int) (b : Int) = ((a ||| b : Nat) : Int) := by
 have hx : a ||| b < 2 ^ 63 := Nat.or_lt_two_pow (by omega) (by omega)
 have h1 : (BitVec.ofInt 64 (a : Int)).toNat = a := by
  rw [BitVec.ofInt_natCast, BitVec.toNat_ofNat]; exact Nat.mod_eq_of_lt (by omega)
 have h2 : (BitVec.ofInt 64 (b : Int)).toNat = b := by
  rw [BitVec.ofInt_natCast, BitVec.toNat_ofNat]; exact Nat.mod_eq_of_lt (by omega)
 show IntKind.i64.wrap ((BitVec.ofInt 64 (a : Int) ||| BitVec.ofInt 64 (b : Int)).toNat : Int) = _
 rw [BitVec.toNat_or, h1, h2, IntKind.wrap_i64]
 omega
theorem or_byte (m b : Int) (m0 : 0 ≤ m) (m1 : m < 1099511627776) (b0 : 0 ≤ b) (b1 : b ≤ 255) : bits .or .i64 (wrap64 (m * 256)) (wrap64 b) = m * 256 + b := by
 have e1 : wrap64 (m * 256) = m * 256 := by unfold wrap64; omega
 have e2 : wrap64 b = b := by unfold wrap64; omega
 rw [e1, e2]
 obtain ⟨x, rfl⟩ := Int.eq_ofNat_of_zero_le m0
 obtain ⟨y, rfl⟩ := Int.eq_ofNat_of_zero_le b0
 have e3 : ((x : Int) * 256) = ((x * 256 : Nat) : Int) := by omega
 rw [e3, bits_or_i64_nat _ _ (by omega) (by omega)]
 have e4 : x * 256 ||| y = x * 256 + y := by
  have := Nat.shiftLeft_add_eq_or_of_lt (show y < 2 ^ 8 by omega) x
  rw [Nat.shiftLeft_eq] at this
  exact this.symm
 rw [e4]
 omega
set_option maxHeartbeats 400000 in
theorem join_c (g p k : Nat) (s : ByteArray) (w : World) (hc : w.cell? ⟨g, 0, none⟩ = some (.string s)) (hs : (s.size : Int) ≤ 140737488355328) (hk : k ≤ 4) (hp : p + k ≤ s.size) :
 Calls Tryz.prog 71 #[.pointer (some ⟨g, 0, none⟩), .int .i64 p, .int .i64 k] w fun e w' => e = .returned (.int .i64 (numN s p k)) ∧ w = w' := by
 have HW : wrap64 ((p : Int) + (k : Int)) = ((p + k : Nat) : Int) := by unfold wrap64; omega
 have HS := Lib.hid hs
 have HP := Lib.hid hp
 have HK := Lib.hid hk
 have hb := get_bt s
 clear hs hp hk
 go_enter Tryz.func71, Tryz.ntmps71
 go_wp2
 go_loop [7, 8] (fun x i => ∃ j : Nat, ∃ m : Int, j ≤ k ∧ x = .int .i64 m ∧ i = .int .i64 ((p + j : Nat) : Int) ∧ Hid (m = numN s p j)) (fun x i => (p + k) - (intOf i).toNat)
 case atStart => exact ⟨0, 0, Nat.zero_le _, rfl, rfl, rfl⟩
 case round =>
  obtain ⟨j, m, hj, rfl, rfl, HM⟩ := hrel
  by_cases hlt : j < k
  ·have hi1 : (0 : Int) ≤ ((p + j : Nat) : Int) := by omega
   have hi2 : ((p + j : Nat) : Int) < (s.size : Int) := by have := HP.out; omega
   have hi3 : ((p + j : Nat) : Int) < ((p + k : Nat) : Int) := by omega
   have HO : Hid (bits .or .i64 (wrap64 (m * 256)) (wrap64 (bt s (p + j))) = m * 256 + bt s (p + j)) := by
    have hk := HK.out
    have hm := HM.out
    have hn := numN_bound s p j
    have : (256 : Int) ^ j ≤ 4294967296 := by
     have h4 : j = 0 ∨ j = 1 ∨ j = 2 ∨ j = 3 := by omega
     rcases h4 with rfl | rfl | rfl | rfl <;> decide
    exact or_byte m _ (by omega) (by omega) (bt_nonneg _ _) (bt_le _ _)
   have HX : Hid (wrap64 ((p : Int) + (j : Int) + 1) = ((p + (j + 1) : Nat) : Int)) := by
    have := HP.out; have := HS.out; unfold Hid wrap64; omega
   go_wp2
   go_round
   case rel => exact ⟨j + 1, m * 256 + bt s (p + j), by omega, by rw [HO.out], by rw [HX.out], by unfold Hid; rw [HM.out]; rfl⟩
   case measure => rw [HX.out]; simp only [intOf]; omega
  ·have hi3 : ¬ ((p + j : Nat) : Int) < ((p + k : Nat) : Int) := by omega
   go_wp2
   go_ret
   have e : j = k := by omega
   subst e
   rw [HM.out]
   exact ⟨rfl, rfl⟩
set_option maxHeartbeats 400000 in
theorem number_c (g : Nat) (at' n x f : Int) (s : ByteArray) (w : World) (hc : w.cell? ⟨g, 0, none⟩ = some (.string s)) (hs : (s.size : Int) ≤ 140737488355328) (ha : at' ≤ 9223372036854775807) (hn : n ≤ 4)
 (HX : Hid (numOr s at' n = (x, f))) :
 Calls Tryz.prog 53 #[.pointer (some ⟨g, 0, none⟩), .int .i64 at', .int .i64 n] w fun e w' => e = .returned (.tuple #[.int .i64 x, .int .i64 f]) ∧ w = w' := by
 have HC := Lib.hid (within_c g s at' n w hc hs ha)
 cases h : hasB s at' n
 ·have HE := Lib.hid h
  have HY : Hid ((0 : Int) = x ∧ (21 : Int) = f) := by have := HX.out; rw [numOr, h] at this; unfold Hid; simpa using this
  clear h hs ha hn
  go_enter Tryz.func53, Tryz.ntmps53
  go_wp2_with fail
  refine HC.out.mono ?_
  rintro e w1 ⟨rfl, rfl⟩
  rw [HE.out]
  go_wp2_with fail
  go_ret2
  rw [HY.out.1, HY.out.2]
  exact ⟨rfl, rfl⟩
 ·have HE := Lib.hid h
  have HY : Hid (numN s at'.toNat n.toNat = x ∧ (0 : Int) = f) := by have := HX.out; rw [numOr, h] at this; unfold Hid; simpa using this
  simp [hasB] at h
  obtain ⟨p, rfl⟩ := Int.eq_ofNat_of_zero_le h.1.1
  obtain ⟨k, rfl⟩ := Int.eq_ofNat_of_zero_le h.1.2
  have HJ := Lib.hid (join_c g p k s w hc hs (by omega) (by omega))
  clear h hs ha hn
  go_enter Tryz.func53, Tryz.ntmps53
  go_wp2_with fail
  refine HC.out.mono ?_
  rintro e w1 ⟨rfl, rfl⟩
  rw [HE.out]
  go_wp2_with fail
  refine HJ.out.mono ?_
  rintro e w1 ⟨rfl, rfl⟩
  go_wp2_with fail
  go_ret2
  have := HY.out.1
  simp only [Int.toNat_natCast] at this
  rw [this, HY.out.2]
  exact ⟨rfl, rfl⟩
set_option maxHeartbeats 400000 in
theorem u16_c (g : Nat) (at' x f : Int) (s : ByteArray) (w : World) (hc : w.cell? ⟨g, 0, none⟩ = some (.string s)) (hs : (s.size : Int) ≤ 140737488355328) (ha : at' ≤ 9223372036854775807) (HX : Hid (numOr s at' 2 = (x, f))) :
 Calls Tryz.prog 72 #[.pointer (some ⟨g, 0, none⟩), .int .i64 at'] w fun e w' => e = .returned (.tuple #[.int .i64 x, .int .i64 f]) ∧ w = w' := by
 have HN := Lib.hid (number_c g at' 2 x f s w hc hs ha (by decide) HX)
 clear hs ha
 go_enter Tryz.func72, Tryz.ntmps72
 go_wp2_with fail
 refine HN.out.mono ?_
 rintro e w1 ⟨rfl, rfl⟩
 go_wp2_with fail
 go_ret2
 exact ⟨rfl, rfl⟩
set_option maxHeartbeats 400000 in
theorem new_c (a : Option Addr) (len cap : Nat) (s : ByteArray) (w : World) (hB : IsB w a len cap s) :
 Calls Tryz.prog 12 #[.slice a len cap] w fun e w' => e = .returned (.pointer (some ⟨w.heap.size, 0, none⟩)) ∧ w' = w.alloc (.cells #[.string s] 68) := by
 have hk := hB.conv
 clear hB
 go_enter Tryz.func12, Tryz.ntmps12
 go_wp2
 go_ret
 exact ⟨rfl, rfl⟩
set_option maxHeartbeats 400000 in
theorem cut_no (g : Nat) (at' n : Int) (s : ByteArray) (w : World) (hc : w.cell? ⟨g, 0, none⟩ = some (.string s)) (hs : (s.size : Int) ≤ 140737488355328) (ha : at' ≤ 9223372036854775807) (h : hasB s at' n = false) :
 Calls Tryz.prog 31 #[.pointer (some ⟨g, 0, none⟩), .int .i64 at', .int .i64 n] w fun e w' => e = .returned (.tuple #[.pointer none, .int .i64 21]) ∧ w = w' := by
 have HC := Lib.hid (within_c g s at' n w hc hs ha)
 have HE := Lib.hid h
 clear h hs ha
 go_enter Tryz.func31, Tryz.ntmps31
 go_wp2_with fail
 refine HC.out.mono ?_
 rintro e w1 ⟨rfl, rfl⟩
 rw [HE.out]
 go_wp2_with fail
 go_ret2
 exact ⟨rfl, rfl⟩
set_option maxHeartbeats 400000 in
theorem cut_yes (g p k : Nat) (s : ByteArray) (w : World) (hc : w.cell? ⟨g, 0, none⟩ = some (.string s)) (hs : (s.size : Int) ≤ 140737488355328) (h : p + k ≤ s.size) :
 Calls Tryz.prog 31 #[.pointer (some ⟨g, 0, none⟩), .int .i64 p, .int .i64 k] w fun e w' => e = .returned (.tuple #[.pointer (some ⟨w.heap.size, 0, none⟩), .int .i64 0]) ∧ w' = w.alloc (.cells #[.string (s.extract p (p + k))] 68) := by
 have HC := Lib.hid (within_c g s p k w hc hs (by omega))
 have HE : Hid (hasB s p k = true) := by unfold Hid; simp [hasB]; omega
 have hw : wrap64 ((p : Int) + (k : Int)) = ((p + k : Nat) : Int) := by unfold wrap64; omega
 have h0 : (0 : Int) ≤ (p : Int) := by omega
 have h1 : (p : Int) ≤ ((p + k : Nat) : Int) := by omega
 have h2 : ((p + k : Nat) : Int) ≤ (s.size : Int) := by omega
 clear h hs
 go_enter Tryz.func31, Tryz.ntmps31
 go_wp2_with fail
 refine HC.out.mono ?_
 rintro e w1 ⟨rfl, rfl⟩
 rw [HE.out]
 go_wp2_with fail
 go_ret2
 exact ⟨rfl, rfl⟩
set_option maxHeartbeats 400000 in
theorem len_c (g : Nat) (s : ByteArray) (w : World) (hc : w.cell? ⟨g, 0, none⟩ = some (.string s)) :
 Calls Tryz.prog 64 #[.pointer (some ⟨g, 0, none⟩)] w fun e w' => e = .returned (.int .i64 s.size) ∧ w = w' := by
 go_enter Tryz.func64, Tryz.ntmps64
 go_wp2
 go_ret
 exact ⟨rfl, rfl⟩
set_option maxHeartbeats 400000 in
theorem u8_c (g : Nat) (at' x f : Int) (s : ByteArray) (w : World) (hc : w.cell? ⟨g, 0, none⟩ = some (.string s)) (hs : (s.size : Int) ≤ 140737488355328) (ha : at' ≤ 9223372036854775807) (HX : Hid (numOr s at' 1 = (x, f))) :
 Calls Tryz.prog 32 #[.pointer (some ⟨g, 0, none⟩), .int .i64 at'] w fun e w' => e = .returned (.tuple #[.int .i64 x, .int .i64 f]) ∧ w = w' := by
 have HN := Lib.hid (number_c g at' 1 x f s w hc hs ha (by decide) HX)
 clear hs ha
 go_enter Tryz.func32, Tryz.ntmps32
 go_wp2_with fail
 refine HN.out.mono ?_
 rintro e w1 ⟨rfl, rfl⟩
 go_wp2_with fail
 go_ret2
 exact ⟨rfl, rfl⟩
theorem numOr_ex (s : ByteArray) (p k : Int) : ∃ x f, Hid (numOr s p k = (x, f)) := ⟨_, _, rfl⟩
theorem num16_bound {s : ByteArray} {at' x f : Int} (h : numOr s at' 2 = (x, f)) : 0 ≤ x ∧ x ≤ 65535 := by
 unfold numOr at h
 have hb := numN_bound s at'.toNat 2
 split at h <;> simp at h <;> omega
def partL (f : Nat → Int) (k j : Nat) : List Int := (List.range k).map fun i => if i < j then f i else 0
theorem partL_length (f : Nat → Int) (k j : Nat) : (partL f k j).length = k := by simp [partL]
theorem partL_set (f : Nat → Int) (k j : Nat) : (partL f k j).set j (f j) = partL f k (j + 1) := by
 apply List.ext_getElem
 ·simp [partL]
 ·intro i h1 h2
  simp [partL] at h1 h2
  rw [List.getElem_set]
  by_cases e : j = i
  ·subst e; simp [partL]
  ·simp only [if_neg e, partL, List.getElem_map, List.getElem_range]
   by_cases h : i < j
   ·simp [h, show i < j + 1 by omega]
   ·simp [h, show ¬ i < j + 1 by omega]
theorem partL_zero (f : Nat → Int) (k : Nat) : partL f k 0 = List.replicate k 0 := by
 apply List.ext_getElem
 ·simp [partL]
 ·intro i h1 h2; simp [partL]
theorem partL_full (f : Nat → Int) (k : Nat) : partL f k k = (List.range k).map f := by
 apply List.ext_getElem
 ·simp [partL]
 ·intro i h1 h2
  simp [partL] at h1
  simp [partL, h1]
theorem num8_bound {s : ByteArray} {at' x f : Int} (h : numOr s at' 1 = (x, f)) : 0 ≤ x ∧ x ≤ 255 := by
 unfold numOr at h
 have hb := numN_bound s at'.toNat 1
 split at h <;> simp at h <;> omega
def sign16 (x : Int) : Int := if 32768 ≤ x then x - 65536 else x
theorem wrap_i16 (n : Int) : IntKind.i16.wrap n = (n + 32768) % 65536 - 32768 := by
 have h : IntKind.i16.wrap n = if n % 65536 ≥ 32768 then n % 65536 - 65536 else n % 65536 := by simp [IntKind.wrap, IntKind.bits, IntKind.signed]
 rw [h]
 split <;> omega
set_option maxHeartbeats 400000 in
theorem i16_c (g : Nat) (at' x f : Int) (s : ByteArray) (w : World) (hc : w.cell? ⟨g, 0, none⟩ = some (.string s)) (hs : (s.size : Int) ≤ 140737488355328) (ha : at' ≤ 9223372036854775807) (HX : Hid (numOr s at' 2 = (x, f))) :
 Calls Tryz.prog 90 #[.pointer (some ⟨g, 0, none⟩), .int .i64 at'] w fun e w' => e = .returned (.tuple #[.int .i64 (sign16 x), .int .i64 f]) ∧ w = w' := by
 have HN := Lib.hid (number_c g at' 2 x f s w hc hs ha (by decide) HX)
 have HB := Lib.hid (num16_bound HX.out)
 clear hs ha
 go_enter Tryz.func90, Tryz.ntmps90
 go_wp2_with fail
 refine HN.out.mono ?_
 rintro e w1 ⟨rfl, rfl⟩
 go_wp2_with fail
 go_ret2
 have HW : wrap64 (IntKind.i16.wrap x) = sign16 x := by
  have := HB.out
  rw [wrap_i16]
  unfold wrap64 sign16
  split <;> omega
 rw [HW]
 exact ⟨rfl, rfl⟩
end Go.Proofs.YtklenppldblbdaaGreat
namespace Go.Proofs.YtklenppldblbdaaGreat
open Go.RowKit Go.PlainAid
theorem bt_join_left (s u : ByteArray) {i : Nat} (h : i < s.size) : bt (s ++ u) i = bt s i := by
 rw [bt_eq _ h, bt_eq _ (show i < (s ++ u).size by rw [ByteArray.size_append]; omega)]
 have h' : i < s.data.size := h
 simp [ByteArray.data_append, Array.getElem_append, h', h]
theorem bt_join_right (s u : ByteArray) {i : Nat} (h : i < u.size) : bt (s ++ u) (s.size + i) = bt u i := by
 rw [bt_eq _ h, bt_eq _ (show s.size + i < (s ++ u).size by rw [ByteArray.size_append]; omega)]
 have h' : ¬ s.size + i < s.data.size := by have : s.data.size = s.size := rfl; omega
 have e : s.data.size = s.size := rfl
 simp [ByteArray.data_append, Array.getElem_append, h', e]
theorem cellsOfStr_join (s u : ByteArray) : cellsOfStr (s ++ u) = cellsOfStr s ++ cellsOfStr u := by
 apply List.ext_getElem?
 intro i
 by_cases h1 : i < s.size
 ·rw [cellsOfStr_get _ i (by rw [ByteArray.size_append]; omega), List.getElem?_append_left (by rw [cellsOfStr_length]; exact h1), cellsOfStr_get _ i h1, bt_join_left s u h1]
 ·rw [List.getElem?_append_right (by rw [cellsOfStr_length]; omega), cellsOfStr_length]
  by_cases h2 : i - s.size < u.size
  ·rw [cellsOfStr_get _ _ h2, cellsOfStr_get _ i (by rw [ByteArray.size_append]; omega)]
   have := bt_join_right s u h2
   rw [show s.size + (i - s.size) = i by omega] at this
   rw [this]
  ·rw [List.getElem?_eq_none (by rw [cellsOfStr_length, ByteArray.size_append]; omega), List.getElem?_eq_none (by rw [cellsOfStr_length]; omega)]
def Seg (f : ByteArray) (p : Nat) (s : ByteArray) : Prop := p + s.size ≤ f.size ∧ ∀ i, i < s.size → bt f (p + i) = bt s i
theorem seg_self (f : ByteArray) : Seg f 0 f := ⟨by omega, fun i hi => by rw [Nat.zero_add]⟩
theorem Seg.left {f s t : ByteArray} {p : Nat} (h : Seg f p (s ++ t)) : Seg f p s := by
 obtain ⟨h1, h2⟩ := h
 rw [ByteArray.size_append] at h1 h2
 exact ⟨by omega, fun i hi => by rw [h2 i (by omega), bt_join_left s t hi]⟩
theorem Seg.right {f s t : ByteArray} {p : Nat} (h : Seg f p (s ++ t)) : Seg f (p + s.size) t := by
 obtain ⟨h1, h2⟩ := h
 rw [ByteArray.size_append] at h1 h2
 exact ⟨by omega, fun i hi => by rw [Nat.add_assoc, h2 (s.size + i) (by omega), bt_join_right s t hi]⟩
theorem ext_bt {s t : ByteArray} (hs : s.size = t.size) (h : ∀ i, i < s.size → bt s i = bt t i) : s = t := by
 apply ByteArray.ext
 apply Array.ext
 ·exact hs
 ·intro i h1 h2
  have e := h i h1
  rw [bt_eq s h1, bt_eq t h2] at e
  exact UInt8.toNat_inj.1 (by omega)
theorem Seg.ext {f s : ByteArray} {p : Nat} (h : Seg f p s) : f.extract p (p + s.size) = s := by
 obtain ⟨h1, h2⟩ := h
 have hz : (f.extract p (p + s.size)).size = s.size := by rw [ByteArray.size_extract]; omega
 refine ext_bt hz fun i hi => ?_
 rw [bt_extract f p (p + s.size) i h1 (by omega), h2 i (by omega)]
theorem Seg.trans {f s u : ByteArray} {p q : Nat} (h : Seg f p s) (k : Seg s q u) : Seg f (p + q) u :=
 ⟨by have := h.1; have := k.1; omega, fun i hi => by rw [Nat.add_assoc, h.2 (q + i) (by have := k.1; omega), k.2 i hi]⟩
theorem numN_seg {f s : ByteArray} {p : Nat} (h : Seg f p s) (q : Nat) : ∀ k, q + k ≤ s.size → numN f (p + q) k = numN s q k
 | 0, _ => rfl
 | k + 1, hk => by rw [numN, numN, numN_seg h q k (by omega), Nat.add_assoc, h.2 (q + k) (by omega)]
def bigB (x : Int) : Nat → ByteArray
 | 0 => ByteArray.empty
 | k + 1 => bigB (x / 256) k ++ ⟨#[(x % 256).toNat.toUInt8]⟩
theorem bigB_size : ∀ (k : Nat) (x : Int), (bigB x k).size = k
 | 0, _ => rfl
 | k + 1, x => by rw [bigB, ByteArray.size_append, bigB_size k]; rfl
theorem bt_one (x : Int) (h0 : 0 ≤ x) (h1 : x ≤ 255) : bt ⟨#[x.toNat.toUInt8]⟩ 0 = x := by
 rw [bt_eq _ (show 0 < (⟨#[x.toNat.toUInt8]⟩ : ByteArray).size by exact Nat.zero_lt_one)]
 have : x.toNat % 256 = x.toNat := Nat.mod_eq_of_lt (by omega)
 simp [this]
 omega
theorem numN_big : ∀ (k : Nat) (x : Int), 0 ≤ x → numN (bigB x k) 0 k = x % 256 ^ k
 | 0, x, h => by simp [numN]
 | k + 1, x, h => by
   have hs : Seg (bigB x (k + 1)) 0 (bigB (x / 256) k) := (seg_self _).left
   have hr : Seg (bigB x (k + 1)) (0 + (bigB (x / 256) k).size) ⟨#[(x % 256).toNat.toUInt8]⟩ := (seg_self (bigB x (k + 1))).right
   have e1 := numN_seg hs 0 k (by rw [bigB_size]; omega)
   have e2 := hr.2 0 Nat.zero_lt_one
   simp only [bigB_size, Nat.zero_add, Nat.add_zero] at e2
   rw [bt_one _ (by omega) (by omega)] at e2
   rw [Nat.add_zero] at e1
   rw [numN, Nat.zero_add, e1, e2, numN_big k (x / 256) (by omega), Int.pow_succ]
   have hp : (0 : Int) < 256 ^ k := Int.pow_pos (by decide)
   generalize (256 : Int) ^ k = P at *
   have h3 := Int.emod_emod_of_dvd x (Int.dvd_mul_left 256 P)
   have h4 : x % (P * 256) = x / 256 % P * 256 + x % 256 := by
    have a1 := Int.mul_ediv_add_emod x 256
    have a2 := Int.mul_ediv_add_emod (x / 256) P
    have a3 := Int.emod_nonneg (x / 256) (show P ≠ 0 by omega)
    have a4 := Int.emod_lt_of_pos (x / 256) hp
    have a5 := Int.emod_nonneg x (show (256 : Int) ≠ 0 by decide)
    have a6 := Int.emod_lt_of_pos x (show (0 : Int) < 256 by decide)
    have e : x = (x / 256 % P * 256 + x % 256) + P * 256 * (x / 256 / P) := by
     have : P * 256 * (x / 256 / P) = 256 * (P * (x / 256 / P)) := by rw [Int.mul_comm P 256, Int.mul_assoc]
     omega
    rw [e, Int.add_mul_emod_self_left, ← e]
    refine Int.emod_eq_of_lt (by omega) ?_
    omega
   rw [h4]
theorem num_big4 {f : ByteArray} {p : Nat} {x : Int} (h : Seg f p (bigB x 4)) (h0 : 0 ≤ x) (h1 : x ≤ 4294967295) : numOr f p 4 = (x, 0) := by
 have hz := h.1
 rw [bigB_size] at hz
 unfold numOr
 rw [if_pos (by simp [hasB]; omega)]
 have e := numN_seg h 0 4 (by rw [bigB_size]; omega)
 rw [Nat.add_zero, numN_big 4 x h0] at e
 have e2 : x % 256 ^ 4 = x := Int.emod_eq_of_lt h0 (by omega)
 show (numN f p 4, (0 : Int)) = _
 rw [e, e2]
theorem num_big2 {f : ByteArray} {p : Nat} {x : Int} (h : Seg f p (bigB x 2)) (h0 : 0 ≤ x) (h1 : x ≤ 65535) : numOr f p 2 = (x, 0) := by
 have hz := h.1
 rw [bigB_size] at hz
 unfold numOr
 rw [if_pos (by simp [hasB]; omega)]
 have e := numN_seg h 0 2 (by rw [bigB_size]; omega)
 rw [Nat.add_zero, numN_big 2 x h0] at e
 have e2 : x % 256 ^ 2 = x := Int.emod_eq_of_lt h0 (by omega)
 show (numN f p 2, (0 : Int)) = _
 rw [e, e2]
theorem join_assoc (a b c : ByteArray) : a ++ b ++ c = a ++ (b ++ c) := by
 apply ByteArray.ext; simp [ByteArray.data_append, Array.append_assoc]
theorem join_empty (a : ByteArray) : ByteArray.empty ++ a = a := by
 apply ByteArray.ext; simp [ByteArray.data_append]
end Go.Proofs.YtklenppldblbdaaGreat
namespace Go.Proofs.YtklenppldblbdaaGreat
open Go.RowKit Go.PlainAid Go.ChangeShapes Go.WideShapes Go.ChangeAt
theorem add_plus (b off i j : Nat) : ((⟨b, off, none⟩ : Addr).add i).add j = ⟨b, off + i + j, none⟩ := by rw [Addr.add_lit, Addr.add_lit]
theorem cellsI : Tryz.prog.cellsOf 3 = 1 := by kernel_rfl
theorem one_of {α : Type} {l : List α} {j : Nat} {x : α} (h : (l.drop j).take 1 = [x]) : l[j]? = some x := by
 have a0 : ((l.drop j).take 1)[0]? = some x := by rw [h]; rfl
 rw [List.getElem?_take, List.getElem?_drop] at a0
 simpa using a0
theorem list_of {α : Type} {n : Nat} {R : Nat → α → Prop} (h : ∀ i, i < n → ∃ x, R i x) : ∃ L : List α, L.length = n ∧ ∀ (i : Nat) (x : α), L[i]? = some x → R i x := by
 induction n with
 | zero => exact ⟨[], rfl, fun i x h => by simp at h⟩
 | succ n ih =>
   obtain ⟨L, hl, hL⟩ := ih (fun i hi => h i (by omega))
   obtain ⟨x, hx⟩ := h n (by omega)
   refine ⟨L ++ [x], by simp [hl], fun i y hy => ?_⟩
   by_cases hi : i < L.length
   ·rw [List.getElem?_append_left hi] at hy; exact hL i y hy
   ·rw [List.getElem?_append_right (by omega)] at hy
    have : i = n := by
     have := (List.getElem?_eq_some_iff.1 hy).1
     simp at this; omega
    subst this
    rw [hl, Nat.sub_self] at hy
    simp at hy; subst hy; exact hx
theorem row_in {H : Type} {enc : TypeId × Value → H} {w : World} {sp : Nat → Bool} {t e : TypeId} {s : Nat} {α : Type} {R : α → List Value → DataW H → Prop} (hu : Tryz.prog.underlying t = some (.slice e)) (hs : Tryz.prog.cellsOf e = s) (hs0 : 0 < s)
 (hel : ∀ fuel cs x, DataW.trod enc Tryz.prog w 0 sp true fuel e cs = some x → ∃ y, R y cs x.1) {fuel : Nat} {cs : List Value} {x : DataW H × List MemPlace} (h : DataW.trod enc Tryz.prog w 0 sp true fuel t cs = some x) :
 ∃ (a : Option Addr) (cap : Nat) (L : List α), cs = [.slice a L.length cap] ∧ L.length ≤ cap ∧
  (L = [] ∨ ∃ b off, a = some ⟨b, off, none⟩ ∧ ∀ (i : Nat) (y : α), L[i]? = some y → ∃ ys d, R y ys d ∧ ys.length = s ∧ Lies w b (off + i * s) ys) ∧
  ((x.1 = .nil ∧ L = []) ∨ ∃ elems spare, x.1 = .slice elems spare ∧ elems.length = L.length ∧ ∀ (i : Nat) (y : α), L[i]? = some y → ∃ ys d, R y ys d ∧ elems[i]? = some d) := by
 rcases DataW.trod_slice hu h with ⟨rfl, rfl⟩ | ⟨⟨b, off, spot⟩, len, cap, elems, rest, n, _, rfl, rfl, _, hl, hm, hlen, hall, _, _⟩
 ·exact ⟨none, 0, [], rfl, Nat.le_refl _, .inl rfl, .inl ⟨rfl, rfl⟩⟩
 ·rw [hs] at hall
  have hone : ∀ i, i < len → ∃ y : α, ∃ ys d, R y ys d ∧ ys.length = s ∧ (elems.map (·.1))[i]? = some d ∧ ∀ j, j < s → w.cell? (((⟨b, off, spot⟩ : Addr).add (i * s)).add j) = ys[j]? := by
   intro i hi
   have h1 := hall i hi
   obtain ⟨z, hz⟩ : ∃ z, elems[i]? = some z := ⟨_, List.getElem?_eq_getElem (by omega)⟩
   rw [hz, Option.bind_eq_some_iff] at h1
   obtain ⟨ys, hys, ht⟩ := h1
   obtain ⟨y, hy⟩ := hel _ _ _ ht
   obtain ⟨k1, k2, k3⟩ := World.cells?_some hys
   exact ⟨y, ys, z.1, hy, k2, by simp [hz], k3⟩
  obtain ⟨L, hL, hR⟩ := list_of hone
  refine ⟨some ⟨b, off, spot⟩, cap, L, by rw [hL], by omega, ?_, .inr ⟨_, _, rfl, by simp [hlen, hL], fun i y hy => ?_⟩⟩
  ·by_cases h0 : len = 0
   ·exact .inl (List.eq_nil_of_length_eq_zero (by omega))
   ·obtain ⟨y, ys, d, _, k1, _, k2⟩ := hone 0 (by omega)
    have hc := k2 0 hs0
    obtain ⟨u, hu0⟩ : ∃ u, ys[0]? = some u := ⟨_, List.getElem?_eq_getElem (by omega)⟩
    rw [hu0] at hc
    have hspot : spot = none := by simpa [Addr.add] using World.cell?_spot hc
    subst hspot
    refine .inr ⟨b, off, rfl, fun i y hy => ?_⟩
    obtain ⟨ys, d, r1, r2, _, r3⟩ := hR i y hy
    refine ⟨ys, d, r1, r2, fun j u hj => ?_⟩
    have hj2 : j < s := by have := (List.getElem?_eq_some_iff.1 hj).1; omega
    have := r3 j hj2
    rw [add_plus, hj] at this
    exact this
  ·obtain ⟨ys, d, r1, _, r2, _⟩ := hR i y hy
   exact ⟨ys, d, r1, r2⟩
end Go.Proofs.YtklenppldblbdaaGreat
namespace Go.Proofs.YtklenppldblbdaaGreat
open Go.RowKit
def fixB (n : Int) : Bool := decide (-2147483647 ≤ n ∧ n ≤ 2147483647)
def fixAll : List Int → Bool
 | [] => true
 | n :: r => fixB n && fixAll r
theorem fixAll_snoc (l : List Int) (n : Int) : fixAll (l ++ [n]) = (fixAll l && fixB n) := by
 induction l with
 | nil => simp [fixAll]
 | cons a l ih => simp [fixAll, ih, Bool.and_assoc]
theorem fixAll_mid (l : List Int) (n : Int) (r : List Int) (h : fixAll (l ++ n :: r) = true) : fixB n = true := by
 induction l with
 | nil => simp [fixAll] at h; exact h.1
 | cons a l ih => simp [fixAll] at h; exact ih h.2
theorem fixAll_no {zs : List Int} {n : Int} (h : fixAll zs = true → fixB n = true) (hn : fixB n = false) : fixAll zs = false := by
 cases e : fixAll zs
 ·rfl
 ·rw [h e] at hn; cases hn
end Go.Proofs.YtklenppldblbdaaGreat
namespace Go.Proofs.YtklenppldblbdaaGreat
open Go.RowKit Go.Lib
theorem ret_int {k : IntKind} {a b : Int} (h : a = b) : Ending.returned (.int k a) = .returned (.int k b) := by rw [h]
theorem u64_of_neg (n : Int) (h0 : -9223372036854775808 ≤ n) (h : n < 0) : IntKind.u64.wrap (-IntKind.u64.wrap n) = (n.natAbs : Int) := by
 rw [IntKind.wrap_u64, IntKind.wrap_u64]; omega
theorem u64_of_pos (n : Int) (h : ¬ n < 0) (h1 : n ≤ 9223372036854775807) : IntKind.u64.wrap n = (n.natAbs : Int) := by
 rw [IntKind.wrap_u64]; omega
set_option maxHeartbeats 400000 in
theorem magnitude_any (n : Int) (w : World) (h0 : -9223372036854775808 ≤ n) (h1 : n ≤ 9223372036854775807) :
 Calls Tryz.prog 110 #[.int .i64 n] w fun e w' => e = .returned (.int .u64 (n.natAbs : Int)) ∧ w = w' := by
 by_cases h : n < 0
 ·have H0 := Lib.hid h0
  have H1 := Lib.hid h1
  clear h0 h1
  go_enter Tryz.func110, Tryz.ntmps110
  go_wp2
  go_ret
  refine ⟨ret_int ?_, rfl⟩
  exact u64_of_neg n H0.out h
 ·have H0 := Lib.hid h0
  have H1 := Lib.hid h1
  clear h0 h1
  go_enter Tryz.func110, Tryz.ntmps110
  go_wp2
  go_ret
  refine ⟨ret_int ?_, rfl⟩
  exact u64_of_pos n (by omega) H1.out
theorem u64_small {a : Nat} (ha : a < 18446744073709551616) : IntKind.u64.wrap (a : Int) = (a : Int) := by rw [IntKind.wrap_u64]; omega
theorem u64_mod (a : Nat) : IntKind.u64.wrap (a : Int) = ((a % 18446744073709551616 : Nat) : Int) := by rw [IntKind.wrap_u64]; omega
theorem and_low {a : Nat} (ha : a < 18446744073709551616) : bits .and .u64 (a : Int) 4294967295 = ((a % 4294967296 : Nat) : Int) := by
 rw [show (4294967295 : Int) = ((4294967295 : Nat) : Int) from rfl, bits_and_u64_nat a 4294967295 ha (by omega), Nat.and_two_pow_sub_one_eq_mod a 32]
theorem shr_high (a : Nat) : (a : Int) / 4294967296 = ((a / 4294967296 : Nat) : Int) := by omega
set_option maxHeartbeats 1000000 in
theorem mul64_any (x y : Nat) (hx : x < 18446744073709551616) (hy : y < 18446744073709551616) (w : World) :
 Calls Tryz.prog 113 #[.int .u64 x, .int .u64 y] w fun e w' => e = .returned (.tuple #[.int .u64 ((x * y / 18446744073709551616 : Nat) : Int), .int .u64 ((x * y % 18446744073709551616 : Nat) : Int)]) ∧ w = w' := by
 obtain ⟨low, mid, mid2, high⟩ := Lib.mul64_hi x y hx hy
 have f1 := Lib.half_mul_le (a := x / 4294967296) (b := y / 4294967296) (by omega) (by omega)
 have f2 := Lib.half_mul_le (a := x / 4294967296) (b := y % 4294967296) (by omega) (by omega)
 have f3 := Lib.half_mul_le (a := x % 4294967296) (b := y / 4294967296) (by omega) (by omega)
 have HH := Lib.hid high
 clear high
 go_enter Tryz.func113, Tryz.ntmps113
 go_wp2
 simp only [and_low hx, and_low hy, shr_high, ← Int.natCast_mul, ← Int.natCast_add]
 rw [u64_small low, shr_high, u64_small (a := x / 4294967296 * (y % 4294967296)) (by omega)]
 simp only [shr_high, ← Int.natCast_mul, ← Int.natCast_add]
 rw [u64_small mid, and_low mid, u64_small (a := x % 4294967296 * (y / 4294967296)) (by omega), u64_small (a := x / 4294967296 * (y / 4294967296)) (by omega)]
 simp only [shr_high, ← Int.natCast_mul, ← Int.natCast_add]
 rw [u64_small mid2]
 simp only [shr_high, ← Int.natCast_mul, ← Int.natCast_add]
 rw [u64_small (a := x / 4294967296 * (y / 4294967296) + (x / 4294967296 * (y % 4294967296) + x % 4294967296 * (y % 4294967296) / 4294967296) / 4294967296) (by omega)]
 simp only [shr_high, ← Int.natCast_mul, ← Int.natCast_add]
 rw [HH.out, u64_mod, u64_mod]
 rw [Nat.mod_eq_of_lt (a := x * y / 18446744073709551616) (by have := HH.out; omega)]
 go_ret2
 exact ⟨rfl, rfl⟩
end Go.Proofs.YtklenppldblbdaaGreat
namespace Go.Proofs.YtklenppldblbdaaGreat
open Go.RowKit Go.Lib
def prodNeg (a b : Int) : Bool := (decide (a < 0) != decide (b < 0)) && decide (a * b ≠ 0)
theorem neg_eq (a b : Int) (ha0 : -9223372036854775808 ≤ a) (ha1 : a ≤ 9223372036854775807) (hb0 : -9223372036854775808 ≤ b) (hb1 : b ≤ 9223372036854775807) :
 ((!decide (a < 0) == decide (b < 0)) && bits .or .u64 ((a.natAbs * b.natAbs / 18446744073709551616 : Nat) : Int) ((a.natAbs * b.natAbs % 18446744073709551616 : Nat) : Int) != 0) = prodNeg a b := by
 have hm : a.natAbs * b.natAbs ≤ 9223372036854775808 * 9223372036854775808 := Nat.mul_le_mul (by omega) (by omega)
 rw [bits_or_u64_nat _ _ (by omega) (by omega)]
 unfold prodNeg
 have e : (a * b).natAbs = a.natAbs * b.natAbs := Int.natAbs_mul a b
 have h0 : (a * b ≠ 0) ↔ a.natAbs * b.natAbs ≠ 0 := by omega
 have h1 : (((a.natAbs * b.natAbs / 18446744073709551616 ||| a.natAbs * b.natAbs % 18446744073709551616 : Nat) : Int) != 0) = decide (a * b ≠ 0) := by
  rw [Bool.eq_iff_iff]
  simp only [bne_iff_ne, decide_eq_true_eq, h0]
  generalize a.natAbs * b.natAbs = m
  have hor : (m / 18446744073709551616 ||| m % 18446744073709551616) = 0 ↔ m / 18446744073709551616 = 0 ∧ m % 18446744073709551616 = 0 := Nat.or_eq_zero_iff
  omega
 rw [h1]
 by_cases ha : a < 0 <;> by_cases hb : b < 0 <;> simp [ha, hb]
theorem ret_ints {k k2 : IntKind} {a b c d : Int} (h : a = b) (h2 : c = d) : Ending.returned (.tuple #[.int k a, .int k2 c]) = .returned (.tuple #[.int k b, .int k2 d]) := by rw [h, h2]
set_option maxHeartbeats 400000 in
theorem product_core (a b : Int) (hi lo : Nat) (w : World) (H1 : Hid (-9223372036854775808 ≤ a)) (H2 : Hid (a ≤ 9223372036854775807)) (H3 : Hid (-9223372036854775808 ≤ b)) (H4 : Hid (b ≤ 9223372036854775807))
 (HH : Hid (a.natAbs * b.natAbs / 18446744073709551616 = hi)) (HL : Hid (a.natAbs * b.natAbs % 18446744073709551616 = lo)) :
 Calls Tryz.prog 109 #[.int .i64 a, .int .i64 b] w fun e w' =>
  e = .returned (.agg #[.bool (prodNeg a b), .int .u64 (hi : Int), .int .u64 (lo : Int)]) ∧ Below w.heap.size w w' := by
 have HP : Hid (((!decide (a < 0) == decide (b < 0)) && bits .or .u64 (hi : Int) (lo : Int) != 0) = prodNeg a b) := by
  have := neg_eq a b H1.out H2.out H3.out H4.out
  rw [HH.out, HL.out] at this
  exact this
 go_enter Tryz.func109, Tryz.ntmps109
 go_wp2_with fail
 refine (magnitude_any a _ H1.out H2.out).mono ?_
 rintro e w' ⟨rfl, rfl⟩
 go_wp2_with fail
 refine (magnitude_any b _ H3.out H4.out).mono ?_
 rintro e w' ⟨rfl, rfl⟩
 go_wp2_with fail
 refine (mul64_any a.natAbs b.natAbs (by have := H1.out; have := H2.out; omega) (by have := H3.out; have := H4.out; omega) _).mono ?_
 rintro e w' ⟨rfl, rfl⟩
 rw [HH.out, HL.out]
 go_wp2_with fail
 all_goals
  refine bodyPost_ret (v := .agg #[.bool (prodNeg a b), .int .u64 (hi : Int), .int .u64 (lo : Int)]) ?_ rfl ⟨rfl, (Below.refl _ _).alloc (Nat.le_refl _) _⟩
  rw [← HP.out]
  simp [results, Tryz.results109, go_sem]
  try (intro hn; exact absurd ‹a < 0 ↔ b < 0› hn)
set_option maxHeartbeats 400000 in
theorem div64_low (lo y : Nat) (w : World) (hy : 0 < y) (hy1 : y < 18446744073709551616) (hl : lo < 18446744073709551616) :
 Calls Tryz.prog 111 #[.int .u64 0, .int .u64 lo, .int .u64 y] w fun e w' => e = .returned (.tuple #[.int .u64 ((lo / y : Nat) : Int), .int .u64 ((lo % y : Nat) : Int)]) ∧ ∃ n, w' = w.drewN n := by
 have h1 : ((y : Int) == 0) = false := by simp; omega
 have h2 : decide ((y : Int) ≤ 0) = false := by simp; omega
 go_enter Tryz.func111, Tryz.ntmps111
 go_wp2_with fail
 go_region
 all_goals
  go_wp2
  go_ret2
  exact ⟨ret_ints (by rw [← Int.natCast_ediv, u64_small (Nat.lt_of_le_of_lt (Nat.div_le_self _ _) hl)]) rfl, 1, rfl⟩
end Go.Proofs.YtklenppldblbdaaGreat
