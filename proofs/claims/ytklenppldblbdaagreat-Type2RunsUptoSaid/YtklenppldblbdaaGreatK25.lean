import Derived.Test.YtklenppldblbdaaGreatK02
import Derived.Test.YtklenppldblbdaaGreatK03
import Derived.Test.YtklenppldblbdaaGreatK05
import Derived.Test.YtklenppldblbdaaGreatK23
set_option linter.unusedSimpArgs false
set_option linter.unusedVariables false
namespace Go.Proofs.YtklenppldblbdaaGreat
open Go.RowKit Go.PlainAid
set_option maxHeartbeats 400000 in
theorem refhas_c (a : Option Addr) (len cap : Nat) (s : ByteArray) (at' n : Int) (w : World) (hl : s.size = len) (hs : (len : Int) ≤ 140737488355328) :
 Calls Tryz.prog 76 #[.slice a len cap, .int .i64 at', .int .i64 n] w fun e w' => e = .returned (.bool (hasB s at' n)) ∧ w = w' := by
 subst hl
 by_cases h1 : 0 ≤ at'
 ·by_cases h2 : 0 ≤ n
  ·by_cases h3 : at' ≤ (s.size : Int)
   ·have HW : wrap64 ((s.size : Int) - at') = (s.size : Int) - at' := by unfold wrap64; omega
    have HE := Lib.hid (hasB_sub (s := s) h1 h2)
    clear hs
    go_enter Tryz.func76, Tryz.ntmps76
    go_wp2
    go_ret
    rw [HE.out, HW]
    exact ⟨rfl, rfl⟩
   ·have HE : Hid (hasB s at' n = false) := by unfold Hid; rw [hasB_sub h1 h2]; simp; omega
    clear hs
    go_enter Tryz.func76, Tryz.ntmps76
    go_wp2
    go_ret
    rw [HE.out]
    exact ⟨rfl, rfl⟩
  ·have HE := Lib.hid (hasB_no2 (s := s) (a := at') h2)
   clear hs
   go_enter Tryz.func76, Tryz.ntmps76
   go_wp2
   go_ret
   rw [HE.out]
   exact ⟨rfl, rfl⟩
 ·have HE := Lib.hid (hasB_no1 (s := s) (n := n) h1)
  clear hs
  go_enter Tryz.func76, Tryz.ntmps76
  go_wp2
  go_ret
  rw [HE.out]
  exact ⟨rfl, rfl⟩
set_option maxHeartbeats 400000 in
theorem refnum_c (a : Option Addr) (len cap : Nat) (s : ByteArray) (at' n x f : Int) (w : World) (hB : IsB w a len cap s) (hs : (len : Int) ≤ 140737488355328) (hn1 : 1 ≤ n) (hn4 : n ≤ 4) (HX : Hid (numOr s at' n = (x, f))) :
 Calls Tryz.prog 58 #[.slice a len cap, .int .i64 at', .int .i64 n] w fun e w' => e = .returned (.tuple #[.int .i64 x, .int .i64 f]) ∧ w = w' := by
 have HH := Lib.hid (refhas_c a len cap s at' n w hB.1 hs)
 cases h : hasB s at' n
 ·have HE := Lib.hid h
  have HY : Hid ((0 : Int) = x ∧ (21 : Int) = f) := by have := HX.out; rw [numOr, h] at this; unfold Hid; simpa using this
  clear h hs hn1 hn4 hB
  go_enter Tryz.func58, Tryz.ntmps58
  go_wp2_with fail
  refine HH.out.mono ?_
  rintro e w1 ⟨rfl, rfl⟩
  rw [HE.out]
  go_wp2_with fail
  go_ret2
  rw [HY.out.1, HY.out.2]
  exact ⟨rfl, rfl⟩
 ·have HE := Lib.hid h
  have HY : Hid (numN s at'.toNat n.toNat = x ∧ (0 : Int) = f) := by have := HX.out; rw [numOr, h] at this; unfold Hid; simpa using this
  simp [hasB] at h
  obtain ⟨hl, _, rfl | ⟨b, off, rfl, hc⟩⟩ := hB
  ·exfalso; omega
  obtain ⟨p, rfl⟩ := Int.eq_ofNat_of_zero_le h.1.1
  obtain ⟨k, rfl⟩ := Int.eq_ofNat_of_zero_le h.1.2
  have HP : Hid (p + k ≤ len) := by unfold Hid; omega
  have HS := Lib.hid hs
  have HK : Hid (k ≤ 4) := by unfold Hid; omega
  have HC := Lib.hid hc
  clear h hs hn1 hn4 hc
  go_enter Tryz.func58, Tryz.ntmps58
  go_wp2_with fail
  refine HH.out.mono ?_
  rintro e w1 ⟨rfl, rfl⟩
  rw [HE.out]
  go_wp2_with fail
  go_loop [8, 9] (fun x i => ∃ j : Nat, ∃ m : Int, j ≤ k ∧ x = .int .i64 m ∧ i = .int .i64 (j : Int) ∧ Hid (m = numN s p j)) (fun x i => k - (intOf i).toNat)
  case atStart => exact ⟨0, 0, Nat.zero_le _, rfl, rfl, rfl⟩
  case round =>
   obtain ⟨j, m, hj, rfl, rfl, HM⟩ := hrel
   by_cases hlt : j < k
   ·have hcell := HC.out (p + j) (by have := HP.out; omega)
    have h0 := bt_nonneg s (p + j)
    have h1 := bt_le s (p + j)
    have HN : Hid (m * 256 + bt s (p + j) = numN s p (j + 1)) := by unfold Hid; rw [HM.out]; rfl
    have HB2 : Hid (0 ≤ m ∧ m < 4294967296) := by
     have hk := HK.out
     have hn := numN_bound s p j
     have : (256 : Int) ^ j ≤ 4294967296 := by
      have h4 : j = 0 ∨ j = 1 ∨ j = 2 ∨ j = 3 := by omega
      rcases h4 with rfl | rfl | rfl | rfl <;> decide
     unfold Hid
     rw [HM.out]
     omega
    have hw1 : wrap64 ((p : Int) + (j : Int)) = ((p + j : Nat) : Int) := by have := HP.out; have := HS.out; unfold wrap64; omega
    have hi1 : (0 : Int) ≤ ((p + j : Nat) : Int) := by omega
    have hi2 : ((p + j : Nat) : Int) < (len : Int) := by have := HP.out; omega
    generalize bt s (p + j) = c at *
    have hw2 : wrap64 (m * 256) = m * 256 := by have := HB2.out; unfold wrap64; omega
    have hw3 : wrap64 c = c := by unfold wrap64; omega
    have hw4 : wrap64 (m * 256 + c) = m * 256 + c := by have := HB2.out; unfold wrap64; omega
    have HJ : Hid (wrap64 ((j : Int) + 1) = ((j + 1 : Nat) : Int)) := by have := HK.out; unfold Hid wrap64; omega
    go_wp2_with fail
    go_round
    case rel => exact ⟨j + 1, m * 256 + c, by omega, by rw [hw4], by rw [HJ.out], HN⟩
    case measure => rw [HJ.out]; simp only [intOf]; omega
   ·go_wp2_with fail
    go_ret2
    have e : j = k := by omega
    subst e
    have := HY.out.1
    simp only [Int.toNat_natCast] at this
    rw [HM.out, this, HY.out.2]
    exact ⟨rfl, rfl⟩
set_option maxHeartbeats 400000 in
set_option maxRecDepth 20000 in
set_option maxHeartbeats 1000000 in
theorem signed2_c (a : Option Addr) (len cap : Nat) (s : ByteArray) (p : Nat) (x f : Int) (w : World) (hB : IsB w a len cap s) (hs : (len : Int) ≤ 140737488355328) (hp : p ≤ 1000000) (HX : Hid (numOr s (p : Int) 2 = (x, f))) :
 Calls Tryz.prog 39 #[.slice a len cap, .int .i64 (p : Int), .int .i64 2] w fun e w' => e = .returned (.tuple #[.int .i64 (sign16 x), .bool (f == 0)]) ∧ Below w.heap.size w w' := by
 have HN := Lib.hid (refnum_c a len cap s (p : Int) 2 x f w hB hs (by decide) (by decide) HX)
 have HXB := Lib.hid (num16_bound HX.out)
 clear hB hs hp HX
 by_cases h : 32768 ≤ x
 ·have HE : Hid (sign16 x = x - 65536) := by unfold Hid sign16; rw [if_pos h]
  rw [HE.out]
  go_enter Tryz.func39, Tryz.ntmps39
  go_wp2_with fail
  refine HN.out.mono ?_
  rintro e w1 ⟨rfl, rfl⟩
  go_wp2_with fail
  go_loopw [10, 11] (fun tv iv wr => (tv = .int .i64 128 ∧ iv = .int .i64 1 ∨ tv = .int .i64 32768 ∧ iv = .int .i64 2) ∧ Hid (Below w.heap.size w wr)) (fun _ iv _ => 2 - (intOf iv).toNat)
  case atStart => exact ⟨.inl ⟨rfl, rfl⟩, Below.refl _ _⟩
  case round =>
   obtain ⟨⟨rfl, rfl⟩ | ⟨rfl, rfl⟩, HB⟩ := hrel
   ·go_wp2_with fail
    exact ⟨⟨.inr ⟨rfl, rfl⟩, HB⟩, by decide⟩
   ·have hw : wrap64 (x - 65536) = x - 65536 := by have := HXB.out; unfold wrap64; omega
    go_wp2_with fail
    go_ret2
    refine ⟨?_, HB.out⟩
    show Ending.returned (.tuple #[.int .i64 (wrap64 (x - 65536)), .bool (f == 0)]) = _
    rw [hw]
 ·have HE : Hid (sign16 x = x) := by unfold Hid sign16; rw [if_neg h]
  rw [HE.out]
  go_enter Tryz.func39, Tryz.ntmps39
  go_wp2_with fail
  refine HN.out.mono ?_
  rintro e w1 ⟨rfl, rfl⟩
  go_wp2_with fail
  go_loopw [10, 11] (fun tv iv wr => (tv = .int .i64 128 ∧ iv = .int .i64 1 ∨ tv = .int .i64 32768 ∧ iv = .int .i64 2) ∧ Hid (Below w.heap.size w wr)) (fun _ iv _ => 2 - (intOf iv).toNat)
  case atStart => exact ⟨.inl ⟨rfl, rfl⟩, Below.refl _ _⟩
  case round =>
   obtain ⟨⟨rfl, rfl⟩ | ⟨rfl, rfl⟩, HB⟩ := hrel
   ·go_wp2_with fail
    exact ⟨⟨.inr ⟨rfl, rfl⟩, HB⟩, by decide⟩
   ·go_wp2_with fail
    go_ret2
    exact ⟨rfl, HB.out⟩
set_option maxRecDepth 20000 in
set_option maxHeartbeats 1000000 in
theorem signed4_c (a : Option Addr) (len cap : Nat) (s : ByteArray) (p : Nat) (x f : Int) (w : World) (hB : IsB w a len cap s) (hs : (len : Int) ≤ 140737488355328) (hp : p ≤ 1000000) (HX : Hid (numOr s (p : Int) 4 = (x, f))) :
 Calls Tryz.prog 39 #[.slice a len cap, .int .i64 (p : Int), .int .i64 4] w fun e w' => e = .returned (.tuple #[.int .i64 (sign32 x), .bool (f == 0)]) ∧ Below w.heap.size w w' := by
 have HN := Lib.hid (refnum_c a len cap s (p : Int) 4 x f w hB hs (by decide) (by decide) HX)
 have HXB := Lib.hid (num32_bound HX.out)
 clear hB hs hp HX
 by_cases h : 2147483648 ≤ x
 ·have HE : Hid (sign32 x = x - 4294967296) := by unfold Hid sign32; rw [if_pos h]
  rw [HE.out]
  go_enter Tryz.func39, Tryz.ntmps39
  go_wp2_with fail
  refine HN.out.mono ?_
  rintro e w1 ⟨rfl, rfl⟩
  go_wp2_with fail
  go_loopw [10, 11] (fun tv iv wr => (tv = .int .i64 128 ∧ iv = .int .i64 1 ∨ tv = .int .i64 32768 ∧ iv = .int .i64 2 ∨ tv = .int .i64 8388608 ∧ iv = .int .i64 3 ∨ tv = .int .i64 2147483648 ∧ iv = .int .i64 4) ∧ Hid (Below w.heap.size w wr)) (fun _ iv _ => 4 - (intOf iv).toNat)
  case atStart => exact ⟨.inl ⟨rfl, rfl⟩, Below.refl _ _⟩
  case round =>
   obtain ⟨⟨rfl, rfl⟩ | ⟨rfl, rfl⟩ | ⟨rfl, rfl⟩ | ⟨rfl, rfl⟩, HB⟩ := hrel
   ·go_wp2_with fail
    exact ⟨⟨.inr (.inl ⟨rfl, rfl⟩), HB⟩, by decide⟩
   ·go_wp2_with fail
    exact ⟨⟨.inr (.inr (.inl ⟨rfl, rfl⟩)), HB⟩, by decide⟩
   ·go_wp2_with fail
    exact ⟨⟨.inr (.inr (.inr ⟨rfl, rfl⟩)), HB⟩, by decide⟩
   ·have hw : wrap64 (x - 4294967296) = x - 4294967296 := by have := HXB.out; unfold wrap64; omega
    go_wp2_with fail
    go_ret2
    refine ⟨?_, HB.out⟩
    show Ending.returned (.tuple #[.int .i64 (wrap64 (x - 4294967296)), .bool (f == 0)]) = _
    rw [hw]
 ·have HE : Hid (sign32 x = x) := by unfold Hid sign32; rw [if_neg h]
  rw [HE.out]
  go_enter Tryz.func39, Tryz.ntmps39
  go_wp2_with fail
  refine HN.out.mono ?_
  rintro e w1 ⟨rfl, rfl⟩
  go_wp2_with fail
  go_loopw [10, 11] (fun tv iv wr => (tv = .int .i64 128 ∧ iv = .int .i64 1 ∨ tv = .int .i64 32768 ∧ iv = .int .i64 2 ∨ tv = .int .i64 8388608 ∧ iv = .int .i64 3 ∨ tv = .int .i64 2147483648 ∧ iv = .int .i64 4) ∧ Hid (Below w.heap.size w wr)) (fun _ iv _ => 4 - (intOf iv).toNat)
  case atStart => exact ⟨.inl ⟨rfl, rfl⟩, Below.refl _ _⟩
  case round =>
   obtain ⟨⟨rfl, rfl⟩ | ⟨rfl, rfl⟩ | ⟨rfl, rfl⟩ | ⟨rfl, rfl⟩, HB⟩ := hrel
   ·go_wp2_with fail
    exact ⟨⟨.inr (.inl ⟨rfl, rfl⟩), HB⟩, by decide⟩
   ·go_wp2_with fail
    exact ⟨⟨.inr (.inr (.inl ⟨rfl, rfl⟩)), HB⟩, by decide⟩
   ·go_wp2_with fail
    exact ⟨⟨.inr (.inr (.inr ⟨rfl, rfl⟩)), HB⟩, by decide⟩
   ·go_wp2_with fail
    go_ret2
    exact ⟨rfl, HB.out⟩
def operD (s : ByteArray) (p : Nat) : Int × Int × Bool :=
 if bt s p ≤ 246 then (bt s p - 139, ((p + 1 : Nat) : Int), true)
 else if s.size ≤ p + 1 then (0, 0, false)
 else if bt s p ≤ 250 then ((bt s p - 247) * 256 + bt s (p + 1) + 108, ((p + 2 : Nat) : Int), true)
 else (-(bt s p - 251) * 256 - bt s (p + 1) - 108, ((p + 2 : Nat) : Int), true)
set_option maxRecDepth 20000 in
set_option maxHeartbeats 1000000 in
theorem operand_d (a : Option Addr) (len cap : Nat) (s : ByteArray) (p : Nat) (w : World) (hB : IsB w a len cap s) (hs : s.size ≤ 1000000) (hp : p < s.size) (h32 : 32 ≤ bt s p) :
 Calls Tryz.prog 40 #[.slice a len cap, .int .i64 (p : Int)] w fun e w' => e = .returned (.tuple #[.int .i64 (operD s p).1, .int .i64 (operD s p).2.1, .bool (operD s p).2.2]) ∧ Below w.heap.size w w' := by
 obtain ⟨hl, hlc, h0 | ⟨bb, off, rfl, hc⟩⟩ := hB
 ·omega
 have c0 := hc p (by omega)
 have p0 : (0 : Int) ≤ (p : Int) := by omega
 have p1 : (p : Int) < (len : Int) := by omega
 have hb1 := bt_le s p
 have hw1 : wrap64 ((p : Int) + 1) = ((p + 1 : Nat) : Int) := by unfold wrap64; omega
 have hw2 : wrap64 ((p : Int) + 2) = ((p + 2 : Nat) : Int) := by unfold wrap64; omega
 by_cases h1 : bt s p ≤ 246
 ·have HE : Hid (operD s p = (bt s p - 139, ((p + 1 : Nat) : Int), true)) := by unfold Hid operD; rw [if_pos h1]
  rw [HE.out]
  have hv : wrap64 (bt s p - 139) = bt s p - 139 := by unfold wrap64; omega
  generalize bt s p = b at *
  clear HE hc
  go_enter Tryz.func40, Tryz.ntmps40
  go_wp2_with fail
  go_ret3
  refine ⟨?_, Below.refl _ _⟩
  simp [hv, hw1]
 ·by_cases h2 : s.size ≤ p + 1
  ·have HE : Hid (operD s p = (0, 0, false)) := by unfold Hid operD; rw [if_neg h1, if_pos h2]
   rw [HE.out]
   have g1 : (len : Int) ≤ (p : Int) + 1 := by omega
   generalize bt s p = b at *
   clear HE hc
   go_enter Tryz.func40, Tryz.ntmps40
   go_wp2_with fail
   go_ret3
   exact ⟨rfl, Below.refl _ _⟩
  ·have g1 : ¬ (len : Int) ≤ (p : Int) + 1 := by omega
   have g2 : (p : Int) + 1 < (len : Int) := by omega
   have g3 : (0 : Int) ≤ (p : Int) + 1 := by omega
   have c1 := hc (p + 1) (by omega)
   have hb2 := bt_le s (p + 1)
   have hb3 := bt_nonneg s (p + 1)
   by_cases h3 : bt s p ≤ 250
   ·have HE : Hid (operD s p = ((bt s p - 247) * 256 + bt s (p + 1) + 108, ((p + 2 : Nat) : Int), true)) := by unfold Hid operD; rw [if_neg h1, if_neg h2, if_pos h3]
    rw [HE.out]
    generalize bt s (p + 1) = b2 at *
    generalize bt s p = b at *
    clear HE hc
    go_enter Tryz.func40, Tryz.ntmps40
    go_wp2_with fail
    go_ret3
    refine ⟨?_, Below.refl _ _⟩
    first
     | rfl
     | (simp [hw2]; done)
     | trace_state
   ·have HE : Hid (operD s p = (-(bt s p - 251) * 256 - bt s (p + 1) - 108, ((p + 2 : Nat) : Int), true)) := by unfold Hid operD; rw [if_neg h1, if_neg h2, if_neg h3]
    rw [HE.out]
    generalize bt s (p + 1) = b2 at *
    generalize bt s p = b at *
    clear HE hc
    go_enter Tryz.func40, Tryz.ntmps40
    go_wp2_with fail
    go_ret3
    refine ⟨?_, Below.refl _ _⟩
    first
     | rfl
     | (simp [hw2]; done)
     | trace_state
theorem oper_bound (s : ByteArray) (p : Nat) (h : 32 ≤ bt s p) : -32768 ≤ (operD s p).1 ∧ (operD s p).1 ≤ 32767 := by
 have h1 := bt_le s p
 have h2 := bt_le s (p + 1)
 have h3 := bt_nonneg s (p + 1)
 unfold operD
 split
 ·exact ⟨by show _ ≤ bt s p - 139; omega, by show bt s p - 139 ≤ _; omega⟩
 split
 ·exact ⟨by decide, by decide⟩
 split
 ·exact ⟨by show _ ≤ (bt s p - 247) * 256 + bt s (p + 1) + 108; omega, by show (bt s p - 247) * 256 + bt s (p + 1) + 108 ≤ _; omega⟩
 ·exact ⟨by show _ ≤ -(bt s p - 251) * 256 - bt s (p + 1) - 108; omega, by show -(bt s p - 251) * 256 - bt s (p + 1) - 108 ≤ _; omega⟩
def numD (s : ByteArray) (p : Nat) : Int × Int :=
 if bt s p = 28 then (if (numOr s ((p + 1 : Nat) : Int) 2).2 = 0 then (sign16 (numOr s ((p + 1 : Nat) : Int) 2).1 * 65536, ((p + 3 : Nat) : Int)) else (0, -2))
 else if bt s p = 255 then (if (numOr s ((p + 1 : Nat) : Int) 4).2 = 0 then (sign32 (numOr s ((p + 1 : Nat) : Int) 4).1, ((p + 5 : Nat) : Int)) else (0, -2))
 else if 32 ≤ bt s p then (if (operD s p).2.2 = true then ((operD s p).1 * 65536, (operD s p).2.1) else (0, -2))
 else (0, -1)
set_option maxRecDepth 20000 in
set_option maxHeartbeats 2000000 in
theorem number_d (a : Option Addr) (len cap : Nat) (s : ByteArray) (p : Nat) (w : World) (hB : IsB w a len cap s) (hs : s.size ≤ 1000000) (hp : p < s.size) :
 Calls Tryz.prog 25 #[.slice a len cap, .int .i64 (p : Int)] w fun e w' => e = .returned (.tuple #[.int .i64 (numD s p).1, .int .i64 (numD s p).2]) ∧ Below w.heap.size w w' := by
 have HBB := Lib.hid hB
 obtain ⟨hl, hlc, h0 | ⟨bb, off, rfl, hc⟩⟩ := hB
 ·omega
 have c0 := hc p (by omega)
 have p0 : (0 : Int) ≤ (p : Int) := by omega
 have p1 : (p : Int) < (len : Int) := by omega
 have hb1 := bt_le s p
 have hb0 := bt_nonneg s p
 have HP : Hid (p < s.size ∧ s.size ≤ 1000000 ∧ s.size = len) := ⟨hp, hs, hl⟩
 have hw1 : wrap64 ((p : Int) + 1) = ((p + 1 : Nat) : Int) := by unfold wrap64; omega
 by_cases h28 : bt s p = 28
 ·obtain ⟨x, f, HX⟩ := numOr_ex s ((p + 1 : Nat) : Int) 2
  have HE : Hid (numD s p = if f = 0 then (sign16 x * 65536, ((p + 3 : Nat) : Int)) else (0, -2)) := by unfold Hid numD; rw [if_pos h28, HX.out]
  have HSB : Hid (-32768 ≤ sign16 x ∧ sign16 x ≤ 32767) := sign16_bound (num16_bound HX.out).1 (num16_bound HX.out).2
  have HS := Lib.hid (signed2_c (some ⟨bb, off, none⟩) len cap s (p + 1) x f w HBB.out (by omega) (by omega) HX)
  rw [h28] at c0
  clear hb1 hb0 h28 hs hp hl hlc hc
  by_cases hf : f = 0
  ·rw [HE.out, if_pos hf]
   subst hf
   have hv : wrap64 (sign16 x * 65536) = sign16 x * 65536 := by have := HSB.out; unfold wrap64; omega
   have hw3 : wrap64 ((p : Int) + 3) = ((p + 3 : Nat) : Int) := by have := HP.out; unfold wrap64; omega
   clear HE
   generalize sign16 x = sx at *
   go_enter Tryz.func25, Tryz.ntmps25
   go_wp2_with fail
   refine HS.out.mono ?_
   rintro e w1 ⟨rfl, hb⟩
   have HB1 := Lib.hid hb
   clear hb
   go_wp2_with fail
   go_ret2
   refine ⟨?_, HB1.out⟩
   first
    | rfl
    | (simp [hv, hw3]; done)
    | trace_state
  ·rw [HE.out, if_neg hf]
   have hf2 : (f == 0) = false := by simpa using hf
   rw [hf2] at HS
   clear HE
   generalize sign16 x = sx at *
   go_enter Tryz.func25, Tryz.ntmps25
   go_wp2_with fail
   refine HS.out.mono ?_
   rintro e w1 ⟨rfl, hb⟩
   have HB1 := Lib.hid hb
   clear hb
   go_wp2_with fail
   go_ret2
   exact ⟨rfl, HB1.out⟩
 by_cases h255 : bt s p = 255
 ·obtain ⟨x, f, HX⟩ := numOr_ex s ((p + 1 : Nat) : Int) 4
  have HE : Hid (numD s p = if f = 0 then (sign32 x, ((p + 5 : Nat) : Int)) else (0, -2)) := by unfold Hid numD; rw [if_neg h28, if_pos h255, HX.out]
  have HS := Lib.hid (signed4_c (some ⟨bb, off, none⟩) len cap s (p + 1) x f w HBB.out (by omega) (by omega) HX)
  rw [h255] at c0
  clear hb1 hb0 h28 h255 hs hp hl hlc hc
  by_cases hf : f = 0
  ·rw [HE.out, if_pos hf]
   subst hf
   have hw3 : wrap64 ((p : Int) + 5) = ((p + 5 : Nat) : Int) := by have := HP.out; unfold wrap64; omega
   clear HE
   generalize sign32 x = sx at *
   go_enter Tryz.func25, Tryz.ntmps25
   go_wp2_with fail
   refine HS.out.mono ?_
   rintro e w1 ⟨rfl, hb⟩
   have HB1 := Lib.hid hb
   clear hb
   go_wp2_with fail
   go_ret2
   refine ⟨?_, HB1.out⟩
   first
    | rfl
    | (simp [hw3]; done)
    | trace_state
  ·rw [HE.out, if_neg hf]
   have hf2 : (f == 0) = false := by simpa using hf
   rw [hf2] at HS
   clear HE
   generalize sign32 x = sx at *
   go_enter Tryz.func25, Tryz.ntmps25
   go_wp2_with fail
   refine HS.out.mono ?_
   rintro e w1 ⟨rfl, hb⟩
   have HB1 := Lib.hid hb
   clear hb
   go_wp2_with fail
   go_ret2
   exact ⟨rfl, HB1.out⟩
 have n28 : (bt s p == 28) = false := by simpa using h28
 have n255 : (bt s p == 255) = false := by simpa using h255
 by_cases h32 : 32 ≤ bt s p
 ·have HS := Lib.hid (operand_d (some ⟨bb, off, none⟩) len cap s p w HBB.out hs hp h32)
  have HOB := Lib.hid (oper_bound s p h32)
  have HE : Hid (numD s p = if (operD s p).2.2 = true then ((operD s p).1 * 65536, (operD s p).2.1) else (0, -2)) := by unfold Hid numD; rw [if_neg h28, if_neg h255, if_pos h32]
  rw [HE.out]
  generalize bt s p = b at *
  clear HE hs hp hl hlc hc
  by_cases ho : (operD s p).2.2 = true
  ·rw [if_pos ho]
   rw [ho] at HS
   generalize (operD s p).1 = x at *
   generalize (operD s p).2.1 = q at *
   have hv : wrap64 (x * 65536) = x * 65536 := by have := HOB.out; unfold wrap64; omega
   clear ho
   go_enter Tryz.func25, Tryz.ntmps25
   go_wp2_with fail
   refine HS.out.mono ?_
   rintro e w1 ⟨rfl, hb⟩
   have HB1 := Lib.hid hb
   clear hb
   go_wp2_with fail
   go_ret2
   refine ⟨?_, HB1.out⟩
   first
    | rfl
    | (simp [hv]; done)
    | trace_state
  ·rw [if_neg ho]
   have ho2 : (operD s p).2.2 = false := by simpa using ho
   rw [ho2] at HS
   generalize (operD s p).1 = x at *
   generalize (operD s p).2.1 = q at *
   clear ho
   go_enter Tryz.func25, Tryz.ntmps25
   go_wp2_with fail
   refine HS.out.mono ?_
   rintro e w1 ⟨rfl, hb⟩
   have HB1 := Lib.hid hb
   clear hb
   go_wp2_with fail
   go_ret2
   exact ⟨rfl, HB1.out⟩
 ·have HE : Hid (numD s p = (0, -1)) := by unfold Hid numD; rw [if_neg h28, if_neg h255, if_neg h32]
  rw [HE.out]
  generalize bt s p = b at *
  clear HE hs hp hl hlc hc
  go_enter Tryz.func25, Tryz.ntmps25
  go_wp2_with fail
  go_ret2
  exact ⟨rfl, Below.refl _ _⟩
end Go.Proofs.YtklenppldblbdaaGreat
namespace Go.Proofs.YtklenppldblbdaaGreat
open Go.RowKit Go.PlainAid
theorem addStems_keeps (s : MS) (w1 : Int) (l : List Int) : (s.addStems w1 l).rows = s.rows ∧ (s.addStems w1 l).stems ≤ s.stems + l.length ∧ (s.addStems w1 l).out = s.out ∧ (s.addStems w1 l).knots = s.knots ∧ (s.addStems w1 l).stack = s.stack ∧ (s.addStems w1 l).fuel = s.fuel := by
 unfold MS.addStems
 have h1 := behind_stems s w1 l (decide (l.length % 2 = 1))
 have h2 := (behind_list s w1 l (decide (l.length % 2 = 1))).1
 generalize s.behind w1 l (decide (l.length % 2 = 1)) = q at *
 obtain ⟨a1, a2, a3, a4, a5, a6, a7, a8⟩ := h1
 simp only
 split
 ·have h3 := refuse_out q.2 81
  rw [h3.1, h3.2.1, h3.2.2.1, h3.2.2.2.1, h3.2.2.2.2.1, h3.2.2.2.2.2, a1, a2, a3, a4, a5, a6]
  exact ⟨rfl, by omega, rfl, rfl, rfl, rfl⟩
 ·split
  ·have h3 := refuse_out { q.2 with stems := q.2.stems + q.1.length / 2 } 83
   rw [h3.1, h3.2.1, h3.2.2.1, h3.2.2.2.1, h3.2.2.2.2.1, h3.2.2.2.2.2]
   simp only
   rw [a1, a2, a3, a4, a5, a6]
   exact ⟨rfl, by omega, rfl, rfl, rfl, rfl⟩
  ·simp only
   rw [a1, a2, a3, a4, a5, a6]
   exact ⟨rfl, by omega, rfl, rfl, rfl, rfl⟩
structure TakeOk (w : World) (B M F : Nat) (L : Lay) (s : MS) (l : List Int) (a : Option Addr) (c : Nat) (w1 : Int) : Prop where
 mach : Mach w B M F L s
 pen : PenFit s
 opds : OpdsOk w l a c
 font : FCell w F B w1
 rows : ∃ r rest, s.rows = r :: rest ∧ RwFit r
 few : s.rows.length ≤ 100
 stems : s.stems ≤ 400
 short : l.length ≤ 100
set_option maxHeartbeats 2000000 in
theorem take_stems1 (B M F : Nat) (L : Lay) (s : MS) (op : Int) (l : List Int) (a : Option Addr) (c : Nat) (w1 : Int) (w : World) (k : TakeOk w B M F L s l a c w1) (hop : op = 1) :
 Calls Tryz.prog 70 #[.pointer (some ⟨M, 0, none⟩), .int .i64 op, .slice a l.length c] w (PenPost B M F L (s.take w1 op l) (.tuple #[]) w) := by
 subst hop
 have HK := Lib.hid (addStems_c B M F L s l a c w1 w k.mach k.opds k.font (by have := k.stems; omega))
 have HE : Hid (s.take w1 1 l = s.addStems w1 l) := by unfold Hid MS.take; simp
 rw [HE.out]
 generalize s.addStems w1 l = s9 at *
 obtain ⟨n, HN⟩ : ∃ n, Hid (l.length = n) := ⟨_, rfl⟩
 rw [HN.out] at HK ⊢
 clear k HE
 go_enter Tryz.func70, Tryz.ntmps70
 go_wp2_with fail
 refine HK.out.mono ?_
 rintro e w1' ⟨rfl, hx⟩
 have HX := Lib.hid hx
 clear hx
 go_wp2_with fail
 go_end0
 exact ⟨rfl, ⟨_, _, _, HX.out.1⟩, HX.out.2⟩
set_option maxHeartbeats 2000000 in
theorem take_stems3 (B M F : Nat) (L : Lay) (s : MS) (op : Int) (l : List Int) (a : Option Addr) (c : Nat) (w1 : Int) (w : World) (k : TakeOk w B M F L s l a c w1) (hop : op = 3) :
 Calls Tryz.prog 70 #[.pointer (some ⟨M, 0, none⟩), .int .i64 op, .slice a l.length c] w (PenPost B M F L (s.take w1 op l) (.tuple #[]) w) := by
 subst hop
 have HK := Lib.hid (addStems_c B M F L s l a c w1 w k.mach k.opds k.font (by have := k.stems; omega))
 have HE : Hid (s.take w1 3 l = s.addStems w1 l) := by unfold Hid MS.take; simp
 rw [HE.out]
 generalize s.addStems w1 l = s9 at *
 obtain ⟨n, HN⟩ : ∃ n, Hid (l.length = n) := ⟨_, rfl⟩
 rw [HN.out] at HK ⊢
 clear k HE
 go_enter Tryz.func70, Tryz.ntmps70
 go_wp2_with fail
 refine HK.out.mono ?_
 rintro e w1' ⟨rfl, hx⟩
 have HX := Lib.hid hx
 clear hx
 go_wp2_with fail
 go_end0
 exact ⟨rfl, ⟨_, _, _, HX.out.1⟩, HX.out.2⟩
set_option maxHeartbeats 2000000 in
theorem take_stems18 (B M F : Nat) (L : Lay) (s : MS) (op : Int) (l : List Int) (a : Option Addr) (c : Nat) (w1 : Int) (w : World) (k : TakeOk w B M F L s l a c w1) (hop : op = 18) :
 Calls Tryz.prog 70 #[.pointer (some ⟨M, 0, none⟩), .int .i64 op, .slice a l.length c] w (PenPost B M F L (s.take w1 op l) (.tuple #[]) w) := by
 subst hop
 have HK := Lib.hid (addStems_c B M F L s l a c w1 w k.mach k.opds k.font (by have := k.stems; omega))
 have HE : Hid (s.take w1 18 l = s.addStems w1 l) := by unfold Hid MS.take; simp
 rw [HE.out]
 generalize s.addStems w1 l = s9 at *
 obtain ⟨n, HN⟩ : ∃ n, Hid (l.length = n) := ⟨_, rfl⟩
 rw [HN.out] at HK ⊢
 clear k HE
 go_enter Tryz.func70, Tryz.ntmps70
 go_wp2_with fail
 refine HK.out.mono ?_
 rintro e w1' ⟨rfl, hx⟩
 have HX := Lib.hid hx
 clear hx
 go_wp2_with fail
 go_end0
 exact ⟨rfl, ⟨_, _, _, HX.out.1⟩, HX.out.2⟩
set_option maxHeartbeats 2000000 in
theorem take_stems23 (B M F : Nat) (L : Lay) (s : MS) (op : Int) (l : List Int) (a : Option Addr) (c : Nat) (w1 : Int) (w : World) (k : TakeOk w B M F L s l a c w1) (hop : op = 23) :
 Calls Tryz.prog 70 #[.pointer (some ⟨M, 0, none⟩), .int .i64 op, .slice a l.length c] w (PenPost B M F L (s.take w1 op l) (.tuple #[]) w) := by
 subst hop
 have HK := Lib.hid (addStems_c B M F L s l a c w1 w k.mach k.opds k.font (by have := k.stems; omega))
 have HE : Hid (s.take w1 23 l = s.addStems w1 l) := by unfold Hid MS.take; simp
 rw [HE.out]
 generalize s.addStems w1 l = s9 at *
 obtain ⟨n, HN⟩ : ∃ n, Hid (l.length = n) := ⟨_, rfl⟩
 rw [HN.out] at HK ⊢
 clear k HE
 go_enter Tryz.func70, Tryz.ntmps70
 go_wp2_with fail
 refine HK.out.mono ?_
 rintro e w1' ⟨rfl, hx⟩
 have HX := Lib.hid hx
 clear hx
 go_wp2_with fail
 go_end0
 exact ⟨rfl, ⟨_, _, _, HX.out.1⟩, HX.out.2⟩
set_option maxHeartbeats 2000000 in
theorem take_mask19 (B M F : Nat) (L : Lay) (s : MS) (op : Int) (l : List Int) (a : Option Addr) (c : Nat) (w1 : Int) (w : World) (k : TakeOk w B M F L s l a c w1) (hop : op = 19) :
 Calls Tryz.prog 70 #[.pointer (some ⟨M, 0, none⟩), .int .i64 op, .slice a l.length c] w (PenPost B M F L (s.take w1 op l) (.tuple #[]) w) := by
 subst hop
 have HK := Lib.hid (addStems_c B M F L s l a c w1 w k.mach k.opds k.font (by have := k.stems; omega))
 have HE : Hid (s.take w1 19 l = (s.addStems w1 l).passMask) := by unfold Hid MS.take; simp
 rw [HE.out]
 have hk := addStems_keeps s w1 l
 obtain ⟨r, rest, hr, hf⟩ := k.rows
 have HR : Hid ((s.addStems w1 l).rows = r :: rest ∧ RwFit r ∧ (s.addStems w1 l).stems ≤ 1000 ∧ (s.addStems w1 l).rows.length ≤ 100) := ⟨by rw [hk.1]; exact hr, hf, by have h1 := k.stems; have h2 := k.short; have h3 := hk.2.1; omega, by rw [hk.1]; exact k.few⟩
 generalize s.addStems w1 l = s9 at *
 obtain ⟨n, HN⟩ : ∃ n, Hid (l.length = n) := ⟨_, rfl⟩
 rw [HN.out] at HK ⊢
 clear k HE hk hr hf
 go_enter Tryz.func70, Tryz.ntmps70
 go_wp2_with fail
 refine HK.out.mono ?_
 rintro e w2 ⟨rfl, h2, hb2, hk2⟩
 have H2 := Lib.hid h2
 have HB2 := Lib.hid hb2
 have HK2 := Lib.hid hk2
 clear h2 hb2 hk2
 go_wp2_with fail
 refine (passMask_c B M F L s9 r rest w2 H2.out HR.out.1 HR.out.2.1 HR.out.2.2.1 HR.out.2.2.2).mono ?_
 rintro e w3 ⟨rfl, h3, hb3, hk3⟩
 have H3 := Lib.hid h3
 have HB3 := Lib.hid (HB2.out.trans hb3)
 have HK3 := Lib.hid (HK2.out.trans hk3)
 clear h3 hb3 hk3
 go_wp2_with fail
 go_end0
 exact ⟨rfl, ⟨_, _, _, H3.out⟩, HB3.out, HK3.out⟩
set_option maxHeartbeats 2000000 in
theorem take_mask20 (B M F : Nat) (L : Lay) (s : MS) (op : Int) (l : List Int) (a : Option Addr) (c : Nat) (w1 : Int) (w : World) (k : TakeOk w B M F L s l a c w1) (hop : op = 20) :
 Calls Tryz.prog 70 #[.pointer (some ⟨M, 0, none⟩), .int .i64 op, .slice a l.length c] w (PenPost B M F L (s.take w1 op l) (.tuple #[]) w) := by
 subst hop
 have HK := Lib.hid (addStems_c B M F L s l a c w1 w k.mach k.opds k.font (by have := k.stems; omega))
 have HE : Hid (s.take w1 20 l = (s.addStems w1 l).passMask) := by unfold Hid MS.take; simp
 rw [HE.out]
 have hk := addStems_keeps s w1 l
 obtain ⟨r, rest, hr, hf⟩ := k.rows
 have HR : Hid ((s.addStems w1 l).rows = r :: rest ∧ RwFit r ∧ (s.addStems w1 l).stems ≤ 1000 ∧ (s.addStems w1 l).rows.length ≤ 100) := ⟨by rw [hk.1]; exact hr, hf, by have h1 := k.stems; have h2 := k.short; have h3 := hk.2.1; omega, by rw [hk.1]; exact k.few⟩
 generalize s.addStems w1 l = s9 at *
 obtain ⟨n, HN⟩ : ∃ n, Hid (l.length = n) := ⟨_, rfl⟩
 rw [HN.out] at HK ⊢
 clear k HE hk hr hf
 go_enter Tryz.func70, Tryz.ntmps70
 go_wp2_with fail
 refine HK.out.mono ?_
 rintro e w2 ⟨rfl, h2, hb2, hk2⟩
 have H2 := Lib.hid h2
 have HB2 := Lib.hid hb2
 have HK2 := Lib.hid hk2
 clear h2 hb2 hk2
 go_wp2_with fail
 refine (passMask_c B M F L s9 r rest w2 H2.out HR.out.1 HR.out.2.1 HR.out.2.2.1 HR.out.2.2.2).mono ?_
 rintro e w3 ⟨rfl, h3, hb3, hk3⟩
 have H3 := Lib.hid h3
 have HB3 := Lib.hid (HB2.out.trans hb3)
 have HK3 := Lib.hid (HK2.out.trans hk3)
 clear h3 hb3 hk3
 go_wp2_with fail
 go_end0
 exact ⟨rfl, ⟨_, _, _, H3.out⟩, HB3.out, HK3.out⟩
set_option maxHeartbeats 2000000 in
theorem take_begin21 (B M F : Nat) (L : Lay) (s : MS) (op : Int) (l : List Int) (a : Option Addr) (c : Nat) (w1 : Int) (w : World) (k : TakeOk w B M F L s l a c w1) (hop : op = 21) :
 Calls Tryz.prog 70 #[.pointer (some ⟨M, 0, none⟩), .int .i64 op, .slice a l.length c] w (PenPost B M F L (s.take w1 op l) (.tuple #[]) w) := by
 subst hop
 have HK := Lib.hid (begin_21 B M F L s l a c w1 w k.mach k.pen k.opds k.font)
 have HE : Hid (s.take w1 21 l = s.begin w1 21 l) := by unfold Hid MS.take; simp
 rw [HE.out]
 generalize s.begin w1 21 l = s9 at *
 obtain ⟨n, HN⟩ : ∃ n, Hid (l.length = n) := ⟨_, rfl⟩
 rw [HN.out] at HK ⊢
 clear k HE
 go_enter Tryz.func70, Tryz.ntmps70
 go_wp2_with fail
 refine HK.out.mono ?_
 rintro e w1' ⟨rfl, hx⟩
 have HX := Lib.hid hx
 clear hx
 go_wp2_with fail
 go_end0
 exact ⟨rfl, HX.out⟩
set_option maxHeartbeats 2000000 in
theorem take_begin22 (B M F : Nat) (L : Lay) (s : MS) (op : Int) (l : List Int) (a : Option Addr) (c : Nat) (w1 : Int) (w : World) (k : TakeOk w B M F L s l a c w1) (hop : op = 22) :
 Calls Tryz.prog 70 #[.pointer (some ⟨M, 0, none⟩), .int .i64 op, .slice a l.length c] w (PenPost B M F L (s.take w1 op l) (.tuple #[]) w) := by
 subst hop
 have HK := Lib.hid (begin_22 B M F L s l a c w1 w k.mach k.pen k.opds k.font)
 have HE : Hid (s.take w1 22 l = s.begin w1 22 l) := by unfold Hid MS.take; simp
 rw [HE.out]
 generalize s.begin w1 22 l = s9 at *
 obtain ⟨n, HN⟩ : ∃ n, Hid (l.length = n) := ⟨_, rfl⟩
 rw [HN.out] at HK ⊢
 clear k HE
 go_enter Tryz.func70, Tryz.ntmps70
 go_wp2_with fail
 refine HK.out.mono ?_
 rintro e w1' ⟨rfl, hx⟩
 have HX := Lib.hid hx
 clear hx
 go_wp2_with fail
 go_end0
 exact ⟨rfl, HX.out⟩
set_option maxHeartbeats 2000000 in
theorem take_begin4 (B M F : Nat) (L : Lay) (s : MS) (op : Int) (l : List Int) (a : Option Addr) (c : Nat) (w1 : Int) (w : World) (k : TakeOk w B M F L s l a c w1) (hop : op = 4) :
 Calls Tryz.prog 70 #[.pointer (some ⟨M, 0, none⟩), .int .i64 op, .slice a l.length c] w (PenPost B M F L (s.take w1 op l) (.tuple #[]) w) := by
 subst hop
 have HK := Lib.hid (begin_4 B M F L s l a c w1 w k.mach k.pen k.opds k.font)
 have HE : Hid (s.take w1 4 l = s.begin w1 4 l) := by unfold Hid MS.take; simp
 rw [HE.out]
 generalize s.begin w1 4 l = s9 at *
 obtain ⟨n, HN⟩ : ∃ n, Hid (l.length = n) := ⟨_, rfl⟩
 rw [HN.out] at HK ⊢
 clear k HE
 go_enter Tryz.func70, Tryz.ntmps70
 go_wp2_with fail
 refine HK.out.mono ?_
 rintro e w1' ⟨rfl, hx⟩
 have HX := Lib.hid hx
 clear hx
 go_wp2_with fail
 go_end0
 exact ⟨rfl, HX.out⟩
set_option maxHeartbeats 2000000 in
theorem take_end (B M F : Nat) (L : Lay) (s : MS) (op : Int) (l : List Int) (a : Option Addr) (c : Nat) (w1 : Int) (w : World) (k : TakeOk w B M F L s l a c w1) (hop : op = 14) :
 Calls Tryz.prog 70 #[.pointer (some ⟨M, 0, none⟩), .int .i64 op, .slice a l.length c] w (PenPost B M F L (s.take w1 op l) (.tuple #[]) w) := by
 subst hop
 have HK := Lib.hid (finish_c B M F L s l a c w1 w k.mach k.opds k.font)
 have HE : Hid (s.take w1 14 l = s.finish w1 l) := by unfold Hid MS.take; simp
 rw [HE.out]
 generalize s.finish w1 l = s9 at *
 obtain ⟨n, HN⟩ : ∃ n, Hid (l.length = n) := ⟨_, rfl⟩
 rw [HN.out] at HK ⊢
 clear k HE
 go_enter Tryz.func70, Tryz.ntmps70
 go_wp2_with fail
 refine HK.out.mono ?_
 rintro e w1' ⟨rfl, hx⟩
 have HX := Lib.hid hx
 clear hx
 go_wp2_with fail
 go_end0
 exact ⟨rfl, ⟨_, _, _, HX.out.1⟩, HX.out.2⟩
set_option maxHeartbeats 2000000 in
theorem take_draw (B M F : Nat) (L : Lay) (s : MS) (op : Int) (l : List Int) (a : Option Addr) (c : Nat) (w1 : Int) (w : World) (k : TakeOk w B M F L s l a c w1) (hop : op ≠ 1 ∧ op ≠ 3 ∧ op ≠ 18 ∧ op ≠ 23 ∧ op ≠ 19 ∧ op ≠ 20 ∧ op ≠ 21 ∧ op ≠ 22 ∧ op ≠ 4 ∧ op ≠ 14) :
 Calls Tryz.prog 70 #[.pointer (some ⟨M, 0, none⟩), .int .i64 op, .slice a l.length c] w (PenPost B M F L (s.take w1 op l) (.tuple #[]) w) := by
 obtain ⟨n1, n3, n18, n23, n19, n20, n21, n22, n4, n14⟩ := hop
 have HK := Lib.hid (draw_c B M F L s op l a c w k.mach k.pen k.opds.at' k.opds.le k.opds.few k.opds.small)
 have HE : Hid (s.take w1 op l = s.draw op l) := by unfold Hid MS.take; simp [n1, n3, n18, n23, n19, n20, n21, n22, n4, n14]
 rw [HE.out]
 generalize s.draw op l = s9 at *
 obtain ⟨n, HN⟩ : ∃ n, Hid (l.length = n) := ⟨_, rfl⟩
 rw [HN.out] at HK ⊢
 clear k HE
 go_enter Tryz.func70, Tryz.ntmps70
 go_wp2_with fail
 refine HK.out.mono ?_
 rintro e w1' ⟨rfl, hx⟩
 have HX := Lib.hid hx
 clear hx
 go_wp2_with fail
 go_end0
 exact ⟨rfl, HX.out⟩
theorem take_c (B M F : Nat) (L : Lay) (s : MS) (op : Int) (l : List Int) (a : Option Addr) (c : Nat) (w1 : Int) (w : World) (k : TakeOk w B M F L s l a c w1) :
 Calls Tryz.prog 70 #[.pointer (some ⟨M, 0, none⟩), .int .i64 op, .slice a l.length c] w (PenPost B M F L (s.take w1 op l) (.tuple #[]) w) := by
 by_cases n1 : op = 1
 ·exact take_stems1 B M F L s op l a c w1 w k n1
 by_cases n3 : op = 3
 ·exact take_stems3 B M F L s op l a c w1 w k n3
 by_cases n18 : op = 18
 ·exact take_stems18 B M F L s op l a c w1 w k n18
 by_cases n23 : op = 23
 ·exact take_stems23 B M F L s op l a c w1 w k n23
 by_cases n19 : op = 19
 ·exact take_mask19 B M F L s op l a c w1 w k n19
 by_cases n20 : op = 20
 ·exact take_mask20 B M F L s op l a c w1 w k n20
 by_cases n21 : op = 21
 ·exact take_begin21 B M F L s op l a c w1 w k n21
 by_cases n22 : op = 22
 ·exact take_begin22 B M F L s op l a c w1 w k n22
 by_cases n4 : op = 4
 ·exact take_begin4 B M F L s op l a c w1 w k n4
 by_cases n14 : op = 14
 ·exact take_end B M F L s op l a c w1 w k n14
 exact take_draw B M F L s op l a c w1 w k ⟨n1, n3, n18, n23, n19, n20, n21, n22, n4, n14⟩
end Go.Proofs.YtklenppldblbdaaGreat
