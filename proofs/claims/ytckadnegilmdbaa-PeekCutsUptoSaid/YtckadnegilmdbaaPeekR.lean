/-
  What the document's small functions over a slice of bytes answer, as contracts over the translated program: Has, Num, U16, I16, Tag, Same. A slice of bytes is told by the text of its bytes. No conditions but those that each theorem names.
-/
import Derived.Test.YtckadnegilmdbaaPeekC
namespace Go.Proofs.Ytckadnegilmdbaa
open Go.RowKit Go.PlainAid
set_option linter.unusedSimpArgs false
set_option linter.unusedVariables false

/-- The slice holds, in this world, the bytes of the text. -/
def IsB (w : World) (a : Option Addr) (len cap : Nat) (s : ByteArray) : Prop :=
  s.size = len ∧ len ≤ cap ∧ (len = 0 ∨ ∃ b off, a = some ⟨b, off, none⟩ ∧ ∀ i, i < len → w.cell? ⟨b, off + i, none⟩ = some (.int .u8 (bt s i)))

theorem IsB.kept {w w' : World} {B : Nat} {a : Option Addr} {len cap : Nat} {s : ByteArray} (h : IsB w a len cap s) (hb : Below B w w') (hB : ∀ b off, a = some ⟨b, off, none⟩ → b < B) : IsB w' a len cap s := by
  obtain ⟨h1, h2, h3⟩ := h
  refine ⟨h1, h2, ?_⟩
  rcases h3 with h3 | ⟨b, off, rfl, hc⟩
  · exact .inl h3
  · exact .inr ⟨b, off, rfl, fun i hi => by rw [hb.cell (p := ⟨b, off + i, none⟩) (hB b off rfl)]; exact hc i hi⟩

theorem IsB.below {w w' : World} {a : Option Addr} {len cap : Nat} {s : ByteArray} (h : IsB w a len cap s) (hb : Below w.heap.size w w') : IsB w' a len cap s := by
  obtain ⟨h1, h2, h3⟩ := h
  refine ⟨h1, h2, ?_⟩
  rcases h3 with h3 | ⟨b, off, rfl, hc⟩
  · exact .inl h3
  · refine .inr ⟨b, off, rfl, fun i hi => ?_⟩
    have := World.block_lt_of_cell? w _ (hc i hi)
    rw [hb.cell (p := ⟨b, off + i, none⟩) this]
    exact hc i hi

theorem bt_eq (s : ByteArray) {i : Nat} (h : i < s.size) : bt s i = ((s.data[i]'h).toNat : Int) := by
  rw [← get_bt s i h]; rfl

theorem str_of_bt (s : ByteArray) : strOfNums ((List.range s.size).map (bt s)) = s := by
  apply ByteArray.ext
  apply Array.ext
  · simp [strOfNums]
  · intro i h1 h2
    have h3 : i < s.size := h2
    simp [strOfNums, bt_eq s h3]

theorem IsB.conv {w : World} {a : Option Addr} {len cap : Nat} {s : ByteArray} (h : IsB w a len cap s) : (convert 22 9 (.slice a len cap)).run Try.prog w = .ok (.string s) w := by
  obtain ⟨h1, h2, rfl | ⟨b, off, rfl, hc⟩⟩ := h
  · have e : s = ByteArray.empty := by
      apply ByteArray.ext
      apply Array.ext
      · have : s.data.size = 0 := h1
        simp [this]
      · intro i q1 q2
        have : s.data.size = 0 := h1
        omega
    subst e
    rw [run_convert_bytes_string w 22 9 5 a 0 cap Try.underlying22 Try.underlying5 Try.underlying9]
    cases a with
    | none => simp [Conv.bytesToString]
    | some x => rw [run_bytesToString w x 0 cap [] (by simp [loadCells, loadCellsFrom])]; rfl
  · rw [run_convert_bytes_arg w 22 5 Try.underlying22 Try.underlying5 b off len cap ((List.range s.size).map (bt s)) (by simpa using h1) (fun i hi => by rw [hc i hi]; simp [List.getD, show i < s.size by omega]) 9 Try.underlying9, str_of_bt]

set_option maxHeartbeats 400000 in
theorem has_c (a : Option Addr) (len cap : Nat) (s : ByteArray) (at' n : Int) (w : World) (hl : s.size = len) (hs : (len : Int) ≤ 140737488355328) :
    Calls Try.prog 19 #[.slice a len cap, .int .i64 at', .int .i64 n] w fun e w' => e = .returned (.bool (hasB s at' n)) ∧ w = w' := by
  subst hl
  by_cases h1 : 0 ≤ at'
  · by_cases h2 : 0 ≤ n
    · by_cases h3 : at' ≤ (s.size : Int)
      · have HW : wrap64 ((s.size : Int) - at') = (s.size : Int) - at' := by unfold wrap64; omega
        have HE := Lib.hid (hasB_sub (s := s) h1 h2)
        clear hs
        go_enter Try.func19, Try.ntmps19
        go_wp2
        go_ret
        rw [HE.out, HW]
        exact ⟨rfl, rfl⟩
      · have HE : Hid (hasB s at' n = false) := by unfold Hid; rw [hasB_sub h1 h2]; simp; omega
        clear hs
        go_enter Try.func19, Try.ntmps19
        go_wp2
        go_ret
        rw [HE.out]
        exact ⟨rfl, rfl⟩
    · have HE := Lib.hid (hasB_no2 (s := s) (a := at') h2)
      clear hs
      go_enter Try.func19, Try.ntmps19
      go_wp2
      go_ret
      rw [HE.out]
      exact ⟨rfl, rfl⟩
  · have HE := Lib.hid (hasB_no1 (s := s) (n := n) h1)
    clear hs
    go_enter Try.func19, Try.ntmps19
    go_wp2
    go_ret
    rw [HE.out]
    exact ⟨rfl, rfl⟩

set_option maxHeartbeats 400000 in
theorem same_c (a c : Option Addr) (l1 c1 l2 c2 : Nat) (s t : ByteArray) (w : World) (h1 : IsB w a l1 c1 s) (h2 : IsB w c l2 c2 t) :
    Calls Try.prog 9 #[.slice a l1 c1, .slice c l2 c2] w fun e w' => e = .returned (.bool (s.toList == t.toList)) ∧ w = w' := by
  have k1 := h1.conv
  have k2 := h2.conv
  clear h1 h2
  go_enter Try.func9, Try.ntmps9
  go_wp2
  go_ret
  exact ⟨rfl, rfl⟩

set_option maxHeartbeats 400000 in
theorem refnum_c (a : Option Addr) (len cap : Nat) (s : ByteArray) (at' n x f : Int) (w : World) (hB : IsB w a len cap s) (hs : (len : Int) ≤ 140737488355328) (hn1 : 1 ≤ n) (hn4 : n ≤ 4) (HX : Hid (numOr s at' n = (x, f))) :
    Calls Try.prog 11 #[.slice a len cap, .int .i64 at', .int .i64 n] w fun e w' => e = .returned (.tuple #[.int .i64 x, .int .i64 f]) ∧ w = w' := by
  have HH := Lib.hid (has_c a len cap s at' n w hB.1 hs)
  cases h : hasB s at' n
  · have HE := Lib.hid h
    have HY : Hid ((0 : Int) = x ∧ (21 : Int) = f) := by have := HX.out; rw [numOr, h] at this; unfold Hid; simpa using this
    clear h hs hn1 hn4 hB
    go_enter Try.func11, Try.ntmps11
    go_wp2_with fail
    refine HH.out.mono ?_
    rintro e w1 ⟨rfl, rfl⟩
    rw [HE.out]
    go_wp2_with fail
    go_ret2
    rw [HY.out.1, HY.out.2]
    exact ⟨rfl, rfl⟩
  · have HE := Lib.hid h
    have HY : Hid (numN s at'.toNat n.toNat = x ∧ (0 : Int) = f) := by have := HX.out; rw [numOr, h] at this; unfold Hid; simpa using this
    simp [hasB] at h
    obtain ⟨hl, _, rfl | ⟨b, off, rfl, hc⟩⟩ := hB
    · exfalso; omega
    obtain ⟨p, rfl⟩ := Int.eq_ofNat_of_zero_le h.1.1
    obtain ⟨k, rfl⟩ := Int.eq_ofNat_of_zero_le h.1.2
    have HP : Hid (p + k ≤ len) := by unfold Hid; omega
    have HS := Lib.hid hs
    have HK : Hid (k ≤ 4) := by unfold Hid; omega
    have HC := Lib.hid hc
    clear h hs hn1 hn4 hc
    go_enter Try.func11, Try.ntmps11
    go_wp2_with fail
    refine HH.out.mono ?_
    rintro e w1 ⟨rfl, rfl⟩
    rw [HE.out]
    go_wp2_with fail
    go_loop [8, 9] (fun x i => ∃ j : Nat, ∃ m : Int, j ≤ k ∧ x = .int .i64 m ∧ i = .int .i64 (j : Int) ∧ Hid (m = numN s p j)) (fun x i => k - (intOf i).toNat)
    case atStart => exact ⟨0, 0, Nat.zero_le _, rfl, rfl, rfl⟩
    case round =>
      obtain ⟨j, m, hj, rfl, rfl, HM⟩ := hrel
      by_cases hlt : j < k
      · have hcell := HC.out (p + j) (by have := HP.out; omega)
        have h0 := bt_nonneg s (p + j)
        have h1 := bt_le s (p + j)
        have HN : Hid (m * 256 + bt s (p + j) = numN s p (j + 1)) := by unfold Hid; rw [HM.out]; rfl
        have HB2 : Hid (0 ≤ m ∧ m < 4294967296) := by
          have hk := HK.out
          have hn := numN_bound s p j
          have : (256 : Int) ^ j ≤ 4294967296 := by
            have h4 : j = 0 ∨ j = 1 ∨ j = 2 ∨ j = 3 := by omega
            rcases h4 with rfl | rfl | rfl | rfl <;> decide
          unfold Hid
          rw [HM.out]
          omega
        have hw1 : wrap64 ((p : Int) + (j : Int)) = ((p + j : Nat) : Int) := by have := HP.out; have := HS.out; unfold wrap64; omega
        have hi1 : (0 : Int) ≤ ((p + j : Nat) : Int) := by omega
        have hi2 : ((p + j : Nat) : Int) < (len : Int) := by have := HP.out; omega
        generalize bt s (p + j) = c at *
        have hw2 : wrap64 (m * 256) = m * 256 := by have := HB2.out; unfold wrap64; omega
        have hw3 : wrap64 c = c := by unfold wrap64; omega
        have hw4 : wrap64 (m * 256 + c) = m * 256 + c := by have := HB2.out; unfold wrap64; omega
        have HJ : Hid (wrap64 ((j : Int) + 1) = ((j + 1 : Nat) : Int)) := by have := HK.out; unfold Hid wrap64; omega
        go_wp2_with fail
        go_round
        case rel => exact ⟨j + 1, m * 256 + c, by omega, by rw [hw4], by rw [HJ.out], HN⟩
        case measure => rw [HJ.out]; simp only [intOf]; omega
      · go_wp2_with fail
        go_ret2
        have e : j = k := by omega
        subst e
        have := HY.out.1
        simp only [Int.toNat_natCast] at this
        rw [HM.out, this, HY.out.2]
        exact ⟨rfl, rfl⟩

set_option maxHeartbeats 400000 in
theorem refu16_c (a : Option Addr) (len cap : Nat) (s : ByteArray) (at' x f : Int) (w : World) (hB : IsB w a len cap s) (hs : (len : Int) ≤ 140737488355328) (HX : Hid (numOr s at' 2 = (x, f))) :
    Calls Try.prog 23 #[.slice a len cap, .int .i64 at'] w fun e w' => e = .returned (.int .i64 x) ∧ w = w' := by
  have HN := Lib.hid (refnum_c a len cap s at' 2 x f w hB hs (by decide) (by decide) HX)
  clear hs hB
  go_enter Try.func23, Try.ntmps23
  go_wp2_with fail
  refine HN.out.mono ?_
  rintro e w1 ⟨rfl, rfl⟩
  go_wp2_with fail
  go_ret
  exact ⟨rfl, rfl⟩

set_option maxHeartbeats 400000 in
theorem refi16_c (a : Option Addr) (len cap : Nat) (s : ByteArray) (at' x f : Int) (w : World) (hB : IsB w a len cap s) (hs : (len : Int) ≤ 140737488355328) (HX : Hid (numOr s at' 2 = (x, f))) :
    Calls Try.prog 18 #[.slice a len cap, .int .i64 at'] w fun e w' => e = .returned (.int .i64 (sign16 x)) ∧ w = w' := by
  have HN := Lib.hid (refu16_c a len cap s at' x f w hB hs HX)
  have hb := num16_bound HX.out
  clear hs hB
  by_cases h : 32768 ≤ x
  · have hw : wrap64 (x - 65536) = x - 65536 := by unfold wrap64; omega
    have HE : Hid (sign16 x = x - 65536) := by unfold Hid sign16; rw [if_pos h]
    clear hb
    go_enter Try.func18, Try.ntmps18
    go_wp2_with fail
    refine HN.out.mono ?_
    rintro e w1 ⟨rfl, rfl⟩
    go_wp2_with fail
    go_ret
    rw [HE.out, hw]
    exact ⟨rfl, rfl⟩
  · have HE : Hid (sign16 x = x) := by unfold Hid sign16; rw [if_neg h]
    clear hb
    go_enter Try.func18, Try.ntmps18
    go_wp2_with fail
    refine HN.out.mono ?_
    rintro e w1 ⟨rfl, rfl⟩
    go_wp2_with fail
    go_ret
    rw [HE.out]
    exact ⟨rfl, rfl⟩

theorem bt_extract (s : ByteArray) (p q i : Nat) (hq : q ≤ s.size) (hi : p + i < q) : bt (s.extract p q) i = bt s (p + i) := by
  have h1 : i < (s.extract p q).size := by rw [ByteArray.size_extract]; omega
  rw [bt_eq _ h1, bt_eq _ (show p + i < s.size by omega)]
  simp [ByteArray.data_extract]

theorem IsB.cut {w : World} {b off len cap : Nat} {s : ByteArray} (h : IsB w (some ⟨b, off, none⟩) len cap s) {p q c : Nat} (hpq : p ≤ q) (hq : q ≤ len) (hc : q - p ≤ c) : IsB w (some ⟨b, off + p, none⟩) (q - p) c (s.extract p q) := by
  obtain ⟨h1, h2, h3 | ⟨b', off', h3, hcell⟩⟩ := h
  · exact ⟨by rw [ByteArray.size_extract]; omega, hc, .inl (by omega)⟩
  · cases h3
    refine ⟨by rw [ByteArray.size_extract]; omega, hc, .inr ⟨b, off + p, rfl, fun i hi => ?_⟩⟩
    rw [bt_extract s p q i (by omega) (by omega), Nat.add_assoc]
    exact hcell (p + i) (by omega)

set_option maxHeartbeats 400000 in
theorem reftag_c (a : Option Addr) (len cap : Nat) (s t : ByteArray) (at' f : Int) (w : World) (hB : IsB w a len cap s) (hs : (len : Int) ≤ 140737488355328) (HX : Hid (tagOr s at' = (t, f))) :
    Calls Try.prog 20 #[.slice a len cap, .int .i64 at'] w fun e w' => e = .returned (.string t) ∧ w = w' := by
  have HH := Lib.hid (has_c a len cap s at' 4 w hB.1 hs)
  cases h : hasB s at' 4
  · have HE := Lib.hid h
    have HY : Hid (ByteArray.empty = t ∧ (21 : Int) = f) := by have := HX.out; rw [tagOr, h] at this; unfold Hid; simpa using this
    clear h hs hB
    go_enter Try.func20, Try.ntmps20
    go_wp2_with fail
    refine HH.out.mono ?_
    rintro e w1 ⟨rfl, rfl⟩
    rw [HE.out]
    go_wp2_with fail
    go_ret
    rw [← HY.out.1]
    exact ⟨rfl, rfl⟩
  · have HE := Lib.hid h
    have HY : Hid (s.extract at'.toNat (at'.toNat + 4) = t ∧ (0 : Int) = f) := by have := HX.out; rw [tagOr, h] at this; unfold Hid; simpa using this
    simp [hasB] at h
    have hB' := hB
    obtain ⟨hl, hlc, rfl | ⟨b, off, rfl, hc⟩⟩ := hB'
    · exfalso; omega
    obtain ⟨p, rfl⟩ := Int.eq_ofNat_of_zero_le h.1
    have hk := (hB.cut (p := p) (q := p + 4) (c := cap - p) (by omega) (by omega) (by omega)).conv
    have e1 : p + 4 - p = 4 := by omega
    rw [e1] at hk
    have HT : Hid (s.extract p (p + 4) = t) := by have := HY.out.1; unfold Hid; simpa using this
    rw [HT.out] at hk
    have hw : wrap64 ((p : Int) + 4) = ((p + 4 : Nat) : Int) := by unfold wrap64; omega
    have h0 : (0 : Int) ≤ (p : Int) := by omega
    have h1 : (p : Int) ≤ ((p + 4 : Nat) : Int) := by omega
    have h2 : ((p + 4 : Nat) : Int) ≤ (cap : Int) := by omega
    clear h hs hB hc
    go_enter Try.func20, Try.ntmps20
    go_wp2_with fail
    refine HH.out.mono ?_
    rintro e w1 ⟨rfl, rfl⟩
    rw [HE.out]
    go_wp2_with fail
    go_ret
    exact ⟨rfl, rfl⟩

set_option maxHeartbeats 400000 in
theorem new_c (a : Option Addr) (len cap : Nat) (s : ByteArray) (w : World) (hB : IsB w a len cap s) :
    Calls Try.prog 7 #[.slice a len cap] w fun e w' => e = .returned (.pointer (some ⟨w.heap.size, 0, none⟩)) ∧ w' = w.alloc (.cells #[.string s] 47) := by
  have hk := hB.conv
  clear hB
  go_enter Try.func7, Try.ntmps7
  go_wp2
  go_ret
  exact ⟨rfl, rfl⟩

set_option maxHeartbeats 400000 in
theorem bytes_c (g : Nat) (s : ByteArray) (w : World) (hc : w.cell? ⟨g, 0, none⟩ = some (.string s)) :
    Calls Try.prog 10 #[.pointer (some ⟨g, 0, none⟩)] w fun e w' => e = .returned (.slice (some ⟨w.heap.size, 0, none⟩) s.size (grownCap w s.size 0 5)) ∧ w' = Lib.bytesWorld w 5 s := by
  have hk := Lib.run_convert_string_bytes (P := Try.prog) w 9 22 5 s Try.underlying9 Try.underlying22 Try.underlying5
  generalize hgc : grownCap w s.size 0 5 = c at *
  generalize hgw : Lib.bytesWorld w 5 s = W at *
  clear hgc hgw
  go_enter Try.func10, Try.ntmps10
  go_wp2
  go_ret
  exact ⟨rfl, rfl⟩

theorem isB_bytes (w : World) (s : ByteArray) (e : TypeId) : IsB (Lib.bytesWorld w e s) (some ⟨w.heap.size, 0, none⟩) s.size (grownCap w s.size 0 e) s := by
  refine ⟨rfl, grownCap_ge _ _ _ _, .inr ⟨w.heap.size, 0, rfl, fun i hi => ?_⟩⟩
  rw [Nat.zero_add, Lib.bytesWorld_cell w e s i hi, bt_eq s hi]
  have : i < s.data.size := hi
  simp [List.getD, Array.getElem?_eq_getElem this]

theorem below_bytes (w : World) (s : ByteArray) (e : TypeId) : Below w.heap.size w (Lib.bytesWorld w e s) :=
  ⟨rfl, rfl, rfl, by rw [Lib.bytesWorld_size]; omega, fun k hk => Lib.bytesWorld_at_old w e s k hk⟩

set_option maxHeartbeats 400000 in
theorem cut_no (g : Nat) (at' n : Int) (s : ByteArray) (w : World) (hc : w.cell? ⟨g, 0, none⟩ = some (.string s)) (hs : (s.size : Int) ≤ 140737488355328) (ha : at' ≤ 9223372036854775807) (h : hasB s at' n = false) :
    Calls Try.prog 21 #[.pointer (some ⟨g, 0, none⟩), .int .i64 at', .int .i64 n] w fun e w' => e = .returned (.tuple #[.pointer none, .int .i64 21]) ∧ w = w' := by
  have HC := Lib.hid (within_c g s at' n w hc hs ha)
  have HE := Lib.hid h
  clear h hs ha
  go_enter Try.func21, Try.ntmps21
  go_wp2_with fail
  refine HC.out.mono ?_
  rintro e w1 ⟨rfl, rfl⟩
  rw [HE.out]
  go_wp2_with fail
  go_ret2
  exact ⟨rfl, rfl⟩

set_option maxHeartbeats 400000 in
theorem cut_yes (g p k : Nat) (s : ByteArray) (w : World) (hc : w.cell? ⟨g, 0, none⟩ = some (.string s)) (hs : (s.size : Int) ≤ 140737488355328) (h : p + k ≤ s.size) :
    Calls Try.prog 21 #[.pointer (some ⟨g, 0, none⟩), .int .i64 p, .int .i64 k] w fun e w' => e = .returned (.tuple #[.pointer (some ⟨w.heap.size, 0, none⟩), .int .i64 0]) ∧ w' = w.alloc (.cells #[.string (s.extract p (p + k))] 47) := by
  have HC := Lib.hid (within_c g s p k w hc hs (by omega))
  have HE : Hid (hasB s p k = true) := by unfold Hid; simp [hasB]; omega
  have hw : wrap64 ((p : Int) + (k : Int)) = ((p + k : Nat) : Int) := by unfold wrap64; omega
  have h0 : (0 : Int) ≤ (p : Int) := by omega
  have h1 : (p : Int) ≤ ((p + k : Nat) : Int) := by omega
  have h2 : ((p + k : Nat) : Int) ≤ (s.size : Int) := by omega
  clear h hs
  go_enter Try.func21, Try.ntmps21
  go_wp2_with fail
  refine HC.out.mono ?_
  rintro e w1 ⟨rfl, rfl⟩
  rw [HE.out]
  go_wp2_with fail
  go_ret2
  exact ⟨rfl, rfl⟩

def ex3 : ByteArray := ⟨#[255, 254, 1]⟩
theorem ex3_16 : numOr ex3 0 2 = (65534, 0) := by decide +kernel
theorem ex3_24 : numOr ex3 0 3 = (16776705, 0) := by decide +kernel
theorem ex3_sign : sign16 65534 = -2 := by decide

set_option maxHeartbeats 400000 in
theorem alive_c (w : World) : Calls Try.prog 6 #[] w fun e w' => e = .returned (.bool true) ∧ Below w.heap.size w w' := by
  have HB : Hid (IsB (w.alloc (.cells #[.int .u8 255, .int .u8 254, .int .u8 1] 5)) (some ⟨w.heap.size, 0, none⟩) 3 3 ex3) := by
    refine ⟨rfl, Nat.le_refl _, .inr ⟨_, _, rfl, fun i hi => ?_⟩⟩
    have : i = 0 ∨ i = 1 ∨ i = 2 := by omega
    rcases this with rfl | rfl | rfl <;> simp [go_sem] <;> decide +kernel
  have HS : Hid ((ex3.size : Int) = 3) := rfl
  go_enter Try.func6, Try.ntmps6
  go_wp2_with fail
  refine (new_c _ 3 3 ex3 _ HB.out).mono ?_
  rintro e w1 ⟨rfl, rfl⟩
  have HC : Hid (((w.alloc (.cells #[.int .u8 255, .int .u8 254, .int .u8 1] 5)).alloc (.cells #[.string ex3] 47)).cell? ⟨w.heap.size + 1, 0, none⟩ = some (.string ex3)) := by
    unfold Hid; simp [go_sem]
  go_wp2_with fail
  refine (len_c _ ex3 _ HC.out).mono ?_
  rintro e w1 ⟨rfl, rfl⟩
  rw [HS.out]
  go_wp2_with fail
  refine (i16_c _ 0 65534 0 ex3 _ HC.out (by rw [HS.out]; decide) (by decide) ex3_16).mono ?_
  rintro e w1 ⟨rfl, rfl⟩
  rw [ex3_sign]
  go_wp2_with fail
  refine (u24_c _ 0 16776705 0 ex3 _ HC.out (by rw [HS.out]; decide) (by decide) ex3_24).mono ?_
  rintro e w1 ⟨rfl, rfl⟩
  go_wp2_with fail
  go_ret
  exact ⟨rfl, ((Below.refl _ _).alloc (Nat.le_refl _) _).alloc (by simp) _⟩

end Go.Proofs.Ytckadnegilmdbaa
