/-
  Texts joined, texts that lie within a text at a place, numbers written in bytes: what is read there is what was written. It hangs on no function of the program.
-/
import Derived.Test.YtklenppldblbdaaGp
namespace Go.Proofs.Ytklenppldblbdaa
open Go.RowKit Go.PlainAid
set_option linter.unusedSimpArgs false
set_option linter.unusedVariables false

theorem bt_join_left (s u : ByteArray) {i : Nat} (h : i < s.size) : bt (s ++ u) i = bt s i := by
  rw [bt_eq _ h, bt_eq _ (show i < (s ++ u).size by rw [ByteArray.size_append]; omega)]
  have h' : i < s.data.size := h
  simp [ByteArray.data_append, Array.getElem_append, h', h]

theorem bt_join_right (s u : ByteArray) {i : Nat} (h : i < u.size) : bt (s ++ u) (s.size + i) = bt u i := by
  rw [bt_eq _ h, bt_eq _ (show s.size + i < (s ++ u).size by rw [ByteArray.size_append]; omega)]
  have h' : ¬ s.size + i < s.data.size := by have : s.data.size = s.size := rfl; omega
  have e : s.data.size = s.size := rfl
  simp [ByteArray.data_append, Array.getElem_append, h', e]

theorem cellsOfStr_join (s u : ByteArray) : cellsOfStr (s ++ u) = cellsOfStr s ++ cellsOfStr u := by
  apply List.ext_getElem?
  intro i
  by_cases h1 : i < s.size
  · rw [cellsOfStr_get _ i (by rw [ByteArray.size_append]; omega), List.getElem?_append_left (by rw [cellsOfStr_length]; exact h1), cellsOfStr_get _ i h1, bt_join_left s u h1]
  · rw [List.getElem?_append_right (by rw [cellsOfStr_length]; omega), cellsOfStr_length]
    by_cases h2 : i - s.size < u.size
    · rw [cellsOfStr_get _ _ h2, cellsOfStr_get _ i (by rw [ByteArray.size_append]; omega)]
      have := bt_join_right s u h2
      rw [show s.size + (i - s.size) = i by omega] at this
      rw [this]
    · rw [List.getElem?_eq_none (by rw [cellsOfStr_length, ByteArray.size_append]; omega), List.getElem?_eq_none (by rw [cellsOfStr_length]; omega)]

/-- The text s lies in the file from place p on. -/
def Seg (f : ByteArray) (p : Nat) (s : ByteArray) : Prop := p + s.size ≤ f.size ∧ ∀ i, i < s.size → bt f (p + i) = bt s i

theorem seg_self (f : ByteArray) : Seg f 0 f := ⟨by omega, fun i hi => by rw [Nat.zero_add]⟩

theorem Seg.left {f s t : ByteArray} {p : Nat} (h : Seg f p (s ++ t)) : Seg f p s := by
  obtain ⟨h1, h2⟩ := h
  rw [ByteArray.size_append] at h1 h2
  exact ⟨by omega, fun i hi => by rw [h2 i (by omega), bt_join_left s t hi]⟩

theorem Seg.right {f s t : ByteArray} {p : Nat} (h : Seg f p (s ++ t)) : Seg f (p + s.size) t := by
  obtain ⟨h1, h2⟩ := h
  rw [ByteArray.size_append] at h1 h2
  exact ⟨by omega, fun i hi => by rw [Nat.add_assoc, h2 (s.size + i) (by omega), bt_join_right s t hi]⟩

theorem ext_bt {s t : ByteArray} (hs : s.size = t.size) (h : ∀ i, i < s.size → bt s i = bt t i) : s = t := by
  apply ByteArray.ext
  apply Array.ext
  · exact hs
  · intro i h1 h2
    have e := h i h1
    rw [bt_eq s h1, bt_eq t h2] at e
    exact UInt8.toNat_inj.1 (by omega)

theorem Seg.ext {f s : ByteArray} {p : Nat} (h : Seg f p s) : f.extract p (p + s.size) = s := by
  obtain ⟨h1, h2⟩ := h
  have hz : (f.extract p (p + s.size)).size = s.size := by rw [ByteArray.size_extract]; omega
  refine ext_bt hz fun i hi => ?_
  rw [bt_extract f p (p + s.size) i h1 (by omega), h2 i (by omega)]

theorem Seg.trans {f s u : ByteArray} {p q : Nat} (h : Seg f p s) (k : Seg s q u) : Seg f (p + q) u :=
  ⟨by have := h.1; have := k.1; omega, fun i hi => by rw [Nat.add_assoc, h.2 (q + i) (by have := k.1; omega), k.2 i hi]⟩

theorem numN_seg {f s : ByteArray} {p : Nat} (h : Seg f p s) (q : Nat) : ∀ k, q + k ≤ s.size → numN f (p + q) k = numN s q k
  | 0, _ => rfl
  | k + 1, hk => by rw [numN, numN, numN_seg h q k (by omega), Nat.add_assoc, h.2 (q + k) (by omega)]

/-- A number in k bytes. -/
def bigB (x : Int) : Nat → ByteArray
  | 0 => ByteArray.empty
  | k + 1 => bigB (x / 256) k ++ ⟨#[(x % 256).toNat.toUInt8]⟩

theorem bigB_size : ∀ (k : Nat) (x : Int), (bigB x k).size = k
  | 0, _ => rfl
  | k + 1, x => by rw [bigB, ByteArray.size_append, bigB_size k]; rfl

theorem bt_one (x : Int) (h0 : 0 ≤ x) (h1 : x ≤ 255) : bt ⟨#[x.toNat.toUInt8]⟩ 0 = x := by
  rw [bt_eq _ (show 0 < (⟨#[x.toNat.toUInt8]⟩ : ByteArray).size by exact Nat.zero_lt_one)]
  have : x.toNat % 256 = x.toNat := Nat.mod_eq_of_lt (by omega)
  simp [this]
  omega

theorem numN_big : ∀ (k : Nat) (x : Int), 0 ≤ x → numN (bigB x k) 0 k = x % 256 ^ k
  | 0, x, h => by simp [numN]
  | k + 1, x, h => by
    have hs : Seg (bigB x (k + 1)) 0 (bigB (x / 256) k) := (seg_self _).left
    have hr : Seg (bigB x (k + 1)) (0 + (bigB (x / 256) k).size) ⟨#[(x % 256).toNat.toUInt8]⟩ := (seg_self (bigB x (k + 1))).right
    have e1 := numN_seg hs 0 k (by rw [bigB_size]; omega)
    have e2 := hr.2 0 Nat.zero_lt_one
    simp only [bigB_size, Nat.zero_add, Nat.add_zero] at e2
    rw [bt_one _ (by omega) (by omega)] at e2
    rw [Nat.add_zero] at e1
    rw [numN, Nat.zero_add, e1, e2, numN_big k (x / 256) (by omega), Int.pow_succ]
    have hp : (0 : Int) < 256 ^ k := Int.pow_pos (by decide)
    generalize (256 : Int) ^ k = P at *
    have h3 := Int.emod_emod_of_dvd x (Int.dvd_mul_left 256 P)
    have h4 : x % (P * 256) = x / 256 % P * 256 + x % 256 := by
      have a1 := Int.mul_ediv_add_emod x 256
      have a2 := Int.mul_ediv_add_emod (x / 256) P
      have a3 := Int.emod_nonneg (x / 256) (show P ≠ 0 by omega)
      have a4 := Int.emod_lt_of_pos (x / 256) hp
      have a5 := Int.emod_nonneg x (show (256 : Int) ≠ 0 by decide)
      have a6 := Int.emod_lt_of_pos x (show (0 : Int) < 256 by decide)
      have e : x = (x / 256 % P * 256 + x % 256) + P * 256 * (x / 256 / P) := by
        have : P * 256 * (x / 256 / P) = 256 * (P * (x / 256 / P)) := by rw [Int.mul_comm P 256, Int.mul_assoc]
        omega
      rw [e, Int.add_mul_emod_self_left, ← e]
      refine Int.emod_eq_of_lt (by omega) ?_
      omega
    rw [h4]

theorem num_big4 {f : ByteArray} {p : Nat} {x : Int} (h : Seg f p (bigB x 4)) (h0 : 0 ≤ x) (h1 : x ≤ 4294967295) : numOr f p 4 = (x, 0) := by
  have hz := h.1
  rw [bigB_size] at hz
  unfold numOr
  rw [if_pos (by simp [hasB]; omega)]
  have e := numN_seg h 0 4 (by rw [bigB_size]; omega)
  rw [Nat.add_zero, numN_big 4 x h0] at e
  have e2 : x % 256 ^ 4 = x := Int.emod_eq_of_lt h0 (by omega)
  show (numN f p 4, (0 : Int)) = _
  rw [e, e2]

theorem num_big2 {f : ByteArray} {p : Nat} {x : Int} (h : Seg f p (bigB x 2)) (h0 : 0 ≤ x) (h1 : x ≤ 65535) : numOr f p 2 = (x, 0) := by
  have hz := h.1
  rw [bigB_size] at hz
  unfold numOr
  rw [if_pos (by simp [hasB]; omega)]
  have e := numN_seg h 0 2 (by rw [bigB_size]; omega)
  rw [Nat.add_zero, numN_big 2 x h0] at e
  have e2 : x % 256 ^ 2 = x := Int.emod_eq_of_lt h0 (by omega)
  show (numN f p 2, (0 : Int)) = _
  rw [e, e2]

theorem join_assoc (a b c : ByteArray) : a ++ b ++ c = a ++ (b ++ c) := by
  apply ByteArray.ext; simp [ByteArray.data_append, Array.append_assoc]

theorem join_empty (a : ByteArray) : ByteArray.empty ++ a = a := by
  apply ByteArray.ext; simp [ByteArray.data_append]

/-- Numbers of two bytes each. -/
def twoB : List Int → ByteArray
  | [] => ByteArray.empty
  | x :: r => bigB ((if x < 0 then x + 65536 else x) % 65536) 2 ++ twoB r

theorem twoB_size : ∀ l, (twoB l).size = 2 * l.length
  | [] => rfl
  | x :: r => by rw [twoB, ByteArray.size_append, bigB_size, twoB_size r, List.length_cons]; omega

theorem two_num {f : ByteArray} {p : Nat} {x : Int} {r : List Int} (h : Seg f p (twoB (x :: r))) (h0 : 0 ≤ x) (h1 : x ≤ 65535) : numOr f p 2 = (x, 0) := by
  have h2 := h.left
  rw [if_neg (by omega), Int.emod_eq_of_lt h0 (by omega)] at h2
  exact num_big2 h2 h0 h1

theorem two_next {f : ByteArray} {p : Nat} {x : Int} {r : List Int} (h : Seg f p (twoB (x :: r))) : Seg f (p + 2) (twoB r) := by
  have h2 := h.right
  rwa [bigB_size] at h2

end Go.Proofs.Ytklenppldblbdaa
