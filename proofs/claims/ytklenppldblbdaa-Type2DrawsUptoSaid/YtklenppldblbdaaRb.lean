/-
  The law's operand; the programs of Type2Widths.
-/
import Derived.Test.YtklenppldblbdaaRa
namespace Go.Proofs.Ytklenppldblbdaa
open Go.RowKit Go.PlainAid
set_option linter.unusedSimpArgs false
set_option linter.unusedVariables false

def unsN (n : Int) : Nat := (if n < 0 then n + 65536 else n).toNat
/-- An operand of two bytes. -/
def numB (n : Int) : ByteArray := ⟨#[28, (unsN n / 256).toUInt8, (unsN n % 256).toUInt8]⟩
theorem numB_size (n : Int) : (numB n).size = 3 := rfl

theorem byte_bt (k : Nat) (h : k ≤ 255) : (k.toUInt8.toNat : Int) = (k : Int) := by
  have : k.toUInt8.toNat = k % 256 := by simp [Nat.toUInt8]
  rw [this]; omega

theorem unsN_lt (n : Int) (h0 : -32768 ≤ n) (h1 : n ≤ 32767) : unsN n ≤ 65535 := by unfold unsN; split <;> omega
theorem numB_1 (n : Int) (h0 : -32768 ≤ n) (h1 : n ≤ 32767) : bt (numB n) 1 = ((unsN n / 256 : Nat) : Int) := by
  have := unsN_lt n h0 h1
  show (((unsN n / 256).toUInt8.toNat : Nat) : Int) = _
  exact byte_bt _ (by omega)
theorem numB_2 (n : Int) (h0 : -32768 ≤ n) (h1 : n ≤ 32767) : bt (numB n) 2 = ((unsN n % 256 : Nat) : Int) := by
  show (((unsN n % 256).toUInt8.toNat : Nat) : Int) = _
  exact byte_bt _ (by omega)
theorem numB_cells (n : Int) (h0 : -32768 ≤ n) (h1 : n ≤ 32767) : (#[.int .u8 28, .int .u8 ((unsN n / 256 : Nat) : Int), .int .u8 ((unsN n % 256 : Nat) : Int)] : Array Value).toList = cellsOfStr (numB n) := by
  show [Value.int .u8 28, .int .u8 ((unsN n / 256 : Nat) : Int), .int .u8 ((unsN n % 256 : Nat) : Int)] = [Value.int .u8 (bt (numB n) 0), .int .u8 (bt (numB n) 1), .int .u8 (bt (numB n) 2)]
  rw [numB_1 n h0 h1, numB_2 n h0 h1]
  rfl

set_option maxHeartbeats 400000 in
theorem operand2_c (n : Int) (w : World) (h0 : -32768 ≤ n) (h1 : n ≤ 32767) :
    Calls Try.prog 11 #[.int .i64 n] w fun e w' => e = .returned (.slice (some ⟨w.heap.size, 0, none⟩) 3 3) ∧ w' = w.alloc (.cells #[.int .u8 28, .int .u8 ((unsN n / 256 : Nat) : Int), .int .u8 ((unsN n % 256 : Nat) : Int)] 5) := by
  by_cases hn : n < 0
  · have e1 : ((unsN n / 256 : Nat) : Int) = (n + 65536) / 256 := by unfold unsN; rw [if_pos hn]; omega
    have e2 : ((unsN n % 256 : Nat) : Int) = (n + 65536) % 256 := by unfold unsN; rw [if_pos hn]; omega
    have HE := Lib.hid (And.intro e1 e2)
    clear e1 e2
    go_enter Try.func11, Try.ntmps11
    go_wp2_with fail
    go_ret
    exact ⟨rfl, by rw [HE.out.1, HE.out.2]⟩
  · have e1 : ((unsN n : Nat) : Int) = n := by unfold unsN; rw [if_neg hn]; omega
    have HE := Lib.hid e1
    clear e1
    go_enter Try.func11, Try.ntmps11
    go_wp2_with fail
    go_ret
    exact ⟨rfl, by push_cast; rw [HE.out]⟩

/-- The programs' ends. -/
def endB : Nat → ByteArray
  | 0 => ⟨#[14]⟩
  | 1 => ⟨#[139, 22, 14]⟩
  | 2 => ⟨#[139, 4, 14]⟩
  | 3 => ⟨#[139, 139, 21, 14]⟩
  | 4 => ⟨#[139, 139, 1, 14]⟩
  | 5 => ⟨#[139, 139, 19, 0, 14]⟩
  | 6 => ⟨#[19, 14]⟩
  | _ => ⟨#[139, 139, 23, 139, 22, 14]⟩

theorem untold (f : FS) : ∀ i, i < 8 → (MS.run f 20001 (MS.start f (endB i))).fault = 0 ∧ (MS.run f 20001 (MS.start f (endB i))).width = f.w0
  | 0, _ => ⟨by kernel_rfl, by kernel_rfl⟩
  | 1, _ => ⟨by kernel_rfl, by kernel_rfl⟩
  | 2, _ => ⟨by kernel_rfl, by kernel_rfl⟩
  | 3, _ => ⟨by kernel_rfl, by kernel_rfl⟩
  | 4, _ => ⟨by kernel_rfl, by kernel_rfl⟩
  | 5, _ => ⟨by kernel_rfl, by kernel_rfl⟩
  | 6, _ => ⟨by kernel_rfl, by kernel_rfl⟩
  | 7, _ => ⟨by kernel_rfl, by kernel_rfl⟩
  | n + 8, h => by omega

theorem told_at (f : FS) (a b : UInt8) : ∀ i, i < 8 → (MS.run f 20001 (MS.start f (⟨#[28, a, b]⟩ ++ endB i))).fault = 0 ∧ (MS.run f 20001 (MS.start f (⟨#[28, a, b]⟩ ++ endB i))).width = nearM (sign16 (numOr (⟨#[28, a, b]⟩ ++ endB i) 1 2).1 * 65536) + f.w1
  | 0, _ => ⟨by kernel_rfl, by kernel_rfl⟩
  | 1, _ => ⟨by kernel_rfl, by kernel_rfl⟩
  | 2, _ => ⟨by kernel_rfl, by kernel_rfl⟩
  | 3, _ => ⟨by kernel_rfl, by kernel_rfl⟩
  | 4, _ => ⟨by kernel_rfl, by kernel_rfl⟩
  | 5, _ => ⟨by kernel_rfl, by kernel_rfl⟩
  | 6, _ => ⟨by kernel_rfl, by kernel_rfl⟩
  | 7, _ => ⟨by kernel_rfl, by kernel_rfl⟩
  | n + 8, h => by omega

theorem near_unit (m : Nat) : near (m * 65536) 65536 = m := by unfold near; omega
theorem nearM_unit (n : Int) (h0 : -32768 ≤ n) (h1 : n ≤ 32767) : nearM (n * 65536) = n := by
  have ha : (n * 65536).natAbs = n.natAbs * 65536 := by rw [Int.natAbs_mul]; rfl
  have hne : near ((n * 65536).natAbs * (1 : Int).natAbs) (65536 : Int).natAbs = n.natAbs := by
    rw [ha]; show near (n.natAbs * 65536 * 1) 65536 = _; rw [Nat.mul_one]; exact near_unit _
  unfold nearM mulDiv
  rw [hne, if_neg (by omega)]
  by_cases hn : n < 0
  · have hp : (prodNeg (n * 65536) 1 != decide ((65536 : Int) < 0)) = true := by unfold prodNeg; simp; omega
    rw [if_pos hp]; show -(n.natAbs : Int) = n; omega
  · have hp : ¬ (prodNeg (n * 65536) 1 != decide ((65536 : Int) < 0)) = true := by unfold prodNeg; simp; omega
    rw [if_neg hp]; show (n.natAbs : Int) = n; omega

theorem numB_read (n : Int) (e : ByteArray) (h0 : -32768 ≤ n) (h1 : n ≤ 32767) : sign16 (numOr (numB n ++ e) 1 2).1 = n := by
  have hs : Seg (numB n ++ e) 0 (numB n ++ e) := ⟨by omega, fun i _ => by rw [Nat.zero_add]⟩
  have h := hs.left
  have b1 := h.2 1 (by rw [numB_size]; decide)
  have b2 := h.2 2 (by rw [numB_size]; decide)
  rw [numB_1 n h0 h1] at b1
  rw [numB_2 n h0 h1] at b2
  have hz := h.1
  rw [numB_size] at hz
  have e1 : numOr (numB n ++ e) 1 2 = (numN (numB n ++ e) 1 2, 0) := by
    unfold numOr
    rw [if_pos (by have := numB_size n; unfold hasB; simp; omega)]
    rfl
  have e2 : numN (numB n ++ e) 1 2 = ((0 : Int) * 256 + bt (numB n ++ e) (0 + 1)) * 256 + bt (numB n ++ e) (0 + 2) := rfl
  rw [e1, e2, b1, b2]
  have := unsN_lt n h0 h1
  unfold sign16 unsN
  by_cases hn : n < 0
  · rw [if_pos hn, if_pos (by omega)]; omega
  · rw [if_neg hn, if_neg (by omega)]; omega

/-- The programs of the first j ends, each without a width and with one. -/
def widthN (told : Int) : Nat → List ByteArray
  | 0 => []
  | j + 1 => widthN told j ++ [endB j, numB told ++ endB j]
def widthF (told u0 u1 : Int) : FS := { glyphs := widthN told 8, locals := [], globals := [], w0 := u0, w1 := u1 }

theorem endB_size : ∀ i, (endB i).size ≤ 6
  | 0 | 1 | 2 | 3 | 4 | 5 | 6 => by decide
  | n + 7 => by show 6 ≤ 6; decide
theorem widthN_length (told : Int) : ∀ j, (widthN told j).length = 2 * j
  | 0 => rfl
  | j + 1 => by rw [widthN, List.length_append, widthN_length told j]; rfl
theorem widthN_size (told : Int) : ∀ j, sizeN (widthN told j) ≤ 20 * j
  | 0 => Nat.le_refl _
  | j + 1 => by
    have h1 := widthN_size told j
    have h2 := endB_size j
    have e : widthN told (j + 1) = widthN told j ++ [endB j] ++ [numB told ++ endB j] := by rw [widthN, List.append_assoc]; rfl
    rw [e, sizeN_snoc, sizeN_snoc, ByteArray.size_append, numB_size]; omega

theorem widthN_at (told : Int) : ∀ (j i : Nat), i < j → (widthN told j)[2 * i]? = some (endB i) ∧ (widthN told j)[2 * i + 1]? = some (numB told ++ endB i)
  | 0, i, h => by omega
  | j + 1, i, h => by
    rw [widthN]
    by_cases hij : i < j
    · obtain ⟨h1, h2⟩ := widthN_at told j i hij
      have hl := widthN_length told j
      exact ⟨by rw [List.getElem?_append_left (by omega)]; exact h1, by rw [List.getElem?_append_left (by omega)]; exact h2⟩
    · obtain rfl : i = j := by omega
      have hl := widthN_length told i
      exact ⟨by rw [List.getElem?_append_right (by omega), hl, Nat.sub_self]; rfl, by rw [List.getElem?_append_right (by omega), hl, show 2 * i + 1 - 2 * i = 1 by omega]; rfl⟩

/-- What the glyphs answer. -/
theorem width_of (told u0 u1 : Int) (g : Nat) (hg : g < 16) (h0 : -32768 ≤ told) (h1 : told ≤ 32767) :
    (glyphM (widthF told u0 u1) g).2.2 = 0 ∧ (glyphM (widthF told u0 u1) g).2.1 = if g % 2 = 1 then u1 + told else u0 := by
  have hgl : ∀ P, (widthF told u0 u1).glyphs[g]? = some P → (MS.run (widthF told u0 u1) 20001 (MS.start (widthF told u0 u1) P)).fault = 0 → (glyphM (widthF told u0 u1) g).2.2 = 0 ∧ (glyphM (widthF told u0 u1) g).2.1 = (MS.run (widthF told u0 u1) 20001 (MS.start (widthF told u0 u1) P)).width := by
    intro P hP hf
    unfold glyphM
    rw [hP]
    simp only [hf]
    exact ⟨rfl, rfl⟩
  obtain ⟨i, hi⟩ : ∃ i, g = 2 * i ∨ g = 2 * i + 1 := ⟨g / 2, by omega⟩
  have hw := widthN_at told 8 i (by omega)
  rcases hi with rfl | rfl
  · obtain ⟨a, b⟩ := untold (widthF told u0 u1) i (by omega)
    obtain ⟨c, d⟩ := hgl _ hw.1 a
    rw [if_neg (by omega), d, b]
    exact ⟨c, rfl⟩
  · obtain ⟨a, b⟩ := told_at (widthF told u0 u1) (unsN told / 256).toUInt8 (unsN told % 256).toUInt8 i (by omega)
    obtain ⟨c, d⟩ := hgl _ hw.2 a
    rw [if_pos (by omega), d]
    refine ⟨c, ?_⟩
    have e : (MS.run (widthF told u0 u1) 20001 (MS.start (widthF told u0 u1) (numB told ++ endB i))).width = nearM (sign16 (numOr (numB told ++ endB i) 1 2).1 * 65536) + u1 := b
    rw [e, numB_read told _ h0 h1, nearM_unit told h0 h1, Int.add_comm]

theorem width_ok (told u0 u1 : Int) (h0 : -30000 ≤ u0 ∧ u0 ≤ 30000) (h1 : -30000 ≤ u1 ∧ u1 ≤ 30000) : FOk (widthF told u0 u1) := by
  refine ⟨⟨by show (widthN told 8).length ≤ 60000; rw [widthN_length]; decide, by show 0 ≤ 60000; decide, by show 0 ≤ 60000; decide⟩, ⟨?_, by show 0 ≤ 60000; decide, by show 0 ≤ 60000; decide⟩, ⟨by show _ ≤ u0; omega, by show u0 ≤ _; omega⟩, ⟨by show _ ≤ u1; omega, by show u1 ≤ _; omega⟩, by show 0 < (widthN told 8).length; rw [widthN_length]; decide⟩
  have := widthN_size told 8
  show sizeN (widthN told 8) ≤ 60000; omega

/-- Rows of bytes laid one behind the other. -/
def litsW : World → List (Array Value) → World
  | w, [] => w
  | w, C :: r => litsW (w.alloc (.cells C 5)) r
theorem litsW_bel : ∀ (Cs : List (Array Value)) (w : World), Below w.heap.size w (litsW w Cs)
  | [], w => Below.refl _ _
  | C :: r, w => bel_next ((Below.refl _ _).alloc (Nat.le_refl _) _) (litsW_bel r _)
theorem litsW_at : ∀ (Cs : List (Array Value)) (w : World) (i : Nat) (C : Array Value), Cs[i]? = some C → (litsW w Cs).heap[w.heap.size + i]? = some (.cells C 5 (0, 0))
  | [], w, i, C, h => by simp at h
  | D :: r, w, 0, C, h => by
    have e : D = C := by simpa using h
    subst e
    rw [litsW, Nat.add_zero]
    exact blk_below (heap_alloc_new w _) (litsW_bel r _)
  | D :: r, w, i + 1, C, h => by
    have := litsW_at r (w.alloc (.cells D 5)) i C (by simpa using h)
    rw [show (w.alloc (.cells D 5)).heap.size = w.heap.size + 1 by simp] at this
    rw [litsW, show w.heap.size + (i + 1) = w.heap.size + 1 + i by omega]
    exact this

theorem textV_at {w : World} {b : Nat} {C : Array Value} {s : ByteArray} (hb : w.heap[b]? = some (.cells C 5 (0, 0))) (hC : C.toList = cellsOfStr s) (hs : s.size ≤ 1000) : TextV w (.slice (some ⟨b, 0, none⟩) s.size s.size) s :=
  ⟨_, _, rfl, ⟨by rw [cellsOfStr_length]; omega, .inr ⟨b, s.size, C, rfl, Nat.zero_le _, hb, Nat.le_refl _, by unfold maxLen; omega, by rw [← Array.length_toList, hC, cellsOfStr_length]; omega, by rw [hC, List.take_of_length_le (by rw [cellsOfStr_length]; omega)]⟩⟩⟩

def endC : List (Array Value) := [#[.int .u8 14], #[.int .u8 139, .int .u8 22, .int .u8 14], #[.int .u8 139, .int .u8 4, .int .u8 14], #[.int .u8 139, .int .u8 139, .int .u8 21, .int .u8 14], #[.int .u8 139, .int .u8 139, .int .u8 1, .int .u8 14], #[.int .u8 139, .int .u8 139, .int .u8 19, .int .u8 0, .int .u8 14], #[.int .u8 19, .int .u8 14], #[.int .u8 139, .int .u8 139, .int .u8 23, .int .u8 139, .int .u8 22, .int .u8 14]]
theorem endC_cells : ∀ (i : Nat) (C : Array Value), endC[i]? = some C → C.toList = cellsOfStr (endB i)
  | 0, C, h => by cases h; kernel_rfl
  | 1, C, h => by cases h; kernel_rfl
  | 2, C, h => by cases h; kernel_rfl
  | 3, C, h => by cases h; kernel_rfl
  | 4, C, h => by cases h; kernel_rfl
  | 5, C, h => by cases h; kernel_rfl
  | 6, C, h => by cases h; kernel_rfl
  | 7, C, h => by cases h; kernel_rfl
  | n + 8, C, h => by simp [endC] at h

/-- The ends lie there. -/
def EndsW (w : World) (X : Nat) : Prop := ∀ i, i < 8 → ∃ v, w.cell? ⟨X, i, none⟩ = some v ∧ TextV w v (endB i)
theorem EndsW.below {w w' : World} {X : Nat} (h : EndsW w X) (hb : Below w.heap.size w w') : EndsW w' X := fun i hi => by
  obtain ⟨v, h1, h2⟩ := h i hi
  exact ⟨v, keepC hb h1, h2.below hb⟩

theorem ends_laid (w : World) (cs : Array Value) (hcs : ∀ i, i < 8 → cs[i]? = some (.slice (some ⟨w.heap.size + i, 0, none⟩) (endB i).size (endB i).size)) : EndsW ((litsW w endC).alloc (.cells cs 23)) (litsW w endC).heap.size := by
  intro i hi
  obtain ⟨C, hC⟩ : ∃ C, endC[i]? = some C := ⟨_, List.getElem?_eq_getElem (by show i < 8; exact hi)⟩
  refine ⟨_, blk_cell (heap_alloc_new _ _) i _ (hcs i hi), TextV.below (textV_at (litsW_at endC w i C hC) (endC_cells i C hC) ?_) ((Below.refl _ _).alloc (Nat.le_refl _) _)⟩
  have := endB_size i; omega

end Go.Proofs.Ytklenppldblbdaa
