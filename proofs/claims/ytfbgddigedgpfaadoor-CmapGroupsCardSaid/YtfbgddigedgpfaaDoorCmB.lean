/-
  What the functions of package cmap answer that read the rows of a table and choose one: readRows, firstOf, chosen; and subtable.
-/
import Derived.Test.YtfbgddigedgpfaaDoorCmA
import Derived.Laws.Rows
namespace Go.Proofs.YtfbgddigedgpfaaDoor
open Go.RowKit Go.PlainAid
set_option linter.unusedSimpArgs false
set_option linter.unusedVariables false

/-- The place that the first row of a kind tells: n rows from the j-th on. -/
def firstR (f : Nat → Int) (p q : Int) : Nat → Nat → Option Int
  | 0, _ => none
  | n + 1, j => if f (3 * j) = p ∧ f (3 * j + 1) = q then some (f (3 * j + 2)) else firstR f p q n (j + 1)
/-- An answer of a number and whether it is there. -/
def optV : Option Int → Value
  | none => .tuple #[.int .i64 0, .bool false]
  | some x => .tuple #[.int .i64 x, .bool true]
/-- A slice of rows. -/
def IsRw (w : World) (a : Option Addr) (k : Nat) (f : Nat → Int) : Prop := k = 0 ∨ ∃ g, a = some ⟨g, 0, none⟩ ∧ FlatAt w g 76 (partL f (3 * k) (3 * k))
theorem IsRw.below {w w' : World} {a : Option Addr} {k : Nat} {f : Nat → Int} (h : IsRw w a k f) (hb : Below w.heap.size w w') : IsRw w' a k f := by
  rcases h with h | ⟨g, h1, h2⟩
  · exact .inl h
  · exact .inr ⟨g, h1, h2.below hb⟩
theorem IsRw.cells {w : World} {a : Option Addr} {k : Nat} {f : Nat → Int} (h : IsRw w a k f) {m : Nat} (hm : m < k) : ∃ g, a = some ⟨g, 0, none⟩ ∧ w.cell? ⟨g, m * 3, none⟩ = some (.int .i64 (f (3 * m))) ∧ w.cell? ⟨g, m * 3 + 1, none⟩ = some (.int .i64 (f (3 * m + 1))) ∧ w.cell? ⟨g, m * 3 + 2, none⟩ = some (.int .i64 (f (3 * m + 2))) := by
  rcases h with h | ⟨g, h1, h2⟩
  · omega
  · refine ⟨g, h1, ?_, ?_, ?_⟩
    · rw [Nat.mul_comm m 3]; exact h2.at (by omega) (Nat.le_refl _)
    · rw [Nat.mul_comm m 3]; exact h2.at (by omega) (Nat.le_refl _)
    · rw [Nat.mul_comm m 3]; exact h2.at (by omega) (Nat.le_refl _)

set_option maxHeartbeats 1000000 in
theorem firstOf_c (a : Option Addr) (k : Nat) (f : Nat → Int) (p q : Int) (r : Option Int) (w : World) (hs : IsRw w a k f) (hk : k ≤ 1048577) (HX : Hid (firstR f p q k 0 = r)) :
    Calls Tryd.prog 22 #[.slice a k k, .agg #[.int .i64 p, .int .i64 q]] w fun e w' => e = .returned (optV r) ∧ Below w.heap.size w w' := by
  have HS := Lib.hid hs
  have HK := Lib.hid hk
  have HB0 := Lib.hid ((Below.refl w.heap.size w).alloc (Nat.le_refl _) (.cells #[.int .i64 p, .int .i64 q] 65))
  clear hs hk
  go_enter Tryd.func22, Tryd.ntmps22
  go_wp2_with fail
  go_loopw [10] (fun i wr => ∃ j : Nat, j ≤ k ∧ i = .int .i64 j ∧ Hid (firstR f p q (k - j) j = r) ∧ Hid (Below w.heap.size w wr ∧ w.heap.size < wr.heap.size ∧ wr.cell? ⟨w.heap.size, 0, none⟩ = some (.int .i64 p) ∧ wr.cell? ⟨w.heap.size, 1, none⟩ = some (.int .i64 q))) (fun i _ => k - (intOf i).toNat)
  case atStart => exact ⟨0, Nat.zero_le _, rfl, HX, HB0.out, by simp [go_sem], by simp [go_sem], by simp [go_sem]⟩
  case round =>
    clear HB0
    obtain ⟨j, hj, rfl, HF, HW⟩ := hrel
    by_cases hlt : j < k
    · have hlt' : (j : Int) < (k : Int) := by omega
      obtain ⟨g, rfl, c0, c1, c2⟩ := (HS.out.below HW.out.1).cells hlt
      have b0 := HW.out.2.2.1
      have b1 := HW.out.2.2.2
      obtain ⟨x0, HX0⟩ : ∃ x0, Hid (f (3 * j) = x0) := ⟨_, rfl⟩
      obtain ⟨x1, HX1⟩ : ∃ x1, Hid (f (3 * j + 1) = x1) := ⟨_, rfl⟩
      obtain ⟨x2, HX2⟩ : ∃ x2, Hid (f (3 * j + 2) = x2) := ⟨_, rfl⟩
      rw [HX0.out] at c0
      rw [HX1.out] at c1
      rw [HX2.out] at c2
      have b0' := keepC ((Below.refl wr.heap.size wr).alloc (Nat.le_refl _) (.cells #[.int .i64 x0, .int .i64 x1, .int .i64 x2] 76)) b0
      have b1' := keepC ((Below.refl wr.heap.size wr).alloc (Nat.le_refl _) (.cells #[.int .i64 x0, .int .i64 x1, .int .i64 x2] 76)) b1
      have HW1 : Hid (Below w.heap.size w (wr.alloc (.cells #[.int .i64 x0, .int .i64 x1, .int .i64 x2] 76)) ∧ w.heap.size < (wr.alloc (.cells #[.int .i64 x0, .int .i64 x1, .int .i64 x2] 76)).heap.size) :=
        ⟨HW.out.1.alloc HW.out.1.size _, by have := HW.out.2.1; simp [go_sem]; omega⟩
      have HX7 : Hid (wrap64 ((j : Int) + 1) = ((j + 1 : Nat) : Int)) := by have := HK.out; unfold Hid wrap64; omega
      have HST : Hid ((if x0 = p ∧ x1 = q then some x2 else firstR f p q (k - (j + 1)) (j + 1)) = r) := by
        have := HF.out
        rw [show k - j = (k - (j + 1)) + 1 by omega, firstR, HX0.out, HX1.out, HX2.out] at this
        exact this
      clear HW HF hlt hj
      by_cases h : x0 = p ∧ x1 = q
      · have HE : Hid (some x2 = r) := by have := HST.out; unfold Hid; rwa [if_pos h] at this
        obtain ⟨rfl, rfl⟩ := h
        go_wp2_with fail
        go_ret2
        rw [← HE.out]
        exact ⟨rfl, HW1.out.1⟩
      · have HN : Hid (firstR f p q (k - (j + 1)) (j + 1) = r) := by have := HST.out; unfold Hid; rwa [if_neg h] at this
        by_cases h0 : x0 = p
        · have h1 : ¬ x1 = q := fun e => h ⟨h0, e⟩
          subst h0
          clear h HST
          go_wp2_with fail
          go_roundw
          case rel => exact ⟨j + 1, by omega, by rw [HX7.out], HN, HW1.out.1, HW1.out.2, b0', b1'⟩
          case measure => rw [HX7.out]; simp only [intOf]; omega
        · clear h HST
          go_wp2_with fail
          go_roundw
          case rel => exact ⟨j + 1, by omega, by rw [HX7.out], HN, HW1.out.1, HW1.out.2, b0', b1'⟩
          case measure => rw [HX7.out]; simp only [intOf]; omega
    · have hlt' : ¬ (j : Int) < (k : Int) := by omega
      have HE : Hid (none = r) := by have := HF.out; rw [show k - j = 0 by omega, firstR] at this; exact this
      go_wp2_with fail
      go_ret2
      rw [← HE.out]
      exact ⟨rfl, HW.out.1⟩

end Go.Proofs.YtfbgddigedgpfaaDoor
