/-
  What Under and Size of the document's answer give, as contracts over the translated program: the order of two long numbers; a number's digits.
-/
import Derived.Test.YthjhekmlhmljlaaFxLow
import Derived.Test.YthjhekmlhmljlaaDig
import Derived.Deep.DeepCutAuto
namespace Go.Proofs.Ythjhekmlhmljlaa
open Go.RowKit Go.Lib
set_option linter.unusedSimpArgs false
set_option linter.unusedVariables false

/-- A long number as a value. -/
def longV (m : Nat) : Value := .agg #[.int .i64 (dig m 0 : Nat), .int .i64 (dig m 1 : Nat), .int .i64 (dig m 2 : Nat), .int .i64 (dig m 3 : Nat), .int .i64 (dig m 4 : Nat), .int .i64 (dig m 5 : Nat), .int .i64 (dig m 6 : Nat), .int .i64 (dig m 7 : Nat), .int .i64 (dig m 8 : Nat), .int .i64 (dig m 9 : Nat)]
/-- A long number in a block. -/
def LongAt (w : World) (b m : Nat) : Prop := ∀ k, k < 10 → w.cell? ⟨b, k, none⟩ = some (.int .i64 (dig m k : Nat))

theorem ten {P : Nat → Prop} (h0 : P 0) (h1 : P 1) (h2 : P 2) (h3 : P 3) (h4 : P 4) (h5 : P 5) (h6 : P 6) (h7 : P 7) (h8 : P 8) (h9 : P 9) (k : Nat) (hk : k < 10) : P k := by
  match k, hk with
  | 0, _ => exact h0
  | 1, _ => exact h1
  | 2, _ => exact h2
  | 3, _ => exact h3
  | 4, _ => exact h4
  | 5, _ => exact h5
  | 6, _ => exact h6
  | 7, _ => exact h7
  | 8, _ => exact h8
  | 9, _ => exact h9
theorem longAt_new (w : World) (m : Nat) (t : TypeId) : LongAt (w.alloc (.cells #[.int .i64 (dig m 0 : Nat), .int .i64 (dig m 1 : Nat), .int .i64 (dig m 2 : Nat), .int .i64 (dig m 3 : Nat), .int .i64 (dig m 4 : Nat), .int .i64 (dig m 5 : Nat), .int .i64 (dig m 6 : Nat), .int .i64 (dig m 7 : Nat), .int .i64 (dig m 8 : Nat), .int .i64 (dig m 9 : Nat)] t)) w.heap.size m := by
  intro k hk
  refine ten (P := fun k => World.cell? _ ⟨w.heap.size, k, none⟩ = some (.int .i64 (dig m k : Nat))) ?_ ?_ ?_ ?_ ?_ ?_ ?_ ?_ ?_ ?_ k hk <;> simp [go_sem]
theorem LongAt.alloc {w : World} {b m : Nat} (h : LongAt w b m) (hb : b < w.heap.size) (o : Obj) : LongAt (w.alloc o) b m := by
  intro k hk
  have := ((Below.refl w.heap.size w).alloc (Nat.le_refl _) o).cell (p := ⟨b, k, none⟩) hb
  rw [this]; exact h k hk
theorem LongAt.below {w w' : World} {b m B : Nat} (h : LongAt w b m) (hw : Below B w w') (hb : b < B) : LongAt w' b m := by
  intro k hk
  rw [hw.cell (p := ⟨b, k, none⟩) hb]; exact h k hk

set_option maxRecDepth 100000 in
set_option maxHeartbeats 1000000 in
theorem under_any (x y : Nat) (w : World) (hx : x < 65536 ^ 10) (hy : y < 65536 ^ 10) :
    Calls Try.prog 64 #[longV x, longV y] w fun e w' => e = .returned (.bool (decide (x < y))) ∧ Below w.heap.size w w' := by
  have HX := Lib.hid hx
  have HY := Lib.hid hy
  clear hx hy
  unfold longV
  go_enter Try.func64, Try.ntmps64
  go_wp2
  have LX := Lib.hid ((longAt_new w x 105).alloc (by simp) (.cells #[.int .i64 (dig y 0 : Nat), .int .i64 (dig y 1 : Nat), .int .i64 (dig y 2 : Nat), .int .i64 (dig y 3 : Nat), .int .i64 (dig y 4 : Nat), .int .i64 (dig y 5 : Nat), .int .i64 (dig y 6 : Nat), .int .i64 (dig y 7 : Nat), .int .i64 (dig y 8 : Nat), .int .i64 (dig y 9 : Nat)] 105))
  have LY := Lib.hid (longAt_new (w.alloc (.cells #[.int .i64 (dig x 0 : Nat), .int .i64 (dig x 1 : Nat), .int .i64 (dig x 2 : Nat), .int .i64 (dig x 3 : Nat), .int .i64 (dig x 4 : Nat), .int .i64 (dig x 5 : Nat), .int .i64 (dig x 6 : Nat), .int .i64 (dig x 7 : Nat), .int .i64 (dig x 8 : Nat), .int .i64 (dig x 9 : Nat)] 105)) y 105)
  have HB := Lib.hid (((Below.refl w.heap.size w).alloc (Nat.le_refl _) (.cells #[.int .i64 (dig x 0 : Nat), .int .i64 (dig x 1 : Nat), .int .i64 (dig x 2 : Nat), .int .i64 (dig x 3 : Nat), .int .i64 (dig x 4 : Nat), .int .i64 (dig x 5 : Nat), .int .i64 (dig x 6 : Nat), .int .i64 (dig x 7 : Nat), .int .i64 (dig x 8 : Nat), .int .i64 (dig x 9 : Nat)] 105)).alloc (by simp) (.cells #[.int .i64 (dig y 0 : Nat), .int .i64 (dig y 1 : Nat), .int .i64 (dig y 2 : Nat), .int .i64 (dig y 3 : Nat), .int .i64 (dig y 4 : Nat), .int .i64 (dig y 5 : Nat), .int .i64 (dig y 6 : Nat), .int .i64 (dig y 7 : Nat), .int .i64 (dig y 8 : Nat), .int .i64 (dig y 9 : Nat)] 105))
  rw [show (w.alloc (.cells #[.int .i64 (dig x 0 : Nat), .int .i64 (dig x 1 : Nat), .int .i64 (dig x 2 : Nat), .int .i64 (dig x 3 : Nat), .int .i64 (dig x 4 : Nat), .int .i64 (dig x 5 : Nat), .int .i64 (dig x 6 : Nat), .int .i64 (dig x 7 : Nat), .int .i64 (dig x 8 : Nat), .int .i64 (dig x 9 : Nat)] 105)).heap.size = w.heap.size + 1 by simp] at LY
  generalize (w.alloc _).alloc _ = W at *
  go_loopw [5] (fun i wr => ∃ n, wr = W.drewN n ∧ ((∃ k : Nat, k < 10 ∧ i = .int .i64 k ∧ x / 65536 ^ (k + 1) = y / 65536 ^ (k + 1)) ∨ (i = .int .i64 (-1) ∧ x = y))) (fun i _ => (intOf i + 1).toNat)
  case atStart => exact ⟨0, rfl, .inl ⟨9, by decide, rfl, by rw [Nat.div_eq_of_lt HX.out, Nat.div_eq_of_lt HY.out]⟩⟩
  case round =>
    obtain ⟨n, rfl, hr⟩ := hrel
    rcases hr with ⟨k, hk, rfl, hs⟩ | ⟨rfl, he⟩
    · have HS := Lib.hid hs
      clear hs
      have cx := LX.out k hk
      have cy := LY.out k hk
      have bx := dig_lt x k
      have by' := dig_lt y k
      have HLT : Hid (dig x k < dig y k → x < y) := lt_of_dig HS.out
      have HGT : Hid (dig y k < dig x k → y < x) := lt_of_dig HS.out.symm
      have HEQ : Hid (dig x k = dig y k → x / 65536 ^ k = y / 65536 ^ k) := high_same HS.out
      generalize dig x k = a at *
      generalize dig y k = b at *
      have h0 : (0 : Int) ≤ (k : Int) := by omega
      have h1 : (k : Int) < 10 := by omega
      by_cases hab : (a : Int) = (b : Int)
      · obtain rfl : a = b := by omega
        go_wp2
        go_quiet (fail)
        go_wp2
        go_roundw
        case rel =>
          refine ⟨_, rfl, ?_⟩
          cases k with
          | zero => exact .inr ⟨rfl, by have := HEQ.out (by simp); simpa using this⟩
          | succ k => exact .inl ⟨k, by omega, by go_num, HEQ.out (by simp)⟩
        case measure => simp [intOf]
      · have hne : ((a : Int) != (b : Int)) = true := by simp; omega
        have hnn : ¬ a = b := by omega
        go_wp2
        go_quiet (fail)
        go_wp2
        go_quiet (fail)
        go_wp2
        go_ret
        refine ⟨?_, by repeat (first | exact HB.out | apply below_drewN)⟩
        by_cases hlt : a < b
        · have := HLT.out hlt
          simp [this, hlt]
        · have := HGT.out (by omega)
          have h2 : ¬ x < y := by omega
          simp [h2, hlt]
    · go_wp2
      go_ret
      refine ⟨?_, by repeat (first | exact HB.out | apply below_drewN)⟩
      simp [he]
end Go.Proofs.Ythjhekmlhmljlaa
