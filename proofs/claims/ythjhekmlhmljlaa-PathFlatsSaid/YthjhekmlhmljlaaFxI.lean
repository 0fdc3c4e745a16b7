/-
  Integers of 64 bits. No function of the program.
-/
import Derived.Test.YthjhekmlhmljlaaFxBase
namespace Go.Proofs.Ythjhekmlhmljlaa
open Go.RowKit Go.Lib
set_option linter.unusedSimpArgs false
set_option linter.unusedVariables false

/-- An integer of 64 bits. -/
def I64 (n : Int) : Prop := -9223372036854775808 ≤ n ∧ n ≤ 9223372036854775807

theorem natAbs_small {n : Int} (h : I64 n) : n.natAbs < 65536 ^ 5 := by have := h.1; have := h.2; omega

theorem mul_small {x y : Nat} (hx : x < 65536 ^ 5) (hy : y < 65536 ^ 5) : x * y < 65536 ^ 10 := by
  have := Nat.mul_lt_mul'' hx hy
  rw [← Nat.pow_add] at this
  exact this

theorem wrap64_div {n m q : Nat} (hn : n ≤ 9223372036854775807) (h : n / m = q) : wrap64 ((n : Int) / (m : Int)) = (q : Int) := by
  rw [← Int.natCast_ediv, h]
  have : q ≤ n := by rw [← h]; exact Nat.div_le_self _ _
  unfold wrap64
  omega

/-- What is known at the head of a round: s is r's part above the bit b. -/
def RootRel (r s b : Nat) : Prop := (b = 0 ∧ s = r) ∨ (∃ k, b = 2 ^ k ∧ s ≤ r ∧ r < s + 2 * b ∧ s + 2 * b ≤ 4294967296)

theorem RootRel.start {r : Nat} (h : r ≤ 3037000499) : RootRel r 0 2147483648 := .inr ⟨31, by decide, by omega, by omega, by decide⟩
theorem RootRel.bound {r s b : Nat} (h : RootRel r s b) (hb : 0 < b) : s + b ≤ 4294967295 := by
  rcases h with ⟨rfl, _⟩ | ⟨k, _, _, _, h⟩ <;> omega
theorem RootRel.up {r s b : Nat} (h : RootRel r s b) (hb : 0 < b) (hs : s + b ≤ r) : RootRel r (s + b) (b / 2) := by
  rcases h with ⟨rfl, _⟩ | ⟨k, e, h1, h2, h3⟩
  · omega
  · cases k with
    | zero => left; simp at e; omega
    | succ k =>
      have e2 : b = 2 * 2 ^ k := by rw [e, Nat.pow_succ, Nat.mul_comm]
      exact .inr ⟨k, by omega, by omega, by omega, by omega⟩
theorem RootRel.stay {r s b : Nat} (h : RootRel r s b) (hb : 0 < b) (hs : ¬ s + b ≤ r) : RootRel r s (b / 2) := by
  rcases h with ⟨rfl, _⟩ | ⟨k, e, h1, h2, h3⟩
  · omega
  · cases k with
    | zero => left; simp at e; omega
    | succ k =>
      have e2 : b = 2 * 2 ^ k := by rw [e, Nat.pow_succ, Nat.mul_comm]
      exact .inr ⟨k, by omega, by omega, by omega, by omega⟩
theorem RootRel.done {r s : Nat} (h : RootRel r s 0) : s = r := by
  rcases h with ⟨_, h⟩ | ⟨k, e, _⟩
  · exact h
  · have := Nat.two_pow_pos k; omega

end Go.Proofs.Ythjhekmlhmljlaa
