/-
  What Less of package fixed and Less of the document's answer give, as contracts over the translated program: the exact order of two quotients with divisors above 0, else false.
-/
import Derived.Test.YtigegagmnodmaaaSize
import Derived.Test.YtigegagmnodmaaaTimes
namespace Go.Proofs.Ytigegagmnodmaaa
open Go.RowKit Go.Lib
set_option linter.unusedSimpArgs false
set_option linter.unusedVariables false

/-- The order of sizes in two halves. -/
def halfLt (h1 l1 h2 l2 : Nat) : Bool := decide (h1 < h2) || (decide (h1 = h2) && decide (l1 < l2))
def wideLt (n1 : Bool) (h1 l1 : Nat) (n2 : Bool) (h2 l2 : Nat) : Bool := if (n1 != n2) = true then n1 else if n1 = true then halfLt h2 l2 h1 l1 else halfLt h1 l1 h2 l2

theorem ret_bool {a b : Bool} (h : a = b) : Ending.returned (.bool a) = .returned (.bool b) := by rw [h]

set_option maxHeartbeats 2000000 in
theorem wideless_any (n1 n2 : Bool) (h1 l1 h2 l2 : Nat) (w : World) :
    Calls Try.prog 34 #[.agg #[.bool n1, .int .u64 h1, .int .u64 l1], .agg #[.bool n2, .int .u64 h2, .int .u64 l2]] w fun e w' => e = .returned (.bool (wideLt n1 h1 l1 n2 h2 l2)) ∧ Below w.heap.size w w' := by
  cases n1
  · cases n2
    · by_cases hh : h1 < h2
      · have HF : Hid (wideLt false h1 l1 false h2 l2 = true) := by simp [Hid, wideLt, halfLt, hh]
        go_enter Try.func34, Try.ntmps34
        go_wp2
        go_ret
        rw [HF.out]
        exact ⟨rfl, ((Below.refl _ _).alloc (Nat.le_refl _) _).alloc (by simp) _⟩
      · by_cases he : h1 = h2
        · subst he
          have HF : Hid (wideLt false h1 l1 false h1 l2 = decide (l1 < l2)) := by simp [Hid, wideLt, halfLt]
          go_enter Try.func34, Try.ntmps34
          go_wp2
          go_ret
          rw [HF.out]
          exact ⟨rfl, ((Below.refl _ _).alloc (Nat.le_refl _) _).alloc (by simp) _⟩
        · have HF : Hid (wideLt false h1 l1 false h2 l2 = false) := by simp [Hid, wideLt, halfLt, hh, he]
          go_enter Try.func34, Try.ntmps34
          go_wp2
          go_ret
          rw [HF.out]
          exact ⟨rfl, ((Below.refl _ _).alloc (Nat.le_refl _) _).alloc (by simp) _⟩
    · have HF : Hid (wideLt false h1 l1 true h2 l2 = false) := by simp [Hid, wideLt]
      go_enter Try.func34, Try.ntmps34
      go_wp2
      go_ret
      rw [HF.out]
      exact ⟨rfl, ((Below.refl _ _).alloc (Nat.le_refl _) _).alloc (by simp) _⟩
  · cases n2
    · have HF : Hid (wideLt true h1 l1 false h2 l2 = true) := by simp [Hid, wideLt]
      go_enter Try.func34, Try.ntmps34
      go_wp2
      go_ret
      rw [HF.out]
      exact ⟨rfl, ((Below.refl _ _).alloc (Nat.le_refl _) _).alloc (by simp) _⟩
    · by_cases hh : h2 < h1
      · have HF : Hid (wideLt true h1 l1 true h2 l2 = true) := by simp [Hid, wideLt, halfLt, hh]
        go_enter Try.func34, Try.ntmps34
        go_wp2
        go_ret
        rw [HF.out]
        exact ⟨rfl, ((Below.refl _ _).alloc (Nat.le_refl _) _).alloc (by simp) _⟩
      · by_cases he : h2 = h1
        · subst he
          have HF : Hid (wideLt true h2 l1 true h2 l2 = decide (l2 < l1)) := by simp [Hid, wideLt, halfLt]
          go_enter Try.func34, Try.ntmps34
          go_wp2
          go_ret
          rw [HF.out]
          exact ⟨rfl, ((Below.refl _ _).alloc (Nat.le_refl _) _).alloc (by simp) _⟩
        · have HF : Hid (wideLt true h1 l1 true h2 l2 = false) := by simp [Hid, wideLt, halfLt, hh, he]
          go_enter Try.func34, Try.ntmps34
          go_wp2
          go_ret
          rw [HF.out]
          exact ⟨rfl, ((Below.refl _ _).alloc (Nat.le_refl _) _).alloc (by simp) _⟩

/-- Is a by b less than c by d? -/
def lessQ (a b c d : Int) : Bool := decide (0 < b ∧ 0 < d ∧ a * d < c * b)

theorem halfLt_eq (m k : Nat) : halfLt (m / 18446744073709551616) (m % 18446744073709551616) (k / 18446744073709551616) (k % 18446744073709551616) = decide (m < k) := by
  unfold halfLt
  rw [Bool.eq_iff_iff]
  simp only [Bool.or_eq_true, Bool.and_eq_true, decide_eq_true_eq]
  omega
theorem prodNeg_eq (a b : Int) : prodNeg a b = decide (a * b < 0) := by
  unfold prodNeg
  by_cases ha : a < 0
  · by_cases hb : b < 0
    · have := Int.mul_pos_of_neg_of_neg ha hb
      simp [ha, hb]; omega
    · by_cases hb0 : b = 0
      · subst hb0; simp
      · have := Int.mul_neg_of_neg_of_pos ha (by omega : 0 < b)
        simp [ha, hb, this]; omega
  · by_cases hb : b < 0
    · by_cases ha0 : a = 0
      · subst ha0; simp
      · have := Int.mul_neg_of_pos_of_neg (by omega : 0 < a) hb
        simp [ha, hb, this]; omega
    · have := Int.mul_nonneg (by omega : 0 ≤ a) (by omega : 0 ≤ b)
      simp [ha, hb]; omega
theorem wideLt_eq (a b c d : Int) : wideLt (prodNeg a b) (a.natAbs * b.natAbs / 18446744073709551616) (a.natAbs * b.natAbs % 18446744073709551616) (prodNeg c d) (c.natAbs * d.natAbs / 18446744073709551616) (c.natAbs * d.natAbs % 18446744073709551616) = decide (a * b < c * d) := by
  unfold wideLt
  rw [halfLt_eq, halfLt_eq, prodNeg_eq, prodNeg_eq, ← Int.natAbs_mul, ← Int.natAbs_mul]
  generalize a * b = x
  generalize c * d = y
  by_cases hx : x < 0 <;> by_cases hy : y < 0 <;> simp [hx, hy] <;> omega

end Go.Proofs.Ytigegagmnodmaaa
