/-
  What Root of package fixed and Root of the document's answer give, as contracts over the translated program: the greatest r whose square is not above n.
-/
import Derived.Test.YtigegagmnodmaaaAlive
namespace Go.Proofs.Ytigegagmnodmaaa
open Go.RowKit Go.Lib
set_option linter.unusedSimpArgs false
set_option linter.unusedVariables false

/-- r is the root of n. -/
def IsRoot (r n : Nat) : Prop := r * r ≤ n ∧ n < (r + 1) * (r + 1)

theorem IsRoot.le {r n : Nat} (h : IsRoot r n) (t : Nat) : t * t ≤ n ↔ t ≤ r := by
  constructor
  · intro ht
    rcases Nat.lt_or_ge r t with h1 | h1
    · have := Nat.mul_le_mul (Nat.succ_le_of_lt h1) (Nat.succ_le_of_lt h1)
      have h2 := h.2
      simp only [Nat.succ_eq_add_one] at this
      omega
    · exact h1
  · intro ht
    exact Nat.le_trans (Nat.mul_le_mul ht ht) h.1

theorem IsRoot.lt {r n : Nat} (h : IsRoot r n) (hn : n ≤ 9223372036854775807) : r ≤ 3037000499 := by
  rcases Nat.lt_or_ge 3037000499 r with h1 | h1
  · have := Nat.mul_le_mul (Nat.succ_le_of_lt h1) (Nat.succ_le_of_lt h1)
    have := h.1
    omega
  · exact h1

theorem root_is (n : Nat) : ∃ r, IsRoot r n := by
  induction n with
  | zero => exact ⟨0, by decide, by decide⟩
  | succ n ih =>
    obtain ⟨r, h1, h2⟩ := ih
    by_cases h : n + 1 < (r + 1) * (r + 1)
    · exact ⟨r, by omega, h⟩
    · refine ⟨r + 1, by omega, ?_⟩
      have : (r + 1 + 1) * (r + 1 + 1) = (r + 1) * (r + 1) + 2 * r + 3 := by
        simp only [Nat.add_mul, Nat.mul_add]; omega
      omega

/-- What is known at the head of a round: s is r's part above the bit b. -/
def RootRel (r s b : Nat) : Prop := (b = 0 ∧ s = r) ∨ (∃ k, b = 2 ^ k ∧ s ≤ r ∧ r < s + 2 * b ∧ s + 2 * b ≤ 4294967296)

theorem RootRel.start {r : Nat} (h : r ≤ 3037000499) : RootRel r 0 2147483648 := .inr ⟨31, by decide, by omega, by omega, by decide⟩
theorem RootRel.bound {r s b : Nat} (h : RootRel r s b) (hb : 0 < b) : s + b ≤ 4294967295 := by
  rcases h with ⟨rfl, _⟩ | ⟨k, _, _, _, h⟩ <;> omega
theorem RootRel.up {r s b : Nat} (h : RootRel r s b) (hb : 0 < b) (hs : s + b ≤ r) : RootRel r (s + b) (b / 2) := by
  rcases h with ⟨rfl, _⟩ | ⟨k, e, h1, h2, h3⟩
  · omega
  · cases k with
    | zero => left; simp at e; omega
    | succ k =>
      have e2 : b = 2 * 2 ^ k := by rw [e, Nat.pow_succ, Nat.mul_comm]
      exact .inr ⟨k, by omega, by omega, by omega, by omega⟩
theorem RootRel.stay {r s b : Nat} (h : RootRel r s b) (hb : 0 < b) (hs : ¬ s + b ≤ r) : RootRel r s (b / 2) := by
  rcases h with ⟨rfl, _⟩ | ⟨k, e, h1, h2, h3⟩
  · omega
  · cases k with
    | zero => left; simp at e; omega
    | succ k =>
      have e2 : b = 2 * 2 ^ k := by rw [e, Nat.pow_succ, Nat.mul_comm]
      exact .inr ⟨k, by omega, by omega, by omega, by omega⟩
theorem RootRel.done {r s : Nat} (h : RootRel r s 0) : s = r := by
  rcases h with ⟨_, h⟩ | ⟨k, e, _⟩
  · exact h
  · have := Nat.two_pow_pos k; omega

set_option maxHeartbeats 1000000 in
theorem root_any (n r : Nat) (w : World) (hn : n ≤ 9223372036854775807) (HR : Hid (IsRoot r n)) :
    Calls Try.prog 21 #[.int .i64 (n : Int)] w fun e w' => e = .returned (.int .i64 (r : Int)) ∧ w = w' := by
  have hr := HR.out.lt hn
  go_enter Try.func21, Try.ntmps21
  go_wp2
  go_loop [3, 4] (fun x y => ∃ s b : Nat, x = .int .u64 s ∧ y = .int .u64 b ∧ RootRel r s b) (fun _ y => (intOf y).toNat)
  case atStart => exact ⟨0, 2147483648, rfl, rfl, RootRel.start hr⟩
  case round =>
    obtain ⟨s, b, rfl, rfl, h⟩ := hrel
    have HREL := Lib.hid h
    clear h
    by_cases hb : 0 < b
    · have hbd := HREL.out.bound hb
      obtain ⟨t, HT⟩ : ∃ t, Hid (s + b = t) := ⟨_, rfl⟩
      have ht : t ≤ 4294967295 := by have := HT.out; omega
      have hm : t * t ≤ 4294967295 * 4294967295 := Nat.mul_le_mul ht ht
      have HM : IntKind.u64.wrap ((t : Int) * (t : Int)) = ((t * t : Nat) : Int) := by rw [← Int.natCast_mul, u64_small (by omega)]
      clear hm
      go_upto_region 8 with (fail)
      rw [show (s : Int) + (b : Int) = (t : Int) from by have := HT.out; omega]
      by_cases hle : t * t ≤ n
      · go_wp2
        go_round
        case rel => exact ⟨t, b / 2, by go_num, by go_num, by rw [← HT.out]; exact HREL.out.up hb (by rw [HT.out]; exact (HR.out.le t).1 hle)⟩
        case measure => simp [intOf]; omega
      · go_wp2
        go_round
        case rel => exact ⟨s, b / 2, by go_num, by go_num, HREL.out.stay hb (by rw [HT.out]; exact fun x => hle ((HR.out.le t).2 x))⟩
        case measure => simp [intOf]; omega
    · obtain rfl : b = 0 := by omega
      have hs := HREL.out.done
      subst hs
      go_wp2
      go_ret
      exact ⟨ret_int rfl, rfl⟩

set_option maxHeartbeats 400000 in
theorem root_neg (n : Int) (w : World) (hn : n < 0) :
    Calls Try.prog 21 #[.int .i64 n] w fun e w' => e = .returned (.int .i64 0) ∧ w = w' := by
  go_enter Try.func21, Try.ntmps21
  go_wp2
  go_ret
  exact ⟨rfl, rfl⟩

set_option maxHeartbeats 400000 in
theorem refroot_neg (n : Int) (w : World) (hn : n < 0) :
    Calls Try.prog 22 #[.int .i64 n] w fun e w' => e = .returned (.int .i64 0) ∧ w = w' := by
  go_enter Try.func22, Try.ntmps22
  go_wp2
  go_ret
  exact ⟨rfl, rfl⟩

theorem wrap64_div {n m q : Nat} (hn : n ≤ 9223372036854775807) (h : n / m = q) : wrap64 ((n : Int) / (m : Int)) = (q : Int) := by
  rw [← Int.natCast_ediv, h]
  have : q ≤ n := by rw [← h]; exact Nat.div_le_self _ _
  unfold wrap64
  omega

set_option maxHeartbeats 1000000 in
theorem refroot_any (n r : Nat) (w : World) (hn : n ≤ 9223372036854775807) (HR : Hid (IsRoot r n)) :
    Calls Try.prog 22 #[.int .i64 (n : Int)] w fun e w' => e = .returned (.int .i64 (r : Int)) ∧ w = w' := by
  have hr := HR.out.lt hn
  have hn0 : ¬ (n : Int) < 0 := by omega
  go_enter Try.func22, Try.ntmps22
  go_wp2
  go_loop [3, 4] (fun x y => ∃ lo hi : Nat, x = .int .i64 lo ∧ y = .int .i64 hi ∧ lo ≤ r ∧ r < hi ∧ hi ≤ 3037000500) (fun x y => (intOf y - intOf x).toNat)
  case atStart => exact ⟨0, 3037000500, rfl, rfl, by omega, by omega, by omega⟩
  case round =>
    obtain ⟨lo, hi, rfl, rfl, h1, h2, h3⟩ := hrel
    by_cases hb : (1 : Int) < (hi : Int) - (lo : Int)
    · obtain ⟨m, HM⟩ : ∃ m : Nat, Hid ((lo + hi) / 2 = m) := ⟨_, rfl⟩
      have hm1 : 1 ≤ m := by have := HM.out; omega
      have hm2 : lo < m := by have := HM.out; omega
      have hm3 : m < hi := by have := HM.out; omega
      obtain ⟨q, HQ0⟩ : ∃ q : Nat, Hid (n / m = q) := ⟨_, rfl⟩
      have HQ : Hid (m ≤ q ↔ m ≤ r) := by rw [Hid, ← HQ0.out, Nat.le_div_iff_mul_le (by omega)]; exact HR.out.le m
      have HW := wrap64_div hn HQ0.out
      go_upto_region 6 with (fail)
      rw [show ((lo : Int) + (hi : Int)) / 2 = (m : Int) from by have := HM.out; omega]
      by_cases hle : m ≤ q
      · go_wp2
        go_round
        case rel => exact ⟨m, hi, rfl, rfl, HQ.out.1 hle, by omega, by omega⟩
        case measure => simp [intOf]; omega
      · go_wp2
        go_round
        case rel => exact ⟨lo, m, rfl, rfl, by omega, by have := HQ.out; omega, by omega⟩
        case measure => simp [intOf]; omega
    · obtain rfl : lo = r := by omega
      go_wp2
      go_ret
      exact ⟨ret_int rfl, rfl⟩

end Go.Proofs.Ytigegagmnodmaaa
