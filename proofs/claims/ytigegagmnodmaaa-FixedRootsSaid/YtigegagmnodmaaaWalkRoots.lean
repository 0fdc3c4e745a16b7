/-
  The walk of FixedRoots: it answers true at every integer, in every world, and changes nothing that was there.
-/
import Derived.Test.YtigegagmnodmaaaRootC
import Derived.OpenShut
namespace Go.Proofs.Ytigegagmnodmaaa.fixedRoots
open Go.RowKit Go.Lib
set_option linter.unusedSimpArgs false
set_option linter.unusedVariables false

set_option maxHeartbeats 1000000 in
theorem walk_neg (n : Int) (w : World) (hn : n < 0) :
    Calls Try.prog 8 #[.int .i64 n] w fun e w' => e = .returned (.bool true) ∧ Below w.heap.size w w' := by
  have hn0 : n ≤ 0 := by omega
  go_enter Try.func8, Try.ntmps8
  go_wp2_with fail
  refine (alive_any _).mono ?_
  rintro e w1 ⟨rfl, hb⟩
  go_wp2_with fail
  refine (root_neg n _ hn).mono ?_
  rintro e w' ⟨rfl, rfl⟩
  go_wp2_with fail
  refine (refroot_neg n _ hn).mono ?_
  rintro e w' ⟨rfl, rfl⟩
  go_wp2_with fail
  go_ret
  exact ⟨rfl, hb⟩

set_option maxHeartbeats 1000000 in
theorem walk_pos (n r : Nat) (w : World) (hn : n ≤ 9223372036854775807) (HR : Hid (IsRoot r n)) :
    Calls Try.prog 8 #[.int .i64 (n : Int)] w fun e w' => e = .returned (.bool true) ∧ Below w.heap.size w w' := by
  have hrr : ((r : Int) != (r : Int)) = false := by simp
  have hr := HR.out.lt hn
  by_cases h0 : n = 0
  · have hr0 : r = 0 := by
      subst h0
      have := HR.out.1
      cases r with
      | zero => rfl
      | succ r => simp at this
    subst h0 hr0
    go_enter Try.func8, Try.ntmps8
    go_wp2_with fail
    refine (alive_any _).mono ?_
    rintro e w1 ⟨rfl, hb⟩
    go_wp2_with fail
    refine (root_any 0 0 _ hn HR).mono ?_
    rintro e w' ⟨rfl, rfl⟩
    go_wp2_with fail
    refine (refroot_any 0 0 _ hn HR).mono ?_
    rintro e w' ⟨rfl, rfl⟩
    go_wp2_with fail
    go_ret
    exact ⟨rfl, hb⟩
  · have hp : 0 < n := by omega
    have hr1 : 1 ≤ r := (HR.out.le 1).1 (by omega)
    obtain ⟨q, HQ0⟩ : ∃ q : Nat, Hid (n / r = q) := ⟨_, rfl⟩
    obtain ⟨p, HP0⟩ : ∃ p : Nat, Hid (n / (r + 1) = p) := ⟨_, rfl⟩
    have hq1 : r ≤ q := by rw [← HQ0.out, Nat.le_div_iff_mul_le (by omega)]; exact HR.out.1
    have hq2 : (p : Int) < (r : Int) + 1 := by
      have : n / (r + 1) < r + 1 := by rw [Nat.div_lt_iff_lt_mul (by omega)]; exact HR.out.2
      rw [HP0.out] at this
      omega
    have HW := wrap64_div hn HQ0.out
    have HW2 : wrap64 ((n : Int) / ((r : Int) + 1)) = (p : Int) := wrap64_div hn HP0.out
    clear h0
    go_enter Try.func8, Try.ntmps8
    go_wp2_with fail
    refine (alive_any _).mono ?_
    rintro e w1 ⟨rfl, hb⟩
    go_wp2_with fail
    refine (root_any n r _ hn HR).mono ?_
    rintro e w' ⟨rfl, rfl⟩
    go_wp2_with fail
    refine (refroot_any n r _ hn HR).mono ?_
    rintro e w' ⟨rfl, rfl⟩
    go_wp2_with fail
    all_goals
      go_ret
      exact ⟨rfl, hb⟩

theorem walk (a : Int) (w : World) (w0 : (Lit.int .i64 a).wf = true) :
    Calls Try.prog 8 #[.int .i64 a] w fun e w' => e = .returned (.bool true) ∧ Below w.heap.size w w' := by
  have hb := (bounds_i64 w0).2
  by_cases h : a < 0
  · exact walk_neg a w h
  · obtain ⟨n, rfl⟩ := Int.eq_ofNat_of_zero_le (by omega : 0 ≤ a)
    obtain ⟨r, hr⟩ := root_is n
    exact walk_pos n r w (by omega) hr
end Go.Proofs.Ytigegagmnodmaaa.fixedRoots
