/-
  The walk of FixedSums: it answers true at every pair of integers, in every world, and changes nothing that was there.
-/
import Derived.Test.YtigegagmnodmaaaSumC
namespace Go.Proofs.Ytigegagmnodmaaa.fixedSums
open Go.RowKit Go.Lib
set_option linter.unusedSimpArgs false
set_option linter.unusedVariables false

theorem sub_is_sum (a b : Int) (h : fixB b = true) : subOr a b = sumOr a (-b) := by
  have hb := fixB_true h
  have h2 : fixB (-b) = true := by simp [fixB]; omega
  unfold subOr sumOr
  rw [h, h2, Int.sub_eq_add_neg]
theorem sub_no (a b : Int) (h : fixB b = false) : subOr a b = (0, 14) := by
  unfold subOr
  rw [h]; simp

set_option maxHeartbeats 1000000 in
theorem walk_yes (a b s f d g : Int) (w : World) (HS : Hid (sumOr a b = (s, f))) (HD : Hid (subOr a b = (d, g))) (HA : Hid (fixB a = true)) :
    Calls Try.prog 4 #[.int .i64 a, .int .i64 b] w fun e w' => e = .returned (.bool true) ∧ Below w.heap.size w w' := by
  have hss : (s != s) = false := by simp
  have hff : (f != f) = false := by simp
  go_enter Try.func4, Try.ntmps4
  go_wp2_with fail
  refine (alive_any _).mono ?_
  rintro e w1 ⟨rfl, hb⟩
  go_wp2_with fail
  refine (add_any a b s f _ HS).mono ?_
  rintro e w2 ⟨rfl, hb2⟩
  replace hb := hb.trans (hb2.mono hb.size)
  clear hb2
  go_wp2_with fail
  refine (sum_any a b s f _ HS).mono ?_
  rintro e w' ⟨rfl, rfl⟩
  go_wp2_with fail
  refine (check_yes a HA _).mono ?_
  rintro e w3 ⟨rfl, hb2⟩
  replace hb := hb.trans (hb2.mono hb.size)
  clear hb2
  go_wp2_with fail
  refine (fix_any a _).mono ?_
  rintro e w' ⟨rfl, rfl⟩
  rw [HA.out]
  go_wp2_with fail
  refine (check_yes a HA _).mono ?_
  rintro e w4 ⟨rfl, hb2⟩
  replace hb := hb.trans (hb2.mono hb.size)
  clear hb2
  go_wp2_with fail
  refine (sub_any a b d g _ HD).mono ?_
  rintro e w5 ⟨rfl, hb2⟩
  replace hb := hb.trans (hb2.mono hb.size)
  clear hb2
  go_wp2_with fail
  refine (fix_any b _).mono ?_
  rintro e w' ⟨rfl, rfl⟩
  cases hfb : fixB b
  · have HN : Hid (d = 0 ∧ g = 14) := by
      have := HD.out
      rw [sub_no a b hfb] at this
      simp at this
      exact ⟨this.1.symm, this.2.symm⟩
    clear hfb
    rw [HN.out.1, HN.out.2]
    go_wp2_with fail
    go_ret
    exact ⟨rfl, hb⟩
  · have HN : Hid (sumOr a (-b) = (d, g)) := by rw [← sub_is_sum a b hfb]; exact HD.out
    have ⟨b1, b2⟩ := fixB_true hfb
    clear hfb
    go_wp2_with fail
    refine (sum_any a (-b) d g _ HN).mono ?_
    rintro e w' ⟨rfl, rfl⟩
    have hdd : (d == d) = true := by simp
    have hgg : (g == g) = true := by simp
    go_wp2_with fail
    go_ret
    exact ⟨rfl, hb⟩

set_option maxHeartbeats 1000000 in
theorem walk_no (a b s f d g : Int) (w : World) (HS : Hid (sumOr a b = (s, f))) (HD : Hid (subOr a b = (d, g))) (HA : Hid (fixB a = false)) :
    Calls Try.prog 4 #[.int .i64 a, .int .i64 b] w fun e w' => e = .returned (.bool true) ∧ Below w.heap.size w w' := by
  have hss : (s != s) = false := by simp
  have hff : (f != f) = false := by simp
  go_enter Try.func4, Try.ntmps4
  go_wp2_with fail
  refine (alive_any _).mono ?_
  rintro e w1 ⟨rfl, hb⟩
  go_wp2_with fail
  refine (add_any a b s f _ HS).mono ?_
  rintro e w2 ⟨rfl, hb2⟩
  replace hb := hb.trans (hb2.mono hb.size)
  clear hb2
  go_wp2_with fail
  refine (sum_any a b s f _ HS).mono ?_
  rintro e w' ⟨rfl, rfl⟩
  go_wp2_with fail
  refine (check_no a HA _).mono ?_
  rintro e w3 ⟨rfl, hb2⟩
  replace hb := hb.trans (hb2.mono hb.size)
  clear hb2
  go_wp2_with fail
  refine (fix_any a _).mono ?_
  rintro e w' ⟨rfl, rfl⟩
  rw [HA.out]
  go_wp2_with fail
  refine (check_no a HA _).mono ?_
  rintro e w4 ⟨rfl, hb2⟩
  replace hb := hb.trans (hb2.mono hb.size)
  clear hb2
  go_wp2_with fail
  refine (check_no a HA _).mono ?_
  rintro e w4 ⟨rfl, hb2⟩
  replace hb := hb.trans (hb2.mono hb.size)
  clear hb2
  go_wp2_with fail
  refine (sub_any a b d g _ HD).mono ?_
  rintro e w5 ⟨rfl, hb2⟩
  replace hb := hb.trans (hb2.mono hb.size)
  clear hb2
  go_wp2_with fail
  refine (fix_any b _).mono ?_
  rintro e w' ⟨rfl, rfl⟩
  cases hfb : fixB b
  · have HN : Hid (d = 0 ∧ g = 14) := by
      have := HD.out
      rw [sub_no a b hfb] at this
      simp at this
      exact ⟨this.1.symm, this.2.symm⟩
    clear hfb
    rw [HN.out.1, HN.out.2]
    go_wp2_with fail
    go_ret
    exact ⟨rfl, hb⟩
  · have HN : Hid (sumOr a (-b) = (d, g)) := by rw [← sub_is_sum a b hfb]; exact HD.out
    have ⟨b1, b2⟩ := fixB_true hfb
    clear hfb
    go_wp2_with fail
    refine (sum_any a (-b) d g _ HN).mono ?_
    rintro e w' ⟨rfl, rfl⟩
    have hdd : (d == d) = true := by simp
    have hgg : (g == g) = true := by simp
    go_wp2_with fail
    go_ret
    exact ⟨rfl, hb⟩

theorem walk (a b : Int) (w : World) (w0 : (Lit.int .i64 a).wf = true) (w1 : (Lit.int .i64 b).wf = true) :
    Calls Try.prog 4 #[.int .i64 a, .int .i64 b] w fun e w' => e = .returned (.bool true) ∧ Below w.heap.size w w' := by
  cases h : fixB a
  · exact walk_no a b _ _ _ _ w rfl rfl h
  · exact walk_yes a b _ _ _ _ w rfl rfl h
end Go.Proofs.Ytigegagmnodmaaa.fixedSums
