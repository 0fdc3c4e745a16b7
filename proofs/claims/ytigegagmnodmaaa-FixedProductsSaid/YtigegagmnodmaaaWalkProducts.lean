/-
  The walk of FixedProducts: it answers true at every three integers, in every world, and changes nothing that was there.
-/
import Derived.Test.YtigegagmnodmaaaRefMd
import Derived.Test.YtigegagmnodmaaaDivAll
import Derived.Test.YtigegagmnodmaaaAlive
import Derived.OpenShut
namespace Go.Proofs.Ytigegagmnodmaaa.fixedProducts
open Go.RowKit
set_option linter.unusedSimpArgs false
set_option linter.unusedVariables false

theorem bel_next {w a b : World} (h : Below w.heap.size w a) (k : Below a.heap.size a b) : Below w.heap.size w b := h.trans (k.mono h.size)

set_option maxHeartbeats 400000 in
theorem mul_bad (a b c : Int) (w : World) (hc : c < 0 ∨ 30 < c) :
    Calls Try.prog 18 #[.int .i64 a, .int .i64 b, .int .i64 c] w fun e w' => e = .returned (.tuple #[.int .i64 0, .int .i64 14]) ∧ Below w.heap.size w w' := by
  by_cases h : c < 0
  · clear hc
    go_enter Try.func18, Try.ntmps18
    go_wp2
    go_ret2
    exact ⟨rfl, Below.refl _ _⟩
  · have h2 : 30 < c := by omega
    clear hc
    go_enter Try.func18, Try.ntmps18
    go_wp2
    go_ret2
    exact ⟨rfl, Below.refl _ _⟩

theorem pow_small (k : Nat) (hk : k ≤ 30) : 1 ≤ (2 : Int) ^ k ∧ (2 : Int) ^ k ≤ 1073741824 := by
  have h : ∀ n : Fin 31, 1 ≤ (2 : Int) ^ n.val ∧ (2 : Int) ^ n.val ≤ 1073741824 := by decide
  exact h ⟨k, by omega⟩

theorem pow_wrap (k : Nat) (hk : k ≤ 30) : wrap64 ((2 : Int) ^ k) = (2 : Int) ^ k := by
  have := pow_small k hk
  unfold wrap64
  omega

set_option maxHeartbeats 400000 in
theorem mul_any (a b s f p : Int) (k : Nat) (w : World) (A : I64 a) (B : I64 b) (hk : k ≤ 30) (HP : Hid (wrap64 ((2 : Int) ^ k) = p)) (hp0 : 1 ≤ p) (hp1 : p ≤ 1073741824) (HS : Hid (mulDiv a b p = (s, f))) :
    Calls Try.prog 18 #[.int .i64 a, .int .i64 b, .int .i64 (k : Int)] w fun e w' => e = .returned (.tuple #[.int .i64 s, .int .i64 f]) ∧ Below w.heap.size w w' := by
  have HA := Lib.hid A
  have HB := Lib.hid B
  have h0 : (0 : Int) ≤ (k : Int) := by omega
  have h1 : (k : Int) ≤ 30 := by omega
  clear A B
  go_enter Try.func18, Try.ntmps18
  go_wp2_with fail
  rw [HP.out]
  refine (muldiv_any a b p _ HA.out.1 HA.out.2 HB.out.1 HB.out.2 (by omega) (by omega)).mono ?_
  rintro e w1 ⟨rfl, hb⟩
  rw [HS.out]
  go_wp2_with fail
  go_ret2
  exact ⟨rfl, hb⟩

set_option maxHeartbeats 1000000 in
theorem walk_bad (a b c s f : Int) (w : World) (A : I64 a) (B : I64 b) (C : I64 c) (HS : Hid (mulDiv a b c = (s, f))) (hc : c < 0 ∨ 30 < c) :
    Calls Try.prog 5 #[.int .i64 a, .int .i64 b, .int .i64 c] w fun e w' => e = .returned (.bool true) ∧ Below w.heap.size w w' := by
  have HA := Lib.hid A
  have HB := Lib.hid B
  have HC := Lib.hid C
  have HCC := Lib.hid hc
  have hss : (s != s) = false := by simp
  have hff : (f != f) = false := by simp
  clear A B C hc
  go_enter Try.func5, Try.ntmps5
  go_wp2_with fail
  refine (alive_any _).mono ?_
  rintro x w1 ⟨rfl, hb1⟩
  go_wp2_with fail
  refine (refmd_any a b c s f _ HA.out HB.out HC.out HS).mono ?_
  rintro x w2 ⟨rfl, hb2⟩
  go_wp2_with fail
  refine (muldiv_any a b c _ HA.out.1 HA.out.2 HB.out.1 HB.out.2 HC.out.1 HC.out.2).mono ?_
  rintro x w3 ⟨rfl, hb3⟩
  rw [HS.out]
  go_wp2_with fail
  refine (mul_bad a b c _ HCC.out).mono ?_
  rintro x w4 ⟨rfl, hb4⟩
  have BEL := Lib.hid (bel_next (bel_next (bel_next hb1 hb2) hb3) hb4)
  clear hb1 hb2 hb3 hb4
  by_cases h : c < 0
  · go_wp2_with fail
    go_ret
    exact ⟨rfl, BEL.out⟩
  · have h2 : 30 < c := by have := HCC.out; omega
    go_wp2_with fail
    go_ret
    exact ⟨rfl, BEL.out⟩

set_option maxHeartbeats 1000000 in
theorem walk_ok (a b s f s2 f2 p : Int) (k : Nat) (w : World) (A : I64 a) (B : I64 b) (hk : k ≤ 30) (HP : Hid (wrap64 ((2 : Int) ^ k) = p)) (hp0 : 1 ≤ p) (hp1 : p ≤ 1073741824)
    (HS : Hid (mulDiv a b (k : Int) = (s, f))) (HS2 : Hid (mulDiv a b p = (s2, f2))) :
    Calls Try.prog 5 #[.int .i64 a, .int .i64 b, .int .i64 (k : Int)] w fun e w' => e = .returned (.bool true) ∧ Below w.heap.size w w' := by
  have HA := Lib.hid A
  have HB := Lib.hid B
  have HC : Hid (I64 (k : Int)) := ⟨by omega, by omega⟩
  have HPP : Hid (I64 p) := ⟨by omega, by omega⟩
  have h0 : (0 : Int) ≤ (k : Int) := by omega
  have h1 : (k : Int) ≤ 30 := by omega
  have hss : (s != s) = false := by simp
  have hff : (f != f) = false := by simp
  have hss2 : (s2 == s2) = true := by simp
  have hff2 : (f2 == f2) = true := by simp
  clear A B
  go_enter Try.func5, Try.ntmps5
  go_wp2_with fail
  refine (alive_any _).mono ?_
  rintro x w1 ⟨rfl, hb1⟩
  go_wp2_with fail
  refine (refmd_any a b (k : Int) s f _ HA.out HB.out HC.out HS).mono ?_
  rintro x w2 ⟨rfl, hb2⟩
  go_wp2_with fail
  refine (muldiv_any a b (k : Int) _ HA.out.1 HA.out.2 HB.out.1 HB.out.2 HC.out.1 HC.out.2).mono ?_
  rintro x w3 ⟨rfl, hb3⟩
  rw [HS.out]
  go_wp2_with fail
  refine (mul_any a b s2 f2 p k _ HA.out HB.out hk HP hp0 hp1 HS2).mono ?_
  rintro x w4 ⟨rfl, hb4⟩
  go_wp2_with fail
  rw [HP.out]
  refine (refmd_any a b p s2 f2 _ HA.out HB.out HPP.out HS2).mono ?_
  rintro x w5 ⟨rfl, hb5⟩
  have BEL := Lib.hid (bel_next (bel_next (bel_next (bel_next hb1 hb2) hb3) hb4) hb5)
  clear hb1 hb2 hb3 hb4 hb5
  go_wp2_with fail
  go_ret
  exact ⟨rfl, BEL.out⟩

theorem walk (a b c : Int) (w : World) (w0 : (Lit.int .i64 a).wf = true) (w1 : (Lit.int .i64 b).wf = true) (w2 : (Lit.int .i64 c).wf = true) :
    Calls Try.prog 5 #[.int .i64 a, .int .i64 b, .int .i64 c] w fun e w' => e = .returned (.bool true) ∧ Below w.heap.size w w' := by
  have A : I64 a := bounds_i64 w0
  have B : I64 b := bounds_i64 w1
  have C : I64 c := bounds_i64 w2
  by_cases h : c < 0 ∨ 30 < c
  · exact walk_bad a b c _ _ w A B C rfl h
  · obtain ⟨k, rfl⟩ := Int.eq_ofNat_of_zero_le (by omega : 0 ≤ c)
    have hk : k ≤ 30 := by omega
    have hp := pow_small k hk
    exact walk_ok a b _ _ _ _ _ k w A B hk (pow_wrap k hk) hp.1 hp.2 rfl rfl
end Go.Proofs.Ytigegagmnodmaaa.fixedProducts
