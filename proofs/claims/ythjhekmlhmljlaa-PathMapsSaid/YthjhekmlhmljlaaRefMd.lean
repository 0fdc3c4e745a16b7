/-
  What MulDiv of the document's answer gives, as a contract over the translated program: the nearest of the exact quotient, halves away from 0, or 14, for all integers of 64 bits.
-/
import Derived.Test.YthjhekmlhmljlaaNear
import Derived.Test.YthjhekmlhmljlaaFxI
import Derived.Handy
namespace Go.Proofs.Ythjhekmlhmljlaa
open Go.RowKit
set_option linter.unusedSimpArgs false
set_option linter.unusedVariables false

/-- The product in its block, and all that was there before. -/
structure ProdW (w0 : World) (P m : Nat) (W : World) : Prop where
  long : LongAt W P m
  size : P < W.heap.size
  below : Below w0.heap.size w0 W
theorem ProdW.next {w0 : World} {P m : Nat} {W W' : World} (h : ProdW w0 P m W) (k : Below W.heap.size W W') : ProdW w0 P m W' :=
  ⟨h.long.below k h.size, Nat.lt_of_lt_of_le h.size k.size, h.below.trans (k.mono h.below.size)⟩
theorem ProdW.drew {w0 : World} {P m : Nat} {W : World} (h : ProdW w0 P m W) : ProdW w0 P m W.drew := h.next (Below.refl _ _).drew

/-- How the signs of three numbers make the sign of the quotient. -/
theorem sign_of (a b c : Int) (h : a.natAbs * b.natAbs ≠ 0) : (prodNeg a b != decide (c < 0)) = ((decide (a < 0) != decide (b < 0)) != decide (c < 0)) := by
  have ha : a ≠ 0 := fun e => h (by simp [e])
  have hb : b ≠ 0 := fun e => h (by simp [e])
  have h1 : a * b ≠ 0 := Int.mul_ne_zero ha hb
  unfold prodNeg
  simp [h1]
theorem near_0 (c : Nat) : near 0 c = 0 := by
  unfold near
  rcases Nat.eq_zero_or_pos c with h | h
  · rw [h]
  · exact Nat.div_eq_of_lt (by omega)
/-- The answer, by the signs of the three numbers. -/
theorem mulDiv_signs (a b c : Int) (hc : c ≠ 0) (hq : near (a.natAbs * b.natAbs) c.natAbs ≤ 2147483647) :
    mulDiv a b c = (if ((decide (a < 0) != decide (b < 0)) != decide (c < 0)) = true then -(near (a.natAbs * b.natAbs) c.natAbs : Int) else (near (a.natAbs * b.natAbs) c.natAbs : Int), 0) := by
  unfold mulDiv
  rw [if_neg (by omega)]
  by_cases h : a.natAbs * b.natAbs = 0
  · rw [h, near_0]; simp
  · rw [sign_of a b c h]
theorem mulDiv_great (a b c : Int) (hc : c ≠ 0) (hm : ¬ a.natAbs * b.natAbs < c.natAbs * 8589934592) : mulDiv a b c = (0, 14) := by
  unfold mulDiv
  rw [if_pos]
  right
  rw [near_eq _ _ (by omega)]
  have : 8589934592 ≤ a.natAbs * b.natAbs / c.natAbs := (Nat.le_div_iff_mul_le (by omega)).2 (by rw [Nat.mul_comm]; omega)
  omega
theorem mulDiv_over (a b c : Int) (hq : 2147483647 < near (a.natAbs * b.natAbs) c.natAbs) : mulDiv a b c = (0, 14) := by
  unfold mulDiv
  rw [if_pos (.inr hq)]
theorem room {x y c : Nat} (hx : x ≤ 9223372036854775808) (hy : y ≤ 9223372036854775808) (hc : c ≤ 9223372036854775808) : 2 * (x * y) + c < 65536 ^ 10 := by
  have : x * y ≤ 9223372036854775808 * 9223372036854775808 := Nat.mul_le_mul hx hy
  omega

set_option maxHeartbeats 400000 in
theorem refmd_zero (a b : Int) (w : World) :
    Calls Try.prog 47 #[.int .i64 a, .int .i64 b, .int .i64 0] w fun e w' => e = .returned (.tuple #[.int .i64 0, .int .i64 14]) ∧ Below w.heap.size w w' := by
  go_enter Try.func47, Try.ntmps47
  go_wp2
  go_ret2
  exact ⟨rfl, Below.refl _ _⟩

set_option maxRecDepth 100000 in
set_option maxHeartbeats 4000000 in
theorem refmd_main (a b c s f : Int) (m k r : Nat) (w : World) (A : I64 a) (B : I64 b) (C : I64 c) (hc : c ≠ 0) (HM : Hid (a.natAbs * b.natAbs = m)) (HK : Hid (c.natAbs = k)) (HR : Hid (r = Nat.min (near m k) 4294967295)) (HS : Hid (mulDiv a b c = (s, f))) :
    Calls Try.prog 47 #[.int .i64 a, .int .i64 b, .int .i64 c] w fun e w' => e = .returned (.tuple #[.int .i64 s, .int .i64 f]) ∧ Below w.heap.size w w' := by
  have tc : (c == 0) = false := by simp [hc]
  have HCN := Lib.hid hc
  have HA := Lib.hid A
  have HB := Lib.hid B
  have HC := Lib.hid C
  have hr : r ≤ 4294967295 := by rw [HR.out]; exact Nat.min_le_right _ _
  have hm10 : Hid (2 * m + k < 65536 ^ 10) := by
    rw [← HM.out, ← HK.out]
    exact room (by have := A.1; have := A.2; omega) (by have := B.1; have := B.2; omega) (by have := C.1; have := C.2; omega)
  have hk4 : Hid (k < 65536 ^ 4) := by have := HK.out; have := C.1; have := C.2; unfold Hid; omega
  have hk0 : Hid (0 < k) := by have := HK.out; unfold Hid; omega
  have hk5 : Hid (k < 65536 ^ 5) := Nat.lt_of_lt_of_le hk4.out (by decide)
  have P1 : Hid (m < 65536 ^ 10) := by have := hm10.out; unfold Hid; omega
  have P2 : Hid (k * 8589934592 < 65536 ^ 10) := mul_lt_ten hk5.out (by decide)
  clear hc A B C
  go_enter Try.func47, Try.ntmps47
  go_wp2_with fail
  refine (size_any a _ _ HA.out.1 HA.out.2 rfl).mono ?_
  rintro e w1 ⟨rfl, hb1⟩
  go_wp2_with fail
  refine (size_any b _ _ HB.out.1 HB.out.2 rfl).mono ?_
  rintro e w2 ⟨rfl, hb2⟩
  go_wp2_with fail
  refine (times_any a.natAbs b.natAbs _ (natAbs_small HA.out) (natAbs_small HB.out)).mono ?_
  rintro e w3 ⟨rfl, hb3⟩
  rw [HM.out]
  have BEL : Hid (Below w.heap.size w w3) := (hb1.trans (hb2.mono hb1.size)).trans (hb3.mono (Nat.le_trans hb1.size hb2.size))
  clear hb1 hb2 hb3
  simp only [longV]
  go_upto_region 4 with (fail)
  have K0 : ProdW w w3.heap.size m (w3.alloc (.cells #[.int .i64 (dig m 0 : Nat), .int .i64 (dig m 1 : Nat), .int .i64 (dig m 2 : Nat), .int .i64 (dig m 3 : Nat), .int .i64 (dig m 4 : Nat), .int .i64 (dig m 5 : Nat), .int .i64 (dig m 6 : Nat), .int .i64 (dig m 7 : Nat), .int .i64 (dig m 8 : Nat), .int .i64 (dig m 9 : Nat)] 105)) := ⟨longAt_new w3 m 105, by simp, BEL.out.alloc BEL.out.size _⟩
  generalize w3.alloc _ = W0 at *
  generalize w3.heap.size = P at *
  clear BEL
  have u44 := Try.underlying105
  refine wp_region_held_drew (S := ProdW w P m) (by kernel_rfl) K0.drew (fun hHeld => ?_)
  clear K0
  refine wpAnyH_take (i := 0) (v := .agg (longL m).toArray) rfl (by kernel_rfl) (by kernel_rfl) (by kernel_rfl) (fun _ _ _ h => h) (yieldsIf_load_mid (by rfl) _ _ rfl _ _ rfl (longL m) _ (fun W h => h.long.range) u44 rfl (long_info _)) hHeld ?_
  try simp only [Act.put, List.setIfInBounds_toArray, List.set_cons_zero, List.set_cons_succ]
  refine wpAnyH_take (i := 1) (v := .int .i64 c) rfl (by kernel_rfl) (by kernel_rfl) (by kernel_rfl) (fun _ _ _ h => h) (Or.inl ⟨by rfl, fun W hW => by go_simp⟩) hHeld ?_
  try simp only [Act.put, List.setIfInBounds_toArray, List.set_cons_zero, List.set_cons_succ]
  refine wpAnyH_ready (rs := [2]) (by kernel_rfl) (by simp) ?_
  refine AllReadyH.cons rfl (fun K hK => ?_) AllReadyH.nil
  go_simp
  refine (size_any c k _ HC.out.1 HC.out.2 HK).mono ?_
  rintro e v2 ⟨rfl, hb2⟩
  refine hK.out _ _ (hHeld.next hb2) (fun hHeld => ?_)
  clear hK K
  try simp only [Act.put, List.setIfInBounds_toArray, List.set_cons_zero, List.set_cons_succ]
  refine wpAnyH_ready (rs := [3]) (by kernel_rfl) (by simp) ?_
  refine AllReadyH.cons rfl (fun K hK => ?_) AllReadyH.nil
  go_simp
  refine (size_any 8589934592 8589934592 _ (by show -9223372036854775808 ≤ (8589934592 : Int); decide) (by show (8589934592 : Int) ≤ 9223372036854775807; decide) rfl).mono ?_
  rintro e v3 ⟨rfl, hb3⟩
  refine hK.out _ _ (hHeld.next hb3) (fun hHeld => ?_)
  clear hK K
  try simp only [Act.put, List.setIfInBounds_toArray, List.set_cons_zero, List.set_cons_succ]
  refine wpAnyH_ready (rs := [4]) (by kernel_rfl) (by simp) ?_
  refine AllReadyH.cons rfl (fun K hK => ?_) AllReadyH.nil
  go_simp
  refine (times_any k 8589934592 _ hk5.out (by decide)).mono ?_
  rintro e v4 ⟨rfl, hb4⟩
  refine hK.out _ _ (hHeld.next hb4) (fun hHeld => ?_)
  clear hK K
  try simp only [Act.put, List.setIfInBounds_toArray, List.set_cons_zero, List.set_cons_succ]
  refine wpAnyH_ready (rs := [5]) (by kernel_rfl) (by simp) ?_
  refine AllReadyH.cons rfl (fun K hK => ?_) AllReadyH.nil
  go_simp
  refine (under_any m (k * 8589934592) _ P1.out P2.out).mono ?_
  rintro e v5 ⟨rfl, hb5⟩
  refine hK.out _ _ (hHeld.next hb5) (fun hHeld => ?_)
  clear hK K
  try simp only [Act.put, List.setIfInBounds_toArray, List.set_cons_zero, List.set_cons_succ]
  refine wpAnyH_take (i := 6) (v := .bool (!decide (m < k * 8589934592))) rfl (by kernel_rfl) (by kernel_rfl) (by kernel_rfl) (fun _ _ _ h => h) (Or.inl ⟨by rfl, fun W hW => by go_simp⟩) hHeld ?_
  try simp only [Act.put, List.setIfInBounds_toArray, List.set_cons_zero, List.set_cons_succ]
  refine wpAnyH_done (by kernel_rfl) ?_ _
  by_cases hlt : m < k * 8589934592
  · rw [decide_eq_true hlt]
    have HLT := Lib.hid hlt
    clear hlt hb2 hb3 hb4 hb5
    go_upto_region 6 with (fail)
    refine wp_region_held_drew (S := ProdW w P m) (by kernel_rfl) hHeld.drew (fun hHeld => ?_)
    refine wpAnyH_take (i := 0) (v := .agg (longL m).toArray) rfl (by kernel_rfl) (by kernel_rfl) (by kernel_rfl) (fun _ _ _ h => h) (yieldsIf_load_mid (by rfl) _ _ rfl _ _ rfl (longL m) _ (fun W h => h.long.range) u44 rfl (long_info _)) hHeld ?_
    try simp only [Act.put, List.setIfInBounds_toArray, List.set_cons_zero, List.set_cons_succ]
    refine wpAnyH_take (i := 1) (v := .int .i64 c) rfl (by kernel_rfl) (by kernel_rfl) (by kernel_rfl) (fun _ _ _ h => h) (Or.inl ⟨by rfl, fun W hW => by go_simp⟩) hHeld ?_
    try simp only [Act.put, List.setIfInBounds_toArray, List.set_cons_zero, List.set_cons_succ]
    refine wpAnyH_ready (rs := [2]) (by kernel_rfl) (by simp) ?_
    refine AllReadyH.cons rfl (fun K hK => ?_) AllReadyH.nil
    go_simp
    refine (size_any c k _ HC.out.1 HC.out.2 HK).mono ?_
    rintro e v6 ⟨rfl, hb6⟩
    refine hK.out _ _ (hHeld.next hb6) (fun hHeld => ?_)
    clear hK K
    try simp only [Act.put, List.setIfInBounds_toArray, List.set_cons_zero, List.set_cons_succ]
    refine wpAnyH_ready (rs := [3]) (by kernel_rfl) (by simp) ?_
    refine AllReadyH.cons rfl (fun K hK => ?_) AllReadyH.nil
    go_simp
    refine (nearest_any m k r _ hm10.out hk4.out hk0.out HR).mono ?_
    rintro e v7 ⟨rfl, hb7⟩
    refine hK.out _ _ (hHeld.next hb7) (fun hHeld => ?_)
    clear hK K
    try simp only [Act.put, List.setIfInBounds_toArray, List.set_cons_zero, List.set_cons_succ]
    refine wpAnyH_take (i := 4) (v := .int .i64 (r : Int)) rfl (by kernel_rfl) (by kernel_rfl) (by kernel_rfl) (fun _ _ _ h => h) (Or.inl ⟨by rfl, fun W hW => by go_simp⟩) hHeld ?_
    try simp only [Act.put, List.setIfInBounds_toArray, List.set_cons_zero, List.set_cons_succ]
    refine wpAnyH_done (by kernel_rfl) ?_ _
    have BEL := Lib.hid hHeld.below
    clear hHeld hb6 hb7
    by_cases hq : (2147483647 : Int) < (r : Int)
    · have HF : Hid (s = 0 ∧ f = 14) := by
        have h1 : 2147483647 < near m k := by
          have e : Nat.min (near m k) 4294967295 = min (near m k) 4294967295 := rfl
          have := HR.out
          rw [e] at this
          omega
        have h2 := HS.out
        rw [mulDiv_over a b c (by rw [HM.out, HK.out]; exact h1)] at h2
        simp at h2
        exact ⟨h2.1.symm, h2.2.symm⟩
      go_wp2
      go_ret2
      rw [HF.out.1, HF.out.2]
      exact ⟨rfl, BEL.out⟩
    · have HF : Hid (s = (if ((decide (a < 0) != decide (b < 0)) != decide (c < 0)) = true then -(r : Int) else (r : Int)) ∧ f = 0) := by
        have h1 : near m k = r := by
          have e : Nat.min (near m k) 4294967295 = min (near m k) 4294967295 := rfl
          have := HR.out
          rw [e] at this
          omega
        have h2 := HS.out
        rw [mulDiv_signs a b c HCN.out (by rw [HM.out, HK.out]; omega), HM.out, HK.out, h1] at h2
        simp only [Prod.mk.injEq] at h2
        exact ⟨h2.1.symm, h2.2.symm⟩
      go_upto_region 9 with (fail)
      by_cases ha : a < 0
      all_goals
        by_cases hb : b < 0
        all_goals
          by_cases hcc : c < 0
          all_goals
            have e := HF.out.1
            simp [ha, hb, hcc] at e
            have HF2 := Lib.hid e
            clear e
            go_wp2
            go_rounds 4
            go_ret2
            rw [HF2.out, HF.out.2]
            exact ⟨rfl, BEL.out.alloc BEL.out.size _⟩
  · rw [decide_eq_false hlt]
    have BEL := Lib.hid hHeld.below
    have HF : Hid (s = 0 ∧ f = 14) := by
      have h2 := HS.out
      rw [mulDiv_great a b c HCN.out (by rw [HM.out, HK.out]; exact hlt)] at h2
      simp at h2
      exact ⟨h2.1.symm, h2.2.symm⟩
    clear hlt hHeld hb2 hb3 hb4 hb5
    go_wp2
    go_ret2
    rw [HF.out.1, HF.out.2]
    exact ⟨rfl, BEL.out⟩

/-- The document's MulDiv, for all integers of 64 bits. -/
theorem refmd_any (a b c s f : Int) (w : World) (A : I64 a) (B : I64 b) (C : I64 c) (HS : Hid (mulDiv a b c = (s, f))) :
    Calls Try.prog 47 #[.int .i64 a, .int .i64 b, .int .i64 c] w fun e w' => e = .returned (.tuple #[.int .i64 s, .int .i64 f]) ∧ Below w.heap.size w w' := by
  by_cases hc : c = 0
  · subst hc
    have h2 := HS.out
    unfold mulDiv at h2
    rw [if_pos (.inl rfl)] at h2
    simp only [Prod.mk.injEq] at h2
    rw [← h2.1, ← h2.2]
    exact refmd_zero a b w
  · exact refmd_main a b c s f _ _ _ w A B C hc rfl rfl rfl HS
end Go.Proofs.Ythjhekmlhmljlaa
