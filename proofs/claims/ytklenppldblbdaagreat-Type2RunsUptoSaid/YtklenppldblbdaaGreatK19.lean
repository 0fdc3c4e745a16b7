import Derived.Test.YtklenppldblbdaaGreatK18
set_option linter.unusedSimpArgs false
set_option linter.unusedVariables false
namespace Go.Proofs.YtklenppldblbdaaGreat
open Go.RowKit Go.PlainAid
set_option maxHeartbeats 4000000 in
theorem takes_c (op : Int) (n : Nat) (x y : Bool) (w : World) (HX : Hid (takesN op n = (x, y))) (hn : n ≤ 1000) :
 Calls Tryz.prog 94 #[.int .i64 op, .int .i64 (n : Int)] w fun e w' => e = .returned (.tuple #[.bool x, .bool y]) ∧ w = w' := by
 by_cases h5 : op = 5
 ·subst h5
  by_cases hk : 2 ≤ n
  ·by_cases hq : n % 2 = 0
   ·have HE : Hid (true = x ∧ true = y) := by have := HX.out; simp [takesN, hk, hq] at this; unfold Hid; simpa using this
    have z1 : (2 : Int) ≤ (n : Int) := by omega
    have z2 : (((n : Int) % 2) == 0) = true := by simp; omega
    rw [← HE.out.1, ← HE.out.2]
    clear HX HE hk hq
    go_enter Tryz.func94, Tryz.ntmps94
    go_wp2_with fail
    go_ret2
    exact ⟨rfl, rfl⟩
   ·have HE : Hid (false = x ∧ true = y) := by have := HX.out; simp [takesN, hk, hq] at this; unfold Hid; simpa using this
    have z1 : (2 : Int) ≤ (n : Int) := by omega
    have z2 : (((n : Int) % 2) == 0) = false := by simp; omega
    rw [← HE.out.1, ← HE.out.2]
    clear HX HE hk hq
    go_enter Tryz.func94, Tryz.ntmps94
    go_wp2_with fail
    go_ret2
    exact ⟨rfl, rfl⟩
  ·have HE : Hid (false = x ∧ true = y) := by have := HX.out; simp [takesN, hk] at this; unfold Hid; simpa using this
   have z1 : ¬ (2 : Int) ≤ (n : Int) := by omega
   rw [← HE.out.1, ← HE.out.2]
   clear HX HE hk
   go_enter Tryz.func94, Tryz.ntmps94
   go_wp2_with fail
   go_ret2
   exact ⟨rfl, rfl⟩
 by_cases h6 : op = 6
 ·subst h6
  by_cases hk : 1 ≤ n
  ·have HE : Hid (true = x ∧ true = y) := by have := HX.out; simp [takesN, hk] at this; unfold Hid; simpa using this
   have z1 : (1 : Int) ≤ (n : Int) := by omega
   rw [← HE.out.1, ← HE.out.2]
   clear HX HE hk
   go_enter Tryz.func94, Tryz.ntmps94
   go_wp2_with fail
   go_ret2
   exact ⟨rfl, rfl⟩
  ·have HE : Hid (false = x ∧ true = y) := by have := HX.out; simp [takesN, hk] at this; unfold Hid; simpa using this
   have z1 : ¬ (1 : Int) ≤ (n : Int) := by omega
   rw [← HE.out.1, ← HE.out.2]
   clear HX HE hk
   go_enter Tryz.func94, Tryz.ntmps94
   go_wp2_with fail
   go_ret2
   exact ⟨rfl, rfl⟩
 by_cases h7 : op = 7
 ·subst h7
  by_cases hk : 1 ≤ n
  ·have HE : Hid (true = x ∧ true = y) := by have := HX.out; simp [takesN, hk] at this; unfold Hid; simpa using this
   have z1 : (1 : Int) ≤ (n : Int) := by omega
   rw [← HE.out.1, ← HE.out.2]
   clear HX HE hk
   go_enter Tryz.func94, Tryz.ntmps94
   go_wp2_with fail
   go_ret2
   exact ⟨rfl, rfl⟩
  ·have HE : Hid (false = x ∧ true = y) := by have := HX.out; simp [takesN, hk] at this; unfold Hid; simpa using this
   have z1 : ¬ (1 : Int) ≤ (n : Int) := by omega
   rw [← HE.out.1, ← HE.out.2]
   clear HX HE hk
   go_enter Tryz.func94, Tryz.ntmps94
   go_wp2_with fail
   go_ret2
   exact ⟨rfl, rfl⟩
 by_cases h8 : op = 8
 ·subst h8
  by_cases hk : 6 ≤ n
  ·by_cases hq : n % 6 = 0
   ·have HE : Hid (true = x ∧ true = y) := by have := HX.out; simp [takesN, hk, hq] at this; unfold Hid; simpa using this
    have z1 : (6 : Int) ≤ (n : Int) := by omega
    have z2 : (((n : Int) % 6) == 0) = true := by simp; omega
    rw [← HE.out.1, ← HE.out.2]
    clear HX HE hk hq
    go_enter Tryz.func94, Tryz.ntmps94
    go_wp2_with fail
    go_ret2
    exact ⟨rfl, rfl⟩
   ·have HE : Hid (false = x ∧ true = y) := by have := HX.out; simp [takesN, hk, hq] at this; unfold Hid; simpa using this
    have z1 : (6 : Int) ≤ (n : Int) := by omega
    have z2 : (((n : Int) % 6) == 0) = false := by simp; omega
    rw [← HE.out.1, ← HE.out.2]
    clear HX HE hk hq
    go_enter Tryz.func94, Tryz.ntmps94
    go_wp2_with fail
    go_ret2
    exact ⟨rfl, rfl⟩
  ·have HE : Hid (false = x ∧ true = y) := by have := HX.out; simp [takesN, hk] at this; unfold Hid; simpa using this
   have z1 : ¬ (6 : Int) ≤ (n : Int) := by omega
   rw [← HE.out.1, ← HE.out.2]
   clear HX HE hk
   go_enter Tryz.func94, Tryz.ntmps94
   go_wp2_with fail
   go_ret2
   exact ⟨rfl, rfl⟩
 by_cases h24 : op = 24
 ·subst h24
  by_cases hk : 8 ≤ n
  ·by_cases hq : n % 6 = 2
   ·have HE : Hid (true = x ∧ true = y) := by have := HX.out; simp [takesN, hk, hq] at this; unfold Hid; simpa using this
    have z1 : (8 : Int) ≤ (n : Int) := by omega
    have z2 : (((n : Int) % 6) == 2) = true := by simp; omega
    rw [← HE.out.1, ← HE.out.2]
    clear HX HE hk hq
    go_enter Tryz.func94, Tryz.ntmps94
    go_wp2_with fail
    go_ret2
    exact ⟨rfl, rfl⟩
   ·have HE : Hid (false = x ∧ true = y) := by have := HX.out; simp [takesN, hk, hq] at this; unfold Hid; simpa using this
    have z1 : (8 : Int) ≤ (n : Int) := by omega
    have z2 : (((n : Int) % 6) == 2) = false := by simp; omega
    rw [← HE.out.1, ← HE.out.2]
    clear HX HE hk hq
    go_enter Tryz.func94, Tryz.ntmps94
    go_wp2_with fail
    go_ret2
    exact ⟨rfl, rfl⟩
  ·have HE : Hid (false = x ∧ true = y) := by have := HX.out; simp [takesN, hk] at this; unfold Hid; simpa using this
   have z1 : ¬ (8 : Int) ≤ (n : Int) := by omega
   rw [← HE.out.1, ← HE.out.2]
   clear HX HE hk
   go_enter Tryz.func94, Tryz.ntmps94
   go_wp2_with fail
   go_ret2
   exact ⟨rfl, rfl⟩
 by_cases h25 : op = 25
 ·subst h25
  by_cases hk : 8 ≤ n
  ·by_cases hq : n % 2 = 0
   ·have HE : Hid (true = x ∧ true = y) := by have := HX.out; simp [takesN, hk, hq] at this; unfold Hid; simpa using this
    have z1 : (8 : Int) ≤ (n : Int) := by omega
    have z2 : (((n : Int) % 2) == 0) = true := by simp; omega
    rw [← HE.out.1, ← HE.out.2]
    clear HX HE hk hq
    go_enter Tryz.func94, Tryz.ntmps94
    go_wp2_with fail
    go_ret2
    exact ⟨rfl, rfl⟩
   ·have HE : Hid (false = x ∧ true = y) := by have := HX.out; simp [takesN, hk, hq] at this; unfold Hid; simpa using this
    have z1 : (8 : Int) ≤ (n : Int) := by omega
    have z2 : (((n : Int) % 2) == 0) = false := by simp; omega
    rw [← HE.out.1, ← HE.out.2]
    clear HX HE hk hq
    go_enter Tryz.func94, Tryz.ntmps94
    go_wp2_with fail
    go_ret2
    exact ⟨rfl, rfl⟩
  ·have HE : Hid (false = x ∧ true = y) := by have := HX.out; simp [takesN, hk] at this; unfold Hid; simpa using this
   have z1 : ¬ (8 : Int) ≤ (n : Int) := by omega
   rw [← HE.out.1, ← HE.out.2]
   clear HX HE hk
   go_enter Tryz.func94, Tryz.ntmps94
   go_wp2_with fail
   go_ret2
   exact ⟨rfl, rfl⟩
 by_cases h26 : op = 26
 ·subst h26
  by_cases hk : 4 ≤ n
  ·by_cases hq : n % 4 ≤ 1
   ·have HE : Hid (true = x ∧ true = y) := by have := HX.out; simp [takesN, hk, hq] at this; unfold Hid; simpa using this
    have z1 : (4 : Int) ≤ (n : Int) := by omega
    have z2 : (n : Int) % 4 ≤ 1 := by omega
    rw [← HE.out.1, ← HE.out.2]
    clear HX HE hk hq
    go_enter Tryz.func94, Tryz.ntmps94
    go_wp2_with fail
    go_ret2
    exact ⟨rfl, rfl⟩
   ·have HE : Hid (false = x ∧ true = y) := by have := HX.out; simp [takesN, hk, hq] at this; unfold Hid; simpa using this
    have z1 : (4 : Int) ≤ (n : Int) := by omega
    have z2 : ¬ (n : Int) % 4 ≤ 1 := by omega
    rw [← HE.out.1, ← HE.out.2]
    clear HX HE hk hq
    go_enter Tryz.func94, Tryz.ntmps94
    go_wp2_with fail
    go_ret2
    exact ⟨rfl, rfl⟩
  ·have HE : Hid (false = x ∧ true = y) := by have := HX.out; simp [takesN, hk] at this; unfold Hid; simpa using this
   have z1 : ¬ (4 : Int) ≤ (n : Int) := by omega
   rw [← HE.out.1, ← HE.out.2]
   clear HX HE hk
   go_enter Tryz.func94, Tryz.ntmps94
   go_wp2_with fail
   go_ret2
   exact ⟨rfl, rfl⟩
 by_cases h27 : op = 27
 ·subst h27
  by_cases hk : 4 ≤ n
  ·by_cases hq : n % 4 ≤ 1
   ·have HE : Hid (true = x ∧ true = y) := by have := HX.out; simp [takesN, hk, hq] at this; unfold Hid; simpa using this
    have z1 : (4 : Int) ≤ (n : Int) := by omega
    have z2 : (n : Int) % 4 ≤ 1 := by omega
    rw [← HE.out.1, ← HE.out.2]
    clear HX HE hk hq
    go_enter Tryz.func94, Tryz.ntmps94
    go_wp2_with fail
    go_ret2
    exact ⟨rfl, rfl⟩
   ·have HE : Hid (false = x ∧ true = y) := by have := HX.out; simp [takesN, hk, hq] at this; unfold Hid; simpa using this
    have z1 : (4 : Int) ≤ (n : Int) := by omega
    have z2 : ¬ (n : Int) % 4 ≤ 1 := by omega
    rw [← HE.out.1, ← HE.out.2]
    clear HX HE hk hq
    go_enter Tryz.func94, Tryz.ntmps94
    go_wp2_with fail
    go_ret2
    exact ⟨rfl, rfl⟩
  ·have HE : Hid (false = x ∧ true = y) := by have := HX.out; simp [takesN, hk] at this; unfold Hid; simpa using this
   have z1 : ¬ (4 : Int) ≤ (n : Int) := by omega
   rw [← HE.out.1, ← HE.out.2]
   clear HX HE hk
   go_enter Tryz.func94, Tryz.ntmps94
   go_wp2_with fail
   go_ret2
   exact ⟨rfl, rfl⟩
 by_cases h30 : op = 30
 ·subst h30
  by_cases hk : 4 ≤ n
  ·by_cases hq : n % 4 ≤ 1
   ·have HE : Hid (true = x ∧ true = y) := by have := HX.out; simp [takesN, hk, hq] at this; unfold Hid; simpa using this
    have z1 : (4 : Int) ≤ (n : Int) := by omega
    have z2 : (n : Int) % 4 ≤ 1 := by omega
    rw [← HE.out.1, ← HE.out.2]
    clear HX HE hk hq
    go_enter Tryz.func94, Tryz.ntmps94
    go_wp2_with fail
    go_ret2
    exact ⟨rfl, rfl⟩
   ·have HE : Hid (false = x ∧ true = y) := by have := HX.out; simp [takesN, hk, hq] at this; unfold Hid; simpa using this
    have z1 : (4 : Int) ≤ (n : Int) := by omega
    have z2 : ¬ (n : Int) % 4 ≤ 1 := by omega
    rw [← HE.out.1, ← HE.out.2]
    clear HX HE hk hq
    go_enter Tryz.func94, Tryz.ntmps94
    go_wp2_with fail
    go_ret2
    exact ⟨rfl, rfl⟩
  ·have HE : Hid (false = x ∧ true = y) := by have := HX.out; simp [takesN, hk] at this; unfold Hid; simpa using this
   have z1 : ¬ (4 : Int) ≤ (n : Int) := by omega
   rw [← HE.out.1, ← HE.out.2]
   clear HX HE hk
   go_enter Tryz.func94, Tryz.ntmps94
   go_wp2_with fail
   go_ret2
   exact ⟨rfl, rfl⟩
 by_cases h31 : op = 31
 ·subst h31
  by_cases hk : 4 ≤ n
  ·by_cases hq : n % 4 ≤ 1
   ·have HE : Hid (true = x ∧ true = y) := by have := HX.out; simp [takesN, hk, hq] at this; unfold Hid; simpa using this
    have z1 : (4 : Int) ≤ (n : Int) := by omega
    have z2 : (n : Int) % 4 ≤ 1 := by omega
    rw [← HE.out.1, ← HE.out.2]
    clear HX HE hk hq
    go_enter Tryz.func94, Tryz.ntmps94
    go_wp2_with fail
    go_ret2
    exact ⟨rfl, rfl⟩
   ·have HE : Hid (false = x ∧ true = y) := by have := HX.out; simp [takesN, hk, hq] at this; unfold Hid; simpa using this
    have z1 : (4 : Int) ≤ (n : Int) := by omega
    have z2 : ¬ (n : Int) % 4 ≤ 1 := by omega
    rw [← HE.out.1, ← HE.out.2]
    clear HX HE hk hq
    go_enter Tryz.func94, Tryz.ntmps94
    go_wp2_with fail
    go_ret2
    exact ⟨rfl, rfl⟩
  ·have HE : Hid (false = x ∧ true = y) := by have := HX.out; simp [takesN, hk] at this; unfold Hid; simpa using this
   have z1 : ¬ (4 : Int) ≤ (n : Int) := by omega
   rw [← HE.out.1, ← HE.out.2]
   clear HX HE hk
   go_enter Tryz.func94, Tryz.ntmps94
   go_wp2_with fail
   go_ret2
   exact ⟨rfl, rfl⟩
 by_cases h1234 : op = 1234
 ·subst h1234
  by_cases hk : n = 7
  ·have HE : Hid (true = x ∧ true = y) := by have := HX.out; simp [takesN, hk] at this; unfold Hid; simpa using this
   subst hk
   rw [← HE.out.1, ← HE.out.2]
   clear HX HE
   go_enter Tryz.func94, Tryz.ntmps94
   go_wp2_with fail
   go_ret2
   exact ⟨rfl, rfl⟩
  ·have HE : Hid (false = x ∧ true = y) := by have := HX.out; simp [takesN, hk] at this; unfold Hid; simpa using this
   have z1 : ((n : Int) == 7) = false := by simp; omega
   rw [← HE.out.1, ← HE.out.2]
   clear HX HE hk
   go_enter Tryz.func94, Tryz.ntmps94
   go_wp2_with fail
   go_ret2
   exact ⟨rfl, rfl⟩
 by_cases h1235 : op = 1235
 ·subst h1235
  by_cases hk : n = 13
  ·have HE : Hid (true = x ∧ true = y) := by have := HX.out; simp [takesN, hk] at this; unfold Hid; simpa using this
   subst hk
   rw [← HE.out.1, ← HE.out.2]
   clear HX HE
   go_enter Tryz.func94, Tryz.ntmps94
   go_wp2_with fail
   go_ret2
   exact ⟨rfl, rfl⟩
  ·have HE : Hid (false = x ∧ true = y) := by have := HX.out; simp [takesN, hk] at this; unfold Hid; simpa using this
   have z1 : ((n : Int) == 13) = false := by simp; omega
   rw [← HE.out.1, ← HE.out.2]
   clear HX HE hk
   go_enter Tryz.func94, Tryz.ntmps94
   go_wp2_with fail
   go_ret2
   exact ⟨rfl, rfl⟩
 by_cases h1236 : op = 1236
 ·subst h1236
  by_cases hk : n = 9
  ·have HE : Hid (true = x ∧ true = y) := by have := HX.out; simp [takesN, hk] at this; unfold Hid; simpa using this
   subst hk
   rw [← HE.out.1, ← HE.out.2]
   clear HX HE
   go_enter Tryz.func94, Tryz.ntmps94
   go_wp2_with fail
   go_ret2
   exact ⟨rfl, rfl⟩
  ·have HE : Hid (false = x ∧ true = y) := by have := HX.out; simp [takesN, hk] at this; unfold Hid; simpa using this
   have z1 : ((n : Int) == 9) = false := by simp; omega
   rw [← HE.out.1, ← HE.out.2]
   clear HX HE hk
   go_enter Tryz.func94, Tryz.ntmps94
   go_wp2_with fail
   go_ret2
   exact ⟨rfl, rfl⟩
 by_cases h1237 : op = 1237
 ·subst h1237
  by_cases hk : n = 11
  ·have HE : Hid (true = x ∧ true = y) := by have := HX.out; simp [takesN, hk] at this; unfold Hid; simpa using this
   subst hk
   rw [← HE.out.1, ← HE.out.2]
   clear HX HE
   go_enter Tryz.func94, Tryz.ntmps94
   go_wp2_with fail
   go_ret2
   exact ⟨rfl, rfl⟩
  ·have HE : Hid (false = x ∧ true = y) := by have := HX.out; simp [takesN, hk] at this; unfold Hid; simpa using this
   have z1 : ((n : Int) == 11) = false := by simp; omega
   rw [← HE.out.1, ← HE.out.2]
   clear HX HE hk
   go_enter Tryz.func94, Tryz.ntmps94
   go_wp2_with fail
   go_ret2
   exact ⟨rfl, rfl⟩
 have HE : Hid (false = x ∧ false = y) := by have := HX.out; simp [takesN, h5, h6, h7, h8, h24, h25, h26, h27, h30, h31, h1234, h1235, h1236, h1237] at this; unfold Hid; simpa using this
 rw [← HE.out.1, ← HE.out.2]
 clear HX HE
 go_enter Tryz.func94, Tryz.ntmps94
 go_wp2_with fail
 go_ret2
 exact ⟨rfl, rfl⟩
theorem takes_cases {op : Int} {n : Nat} (h : (takesN op n).1 = true) : (op = 5 ∧ n % 2 = 0) ∨ op = 6 ∨ op = 7 ∨ (op = 8 ∧ n % 6 = 0) ∨ (op = 24 ∧ 8 ≤ n ∧ n % 6 = 2) ∨ (op = 25 ∧ 8 ≤ n ∧ n % 2 = 0) ∨
 (op = 26 ∧ n % 4 ≤ 1) ∨ (op = 27 ∧ n % 4 ≤ 1) ∨ op = 30 ∨ op = 31 ∨ (op = 1234 ∧ n = 7) ∨ (op = 1235 ∧ n = 13) ∨ (op = 1236 ∧ n = 9) ∨ (op = 1237 ∧ n = 11) := by
 by_cases h5 : op = 5
 ·subst h5; simp [takesN] at h; exact .inl (⟨rfl, by omega⟩)
 by_cases h6 : op = 6
 ·subst h6; simp [takesN] at h; exact .inr (.inl (rfl))
 by_cases h7 : op = 7
 ·subst h7; simp [takesN] at h; exact .inr (.inr (.inl (rfl)))
 by_cases h8 : op = 8
 ·subst h8; simp [takesN] at h; exact .inr (.inr (.inr (.inl (⟨rfl, by omega⟩))))
 by_cases h24 : op = 24
 ·subst h24; simp [takesN] at h; exact .inr (.inr (.inr (.inr (.inl (⟨rfl, by omega, by omega⟩)))))
 by_cases h25 : op = 25
 ·subst h25; simp [takesN] at h; exact .inr (.inr (.inr (.inr (.inr (.inl (⟨rfl, by omega, by omega⟩))))))
 by_cases h26 : op = 26
 ·subst h26; simp [takesN] at h; exact .inr (.inr (.inr (.inr (.inr (.inr (.inl (⟨rfl, by omega⟩)))))))
 by_cases h27 : op = 27
 ·subst h27; simp [takesN] at h; exact .inr (.inr (.inr (.inr (.inr (.inr (.inr (.inl (⟨rfl, by omega⟩))))))))
 by_cases h30 : op = 30
 ·subst h30; simp [takesN] at h; exact .inr (.inr (.inr (.inr (.inr (.inr (.inr (.inr (.inl (rfl)))))))))
 by_cases h31 : op = 31
 ·subst h31; simp [takesN] at h; exact .inr (.inr (.inr (.inr (.inr (.inr (.inr (.inr (.inr (.inl (rfl))))))))))
 by_cases h1234 : op = 1234
 ·subst h1234; simp [takesN] at h; exact .inr (.inr (.inr (.inr (.inr (.inr (.inr (.inr (.inr (.inr (.inl (⟨rfl, by omega⟩)))))))))))
 by_cases h1235 : op = 1235
 ·subst h1235; simp [takesN] at h; exact .inr (.inr (.inr (.inr (.inr (.inr (.inr (.inr (.inr (.inr (.inr (.inl (⟨rfl, by omega⟩))))))))))))
 by_cases h1236 : op = 1236
 ·subst h1236; simp [takesN] at h; exact .inr (.inr (.inr (.inr (.inr (.inr (.inr (.inr (.inr (.inr (.inr (.inr (.inl (⟨rfl, by omega⟩)))))))))))))
 by_cases h1237 : op = 1237
 ·subst h1237; simp [takesN] at h; exact .inr (.inr (.inr (.inr (.inr (.inr (.inr (.inr (.inr (.inr (.inr (.inr (.inr (⟨rfl, by omega⟩)))))))))))))
 simp [takesN, h5, h6, h7, h8, h24, h25, h26, h27, h30, h31, h1234, h1235, h1236, h1237] at h
set_option maxRecDepth 20000 in
set_option maxHeartbeats 2000000 in
theorem strokes_5 (B M F : Nat) (L : Lay) (s : MS) (l : List Int) (a : Option Addr) (c : Nat) (w : World) (h : Mach w B M F L s) (hp : PenFit s) (ho : Opds w l a) (hc : l.length ≤ c) (hl : l.length ≤ 1000) (hq : l.length % 2 = 0) :
 Calls Tryz.prog 96 #[.pointer (some ⟨M, 0, none⟩), .int .i64 5, .slice a l.length c] w (PenPost B M F L (MS.strokes 5 l s) (.tuple #[]) w) := by
 have HK := Lib.hid (lines_c B M F L s l a c w h hp ho hc hq hl)
 have HE : Hid (MS.strokes 5 l s = MS.lines l s) := by unfold Hid MS.strokes; simp
 rw [HE.out]
 generalize MS.lines l s = s9 at *
 obtain ⟨n, HN⟩ : ∃ n, Hid (l.length = n) := ⟨_, rfl⟩
 rw [HN.out] at HK ⊢
 clear h hp ho hc hl HE hq
 go_enter Tryz.func96, Tryz.ntmps96
 go_wp2_with fail
 refine HK.out.mono ?_
 rintro e w1 ⟨rfl, hx⟩
 have HX := Lib.hid hx
 clear hx
 go_wp2_with fail
 go_end0
 exact ⟨rfl, HX.out⟩
set_option maxRecDepth 20000 in
set_option maxHeartbeats 2000000 in
theorem strokes_6 (B M F : Nat) (L : Lay) (s : MS) (l : List Int) (a : Option Addr) (c : Nat) (w : World) (h : Mach w B M F L s) (hp : PenFit s) (ho : Opds w l a) (hc : l.length ≤ c) (hl : l.length ≤ 1000) :
 Calls Tryz.prog 96 #[.pointer (some ⟨M, 0, none⟩), .int .i64 6, .slice a l.length c] w (PenPost B M F L (MS.strokes 6 l s) (.tuple #[]) w) := by
 have HK := Lib.hid (steps_c B M F L s l a c true w h hp ho hl)
 have HE : Hid (MS.strokes 6 l s = MS.steps l true s) := by unfold Hid MS.strokes; simp
 rw [HE.out]
 generalize MS.steps l true s = s9 at *
 obtain ⟨n, HN⟩ : ∃ n, Hid (l.length = n) := ⟨_, rfl⟩
 rw [HN.out] at HK ⊢
 clear h hp ho hc hl HE
 go_enter Tryz.func96, Tryz.ntmps96
 go_wp2_with fail
 refine HK.out.mono ?_
 rintro e w1 ⟨rfl, hx⟩
 have HX := Lib.hid hx
 clear hx
 go_wp2_with fail
 go_end0
 exact ⟨rfl, HX.out⟩
set_option maxRecDepth 20000 in
set_option maxHeartbeats 2000000 in
theorem strokes_7 (B M F : Nat) (L : Lay) (s : MS) (l : List Int) (a : Option Addr) (c : Nat) (w : World) (h : Mach w B M F L s) (hp : PenFit s) (ho : Opds w l a) (hc : l.length ≤ c) (hl : l.length ≤ 1000) :
 Calls Tryz.prog 96 #[.pointer (some ⟨M, 0, none⟩), .int .i64 7, .slice a l.length c] w (PenPost B M F L (MS.strokes 7 l s) (.tuple #[]) w) := by
 have HK := Lib.hid (steps_c B M F L s l a c false w h hp ho hl)
 have HE : Hid (MS.strokes 7 l s = MS.steps l false s) := by unfold Hid MS.strokes; simp
 rw [HE.out]
 generalize MS.steps l false s = s9 at *
 obtain ⟨n, HN⟩ : ∃ n, Hid (l.length = n) := ⟨_, rfl⟩
 rw [HN.out] at HK ⊢
 clear h hp ho hc hl HE
 go_enter Tryz.func96, Tryz.ntmps96
 go_wp2_with fail
 refine HK.out.mono ?_
 rintro e w1 ⟨rfl, hx⟩
 have HX := Lib.hid hx
 clear hx
 go_wp2_with fail
 go_end0
 exact ⟨rfl, HX.out⟩
set_option maxRecDepth 20000 in
set_option maxHeartbeats 2000000 in
theorem strokes_8 (B M F : Nat) (L : Lay) (s : MS) (l : List Int) (a : Option Addr) (c : Nat) (w : World) (h : Mach w B M F L s) (hp : PenFit s) (ho : Opds w l a) (hc : l.length ≤ c) (hl : l.length ≤ 1000) (hq : l.length % 6 = 0) :
 Calls Tryz.prog 96 #[.pointer (some ⟨M, 0, none⟩), .int .i64 8, .slice a l.length c] w (PenPost B M F L (MS.strokes 8 l s) (.tuple #[]) w) := by
 have HK := Lib.hid (curves_c B M F L s l a c w h hp ho hc hq hl)
 have HE : Hid (MS.strokes 8 l s = MS.curves l s) := by unfold Hid MS.strokes; simp
 rw [HE.out]
 generalize MS.curves l s = s9 at *
 obtain ⟨n, HN⟩ : ∃ n, Hid (l.length = n) := ⟨_, rfl⟩
 rw [HN.out] at HK ⊢
 clear h hp ho hc hl HE hq
 go_enter Tryz.func96, Tryz.ntmps96
 go_wp2_with fail
 refine HK.out.mono ?_
 rintro e w1 ⟨rfl, hx⟩
 have HX := Lib.hid hx
 clear hx
 go_wp2_with fail
 go_end0
 exact ⟨rfl, HX.out⟩
set_option maxRecDepth 20000 in
set_option maxHeartbeats 2000000 in
theorem strokes_26 (B M F : Nat) (L : Lay) (s : MS) (l : List Int) (a : Option Addr) (c : Nat) (w : World) (h : Mach w B M F L s) (hp : PenFit s) (ho : Opds w l a) (hc : l.length ≤ c) (hl : l.length ≤ 1000) (hq : l.length % 4 ≤ 1) :
 Calls Tryz.prog 96 #[.pointer (some ⟨M, 0, none⟩), .int .i64 26, .slice a l.length c] w (PenPost B M F L (MS.strokes 26 l s) (.tuple #[]) w) := by
 have HK := Lib.hid (waves_c B M F L s l a c false w h hp ho hc hq hl)
 have HE : Hid (MS.strokes 26 l s = MS.waves l false s) := by unfold Hid MS.strokes; simp
 rw [HE.out]
 generalize MS.waves l false s = s9 at *
 obtain ⟨n, HN⟩ : ∃ n, Hid (l.length = n) := ⟨_, rfl⟩
 rw [HN.out] at HK ⊢
 clear h hp ho hc hl HE hq
 go_enter Tryz.func96, Tryz.ntmps96
 go_wp2_with fail
 refine HK.out.mono ?_
 rintro e w1 ⟨rfl, hx⟩
 have HX := Lib.hid hx
 clear hx
 go_wp2_with fail
 go_end0
 exact ⟨rfl, HX.out⟩
set_option maxRecDepth 20000 in
set_option maxHeartbeats 2000000 in
theorem strokes_27 (B M F : Nat) (L : Lay) (s : MS) (l : List Int) (a : Option Addr) (c : Nat) (w : World) (h : Mach w B M F L s) (hp : PenFit s) (ho : Opds w l a) (hc : l.length ≤ c) (hl : l.length ≤ 1000) (hq : l.length % 4 ≤ 1) :
 Calls Tryz.prog 96 #[.pointer (some ⟨M, 0, none⟩), .int .i64 27, .slice a l.length c] w (PenPost B M F L (MS.strokes 27 l s) (.tuple #[]) w) := by
 have HK := Lib.hid (waves_c B M F L s l a c true w h hp ho hc hq hl)
 have HE : Hid (MS.strokes 27 l s = MS.waves l true s) := by unfold Hid MS.strokes; simp
 rw [HE.out]
 generalize MS.waves l true s = s9 at *
 obtain ⟨n, HN⟩ : ∃ n, Hid (l.length = n) := ⟨_, rfl⟩
 rw [HN.out] at HK ⊢
 clear h hp ho hc hl HE hq
 go_enter Tryz.func96, Tryz.ntmps96
 go_wp2_with fail
 refine HK.out.mono ?_
 rintro e w1 ⟨rfl, hx⟩
 have HX := Lib.hid hx
 clear hx
 go_wp2_with fail
 go_end0
 exact ⟨rfl, HX.out⟩
set_option maxRecDepth 20000 in
set_option maxHeartbeats 2000000 in
theorem strokes_30 (B M F : Nat) (L : Lay) (s : MS) (l : List Int) (a : Option Addr) (c : Nat) (w : World) (h : Mach w B M F L s) (hp : PenFit s) (ho : Opds w l a) (hc : l.length ≤ c) (hl : l.length ≤ 1000) :
 Calls Tryz.prog 96 #[.pointer (some ⟨M, 0, none⟩), .int .i64 30, .slice a l.length c] w (PenPost B M F L (MS.strokes 30 l s) (.tuple #[]) w) := by
 have HK := Lib.hid (turns_c B M F L s l a c false w h hp ho hc hl)
 have HE : Hid (MS.strokes 30 l s = MS.turns l false s) := by unfold Hid MS.strokes; simp
 rw [HE.out]
 generalize MS.turns l false s = s9 at *
 obtain ⟨n, HN⟩ : ∃ n, Hid (l.length = n) := ⟨_, rfl⟩
 rw [HN.out] at HK ⊢
 clear h hp ho hc hl HE
 go_enter Tryz.func96, Tryz.ntmps96
 go_wp2_with fail
 refine HK.out.mono ?_
 rintro e w1 ⟨rfl, hx⟩
 have HX := Lib.hid hx
 clear hx
 go_wp2_with fail
 go_end0
 exact ⟨rfl, HX.out⟩
set_option maxRecDepth 20000 in
set_option maxHeartbeats 2000000 in
theorem strokes_31 (B M F : Nat) (L : Lay) (s : MS) (l : List Int) (a : Option Addr) (c : Nat) (w : World) (h : Mach w B M F L s) (hp : PenFit s) (ho : Opds w l a) (hc : l.length ≤ c) (hl : l.length ≤ 1000) :
 Calls Tryz.prog 96 #[.pointer (some ⟨M, 0, none⟩), .int .i64 31, .slice a l.length c] w (PenPost B M F L (MS.strokes 31 l s) (.tuple #[]) w) := by
 have HK := Lib.hid (turns_c B M F L s l a c true w h hp ho hc hl)
 have HE : Hid (MS.strokes 31 l s = MS.turns l true s) := by unfold Hid MS.strokes; simp
 rw [HE.out]
 generalize MS.turns l true s = s9 at *
 obtain ⟨n, HN⟩ : ∃ n, Hid (l.length = n) := ⟨_, rfl⟩
 rw [HN.out] at HK ⊢
 clear h hp ho hc hl HE
 go_enter Tryz.func96, Tryz.ntmps96
 go_wp2_with fail
 refine HK.out.mono ?_
 rintro e w1 ⟨rfl, hx⟩
 have HX := Lib.hid hx
 clear hx
 go_wp2_with fail
 go_end0
 exact ⟨rfl, HX.out⟩
theorem PenFit.lines : ∀ (l : List Int) (s : MS), PenFit s → PenFit (MS.lines l s)
 | [], s, h => h
 | [x], s, h => h
 | x :: y :: r, s, h => PenFit.lines r _ (h.knot _ _ _)
theorem PenFit.steps : ∀ (l : List Int) (ax : Bool) (s : MS), PenFit s → PenFit (MS.steps l ax s)
 | [], ax, s, h => h
 | d :: r, ax, s, h => PenFit.steps r _ _ (by split <;> exact h.knot _ _ _)
theorem PenFit.curves : ∀ (l : List Int) (s : MS), PenFit s → PenFit (MS.curves l s)
 | [], s, h => h
 | [_], s, h => h
 | [_, _], s, h => h
 | [_, _, _], s, h => h
 | [_, _, _, _], s, h => h
 | [_, _, _, _, _], s, h => h
 | _ :: _ :: _ :: _ :: _ :: _ :: r, s, h => PenFit.curves r _ (h.curve _ _ _ _ _ _)
theorem PenFit.wavesFrom : ∀ (l : List Int) (odd : Int) (ax : Bool) (s : MS), PenFit s → PenFit (MS.wavesFrom odd l ax s)
 | [], _, ax, s, h => by simpa [MS.wavesFrom] using h
 | [_], _, ax, s, h => by simpa [MS.wavesFrom] using h
 | [_, _], _, ax, s, h => by simpa [MS.wavesFrom] using h
 | [_, _, _], _, ax, s, h => by simpa [MS.wavesFrom] using h
 | _ :: _ :: _ :: _ :: r, _, ax, s, h => PenFit.wavesFrom r _ _ _ (by split <;> exact h.curve _ _ _ _ _ _)
theorem PenFit.turns : ∀ (l : List Int) (ax : Bool) (s : MS), PenFit s → PenFit (MS.turns l ax s)
 | [], ax, s, h => h
 | [_], ax, s, h => h
 | [_, _], ax, s, h => h
 | [_, _, _], ax, s, h => h
 | _ :: _ :: _ :: _ :: r, ax, s, h => PenFit.turns r _ _ (by split <;> exact h.curve _ _ _ _ _ _)
set_option maxRecDepth 20000 in
set_option maxHeartbeats 2000000 in
theorem strokes_24 (B M F : Nat) (L : Lay) (s : MS) (l : List Int) (a : Option Addr) (c : Nat) (w : World) (h : Mach w B M F L s) (hp : PenFit s) (ho : Opds w l a) (hc : l.length ≤ c) (hl : l.length ≤ 1000) (h8 : 8 ≤ l.length) (hq : l.length % 6 = 2) :
 Calls Tryz.prog 96 #[.pointer (some ⟨M, 0, none⟩), .int .i64 24, .slice a l.length c] w (PenPost B M F L (MS.strokes 24 l s) (.tuple #[]) w) := by
 obtain ⟨m, HM⟩ : ∃ m, Hid (l.length - 2 = m) := ⟨_, rfl⟩
 have HL1 : Hid ((l.take m).length = m) := by have := HM.out; unfold Hid; rw [List.length_take]; omega
 have HL2 : Hid ((l.drop m).length = 2) := by have := HM.out; unfold Hid; rw [List.length_drop]; omega
 have HE : Hid (MS.strokes 24 l s = MS.lines (l.drop m) (MS.curves (l.take m) s)) := by unfold Hid; rw [← HM.out]; rfl
 rw [HE.out]
 have HK := Lib.hid (curves_c B M F L s (l.take m) a c w h hp (ho.take m) (by rw [HL1.out]; have := HM.out; omega) (by rw [HL1.out]; have := HM.out; omega) (by rw [HL1.out]; have := HM.out; omega))
 rw [HL1.out] at HK
 obtain ⟨g, off, rfl, _⟩ := ho.at (by omega)
 have HO := Lib.hid ho
 have HP1 := Lib.hid (PenFit.curves (l.take m) s hp)
 generalize MS.curves (l.take m) s = s1 at *
 have hn : l.length = m + 2 := by have := HM.out; omega
 have HN := Lib.hid hn
 have hm : m ≤ 1000 := by omega
 have hmc : m + 2 ≤ c := by omega
 have HC := Lib.hid hc
 rw [HN.out]
 have h0 : (0 : Int) ≤ (m : Int) := by omega
 have h1 : (m : Int) ≤ (m : Int) + 2 := by omega
 have h2 : (m : Int) ≤ (c : Int) := by omega
 have h3 : (m : Int) + 2 ≤ (c : Int) := by omega
 have hcm : ¬ c = m := by omega
 clear h hp ho hc hl h8 hq HE hn
 go_enter Tryz.func96, Tryz.ntmps96
 go_wp2_with fail
 refine HK.out.mono ?_
 rintro e w1 ⟨rfl, ⟨oa1, oc1, vs1, hh1⟩, hb1, hk1⟩
 have H1 := Lib.hid hh1
 have HB1 := Lib.hid hb1
 have HK1 := Lib.hid hk1
 clear hh1 hb1 hk1 HK
 have HO2 : Hid (Opds w1 (l.drop m) (some ⟨g, off + m, none⟩)) := (HO.out.keep HK1.out).drop m
 have HK2 := Lib.hid (lines_c B M F _ s1 (l.drop m) (some ⟨g, off + m, none⟩) (c - m) w1 H1.out HP1.out HO2.out (by rw [HL2.out]; omega) (by rw [HL2.out]) (by rw [HL2.out]; omega))
 rw [HL2.out] at HK2
 go_wp2_with fail
 refine HK2.out.mono ?_
 rintro e w2 ⟨rfl, ⟨oa2, oc2, vs2, hh2⟩, hb2, hk2⟩
 have H2 := Lib.hid hh2
 have HB2 := Lib.hid (HB1.out.trans hb2)
 have HK3 := Lib.hid (HK1.out.trans hk2)
 clear hh2 hb2 hk2 HK2
 go_wp2_with fail
 go_end0
 exact ⟨rfl, ⟨_, _, _, H2.out⟩, HB2.out, HK3.out⟩
set_option maxRecDepth 20000 in
set_option maxHeartbeats 2000000 in
theorem strokes_25 (B M F : Nat) (L : Lay) (s : MS) (l : List Int) (a : Option Addr) (c : Nat) (w : World) (h : Mach w B M F L s) (hp : PenFit s) (ho : Opds w l a) (hc : l.length ≤ c) (hl : l.length ≤ 1000) (h8 : 8 ≤ l.length) (hq : l.length % 2 = 0) :
 Calls Tryz.prog 96 #[.pointer (some ⟨M, 0, none⟩), .int .i64 25, .slice a l.length c] w (PenPost B M F L (MS.strokes 25 l s) (.tuple #[]) w) := by
 obtain ⟨m, HM⟩ : ∃ m, Hid (l.length - 6 = m) := ⟨_, rfl⟩
 have HL1 : Hid ((l.take m).length = m) := by have := HM.out; unfold Hid; rw [List.length_take]; omega
 have HL2 : Hid ((l.drop m).length = 6) := by have := HM.out; unfold Hid; rw [List.length_drop]; omega
 have HE : Hid (MS.strokes 25 l s = MS.curves (l.drop m) (MS.lines (l.take m) s)) := by unfold Hid; rw [← HM.out]; rfl
 rw [HE.out]
 have HK := Lib.hid (lines_c B M F L s (l.take m) a c w h hp (ho.take m) (by rw [HL1.out]; have := HM.out; omega) (by rw [HL1.out]; have := HM.out; omega) (by rw [HL1.out]; have := HM.out; omega))
 rw [HL1.out] at HK
 obtain ⟨g, off, rfl, _⟩ := ho.at (by omega)
 have HO := Lib.hid ho
 have HP1 := Lib.hid (PenFit.lines (l.take m) s hp)
 generalize MS.lines (l.take m) s = s1 at *
 have hn : l.length = m + 6 := by have := HM.out; omega
 have HN := Lib.hid hn
 have hm : m ≤ 1000 := by omega
 have hmc : m + 6 ≤ c := by omega
 have HC := Lib.hid hc
 rw [HN.out]
 have h0 : (0 : Int) ≤ (m : Int) := by omega
 have h1 : (m : Int) ≤ (m : Int) + 6 := by omega
 have h2 : (m : Int) ≤ (c : Int) := by omega
 have h3 : (m : Int) + 6 ≤ (c : Int) := by omega
 have hcm : ¬ c = m := by omega
 clear h hp ho hc hl h8 hq HE hn
 go_enter Tryz.func96, Tryz.ntmps96
 go_wp2_with fail
 refine HK.out.mono ?_
 rintro e w1 ⟨rfl, ⟨oa1, oc1, vs1, hh1⟩, hb1, hk1⟩
 have H1 := Lib.hid hh1
 have HB1 := Lib.hid hb1
 have HK1 := Lib.hid hk1
 clear hh1 hb1 hk1 HK
 have HO2 : Hid (Opds w1 (l.drop m) (some ⟨g, off + m, none⟩)) := (HO.out.keep HK1.out).drop m
 have HK2 := Lib.hid (curves_c B M F _ s1 (l.drop m) (some ⟨g, off + m, none⟩) (c - m) w1 H1.out HP1.out HO2.out (by rw [HL2.out]; omega) (by rw [HL2.out]) (by rw [HL2.out]; omega))
 rw [HL2.out] at HK2
 go_wp2_with fail
 refine HK2.out.mono ?_
 rintro e w2 ⟨rfl, ⟨oa2, oc2, vs2, hh2⟩, hb2, hk2⟩
 have H2 := Lib.hid hh2
 have HB2 := Lib.hid (HB1.out.trans hb2)
 have HK3 := Lib.hid (HK1.out.trans hk2)
 clear hh2 hb2 hk2 HK2
 go_wp2_with fail
 go_end0
 exact ⟨rfl, ⟨_, _, _, H2.out⟩, HB2.out, HK3.out⟩
end Go.Proofs.YtklenppldblbdaaGreat
