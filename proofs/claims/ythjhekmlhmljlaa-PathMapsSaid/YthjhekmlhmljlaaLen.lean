/-
  What the library's Len64 and LeadingZeros64 answer, as contracts over the translated program: how far a number that is not 0 is to be shifted so that its highest bit stands at the top.
-/
import Derived.Test.YthjhekmlhmljlaaRows
import Derived.WalkKit
import Derived.Lib.Strings
import Derived.Lib.Slices
import Derived.Lib.Small
import Derived.Lib.Walk
import Derived.Lib.BitFns
import Derived.Lib.Hide
import Derived.Outline
namespace Go.Proofs.Ythjhekmlhmljlaa
open Go.RowKit Go.Lib
set_option linter.unusedSimpArgs false
set_option linter.unusedVariables false

theorem len_step (x k : Nat) (b : Int) (hk : k = 0 ∨ 2 ^ k ≤ x) (hb : b = ((x / 2 ^ k : Nat) : Int)) (h2 : x / 2 ^ k < 256) (hx : x < 2 ^ 64) : (k : Int) + Lib.len8 b = Lib.bitLen x := by
  subst hb
  rw [Lib.len8_of _ (Int.natCast_nonneg _) (by omega), Int.toNat_natCast]
  rcases hk with rfl | hk
  · simp
  · have := Lib.bitLen_shift k x hk hx
    omega

theorem bitLen_pos (x : Nat) (h0 : x ≠ 0) (hx : x < 2 ^ 64) : x < 2 ^ Lib.bitLen x ∧ 2 ^ Lib.bitLen x ≤ 2 * x := by
  induction x using Nat.strongRecOn with
  | ind x ih =>
    have h := Lib.bitLen_half x h0 hx
    by_cases h1 : x = 1
    · subst h1; decide
    · have := ih (x / 2) (by omega) (by omega) (by omega)
      rw [h, Nat.pow_add]
      omega

theorem len8_bounds (b : Int) (h0 : 0 ≤ b) (h1 : b ≤ 255) : 0 ≤ Lib.len8 b ∧ Lib.len8 b ≤ 8 := by
  rw [Lib.len8_of b h0 h1]
  have := Lib.bitLen_le8' b h0 h1
  omega

set_option maxHeartbeats 1000000 in
set_option maxRecDepth 100000 in
theorem len64_56 (x : Int) (w : World) (h0 : 0 ≤ x) (hx : x ≤ 18446744073709551615) (t1 : 4294967296 ≤ x) (t2 : 65536 ≤ x / 4294967296) (t3 : 256 ≤ x / 4294967296 / 65536) :
    Calls Try.prog 78 #[.int .u64 x] w fun e w' => e = .returned (.int .i64 (Lib.bitLen x.toNat)) ∧ w = w' := by
  have e0 : 0 ≤ x / 4294967296 / 65536 / 256 := by omega
  have e1 : x / 4294967296 / 65536 / 256 ≤ 255 := by omega
  obtain ⟨l0, l1⟩ := len8_bounds _ e0 e1
  have HK : Hid ((56 : Int) + Lib.len8 (x / 4294967296 / 65536 / 256) = Lib.bitLen x.toNat) := len_step x.toNat 56 _ (by right; show 72057594037927936 ≤ x.toNat; omega) (by show x / 4294967296 / 65536 / 256 = ((x.toNat / 72057594037927936 : Nat) : Int); omega) (by show x.toNat / 72057594037927936 < 256; omega) (by omega)
  go_enter Try.func78, Try.ntmps78
  go_wp2
  go_ret
  refine ⟨?_, rfl⟩
  rw [← HK.out]
  first | rfl | (simp; done)

set_option maxHeartbeats 1000000 in
set_option maxRecDepth 100000 in
theorem len64_48 (x : Int) (w : World) (h0 : 0 ≤ x) (hx : x ≤ 18446744073709551615) (t1 : 4294967296 ≤ x) (t2 : 65536 ≤ x / 4294967296) (t3 : ¬ 256 ≤ x / 4294967296 / 65536) :
    Calls Try.prog 78 #[.int .u64 x] w fun e w' => e = .returned (.int .i64 (Lib.bitLen x.toNat)) ∧ w = w' := by
  have e0 : 0 ≤ x / 4294967296 / 65536 := by omega
  have e1 : x / 4294967296 / 65536 ≤ 255 := by omega
  obtain ⟨l0, l1⟩ := len8_bounds _ e0 e1
  have HK : Hid ((48 : Int) + Lib.len8 (x / 4294967296 / 65536) = Lib.bitLen x.toNat) := len_step x.toNat 48 _ (by right; show 281474976710656 ≤ x.toNat; omega) (by show x / 4294967296 / 65536 = ((x.toNat / 281474976710656 : Nat) : Int); omega) (by show x.toNat / 281474976710656 < 256; omega) (by omega)
  go_enter Try.func78, Try.ntmps78
  go_wp2
  go_ret
  refine ⟨?_, rfl⟩
  rw [← HK.out]
  first | rfl | (simp; done)

set_option maxHeartbeats 1000000 in
set_option maxRecDepth 100000 in
theorem len64_40 (x : Int) (w : World) (h0 : 0 ≤ x) (hx : x ≤ 18446744073709551615) (t1 : 4294967296 ≤ x) (t2 : ¬ 65536 ≤ x / 4294967296) (t3 : 256 ≤ x / 4294967296) :
    Calls Try.prog 78 #[.int .u64 x] w fun e w' => e = .returned (.int .i64 (Lib.bitLen x.toNat)) ∧ w = w' := by
  have e0 : 0 ≤ x / 4294967296 / 256 := by omega
  have e1 : x / 4294967296 / 256 ≤ 255 := by omega
  obtain ⟨l0, l1⟩ := len8_bounds _ e0 e1
  have HK : Hid ((40 : Int) + Lib.len8 (x / 4294967296 / 256) = Lib.bitLen x.toNat) := len_step x.toNat 40 _ (by right; show 1099511627776 ≤ x.toNat; omega) (by show x / 4294967296 / 256 = ((x.toNat / 1099511627776 : Nat) : Int); omega) (by show x.toNat / 1099511627776 < 256; omega) (by omega)
  go_enter Try.func78, Try.ntmps78
  go_wp2
  go_ret
  refine ⟨?_, rfl⟩
  rw [← HK.out]
  first | rfl | (simp; done)

set_option maxHeartbeats 1000000 in
set_option maxRecDepth 100000 in
theorem len64_32 (x : Int) (w : World) (h0 : 0 ≤ x) (hx : x ≤ 18446744073709551615) (t1 : 4294967296 ≤ x) (t2 : ¬ 65536 ≤ x / 4294967296) (t3 : ¬ 256 ≤ x / 4294967296) :
    Calls Try.prog 78 #[.int .u64 x] w fun e w' => e = .returned (.int .i64 (Lib.bitLen x.toNat)) ∧ w = w' := by
  have e0 : 0 ≤ x / 4294967296 := by omega
  have e1 : x / 4294967296 ≤ 255 := by omega
  obtain ⟨l0, l1⟩ := len8_bounds _ e0 e1
  have HK : Hid ((32 : Int) + Lib.len8 (x / 4294967296) = Lib.bitLen x.toNat) := len_step x.toNat 32 _ (by right; show 4294967296 ≤ x.toNat; omega) (by show x / 4294967296 = ((x.toNat / 4294967296 : Nat) : Int); omega) (by show x.toNat / 4294967296 < 256; omega) (by omega)
  go_enter Try.func78, Try.ntmps78
  go_wp2
  go_ret
  refine ⟨?_, rfl⟩
  rw [← HK.out]
  first | rfl | (simp; done)

set_option maxHeartbeats 1000000 in
set_option maxRecDepth 100000 in
theorem len64_24 (x : Int) (w : World) (h0 : 0 ≤ x) (hx : x ≤ 18446744073709551615) (t1 : ¬ 4294967296 ≤ x) (t2 : 65536 ≤ x) (t3 : 256 ≤ x / 65536) :
    Calls Try.prog 78 #[.int .u64 x] w fun e w' => e = .returned (.int .i64 (Lib.bitLen x.toNat)) ∧ w = w' := by
  have e0 : 0 ≤ x / 65536 / 256 := by omega
  have e1 : x / 65536 / 256 ≤ 255 := by omega
  obtain ⟨l0, l1⟩ := len8_bounds _ e0 e1
  have HK : Hid ((24 : Int) + Lib.len8 (x / 65536 / 256) = Lib.bitLen x.toNat) := len_step x.toNat 24 _ (by right; show 16777216 ≤ x.toNat; omega) (by show x / 65536 / 256 = ((x.toNat / 16777216 : Nat) : Int); omega) (by show x.toNat / 16777216 < 256; omega) (by omega)
  go_enter Try.func78, Try.ntmps78
  go_wp2
  go_ret
  refine ⟨?_, rfl⟩
  rw [← HK.out]
  first | rfl | (simp; done)

set_option maxHeartbeats 1000000 in
set_option maxRecDepth 100000 in
theorem len64_16 (x : Int) (w : World) (h0 : 0 ≤ x) (hx : x ≤ 18446744073709551615) (t1 : ¬ 4294967296 ≤ x) (t2 : 65536 ≤ x) (t3 : ¬ 256 ≤ x / 65536) :
    Calls Try.prog 78 #[.int .u64 x] w fun e w' => e = .returned (.int .i64 (Lib.bitLen x.toNat)) ∧ w = w' := by
  have e0 : 0 ≤ x / 65536 := by omega
  have e1 : x / 65536 ≤ 255 := by omega
  obtain ⟨l0, l1⟩ := len8_bounds _ e0 e1
  have HK : Hid ((16 : Int) + Lib.len8 (x / 65536) = Lib.bitLen x.toNat) := len_step x.toNat 16 _ (by right; show 65536 ≤ x.toNat; omega) (by show x / 65536 = ((x.toNat / 65536 : Nat) : Int); omega) (by show x.toNat / 65536 < 256; omega) (by omega)
  go_enter Try.func78, Try.ntmps78
  go_wp2
  go_ret
  refine ⟨?_, rfl⟩
  rw [← HK.out]
  first | rfl | (simp; done)

set_option maxHeartbeats 1000000 in
set_option maxRecDepth 100000 in
theorem len64_8 (x : Int) (w : World) (h0 : 0 ≤ x) (hx : x ≤ 18446744073709551615) (t1 : ¬ 4294967296 ≤ x) (t2 : ¬ 65536 ≤ x) (t3 : 256 ≤ x) :
    Calls Try.prog 78 #[.int .u64 x] w fun e w' => e = .returned (.int .i64 (Lib.bitLen x.toNat)) ∧ w = w' := by
  have e0 : 0 ≤ x / 256 := by omega
  have e1 : x / 256 ≤ 255 := by omega
  obtain ⟨l0, l1⟩ := len8_bounds _ e0 e1
  have HK : Hid ((8 : Int) + Lib.len8 (x / 256) = Lib.bitLen x.toNat) := len_step x.toNat 8 _ (by right; show 256 ≤ x.toNat; omega) (by show x / 256 = ((x.toNat / 256 : Nat) : Int); omega) (by show x.toNat / 256 < 256; omega) (by omega)
  go_enter Try.func78, Try.ntmps78
  go_wp2
  go_ret
  refine ⟨?_, rfl⟩
  rw [← HK.out]
  first | rfl | (simp; done)

set_option maxHeartbeats 1000000 in
set_option maxRecDepth 100000 in
theorem len64_0 (x : Int) (w : World) (h0 : 0 ≤ x) (hx : x ≤ 18446744073709551615) (t1 : ¬ 4294967296 ≤ x) (t2 : ¬ 65536 ≤ x) (t3 : ¬ 256 ≤ x) :
    Calls Try.prog 78 #[.int .u64 x] w fun e w' => e = .returned (.int .i64 (Lib.bitLen x.toNat)) ∧ w = w' := by
  have e0 : 0 ≤ x := by omega
  have e1 : x ≤ 255 := by omega
  obtain ⟨l0, l1⟩ := len8_bounds _ e0 e1
  have HK : Hid ((0 : Int) + Lib.len8 (x) = Lib.bitLen x.toNat) := len_step x.toNat 0 _ (by left; rfl) (by show x = ((x.toNat / 1 : Nat) : Int); omega) (by show x.toNat / 1 < 256; omega) (by omega)
  go_enter Try.func78, Try.ntmps78
  go_wp2
  go_ret
  refine ⟨?_, rfl⟩
  rw [← HK.out]
  first | rfl | (simp; done)

theorem len64_any (x : Int) (w : World) (h0 : 0 ≤ x) (hx : x ≤ 18446744073709551615) :
    Calls Try.prog 78 #[.int .u64 x] w fun e w' => e = .returned (.int .i64 (Lib.bitLen x.toNat)) ∧ w = w' := by
  by_cases t1 : 4294967296 ≤ x
  · by_cases t2 : 65536 ≤ x / 4294967296
    · by_cases t3 : 256 ≤ x / 4294967296 / 65536
      · exact len64_56 x w h0 hx t1 t2 t3
      · exact len64_48 x w h0 hx t1 t2 t3
    · by_cases t3 : 256 ≤ x / 4294967296
      · exact len64_40 x w h0 hx t1 t2 t3
      · exact len64_32 x w h0 hx t1 t2 t3
  · by_cases t2 : 65536 ≤ x
    · by_cases t3 : 256 ≤ x / 65536
      · exact len64_24 x w h0 hx t1 t2 t3
      · exact len64_16 x w h0 hx t1 t2 t3
    · by_cases t3 : 256 ≤ x
      · exact len64_8 x w h0 hx t1 t2 t3
      · exact len64_0 x w h0 hx t1 t2 t3

set_option maxHeartbeats 1000000 in
/-- How far y is to be shifted. -/
theorem lz_any (y : Int) (s : Nat) (w : World) (h0 : 0 ≤ y) (hx : y ≤ 18446744073709551615) (HS : Hid (Lib.bitLen y.toNat + s = 64)) :
    Calls Try.prog 67 #[.int .u64 y] w fun e w' => e = .returned (.int .i64 (s : Int)) ∧ w = w' := by
  have h1 : (Lib.bitLen y.toNat : Int) ≤ 64 := by have := HS.out; omega
  obtain ⟨b, HB⟩ : ∃ b : Int, Hid ((Lib.bitLen y.toNat : Int) = b) := ⟨_, rfl⟩
  have hb0 : 0 ≤ b := by have := HB.out; omega
  have hb1 : b ≤ 64 := by have := HB.out; omega
  clear h1
  go_enter Try.func67, Try.ntmps67
  go_wp2_with fail
  refine (len64_any y _ h0 hx).mono ?_
  rintro e w' ⟨rfl, rfl⟩
  rw [HB.out]
  go_wp2_with fail
  go_ret
  refine ⟨congrArg (fun n => Ending.returned (Value.int .i64 n)) (?_ : 64 - b = (s : Int)), rfl⟩
  have := HB.out
  have := HS.out
  omega

/-- For every number that is not 0 there is such a shift, and it brings the highest bit to the top. -/
theorem lz_is (y : Nat) (h0 : y ≠ 0) (hy : y < 2 ^ 64) : ∃ s, Lib.bitLen y + s = 64 ∧ s < 64 ∧ 9223372036854775808 ≤ y * 2 ^ s ∧ y * 2 ^ s < 18446744073709551616 := by
  have hle := Lib.bitLen_le y 64 (by decide) hy
  obtain ⟨h1, h2⟩ := bitLen_pos y h0 hy
  refine ⟨64 - Lib.bitLen y, by omega, ?_, ?_, ?_⟩
  · by_cases hb : Lib.bitLen y = 0
    · rw [hb] at h1; omega
    · omega
  · have h3 := Nat.mul_le_mul_right (2 ^ (64 - Lib.bitLen y)) h2
    rw [← Nat.pow_add, show Lib.bitLen y + (64 - Lib.bitLen y) = 64 by omega, Nat.mul_assoc] at h3
    omega
  · have h3 := Nat.mul_lt_mul_of_pos_right h1 (Nat.two_pow_pos (64 - Lib.bitLen y))
    rw [← Nat.pow_add, show Lib.bitLen y + (64 - Lib.bitLen y) = 64 by omega] at h3
    omega
end Go.Proofs.Ythjhekmlhmljlaa
