/-
  What magnitude, down and the library's Mul64 answer, as contracts over the translated program, for all integers of 64 bits.
-/
import Derived.Test.YtnoadceeenioeaaFxBase
import Derived.Lib.Mul64
import Derived.Laws.Bits64b
namespace Go.Proofs.Ytnoadceeenioeaa
open Go.RowKit Go.Lib
set_option linter.unusedSimpArgs false
set_option linter.unusedVariables false

theorem ret_int {k : IntKind} {a b : Int} (h : a = b) : Ending.returned (.int k a) = .returned (.int k b) := by rw [h]

theorem u64_of_neg (n : Int) (h0 : -9223372036854775808 ≤ n) (h : n < 0) : IntKind.u64.wrap (-IntKind.u64.wrap n) = (n.natAbs : Int) := by
  rw [IntKind.wrap_u64, IntKind.wrap_u64]; omega
theorem u64_of_pos (n : Int) (h : ¬ n < 0) (h1 : n ≤ 9223372036854775807) : IntKind.u64.wrap n = (n.natAbs : Int) := by
  rw [IntKind.wrap_u64]; omega

set_option maxHeartbeats 400000 in
theorem magnitude_any (n : Int) (w : World) (h0 : -9223372036854775808 ≤ n) (h1 : n ≤ 9223372036854775807) :
    Calls Try.prog 60 #[.int .i64 n] w fun e w' => e = .returned (.int .u64 (n.natAbs : Int)) ∧ w = w' := by
  by_cases h : n < 0
  · have H0 := Lib.hid h0
    have H1 := Lib.hid h1
    clear h0 h1
    go_enter Try.func60, Try.ntmps60
    go_wp2
    go_ret
    refine ⟨ret_int ?_, rfl⟩
    exact u64_of_neg n H0.out h
  · have H0 := Lib.hid h0
    have H1 := Lib.hid h1
    clear h0 h1
    go_enter Try.func60, Try.ntmps60
    go_wp2
    go_ret
    refine ⟨ret_int ?_, rfl⟩
    exact u64_of_pos n (by omega) H1.out

/-- A number from 0 on keeps its value in 64 bits where it is small enough; else what is above goes. -/
theorem u64_small {a : Nat} (ha : a < 18446744073709551616) : IntKind.u64.wrap (a : Int) = (a : Int) := by rw [IntKind.wrap_u64]; omega
theorem u64_mod (a : Nat) : IntKind.u64.wrap (a : Int) = ((a % 18446744073709551616 : Nat) : Int) := by rw [IntKind.wrap_u64]; omega
theorem and_low {a : Nat} (ha : a < 18446744073709551616) : bits .and .u64 (a : Int) 4294967295 = ((a % 4294967296 : Nat) : Int) := by
  rw [show (4294967295 : Int) = ((4294967295 : Nat) : Int) from rfl, bits_and_u64_nat a 4294967295 ha (by omega), Nat.and_two_pow_sub_one_eq_mod a 32]
theorem shr_high (a : Nat) : (a : Int) / 4294967296 = ((a / 4294967296 : Nat) : Int) := by omega

set_option maxHeartbeats 1000000 in
theorem mul64_any (x y : Nat) (hx : x < 18446744073709551616) (hy : y < 18446744073709551616) (w : World) :
    Calls Try.prog 62 #[.int .u64 x, .int .u64 y] w fun e w' => e = .returned (.tuple #[.int .u64 ((x * y / 18446744073709551616 : Nat) : Int), .int .u64 ((x * y % 18446744073709551616 : Nat) : Int)]) ∧ w = w' := by
  obtain ⟨low, mid, mid2, high⟩ := Lib.mul64_hi x y hx hy
  have f1 := Lib.half_mul_le (a := x / 4294967296) (b := y / 4294967296) (by omega) (by omega)
  have f2 := Lib.half_mul_le (a := x / 4294967296) (b := y % 4294967296) (by omega) (by omega)
  have f3 := Lib.half_mul_le (a := x % 4294967296) (b := y / 4294967296) (by omega) (by omega)
  have HH := Lib.hid high
  clear high
  go_enter Try.func62, Try.ntmps62
  go_wp2
  simp only [and_low hx, and_low hy, shr_high, ← Int.natCast_mul, ← Int.natCast_add]
  rw [u64_small low, shr_high, u64_small (a := x / 4294967296 * (y % 4294967296)) (by omega)]
  simp only [shr_high, ← Int.natCast_mul, ← Int.natCast_add]
  rw [u64_small mid, and_low mid, u64_small (a := x % 4294967296 * (y / 4294967296)) (by omega), u64_small (a := x / 4294967296 * (y / 4294967296)) (by omega)]
  simp only [shr_high, ← Int.natCast_mul, ← Int.natCast_add]
  rw [u64_small mid2]
  simp only [shr_high, ← Int.natCast_mul, ← Int.natCast_add]
  rw [u64_small (a := x / 4294967296 * (y / 4294967296) + (x / 4294967296 * (y % 4294967296) + x % 4294967296 * (y % 4294967296) / 4294967296) / 4294967296) (by omega)]
  simp only [shr_high, ← Int.natCast_mul, ← Int.natCast_add]
  rw [HH.out, u64_mod, u64_mod]
  rw [Nat.mod_eq_of_lt (a := x * y / 18446744073709551616) (by have := HH.out; omega)]
  go_ret2
  exact ⟨rfl, rfl⟩

end Go.Proofs.Ytnoadceeenioeaa
