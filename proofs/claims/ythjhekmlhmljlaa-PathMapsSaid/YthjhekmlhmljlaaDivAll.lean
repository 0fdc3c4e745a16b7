/-
  The library's Div64 answers the quotient and the rest, whenever the divisor is above the high half; so MulDiv answers as stated for all integers of 64 bits.
-/
import Derived.Test.YthjhekmlhmljlaaDiv
namespace Go.Proofs.Ythjhekmlhmljlaa
open Go.RowKit
set_option linter.unusedSimpArgs false
set_option linter.unusedVariables false

theorem wrap_cast {a : Nat} {b : Int} (e : b = (a : Int)) (ha : a < 18446744073709551616) : IntKind.u64.wrap b = (a : Int) := by rw [e]; exact u64_small ha
theorem cast_shl (y s : Nat) : (y : Int) * 2 ^ s = ((y * 2 ^ s : Nat) : Int) := by simp
theorem cast_shr (y s : Nat) : (y : Int) / 2 ^ s = ((y / 2 ^ s : Nat) : Int) := by simp
theorem or_add (hi t s : Nat) (ht : t < 2 ^ s) : (hi * 2 ^ s ||| t) = hi * 2 ^ s + t := by
  rw [Nat.mul_comm]; exact (Nat.two_pow_add_eq_or_of_lt ht hi).symm

/-- What is left behind one step, in 64 bits. -/
theorem rest_wrap (u d q Y r : Nat) (h : q * Y + r = u * 4294967296 + d) (hr : r < 18446744073709551616) :
    IntKind.u64.wrap (IntKind.u64.wrap (IntKind.u64.wrap ((u : Int) * 4294967296) + (d : Int)) - IntKind.u64.wrap ((q : Int) * (Y : Int))) = (r : Int) := by
  rw [← Int.natCast_mul]
  generalize q * Y = p at *
  rw [IntKind.wrap_u64, IntKind.wrap_u64, IntKind.wrap_u64, IntKind.wrap_u64]
  omega

theorem sub_wrap (u n : Nat) (hu : u < 18446744073709551616) : IntKind.u64.wrap ((u : Int) - IntKind.u64.wrap (((u / n : Nat) : Int) * (n : Int))) = ((u % n : Nat) : Int) := by
  have h := Nat.div_add_mod u n
  rw [Nat.mul_comm] at h
  rw [← Int.natCast_mul]
  generalize u / n * n = p at *
  generalize u % n = r at *
  rw [IntKind.wrap_u64, IntKind.wrap_u64]
  omega

theorem div64_any (hi lo y : Nat) (h0 : 0 < hi) (hy : hi < y) (hy1 : y < 18446744073709551616) (hl : lo < 18446744073709551616) :
    DivAt hi lo y ((hi * 18446744073709551616 + lo) / y) ((hi * 18446744073709551616 + lo) % y) := by
  intro w
  obtain ⟨s, hbl, hs, htop, hbot⟩ := lz_is y (by omega) hy1
  have hhalf := halves hi lo s (by omega)
  have hsh := shifted (hi * 18446744073709551616 + lo) y s
  obtain ⟨Y, hY⟩ : ∃ Y, y * 2 ^ s = Y := ⟨_, rfl⟩
  obtain ⟨t, ht⟩ : ∃ t, lo / 2 ^ (64 - s) = t := ⟨_, rfl⟩
  obtain ⟨L, hL⟩ : ∃ L, lo * 2 ^ s % 18446744073709551616 = L := ⟨_, rfl⟩
  have hL1 : L < 18446744073709551616 := by rw [← hL]; exact Nat.mod_lt _ (by decide)
  have hts : t < 2 ^ s := by
    rw [← ht, Nat.div_lt_iff_lt_mul (Nat.two_pow_pos _), ← Nat.pow_add, show s + (64 - s) = 64 by omega]
    exact hl
  have hhs : hi * 2 ^ s < 18446744073709551616 := Nat.lt_of_le_of_lt (Nat.mul_le_mul_right _ (Nat.le_of_lt hy)) hbot
  obtain ⟨u, hu⟩ : ∃ u, hi * 2 ^ s + t = u := ⟨_, rfl⟩
  rw [ht, hL, hu] at hhalf
  rw [hY] at htop hbot hsh
  have hm : (hi * 18446744073709551616 + lo) * 2 ^ s < y * 18446744073709551616 * 2 ^ s := Nat.mul_lt_mul_of_pos_right (by omega) (Nat.two_pow_pos s)
  rw [Nat.mul_right_comm, hY, ← hhalf] at hm
  have huY : u < Y := by omega
  rw [← hhalf] at hsh
  have hst1 : Step (Y / 4294967296) (Y % 4294967296) u (L / 4294967296) := ⟨by omega, by omega, by omega, by omega, by omega⟩
  have hYY : Y / 4294967296 * 4294967296 + Y % 4294967296 = Y := Nat.div_add_mod' Y 4294967296
  have hq1 := hst1.lt
  rw [hYY] at hq1
  obtain ⟨q1, hq1e⟩ : ∃ q1, (u * 4294967296 + L / 4294967296) / Y = q1 := ⟨_, rfl⟩
  obtain ⟨r1, hr1e⟩ : ∃ r1, (u * 4294967296 + L / 4294967296) % Y = r1 := ⟨_, rfl⟩
  have hr1 : r1 < Y := by rw [← hr1e]; exact Nat.mod_lt _ (by omega)
  have hdm1 := Nat.div_add_mod (u * 4294967296 + L / 4294967296) Y
  rw [hq1e, hr1e, Nat.mul_comm] at hdm1
  have hst2 : Step (Y / 4294967296) (Y % 4294967296) r1 (L % 4294967296) := ⟨by omega, by omega, by omega, by omega, by omega⟩
  have hq0 := hst2.lt
  rw [hYY] at hq0
  obtain ⟨q0, hq0e⟩ : ∃ q0, (r1 * 4294967296 + L % 4294967296) / Y = q0 := ⟨_, rfl⟩
  obtain ⟨r0, hr0e⟩ : ∃ r0, (r1 * 4294967296 + L % 4294967296) % Y = r0 := ⟨_, rfl⟩
  have hr0 : r0 < Y := by rw [← hr0e]; exact Nat.mod_lt _ (by omega)
  have hdm0 := Nat.div_add_mod (r1 * 4294967296 + L % 4294967296) Y
  rw [hq0e, hr0e, Nat.mul_comm] at hdm0
  have htwo := two_steps Y u (L / 4294967296) (L % 4294967296) q1 r1 (by omega) hq1e hr1e
  rw [hq0e, hr0e, Nat.div_add_mod' L 4294967296, hsh.1] at htwo
  rw [hq1e] at hq1
  rw [hq0e] at hq0
  have hrest := hsh.2
  rw [← htwo.2] at hrest
  rw [← htwo.1, ← hrest]
  refine div64_core (hi : Int) (lo : Int) (y : Int) (Y : Int) ((Y / 4294967296 : Nat) : Int) ((Y % 4294967296 : Nat) : Int) (u : Int) (L : Int) ((L / 4294967296 : Nat) : Int) ((L % 4294967296 : Nat) : Int)
    ((u / (Y / 4294967296) : Nat) : Int) ((u % (Y / 4294967296) : Nat) : Int) (q1 : Int) (r1 : Int) ((r1 / (Y / 4294967296) : Nat) : Int) ((r1 % (Y / 4294967296) : Nat) : Int) (q0 : Int) ((q1 * 4294967296 + q0 : Nat) : Int) ((r0 / 2 ^ s : Nat) : Int) s w
    (by omega) (by omega) (by omega) (by omega) (by omega) hbl (by omega) ?_ ?_ ?_ ?_ ?_ ?_ ?_ (by omega) (by omega) (by omega) (by omega) (by omega) (by omega) (by omega) (by omega) (by omega) (by omega) ?_ ?_ ?_ ?_ ?_ ?_ (by omega) (by omega) ?_ ?_ ?_ ?_ ?_ ?_ ?_
  · exact wrap_cast (by rw [cast_shl, hY]) hbot
  · exact (Int.natCast_ediv _ _).symm
  · exact and_low hbot
  · show bits .or .u64 (IntKind.u64.wrap ((hi : Int) * 2 ^ s)) ((lo : Int) / 2 ^ (64 - s)) = (u : Int)
    rw [wrap_cast (cast_shl hi s) hhs, cast_shr, ht, bits_or_u64_nat _ _ hhs (by omega), or_add hi t s hts, hu]
  · show IntKind.u64.wrap ((lo : Int) * 2 ^ s) = (L : Int)
    rw [cast_shl, u64_mod, hL]
  · exact (Int.natCast_ediv _ _).symm
  · exact and_low hL1
  · exact (Int.natCast_ediv _ _).symm
  · exact sub_wrap u (Y / 4294967296) (by omega)
  · exact ⟨Int.natCast_nonneg _, Int.natCast_nonneg _, by simpa only [Int.toNat_natCast] using hst1.start⟩
  · exact ⟨by omega, by omega, by omega, by omega, by simpa only [Int.toNat_natCast] using hst1⟩
  · show quoI _ _ _ _ = _
    simp only [quoI, Int.toNat_natCast, hYY, hq1e]
  · exact rest_wrap u (L / 4294967296) q1 Y r1 hdm1 (by omega)
  · exact (Int.natCast_ediv _ _).symm
  · exact sub_wrap r1 (Y / 4294967296) (by omega)
  · exact ⟨Int.natCast_nonneg _, Int.natCast_nonneg _, by simpa only [Int.toNat_natCast] using hst2.start⟩
  · exact ⟨by omega, by omega, by omega, by omega, by simpa only [Int.toNat_natCast] using hst2⟩
  · show quoI _ _ _ _ = _
    simp only [quoI, Int.toNat_natCast, hYY, hq0e]
  · show IntKind.u64.wrap (IntKind.u64.wrap ((q1 : Int) * 4294967296) + (q0 : Int)) = _
    rw [IntKind.wrap_u64, IntKind.wrap_u64]
    omega
  · show IntKind.u64.wrap _ / 2 ^ s = _
    rw [rest_wrap r1 (L % 4294967296) q0 Y r0 hdm0 (by omega), cast_shr]

/-- MulDiv, for all integers of 64 bits. -/
theorem muldiv_any (a b c : Int) (w : World) (a0 : -9223372036854775808 ≤ a) (a1 : a ≤ 9223372036854775807) (b0 : -9223372036854775808 ≤ b) (b1 : b ≤ 9223372036854775807)
    (c0 : -9223372036854775808 ≤ c) (c1 : c ≤ 9223372036854775807) :
    Calls Try.prog 35 #[.int .i64 a, .int .i64 b, .int .i64 c] w fun e w' => e = .returned (.tuple #[.int .i64 (mulDiv a b c).1, .int .i64 (mulDiv a b c).2]) ∧ Below w.heap.size w w' := by
  refine muldiv_of a b c w a0 a1 b0 b1 c0 c1 ?_
  intro h
  have hm := Nat.div_add_mod (a.natAbs * b.natAbs) 18446744073709551616
  rw [Nat.mul_comm] at hm
  by_cases hz : a.natAbs * b.natAbs / 18446744073709551616 = 0
  · rw [hz] at h hm ⊢
    have e : a.natAbs * b.natAbs % 18446744073709551616 = a.natAbs * b.natAbs := by omega
    rw [e]
    exact fun wd => div64_low _ _ wd h (by omega) (by rw [← e]; exact Nat.mod_lt _ (by decide))
  · have := div64_any (a.natAbs * b.natAbs / 18446744073709551616) (a.natAbs * b.natAbs % 18446744073709551616) c.natAbs (by omega) h (by omega) (Nat.mod_lt _ (by decide))
    rw [hm] at this
    exact this
end Go.Proofs.Ythjhekmlhmljlaa
