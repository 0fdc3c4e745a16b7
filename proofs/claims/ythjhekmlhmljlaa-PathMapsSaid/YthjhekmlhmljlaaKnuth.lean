/-
  Plain mathematics of a division by two digits in base 4294967296, the highest bit of the divisor at the top: no program in it.
-/
namespace Go.Proofs.Ythjhekmlhmljlaa

/-- What is known at the head of a round that lowers a guess a of the quotient of u * 4294967296 + d by n1 * 4294967296 + n0; b is what the guess leaves of u by n1. -/
structure Guess (n1 n0 u d a b : Nat) : Prop where
  sum : a * n1 + b = u
  high : (u * 4294967296 + d) / (n1 * 4294967296 + n0) ≤ a
  small : a ≤ 4294967297
  rest : b < 4294967296

/-- The numbers with which a step of the division begins. -/
structure Step (n1 n0 u d : Nat) : Prop where
  top : 2147483648 ≤ n1
  n1lt : n1 < 4294967296
  n0lt : n0 < 4294967296
  ult : u < n1 * 4294967296 + n0
  dlt : d < 4294967296

theorem Step.lt {n1 n0 u d : Nat} (h : Step n1 n0 u d) : (u * 4294967296 + d) / (n1 * 4294967296 + n0) < 4294967296 := by
  have := h.top; have := h.ult; have := h.dlt
  rw [Nat.div_lt_iff_lt_mul (by omega)]
  omega

theorem Step.start {n1 n0 u d : Nat} (h : Step n1 n0 u d) : Guess n1 n0 u d (u / n1) (u % n1) := by
  have h1 := h.top; have h2 := h.ult; have h3 := h.dlt; have h4 := h.n0lt; have h5 := h.n1lt
  refine ⟨by rw [Nat.mul_comm]; exact Nat.div_add_mod u n1, ?_, ?_, Nat.lt_trans (Nat.mod_lt _ (by omega)) h5⟩
  · rw [Nat.le_div_iff_mul_le (by omega)]
    have hq := Nat.div_mul_le_self (u * 4294967296 + d) (n1 * 4294967296 + n0)
    generalize (u * 4294967296 + d) / (n1 * 4294967296 + n0) = q at *
    rw [Nat.mul_add, ← Nat.mul_assoc] at hq
    omega
  · have : u / n1 < 4294967298 := by
      rw [Nat.div_lt_iff_lt_mul (by omega)]
      omega
    omega

theorem Guess.more {n1 n0 u d a b : Nat} (g : Guess n1 n0 u d a b) (h : Step n1 n0 u d) (c : 4294967296 ≤ a ∨ 4294967296 * b + d < a * n0) :
    1 ≤ a ∧ (u * 4294967296 + d) / (n1 * 4294967296 + n0) ≤ a - 1 := by
  have hq := h.lt
  have hs := g.sum
  rcases c with c | c
  · omega
  · have ha : 1 ≤ a := by
      rcases Nat.eq_zero_or_pos a with h0 | h0
      · rw [h0, Nat.zero_mul] at c; omega
      · exact h0
    refine ⟨ha, ?_⟩
    have : (u * 4294967296 + d) / (n1 * 4294967296 + n0) < a := by
      have := h.top
      rw [Nat.div_lt_iff_lt_mul (by omega), Nat.mul_add, ← Nat.mul_assoc]
      omega
    omega

theorem Guess.next {n1 n0 u d a b : Nat} (g : Guess n1 n0 u d a b) (h : Step n1 n0 u d) (c : 4294967296 ≤ a ∨ 4294967296 * b + d < a * n0) (hb : b + n1 < 4294967296) :
    Guess n1 n0 u d (a - 1) (b + n1) := by
  obtain ⟨ha, hq⟩ := g.more h c
  have hs := g.sum
  have := g.small
  refine ⟨?_, hq, by omega, hb⟩
  rw [Nat.sub_mul]
  have : n1 ≤ a * n1 := Nat.le_mul_of_pos_left _ ha
  omega

/-- The guess that is not lowered is right. -/
theorem Guess.done {n1 n0 u d a b : Nat} (g : Guess n1 n0 u d a b) (h : Step n1 n0 u d) (c : a * n0 ≤ 4294967296 * b + d) : a = (u * 4294967296 + d) / (n1 * 4294967296 + n0) := by
  have hs := g.sum
  have := g.high
  have := h.top
  have : a ≤ (u * 4294967296 + d) / (n1 * 4294967296 + n0) := by
    rw [Nat.le_div_iff_mul_le (by omega), Nat.mul_add, ← Nat.mul_assoc]
    omega
  omega

/-- So is the one that leaves too much. -/
theorem Guess.leave {n1 n0 u d a b : Nat} (g : Guess n1 n0 u d a b) (h : Step n1 n0 u d) (c : 4294967296 ≤ a ∨ 4294967296 * b + d < a * n0) (hb : 4294967296 ≤ b + n1) :
    a - 1 = (u * 4294967296 + d) / (n1 * 4294967296 + n0) := by
  obtain ⟨ha, hq⟩ := g.more h c
  have hs := g.sum
  have h1 := g.small
  have h0 := h.n0lt
  have := h.top
  have hm : (a - 1) * n0 ≤ 4294967296 * 4294967295 := Nat.mul_le_mul (by omega) (by omega)
  have hn : n1 ≤ a * n1 := Nat.le_mul_of_pos_left _ ha
  have e : (a - 1) * n1 = a * n1 - n1 := by rw [Nat.sub_mul, Nat.one_mul]
  have : a - 1 ≤ (u * 4294967296 + d) / (n1 * 4294967296 + n0) := by
    rw [Nat.le_div_iff_mul_le (by omega), Nat.mul_add, ← Nat.mul_assoc, e]
    omega
  omega

/-- Two steps make the whole quotient and rest. -/
theorem two_steps (Y u d1 d0 q r : Nat) (hY : 0 < Y) (hq : (u * 4294967296 + d1) / Y = q) (hr : (u * 4294967296 + d1) % Y = r) :
    q * 4294967296 + (r * 4294967296 + d0) / Y = (u * 18446744073709551616 + (d1 * 4294967296 + d0)) / Y ∧
    (r * 4294967296 + d0) % Y = (u * 18446744073709551616 + (d1 * 4294967296 + d0)) % Y := by
  have h1 := Nat.div_add_mod (u * 4294967296 + d1) Y
  rw [hq, hr] at h1
  have e : u * 18446744073709551616 + (d1 * 4294967296 + d0) = (r * 4294967296 + d0) + Y * (q * 4294967296) := by
    rw [← Nat.mul_assoc]
    omega
  rw [e, Nat.add_mul_div_left _ _ hY, Nat.add_mul_mod_self_left, Nat.add_comm]
  exact ⟨rfl, rfl⟩

/-- The shift takes nothing from the quotient, and shifts the rest. -/
theorem shifted (m y s : Nat) : (m * 2 ^ s) / (y * 2 ^ s) = m / y ∧ (m * 2 ^ s) % (y * 2 ^ s) / 2 ^ s = m % y := by
  constructor
  · exact Nat.mul_div_mul_right _ _ (Nat.two_pow_pos s)
  · rw [Nat.mul_mod_mul_right, Nat.mul_div_cancel _ (Nat.two_pow_pos s)]

/-- The number to be divided, shifted, in halves. -/
theorem halves (hi lo s : Nat) (hs : s ≤ 64) : (hi * 2 ^ s + lo / 2 ^ (64 - s)) * 18446744073709551616 + lo * 2 ^ s % 18446744073709551616 = (hi * 18446744073709551616 + lo) * 2 ^ s := by
  have e : (18446744073709551616 : Nat) = 2 ^ (64 - s) * 2 ^ s := by rw [← Nat.pow_add, show 64 - s + s = 64 by omega]
  have h := Nat.div_add_mod (lo * 2 ^ s) 18446744073709551616
  have h2 : lo * 2 ^ s / 18446744073709551616 = lo / 2 ^ (64 - s) := by rw [e, Nat.mul_div_mul_right _ _ (Nat.two_pow_pos s)]
  rw [h2] at h
  generalize lo / 2 ^ (64 - s) = t at *
  generalize lo * 2 ^ s % 18446744073709551616 = r at *
  rw [Nat.add_mul, Nat.add_mul, Nat.mul_right_comm]
  omega
end Go.Proofs.Ythjhekmlhmljlaa
