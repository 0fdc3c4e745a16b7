/-
  Plain mathematics of the product and the sum of numbers written with digits in base 65536, digit by digit: no program in it.
-/
import Derived.Test.YthjhekmlhmljlaaDig
namespace Go.Proofs.Ythjhekmlhmljlaa

theorem mod_succ (m i : Nat) : m % 65536 ^ (i + 1) = m % 65536 ^ i + 65536 ^ i * dig m i := Nat.mod_pow_succ

theorem getD_lt {l : List Nat} (h : ∀ d ∈ l, d < 65536) (k : Nat) : l.getD k 0 < 65536 := by
  rw [List.getD_eq_getElem?_getD]
  by_cases hk : k < l.length
  · rw [List.getElem?_eq_getElem hk]; exact h _ (List.getElem_mem hk)
  · rw [List.getElem?_eq_none (by omega)]; decide
theorem set_lt {l : List Nat} (h : ∀ d ∈ l, d < 65536) (k d : Nat) (hd : d < 65536) : ∀ e ∈ l.set k d, e < 65536 := by
  intro e he
  rcases List.mem_or_eq_of_mem_set he with h1 | h1
  · exact h e h1
  · rw [h1]; exact hd
theorem getD_set_other {l : List Nat} {k j d : Nat} (h : k ≠ j) : (l.set k d).getD j 0 = l.getD j 0 := by
  simp [List.getD_eq_getElem?_getD, List.getElem?_set_ne h]

/-- What is known ahead of digit j of row i of the product of x and y: the row l so far, the carry c. -/
structure TimesInv (x y i j : Nat) (l : List Nat) (c : Nat) : Prop where
  len : l.length = 10
  digits : ∀ d ∈ l, d < 65536
  carry : c < 65536
  zeros : ∀ k, i + 5 ≤ k → l.getD k 0 = 0
  value : val l + c * 65536 ^ (i + j) = (x % 65536 ^ i) * y + dig x i * (y % 65536 ^ j) * 65536 ^ i

theorem TimesInv.small {x y i j c : Nat} {l : List Nat} (h : TimesInv x y i j l c) : l.getD (i + j) 0 + dig x i * dig y j + c ≤ 4294967295 := by
  have h1 := getD_lt h.digits (i + j)
  have h2 := h.carry
  have h3 : dig x i * dig y j ≤ 65535 * 65535 := Nat.mul_le_mul (by have := dig_lt x i; omega) (by have := dig_lt y j; omega)
  omega

theorem TimesInv.step {x y i j c t : Nat} {l : List Nat} (h : TimesInv x y i j l c) (hi : i < 5) (hj : j < 5) (ht : l.getD (i + j) 0 + dig x i * dig y j + c = t) :
    TimesInv x y i (j + 1) (l.set (i + j) (t % 65536)) (t / 65536) := by
  have hs := h.small
  have hl := h.len
  refine ⟨by simpa using h.len, set_lt h.digits _ _ (by omega), by omega, ?_, ?_⟩
  · intro k hk
    rw [getD_set_other (by omega)]; exact h.zeros k hk
  · have hv := val_set l (i + j) (t % 65536) (by omega)
    have hval := h.value
    rw [mod_succ y j]
    generalize l.getD (i + j) 0 = o at *
    have e1 : t / 65536 * 65536 ^ (i + (j + 1)) = (t / 65536 * 65536) * 65536 ^ (i + j) := by
      rw [show i + (j + 1) = (i + j) + 1 from rfl, Nat.pow_succ, Nat.mul_comm (65536 ^ (i + j)) 65536, ← Nat.mul_assoc]
    have e2 : dig x i * (y % 65536 ^ j + 65536 ^ j * dig y j) * 65536 ^ i = dig x i * (y % 65536 ^ j) * 65536 ^ i + dig x i * dig y j * 65536 ^ (i + j) := by
      rw [Nat.mul_add, Nat.add_mul, Nat.pow_add, Nat.mul_comm (65536 ^ j) (dig y j), ← Nat.mul_assoc, Nat.mul_assoc (dig x i * dig y j), Nat.mul_comm (65536 ^ j) (65536 ^ i)]
    rw [e1, e2]
    generalize 65536 ^ (i + j) = P at *
    generalize dig x i * (y % 65536 ^ j) * 65536 ^ i = R at *
    generalize x % 65536 ^ i * y = V at *
    generalize val (l.set (i + j) (t % 65536)) = L' at *
    generalize val l = L at *
    have et : t % 65536 * P + t / 65536 * 65536 * P = t * P := by rw [← Nat.add_mul]; congr 1; omega
    have et2 : t * P = o * P + dig x i * dig y j * P + c * P := by rw [← ht, Nat.add_mul, Nat.add_mul]
    omega

theorem TimesInv.start {x y i : Nat} {l : List Nat} (hl : l.length = 10) (hd : ∀ d ∈ l, d < 65536) (hz : ∀ k, i + 5 ≤ k → l.getD k 0 = 0) (hv : val l = (x % 65536 ^ i) * y) : TimesInv x y i 0 l 0 :=
  ⟨hl, hd, by decide, hz, by rw [hv]; simp [Nat.mod_one]⟩

/-- What is known ahead of row i. -/
structure TimesRow (x y i : Nat) (l : List Nat) : Prop where
  len : l.length = 10
  digits : ∀ d ∈ l, d < 65536
  zeros : ∀ k, i + 5 ≤ k → l.getD k 0 = 0
  value : val l = (x % 65536 ^ i) * y

theorem TimesInv.row {x y i c : Nat} {l : List Nat} (h : TimesInv x y i 5 l c) (hi : i < 5) (hy : y < 65536 ^ 5) : TimesRow x y (i + 1) (l.set (i + 5) (l.getD (i + 5) 0 + c)) := by
  have h0 := h.zeros (i + 5) (by omega)
  have hc := h.carry
  have hl := h.len
  rw [h0, Nat.zero_add]
  refine ⟨by simpa using h.len, set_lt h.digits _ _ (by omega), ?_, ?_⟩
  · intro k hk
    rw [getD_set_other (by omega)]; exact h.zeros k (by omega)
  · have hv := val_set l (i + 5) c (by omega)
    rw [h0] at hv
    have hval := h.value
    rw [Nat.mod_eq_of_lt hy] at hval
    rw [mod_succ x i, Nat.add_mul]
    have e : 65536 ^ i * dig x i * y = dig x i * y * 65536 ^ i := by rw [Nat.mul_assoc, Nat.mul_comm]
    rw [e]
    omega

theorem timesRow_start (x y : Nat) : TimesRow x y 0 [0, 0, 0, 0, 0, 0, 0, 0, 0, 0] := by
  refine ⟨rfl, by simp, ?_, ?_⟩
  · intro k _
    match k with
    | 0 | 1 | 2 | 3 | 4 | 5 | 6 | 7 | 8 | 9 => rfl
    | _ + 10 => rfl
  · simp [val, Nat.mod_one]
end Go.Proofs.Ythjhekmlhmljlaa
