/-
  Plain mathematics of numbers written with digits in base 65536: no program in it.
-/
namespace Go.Proofs.Ythjhekmlhmljlaa

/-- The digit of m at place i. -/
def dig (m i : Nat) : Nat := m / 65536 ^ i % 65536
theorem dig_lt (m i : Nat) : dig m i < 65536 := Nat.mod_lt _ (by decide)
theorem dig_zero (i : Nat) : dig 0 i = 0 := by simp [dig]
theorem dig_succ (m i : Nat) : dig m (i + 1) = dig (m / 65536) i := by
  unfold dig
  rw [Nat.pow_succ, Nat.mul_comm, Nat.div_div_eq_div_mul]
theorem dig_first (m : Nat) : dig m 0 = m % 65536 := by simp [dig]
theorem dig_add_mul (d m i : Nat) (hd : d < 65536) : dig (d + 65536 * m) (i + 1) = dig m i := by
  rw [dig_succ]; congr 1; omega
theorem dig_high {m i : Nat} (h : m < 65536 ^ i) : dig m i = 0 := by
  unfold dig; rw [Nat.div_eq_of_lt h]

/-- The number that a list of digits writes, the lowest first. -/
def val : List Nat → Nat
  | [] => 0
  | d :: l => d + 65536 * val l
/-- The first n digits of m. -/
def digs (m : Nat) : Nat → List Nat
  | 0 => []
  | n + 1 => m % 65536 :: digs (m / 65536) n
theorem digs_length (m n : Nat) : (digs m n).length = n := by
  induction n generalizing m with
  | zero => rfl
  | succ n ih => simp [digs, ih]
theorem digs_get (m n i : Nat) (h : i < n) : (digs m n).getD i 0 = dig m i := by
  induction n generalizing m i with
  | zero => omega
  | succ n ih =>
    cases i with
    | zero => simp [digs, dig_first]
    | succ i =>
      have := ih (m / 65536) i (by omega)
      rw [dig_succ, ← this]
      simp [digs]
theorem val_digs (m n : Nat) (h : m < 65536 ^ n) : val (digs m n) = m := by
  induction n generalizing m with
  | zero => simp [digs, val] at *; omega
  | succ n ih =>
    have : m / 65536 < 65536 ^ n := by rw [Nat.pow_succ] at h; omega
    simp only [digs, val, ih _ this]; omega
theorem digs_val (l : List Nat) (h : ∀ d ∈ l, d < 65536) : digs (val l) l.length = l := by
  induction l with
  | nil => rfl
  | cons d l ih =>
    have h1 : d < 65536 := h d (by simp)
    have h2 := ih (fun x hx => h x (by simp [hx]))
    simp only [List.length_cons, digs, val]
    rw [show (d + 65536 * val l) % 65536 = d by omega, show (d + 65536 * val l) / 65536 = val l by omega, h2]
theorem val_lt (l : List Nat) (h : ∀ d ∈ l, d < 65536) : val l < 65536 ^ l.length := by
  induction l with
  | nil => simp [val]
  | cons d l ih =>
    have h1 : d < 65536 := h d (by simp)
    have h2 := ih (fun x hx => h x (by simp [hx]))
    simp only [List.length_cons, val, Nat.pow_succ]; omega
theorem dig_val (l : List Nat) (h : ∀ d ∈ l, d < 65536) (i : Nat) (hi : i < l.length) : dig (val l) i = l.getD i 0 := by
  rw [← digs_get (val l) l.length i hi, digs_val l h]

/-- One digit is set anew. -/
theorem val_set (l : List Nat) (k d : Nat) (hk : k < l.length) : val (l.set k d) + l.getD k 0 * 65536 ^ k = val l + d * 65536 ^ k := by
  induction l generalizing k with
  | nil => simp at hk
  | cons a l ih =>
    cases k with
    | zero => simp [val]; omega
    | succ k =>
      have := ih k (by simpa using hk)
      simp only [List.set_cons_succ, val, List.getD_cons_succ, Nat.pow_succ]
      have e1 : l.getD k 0 * (65536 ^ k * 65536) = 65536 * (l.getD k 0 * 65536 ^ k) := by rw [← Nat.mul_assoc, Nat.mul_comm]
      have e2 : d * (65536 ^ k * 65536) = 65536 * (d * 65536 ^ k) := by rw [← Nat.mul_assoc, Nat.mul_comm]
      rw [e1, e2]; omega

/-- Two numbers whose digits from k on are the same, and whose digit below k is not: that digit decides. -/
theorem lt_of_dig {x y k : Nat} (hs : x / 65536 ^ (k + 1) = y / 65536 ^ (k + 1)) (h : dig x k < dig y k) : x < y := by
  have e : ∀ m : Nat, m / 65536 ^ k = m / 65536 ^ (k + 1) * 65536 + dig m k := by
    intro m
    have : m / 65536 ^ (k + 1) = m / 65536 ^ k / 65536 := by rw [Nat.pow_succ, Nat.div_div_eq_div_mul]
    unfold dig; rw [this]; omega
  have hx := e x
  have hy := e y
  have hlt : x / 65536 ^ k < y / 65536 ^ k := by omega
  exact Nat.lt_of_div_lt_div hlt
theorem high_same {x y k : Nat} (hs : x / 65536 ^ (k + 1) = y / 65536 ^ (k + 1)) (h : dig x k = dig y k) : x / 65536 ^ k = y / 65536 ^ k := by
  have e : ∀ m : Nat, m / 65536 ^ k = m / 65536 ^ (k + 1) * 65536 + dig m k := by
    intro m
    have : m / 65536 ^ (k + 1) = m / 65536 ^ k / 65536 := by rw [Nat.pow_succ, Nat.div_div_eq_div_mul]
    unfold dig; rw [this]; omega
  rw [e x, e y]; omega
end Go.Proofs.Ythjhekmlhmljlaa
