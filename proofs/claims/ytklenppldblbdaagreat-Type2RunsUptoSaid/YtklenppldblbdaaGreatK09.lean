import Derived.Test.YtklenppldblbdaaGreatK03
import Derived.Deep.DeepCutAuto
import Derived.Handy
import Derived.Test.YtklenppldblbdaaGreatK02
set_option linter.unusedSimpArgs false
set_option linter.unusedVariables false
namespace Go.Proofs.YtklenppldblbdaaGreat
def dig (m i : Nat) : Nat := m / 65536 ^ i % 65536
theorem dig_lt (m i : Nat) : dig m i < 65536 := Nat.mod_lt _ (by decide)
theorem dig_succ (m i : Nat) : dig m (i + 1) = dig (m / 65536) i := by
 unfold dig
 rw [Nat.pow_succ, Nat.mul_comm, Nat.div_div_eq_div_mul]
theorem dig_first (m : Nat) : dig m 0 = m % 65536 := by simp [dig]
theorem dig_high {m i : Nat} (h : m < 65536 ^ i) : dig m i = 0 := by
 unfold dig; rw [Nat.div_eq_of_lt h]
def val : List Nat → Nat
 | [] => 0
 | d :: l => d + 65536 * val l
def digs (m : Nat) : Nat → List Nat
 | 0 => []
 | n + 1 => m % 65536 :: digs (m / 65536) n
theorem digs_length (m n : Nat) : (digs m n).length = n := by
 induction n generalizing m with
 | zero => rfl
 | succ n ih => simp [digs, ih]
theorem digs_get (m n i : Nat) (h : i < n) : (digs m n).getD i 0 = dig m i := by
 induction n generalizing m i with
 | zero => omega
 | succ n ih =>
   cases i with
   | zero => simp [digs, dig_first]
   | succ i =>
     have := ih (m / 65536) i (by omega)
     rw [dig_succ, ← this]
     simp [digs]
theorem val_digs (m n : Nat) (h : m < 65536 ^ n) : val (digs m n) = m := by
 induction n generalizing m with
 | zero => simp [digs, val] at *; omega
 | succ n ih =>
   have : m / 65536 < 65536 ^ n := by rw [Nat.pow_succ] at h; omega
   simp only [digs, val, ih _ this]; omega
theorem digs_val (l : List Nat) (h : ∀ d ∈ l, d < 65536) : digs (val l) l.length = l := by
 induction l with
 | nil => rfl
 | cons d l ih =>
   have h1 : d < 65536 := h d (by simp)
   have h2 := ih (fun x hx => h x (by simp [hx]))
   simp only [List.length_cons, digs, val]
   rw [show (d + 65536 * val l) % 65536 = d by omega, show (d + 65536 * val l) / 65536 = val l by omega, h2]
theorem dig_val (l : List Nat) (h : ∀ d ∈ l, d < 65536) (i : Nat) (hi : i < l.length) : dig (val l) i = l.getD i 0 := by
 rw [← digs_get (val l) l.length i hi, digs_val l h]
theorem val_set (l : List Nat) (k d : Nat) (hk : k < l.length) : val (l.set k d) + l.getD k 0 * 65536 ^ k = val l + d * 65536 ^ k := by
 induction l generalizing k with
 | nil => simp at hk
 | cons a l ih =>
   cases k with
   | zero => simp [val]; omega
   | succ k =>
     have := ih k (by simpa using hk)
     simp only [List.set_cons_succ, val, List.getD_cons_succ, Nat.pow_succ]
     have e1 : l.getD k 0 * (65536 ^ k * 65536) = 65536 * (l.getD k 0 * 65536 ^ k) := by rw [← Nat.mul_assoc, Nat.mul_comm]
     have e2 : d * (65536 ^ k * 65536) = 65536 * (d * 65536 ^ k) := by rw [← Nat.mul_assoc, Nat.mul_comm]
     rw [e1, e2]; omega
theorem lt_of_dig {x y k : Nat} (hs : x / 65536 ^ (k + 1) = y / 65536 ^ (k + 1)) (h : dig x k < dig y k) : x < y := by
 have e : ∀ m : Nat, m / 65536 ^ k = m / 65536 ^ (k + 1) * 65536 + dig m k := by
  intro m
  have : m / 65536 ^ (k + 1) = m / 65536 ^ k / 65536 := by rw [Nat.pow_succ, Nat.div_div_eq_div_mul]
  unfold dig; rw [this]; omega
 have hx := e x
 have hy := e y
 have hlt : x / 65536 ^ k < y / 65536 ^ k := by omega
 exact Nat.lt_of_div_lt_div hlt
theorem high_same {x y k : Nat} (hs : x / 65536 ^ (k + 1) = y / 65536 ^ (k + 1)) (h : dig x k = dig y k) : x / 65536 ^ k = y / 65536 ^ k := by
 have e : ∀ m : Nat, m / 65536 ^ k = m / 65536 ^ (k + 1) * 65536 + dig m k := by
  intro m
  have : m / 65536 ^ (k + 1) = m / 65536 ^ k / 65536 := by rw [Nat.pow_succ, Nat.div_div_eq_div_mul]
  unfold dig; rw [this]; omega
 rw [e x, e y]; omega
end Go.Proofs.YtklenppldblbdaaGreat
namespace Go.Proofs.YtklenppldblbdaaGreat
open Go.RowKit Go.Lib
def longV (m : Nat) : Value := .agg #[.int .i64 (dig m 0 : Nat), .int .i64 (dig m 1 : Nat), .int .i64 (dig m 2 : Nat), .int .i64 (dig m 3 : Nat), .int .i64 (dig m 4 : Nat), .int .i64 (dig m 5 : Nat), .int .i64 (dig m 6 : Nat), .int .i64 (dig m 7 : Nat), .int .i64 (dig m 8 : Nat), .int .i64 (dig m 9 : Nat)]
def LongAt (w : World) (b m : Nat) : Prop := ∀ k, k < 10 → w.cell? ⟨b, k, none⟩ = some (.int .i64 (dig m k : Nat))
theorem ten {P : Nat → Prop} (h0 : P 0) (h1 : P 1) (h2 : P 2) (h3 : P 3) (h4 : P 4) (h5 : P 5) (h6 : P 6) (h7 : P 7) (h8 : P 8) (h9 : P 9) (k : Nat) (hk : k < 10) : P k := by
 match k, hk with
 | 0, _ => exact h0
 | 1, _ => exact h1
 | 2, _ => exact h2
 | 3, _ => exact h3
 | 4, _ => exact h4
 | 5, _ => exact h5
 | 6, _ => exact h6
 | 7, _ => exact h7
 | 8, _ => exact h8
 | 9, _ => exact h9
theorem longAt_new (w : World) (m : Nat) (t : TypeId) : LongAt (w.alloc (.cells #[.int .i64 (dig m 0 : Nat), .int .i64 (dig m 1 : Nat), .int .i64 (dig m 2 : Nat), .int .i64 (dig m 3 : Nat), .int .i64 (dig m 4 : Nat), .int .i64 (dig m 5 : Nat), .int .i64 (dig m 6 : Nat), .int .i64 (dig m 7 : Nat), .int .i64 (dig m 8 : Nat), .int .i64 (dig m 9 : Nat)] t)) w.heap.size m := by
 intro k hk
 refine ten (P := fun k => World.cell? _ ⟨w.heap.size, k, none⟩ = some (.int .i64 (dig m k : Nat))) ?_ ?_ ?_ ?_ ?_ ?_ ?_ ?_ ?_ ?_ k hk <;> simp [go_sem]
theorem LongAt.alloc {w : World} {b m : Nat} (h : LongAt w b m) (hb : b < w.heap.size) (o : Obj) : LongAt (w.alloc o) b m := by
 intro k hk
 have := ((Below.refl w.heap.size w).alloc (Nat.le_refl _) o).cell (p := ⟨b, k, none⟩) hb
 rw [this]; exact h k hk
theorem LongAt.below {w w' : World} {b m B : Nat} (h : LongAt w b m) (hw : Below B w w') (hb : b < B) : LongAt w' b m := by
 intro k hk
 rw [hw.cell (p := ⟨b, k, none⟩) hb]; exact h k hk
set_option maxRecDepth 100000 in
set_option maxHeartbeats 1000000 in
theorem under_any (x y : Nat) (w : World) (hx : x < 65536 ^ 10) (hy : y < 65536 ^ 10) :
 Calls Tryz.prog 79 #[longV x, longV y] w fun e w' => e = .returned (.bool (decide (x < y))) ∧ Below w.heap.size w w' := by
 have HX := Lib.hid hx
 have HY := Lib.hid hy
 clear hx hy
 unfold longV
 go_enter Tryz.func79, Tryz.ntmps79
 go_wp2
 have LX := Lib.hid ((longAt_new w x 133).alloc (by simp) (.cells #[.int .i64 (dig y 0 : Nat), .int .i64 (dig y 1 : Nat), .int .i64 (dig y 2 : Nat), .int .i64 (dig y 3 : Nat), .int .i64 (dig y 4 : Nat), .int .i64 (dig y 5 : Nat), .int .i64 (dig y 6 : Nat), .int .i64 (dig y 7 : Nat), .int .i64 (dig y 8 : Nat), .int .i64 (dig y 9 : Nat)] 133))
 have LY := Lib.hid (longAt_new (w.alloc (.cells #[.int .i64 (dig x 0 : Nat), .int .i64 (dig x 1 : Nat), .int .i64 (dig x 2 : Nat), .int .i64 (dig x 3 : Nat), .int .i64 (dig x 4 : Nat), .int .i64 (dig x 5 : Nat), .int .i64 (dig x 6 : Nat), .int .i64 (dig x 7 : Nat), .int .i64 (dig x 8 : Nat), .int .i64 (dig x 9 : Nat)] 133)) y 133)
 have HB := Lib.hid (((Below.refl w.heap.size w).alloc (Nat.le_refl _) (.cells #[.int .i64 (dig x 0 : Nat), .int .i64 (dig x 1 : Nat), .int .i64 (dig x 2 : Nat), .int .i64 (dig x 3 : Nat), .int .i64 (dig x 4 : Nat), .int .i64 (dig x 5 : Nat), .int .i64 (dig x 6 : Nat), .int .i64 (dig x 7 : Nat), .int .i64 (dig x 8 : Nat), .int .i64 (dig x 9 : Nat)] 133)).alloc (by simp) (.cells #[.int .i64 (dig y 0 : Nat), .int .i64 (dig y 1 : Nat), .int .i64 (dig y 2 : Nat), .int .i64 (dig y 3 : Nat), .int .i64 (dig y 4 : Nat), .int .i64 (dig y 5 : Nat), .int .i64 (dig y 6 : Nat), .int .i64 (dig y 7 : Nat), .int .i64 (dig y 8 : Nat), .int .i64 (dig y 9 : Nat)] 133))
 rw [show (w.alloc (.cells #[.int .i64 (dig x 0 : Nat), .int .i64 (dig x 1 : Nat), .int .i64 (dig x 2 : Nat), .int .i64 (dig x 3 : Nat), .int .i64 (dig x 4 : Nat), .int .i64 (dig x 5 : Nat), .int .i64 (dig x 6 : Nat), .int .i64 (dig x 7 : Nat), .int .i64 (dig x 8 : Nat), .int .i64 (dig x 9 : Nat)] 133)).heap.size = w.heap.size + 1 by simp] at LY
 generalize (w.alloc _).alloc _ = W at *
 go_loopw [5] (fun i wr => ∃ n, wr = W.drewN n ∧ ((∃ k : Nat, k < 10 ∧ i = .int .i64 k ∧ x / 65536 ^ (k + 1) = y / 65536 ^ (k + 1)) ∨ (i = .int .i64 (-1) ∧ x = y))) (fun i _ => (intOf i + 1).toNat)
 case atStart => exact ⟨0, rfl, .inl ⟨9, by decide, rfl, by rw [Nat.div_eq_of_lt HX.out, Nat.div_eq_of_lt HY.out]⟩⟩
 case round =>
  obtain ⟨n, rfl, hr⟩ := hrel
  rcases hr with ⟨k, hk, rfl, hs⟩ | ⟨rfl, he⟩
  ·have HS := Lib.hid hs
   clear hs
   have cx := LX.out k hk
   have cy := LY.out k hk
   have bx := dig_lt x k
   have by' := dig_lt y k
   have HLT : Hid (dig x k < dig y k → x < y) := lt_of_dig HS.out
   have HGT : Hid (dig y k < dig x k → y < x) := lt_of_dig HS.out.symm
   have HEQ : Hid (dig x k = dig y k → x / 65536 ^ k = y / 65536 ^ k) := high_same HS.out
   generalize dig x k = a at *
   generalize dig y k = b at *
   have h0 : (0 : Int) ≤ (k : Int) := by omega
   have h1 : (k : Int) < 10 := by omega
   by_cases hab : (a : Int) = (b : Int)
   ·obtain rfl : a = b := by omega
    go_wp2
    go_quiet (fail)
    go_wp2
    go_roundw
    case rel =>
     refine ⟨_, rfl, ?_⟩
     cases k with
     | zero => exact .inr ⟨rfl, by have := HEQ.out (by simp); simpa using this⟩
     | succ k => exact .inl ⟨k, by omega, by go_num, HEQ.out (by simp)⟩
    case measure => simp [intOf]
   ·have hne : ((a : Int) != (b : Int)) = true := by simp; omega
    have hnn : ¬ a = b := by omega
    go_wp2
    go_quiet (fail)
    go_wp2
    go_quiet (fail)
    go_wp2
    go_ret
    refine ⟨?_, by repeat (first | exact HB.out | apply below_drewN)⟩
    by_cases hlt : a < b
    ·have := HLT.out hlt
     simp [this, hlt]
    ·have := HGT.out (by omega)
     have h2 : ¬ x < y := by omega
     simp [h2, hlt]
  ·go_wp2
   go_ret
   refine ⟨?_, by repeat (first | exact HB.out | apply below_drewN)⟩
   simp [he]
end Go.Proofs.YtklenppldblbdaaGreat
namespace Go.Proofs.YtklenppldblbdaaGreat
theorem mod_succ (m i : Nat) : m % 65536 ^ (i + 1) = m % 65536 ^ i + 65536 ^ i * dig m i := Nat.mod_pow_succ
theorem getD_lt {l : List Nat} (h : ∀ d ∈ l, d < 65536) (k : Nat) : l.getD k 0 < 65536 := by
 rw [List.getD_eq_getElem?_getD]
 by_cases hk : k < l.length
 ·rw [List.getElem?_eq_getElem hk]; exact h _ (List.getElem_mem hk)
 ·rw [List.getElem?_eq_none (by omega)]; decide
theorem set_lt {l : List Nat} (h : ∀ d ∈ l, d < 65536) (k d : Nat) (hd : d < 65536) : ∀ e ∈ l.set k d, e < 65536 := by
 intro e he
 rcases List.mem_or_eq_of_mem_set he with h1 | h1
 ·exact h e h1
 ·rw [h1]; exact hd
theorem getD_set_other {l : List Nat} {k j d : Nat} (h : k ≠ j) : (l.set k d).getD j 0 = l.getD j 0 := by
 simp [List.getD_eq_getElem?_getD, List.getElem?_set_ne h]
structure TimesInv (x y i j : Nat) (l : List Nat) (c : Nat) : Prop where
 len : l.length = 10
 digits : ∀ d ∈ l, d < 65536
 carry : c < 65536
 zeros : ∀ k, i + 5 ≤ k → l.getD k 0 = 0
 value : val l + c * 65536 ^ (i + j) = (x % 65536 ^ i) * y + dig x i * (y % 65536 ^ j) * 65536 ^ i
theorem TimesInv.small {x y i j c : Nat} {l : List Nat} (h : TimesInv x y i j l c) : l.getD (i + j) 0 + dig x i * dig y j + c ≤ 4294967295 := by
 have h1 := getD_lt h.digits (i + j)
 have h2 := h.carry
 have h3 : dig x i * dig y j ≤ 65535 * 65535 := Nat.mul_le_mul (by have := dig_lt x i; omega) (by have := dig_lt y j; omega)
 omega
theorem TimesInv.step {x y i j c t : Nat} {l : List Nat} (h : TimesInv x y i j l c) (hi : i < 5) (hj : j < 5) (ht : l.getD (i + j) 0 + dig x i * dig y j + c = t) :
 TimesInv x y i (j + 1) (l.set (i + j) (t % 65536)) (t / 65536) := by
 have hs := h.small
 have hl := h.len
 refine ⟨by simpa using h.len, set_lt h.digits _ _ (by omega), by omega, ?_, ?_⟩
 ·intro k hk
  rw [getD_set_other (by omega)]; exact h.zeros k hk
 ·have hv := val_set l (i + j) (t % 65536) (by omega)
  have hval := h.value
  rw [mod_succ y j]
  generalize l.getD (i + j) 0 = o at *
  have e1 : t / 65536 * 65536 ^ (i + (j + 1)) = (t / 65536 * 65536) * 65536 ^ (i + j) := by
   rw [show i + (j + 1) = (i + j) + 1 from rfl, Nat.pow_succ, Nat.mul_comm (65536 ^ (i + j)) 65536, ← Nat.mul_assoc]
  have e2 : dig x i * (y % 65536 ^ j + 65536 ^ j * dig y j) * 65536 ^ i = dig x i * (y % 65536 ^ j) * 65536 ^ i + dig x i * dig y j * 65536 ^ (i + j) := by
   rw [Nat.mul_add, Nat.add_mul, Nat.pow_add, Nat.mul_comm (65536 ^ j) (dig y j), ← Nat.mul_assoc, Nat.mul_assoc (dig x i * dig y j), Nat.mul_comm (65536 ^ j) (65536 ^ i)]
  rw [e1, e2]
  generalize 65536 ^ (i + j) = P at *
  generalize dig x i * (y % 65536 ^ j) * 65536 ^ i = R at *
  generalize x % 65536 ^ i * y = V at *
  generalize val (l.set (i + j) (t % 65536)) = L' at *
  generalize val l = L at *
  have et : t % 65536 * P + t / 65536 * 65536 * P = t * P := by rw [← Nat.add_mul]; congr 1; omega
  have et2 : t * P = o * P + dig x i * dig y j * P + c * P := by rw [← ht, Nat.add_mul, Nat.add_mul]
  omega
theorem TimesInv.start {x y i : Nat} {l : List Nat} (hl : l.length = 10) (hd : ∀ d ∈ l, d < 65536) (hz : ∀ k, i + 5 ≤ k → l.getD k 0 = 0) (hv : val l = (x % 65536 ^ i) * y) : TimesInv x y i 0 l 0 :=
 ⟨hl, hd, by decide, hz, by rw [hv]; simp [Nat.mod_one]⟩
structure TimesRow (x y i : Nat) (l : List Nat) : Prop where
 len : l.length = 10
 digits : ∀ d ∈ l, d < 65536
 zeros : ∀ k, i + 5 ≤ k → l.getD k 0 = 0
 value : val l = (x % 65536 ^ i) * y
theorem TimesInv.row {x y i c : Nat} {l : List Nat} (h : TimesInv x y i 5 l c) (hi : i < 5) (hy : y < 65536 ^ 5) : TimesRow x y (i + 1) (l.set (i + 5) (l.getD (i + 5) 0 + c)) := by
 have h0 := h.zeros (i + 5) (by omega)
 have hc := h.carry
 have hl := h.len
 rw [h0, Nat.zero_add]
 refine ⟨by simpa using h.len, set_lt h.digits _ _ (by omega), ?_, ?_⟩
 ·intro k hk
  rw [getD_set_other (by omega)]; exact h.zeros k (by omega)
 ·have hv := val_set l (i + 5) c (by omega)
  rw [h0] at hv
  have hval := h.value
  rw [Nat.mod_eq_of_lt hy] at hval
  rw [mod_succ x i, Nat.add_mul]
  have e : 65536 ^ i * dig x i * y = dig x i * y * 65536 ^ i := by rw [Nat.mul_assoc, Nat.mul_comm]
  rw [e]
  omega
theorem timesRow_start (x y : Nat) : TimesRow x y 0 [0, 0, 0, 0, 0, 0, 0, 0, 0, 0] := by
 refine ⟨rfl, by simp, ?_, ?_⟩
 ·intro k _
  match k with
  | 0 | 1 | 2 | 3 | 4 | 5 | 6 | 7 | 8 | 9 => rfl
  | _ + 10 => rfl
 ·simp [val, Nat.mod_one]
end Go.Proofs.YtklenppldblbdaaGreat
namespace Go.Proofs.YtklenppldblbdaaGreat
open Go.RowKit Go.Lib
def cellsL (l : List Nat) : Array Value := (l.map (fun d : Nat => Value.int .i64 (d : Int))).toArray
def rowW (W : World) (l : List Nat) (n : Nat) : World := (W.alloc (.cells (cellsL l) 133)).drewN n
theorem rowW_cell (W : World) (l : List Nat) (n k : Nat) (hk : k < l.length) : (rowW W l n).cell? ⟨W.heap.size, k, none⟩ = some (.int .i64 (l.getD k 0 : Nat)) := by
 simp [rowW, cellsL, go_sem, hk, List.getD]
theorem rowW_frozen (W : World) (l : List Nat) (n k : Nat) : (rowW W l n).frozen? ⟨W.heap.size, k, none⟩ = false := by
 simp [rowW, go_sem]
theorem rowW_set (W : World) (l : List Nat) (n k d : Nat) : (rowW W l n).setCell ⟨W.heap.size, k, none⟩ (.int .i64 (d : Int)) = rowW W (l.set k d) n := by
 unfold rowW
 have e : ((W.alloc (.cells (cellsL l) 133)).drewN n).setCell ⟨W.heap.size, k, none⟩ (.int .i64 (d : Int)) = ((W.alloc (.cells (cellsL l) 133)).setCell ⟨W.heap.size, k, none⟩ (.int .i64 (d : Int))).drewN n := rfl
 rw [e, World.setCell_alloc_at _ _ _ _ _ rfl]
 congr 3
 simp [cellsL, List.map_set]
theorem rowW_drewN (W : World) (l : List Nat) (n m : Nat) : (rowW W l n).drewN m = rowW W l (n + m) := by simp [rowW]
theorem rowW_below (W : World) (l : List Nat) (n : Nat) : Below W.heap.size W (rowW W l n) := below_drewN ((Below.refl _ _).alloc (Nat.le_refl _) _) _
theorem list10 (l : List Nat) (h : l.length = 10) : ∃ a0 a1 a2 a3 a4 a5 a6 a7 a8 a9, l = [a0, a1, a2, a3, a4, a5, a6, a7, a8, a9] := by
 match l, h with
 | [a0, a1, a2, a3, a4, a5, a6, a7, a8, a9], _ => exact ⟨a0, a1, a2, a3, a4, a5, a6, a7, a8, a9, rfl⟩
theorem cellsL_dig (l : List Nat) (m : Nat) (hl : l.length = 10) (hd : ∀ d ∈ l, d < 65536) (hv : val l = m) :
 cellsL l = #[.int .i64 (dig m 0 : Nat), .int .i64 (dig m 1 : Nat), .int .i64 (dig m 2 : Nat), .int .i64 (dig m 3 : Nat), .int .i64 (dig m 4 : Nat), .int .i64 (dig m 5 : Nat), .int .i64 (dig m 6 : Nat), .int .i64 (dig m 7 : Nat), .int .i64 (dig m 8 : Nat), .int .i64 (dig m 9 : Nat)] := by
 have h : ∀ i, i < 10 → dig m i = l.getD i 0 := fun i hi => by rw [← hv]; exact dig_val l hd i (by omega)
 clear hv hd
 obtain ⟨a0, a1, a2, a3, a4, a5, a6, a7, a8, a9, rfl⟩ := list10 l hl
 rw [h 0 (by decide), h 1 (by decide), h 2 (by decide), h 3 (by decide), h 4 (by decide), h 5 (by decide), h 6 (by decide), h 7 (by decide), h 8 (by decide), h 9 (by decide)]
 simp [cellsL]
theorem cellsL_zero : cellsL [0, 0, 0, 0, 0, 0, 0, 0, 0, 0] = #[.int .i64 0, .int .i64 0, .int .i64 0, .int .i64 0, .int .i64 0, .int .i64 0, .int .i64 0, .int .i64 0, .int .i64 0, .int .i64 0] := rfl
def zRow : Obj := .cells (cellsL [0, 0, 0, 0, 0, 0, 0, 0, 0, 0]) 133
set_option maxRecDepth 100000 in
set_option maxHeartbeats 2000000 in
theorem times_any (x y : Nat) (w : World) (hx : x < 65536 ^ 5) (hy : y < 65536 ^ 5) :
 Calls Tryz.prog 77 #[longV x, longV y] w fun e w' => e = .returned (longV (x * y)) ∧ Below w.heap.size w w' := by
 have HX := Lib.hid hx
 have HY := Lib.hid hy
 clear hx hy
 unfold longV
 go_enter Tryz.func77, Tryz.ntmps77
 go_wp2
 have LX := Lib.hid ((longAt_new w x 133).alloc (by simp) (.cells #[.int .i64 (dig y 0 : Nat), .int .i64 (dig y 1 : Nat), .int .i64 (dig y 2 : Nat), .int .i64 (dig y 3 : Nat), .int .i64 (dig y 4 : Nat), .int .i64 (dig y 5 : Nat), .int .i64 (dig y 6 : Nat), .int .i64 (dig y 7 : Nat), .int .i64 (dig y 8 : Nat), .int .i64 (dig y 9 : Nat)] 133))
 have LY := Lib.hid (longAt_new (w.alloc (.cells #[.int .i64 (dig x 0 : Nat), .int .i64 (dig x 1 : Nat), .int .i64 (dig x 2 : Nat), .int .i64 (dig x 3 : Nat), .int .i64 (dig x 4 : Nat), .int .i64 (dig x 5 : Nat), .int .i64 (dig x 6 : Nat), .int .i64 (dig x 7 : Nat), .int .i64 (dig x 8 : Nat), .int .i64 (dig x 9 : Nat)] 133)) y 133)
 have HB := Lib.hid (((Below.refl w.heap.size w).alloc (Nat.le_refl _) (.cells #[.int .i64 (dig x 0 : Nat), .int .i64 (dig x 1 : Nat), .int .i64 (dig x 2 : Nat), .int .i64 (dig x 3 : Nat), .int .i64 (dig x 4 : Nat), .int .i64 (dig x 5 : Nat), .int .i64 (dig x 6 : Nat), .int .i64 (dig x 7 : Nat), .int .i64 (dig x 8 : Nat), .int .i64 (dig x 9 : Nat)] 133)).alloc (by simp) (.cells #[.int .i64 (dig y 0 : Nat), .int .i64 (dig y 1 : Nat), .int .i64 (dig y 2 : Nat), .int .i64 (dig y 3 : Nat), .int .i64 (dig y 4 : Nat), .int .i64 (dig y 5 : Nat), .int .i64 (dig y 6 : Nat), .int .i64 (dig y 7 : Nat), .int .i64 (dig y 8 : Nat), .int .i64 (dig y 9 : Nat)] 133))
 rw [show (w.alloc (.cells #[.int .i64 (dig x 0 : Nat), .int .i64 (dig x 1 : Nat), .int .i64 (dig x 2 : Nat), .int .i64 (dig x 3 : Nat), .int .i64 (dig x 4 : Nat), .int .i64 (dig x 5 : Nat), .int .i64 (dig x 6 : Nat), .int .i64 (dig x 7 : Nat), .int .i64 (dig x 8 : Nat), .int .i64 (dig x 9 : Nat)] 133)).heap.size = w.heap.size + 1 by simp] at LY
 have HN : Hid (((w.alloc (.cells #[.int .i64 (dig x 0 : Nat), .int .i64 (dig x 1 : Nat), .int .i64 (dig x 2 : Nat), .int .i64 (dig x 3 : Nat), .int .i64 (dig x 4 : Nat), .int .i64 (dig x 5 : Nat), .int .i64 (dig x 6 : Nat), .int .i64 (dig x 7 : Nat), .int .i64 (dig x 8 : Nat), .int .i64 (dig x 9 : Nat)] 133)).alloc (.cells #[.int .i64 (dig y 0 : Nat), .int .i64 (dig y 1 : Nat), .int .i64 (dig y 2 : Nat), .int .i64 (dig y 3 : Nat), .int .i64 (dig y 4 : Nat), .int .i64 (dig y 5 : Nat), .int .i64 (dig y 6 : Nat), .int .i64 (dig y 7 : Nat), .int .i64 (dig y 8 : Nat), .int .i64 (dig y 9 : Nat)] 133)).heap.size = w.heap.size + 1 + 1) := by simp [Hid]
 generalize (w.alloc _).alloc _ = W at *
 rw [← HN.out]
 have hN1 : w.heap.size < W.heap.size := by have := HN.out; omega
 have hN2 : w.heap.size + 1 < W.heap.size := by have := HN.out; omega
 go_loopw [6] (fun i wr => ∃ (k n : Nat) (l : List Nat), k ≤ 5 ∧ i = .int .i64 k ∧ wr = rowW (W.alloc zRow) l n ∧ TimesRow x y k l) (fun i _ => 5 - (intOf i).toNat)
 case atStart => exact ⟨0, 0, [0, 0, 0, 0, 0, 0, 0, 0, 0, 0], by decide, rfl, rfl, timesRow_start x y⟩
 case round =>
  obtain ⟨k, n, l, hk, rfl, rfl, hrow⟩ := hrel
  have HR := Lib.hid hrow
  clear hrow
  by_cases hlt : k < 5
  ·go_wp2
   go_loopw [7, 8] (fun c j wr => ∃ (jj cc n : Nat) (l : List Nat), jj ≤ 5 ∧ j = .int .i64 jj ∧ c = .int .i64 cc ∧ wr = rowW (W.alloc zRow) l n ∧ TimesInv x y k jj l cc) (fun _ j _ => 5 - (intOf j).toNat)
   case atStart => exact ⟨0, 0, n, l, by decide, rfl, rfl, rfl, TimesInv.start HR.out.len HR.out.digits HR.out.zeros HR.out.value⟩
   case round =>
    obtain ⟨j, c, n, l, hj, rfl, rfl, rfl, hinv⟩ := hrel
    have HI := Lib.hid hinv
    clear hinv
    by_cases hjt : j < 5
    ·have hc : c < 65536 := HI.out.carry
     have cx := (LX.out.below ((Below.refl W.heap.size W).trans (((Below.refl W.heap.size W).alloc (Nat.le_refl _) zRow).trans ((rowW_below (W.alloc zRow) l n).mono (by simp)))) hN1) k (by omega)
     have cy := (LY.out.below ((Below.refl W.heap.size W).trans (((Below.refl W.heap.size W).alloc (Nat.le_refl _) zRow).trans ((rowW_below (W.alloc zRow) l n).mono (by simp)))) hN2) j (by omega)
     have co := rowW_cell (W.alloc zRow) l n (k + j) (by rw [HI.out.len]; omega)
     have cf := rowW_frozen (W.alloc zRow) l n (k + j)
     rw [show (W.alloc zRow).heap.size = W.heap.size + 1 by simp] at co cf
     have HS := Lib.hid HI.out.small
     have ho : l.getD (k + j) 0 < 65536 := getD_lt HI.out.digits _
     have hdx := dig_lt x k
     have hdy := dig_lt y j
     obtain ⟨t, HT⟩ : ∃ t, Hid (l.getD (k + j) 0 + dig x k * dig y j + c = t) := ⟨_, rfl⟩
     obtain ⟨wr, HW⟩ : ∃ wr, Hid (rowW (W.alloc zRow) l n = wr) := ⟨_, rfl⟩
     rw [HW.out] at cx cy co cf ⊢
     have HSTEP := Lib.hid (HI.out.step hlt hjt HT.out)
     have HLEN := Lib.hid HI.out.len
     clear HI HR
     generalize l.getD (k + j) 0 = o at *
     generalize dig x k = a at *
     generalize dig y j = b at *
     have hab : a * b ≤ 65535 * 65535 := Nat.mul_le_mul (by omega) (by omega)
     have e1 : IntKind.i64.wrap ((k : Int) + (j : Int)) = (k : Int) + (j : Int) := IntWalk.i64_in _ (by omega)
     have e2 : ((k : Int) + (j : Int)).toNat = k + j := by omega
     have e3 : (0 : Int) ≤ (k : Int) + (j : Int) := by omega
     have e4 : (k : Int) + (j : Int) < 10 := by omega
     have e5 : IntKind.i64.wrap ((a : Int) * (b : Int)) = (a : Int) * (b : Int) := by rw [← Int.natCast_mul]; exact IntWalk.i64_in _ (by omega)
     have e6 : IntKind.i64.wrap ((o : Int) + (a : Int) * (b : Int)) = (o : Int) + (a : Int) * (b : Int) := by rw [← Int.natCast_mul]; exact IntWalk.i64_in _ (by omega)
     have e7 : IntKind.i64.wrap ((o : Int) + (a : Int) * (b : Int) + (c : Int)) = (t : Int) := by
      have := HT.out
      rw [← Int.natCast_mul]
      rw [IntWalk.i64_in _ (by omega)]
      omega
     have ht : t ≤ 4294967295 := by have := HS.out; have := HT.out; omega
     go_upto_region 9 with (fail)
     go_quiet (fail)
     clear e1 e2 e5 e6 e7
     go_wp2
     go_roundw
     case rel =>
      refine ⟨j + 1, t / 65536, n + nq, l.set (k + j) (t % 65536), by omega, by go_num, by go_num, ?_, HSTEP.out⟩
      have e := rowW_set (W.alloc zRow) l (n + nq) (k + j) (t % 65536)
      rw [show (W.alloc zRow).heap.size = W.heap.size + 1 by simp] at e
      rw [← HW.out, rowW_drewN, ← e]
      rfl
     case measure => simp [intOf]; omega
    ·obtain rfl : j = 5 := by omega
     have hc : c < 65536 := HI.out.carry
     have co := rowW_cell (W.alloc zRow) l n (k + 5) (by rw [HI.out.len]; omega)
     have cf := rowW_frozen (W.alloc zRow) l n (k + 5)
     rw [show (W.alloc zRow).heap.size = W.heap.size + 1 by simp] at co cf
     have hz : l.getD (k + 5) 0 = 0 := HI.out.zeros _ (by omega)
     rw [hz] at co
     have HROW := Lib.hid (HI.out.row hlt HY.out)
     rw [hz] at HROW
     clear hz HI HR
     obtain ⟨wr, HW⟩ : ∃ wr, Hid (rowW (W.alloc zRow) l n = wr) := ⟨_, rfl⟩
     rw [HW.out] at co cf ⊢
     have e2 : ((k : Int) + 5).toNat = k + 5 := by omega
     have e3 : (0 : Int) ≤ (k : Int) + 5 := by omega
     have e4 : (k : Int) + 5 < 10 := by omega
     go_wp2
     go_roundw
     case rel =>
      refine ⟨k + 1, n, l.set (k + 5) c, by omega, by go_num, ?_, by simpa using HROW.out⟩
      have e := rowW_set (W.alloc zRow) l n (k + 5) c
      rw [show (W.alloc zRow).heap.size = W.heap.size + 1 by simp] at e
      rw [← HW.out, ← e]
     case measure => simp [intOf]; omega
  ·obtain rfl : k = 5 := by omega
   have hv : val l = x * y := by rw [HR.out.value, Nat.mod_eq_of_lt HX.out]
   have hcl := cellsL_dig l (x * y) HR.out.len HR.out.digits hv
   unfold rowW zRow
   rw [hcl, cellsL_zero]
   clear hcl hv HR
   go_wp2
   refine bodyPost_ret (v := longV (x * y)) ?_ rfl ⟨rfl, ?_⟩
   ·simp [results, Tryz.results77, go_sem, longV]
   ·have hW : w.heap.size ≤ W.heap.size := by omega
    iterate 10 refine Below.setCell ?_ (by exact hW) _
    exact below_drewN ((HB.out.alloc hW _).alloc (by simp; omega) _) _
end Go.Proofs.YtklenppldblbdaaGreat
namespace Go.Proofs.YtklenppldblbdaaGreat
open Go.RowKit
structure PlusInv (x y i : Nat) (l : List Nat) (c : Nat) : Prop where
 len : l.length = 10
 digits : ∀ d ∈ l, d < 65536
 carry : c ≤ 1
 rest : ∀ k, i ≤ k → k < 10 → l.getD k 0 = dig x k
 value : val l + c * 65536 ^ i = x + y % 65536 ^ i
theorem PlusInv.start (x y : Nat) (hx : x < 65536 ^ 10) : PlusInv x y 0 (digs x 10) 0 :=
 ⟨digs_length x 10, by
  intro d hd
  obtain ⟨i, hi, rfl⟩ := List.mem_iff_getElem.1 hd
  have := digs_get x 10 i (by rw [digs_length] at hi; exact hi)
  rw [List.getD_eq_getElem?_getD, List.getElem?_eq_getElem hi] at this
  simp at this
  rw [this]
  exact dig_lt x i, by decide, fun k _ hk => digs_get x 10 k hk, by rw [val_digs x 10 hx]; simp [Nat.mod_one]⟩
theorem PlusInv.step {x y i c t : Nat} {l : List Nat} (h : PlusInv x y i l c) (hi : i < 10) (ht : l.getD i 0 + dig y i + c = t) :
 PlusInv x y (i + 1) (l.set i (t % 65536)) (t / 65536) := by
 have h1 := getD_lt h.digits i
 have h2 := dig_lt y i
 have h3 := h.carry
 have hl := h.len
 refine ⟨by simpa using h.len, set_lt h.digits _ _ (by omega), by omega, ?_, ?_⟩
 ·intro k hk hk1
  rw [getD_set_other (by omega)]; exact h.rest k (by omega) hk1
 ·have hv := val_set l i (t % 65536) (by omega)
  have hval := h.value
  rw [mod_succ y i, Nat.pow_succ]
  generalize l.getD i 0 = o at *
  have e1 : t / 65536 * (65536 ^ i * 65536) = (t / 65536 * 65536) * 65536 ^ i := by rw [Nat.mul_comm (65536 ^ i) 65536, ← Nat.mul_assoc]
  have et : t % 65536 * 65536 ^ i + t / 65536 * 65536 * 65536 ^ i = t * 65536 ^ i := by rw [← Nat.add_mul]; congr 1; omega
  have et2 : t * 65536 ^ i = o * 65536 ^ i + dig y i * 65536 ^ i + c * 65536 ^ i := by rw [← ht, Nat.add_mul, Nat.add_mul]
  have e3 : 65536 ^ i * dig y i = dig y i * 65536 ^ i := Nat.mul_comm _ _
  rw [e1, e3]
  generalize 65536 ^ i = P at *
  omega
theorem PlusInv.done {x y c : Nat} {l : List Nat} (h : PlusInv x y 10 l c) (hs : x + y < 65536 ^ 10) : val l = x + y := by
 have hv := h.value
 have hy : y % 65536 ^ 10 = y := Nat.mod_eq_of_lt (by omega)
 rw [hy] at hv
 have hc := h.carry
 have : c = 0 ∨ c = 1 := by omega
 rcases this with rfl | rfl
 ·omega
 ·omega
def plusW (w : World) (l : List Nat) (y : Obj) (n : Nat) : World := (((w.alloc (.cells (cellsL l) 133)).alloc y).alloc zRow).drewN n
theorem plusW_cell (w : World) (l : List Nat) (y : Obj) (n k : Nat) (hk : k < l.length) : (plusW w l y n).cell? ⟨w.heap.size, k, none⟩ = some (.int .i64 (l.getD k 0 : Nat)) := by
 unfold plusW
 rw [World.cell?_drewN, World.cell?_alloc_past _ _ _ (by simp; omega), World.cell?_alloc_past _ _ _ (by simp), World.cell?_alloc_at _ _ _ _ rfl]
 simp [cellsL, hk, List.getD]
theorem plusW_frozen (w : World) (l : List Nat) (y : Obj) (n k : Nat) : (plusW w l y n).frozen? ⟨w.heap.size, k, none⟩ = false := by
 unfold plusW
 rw [World.frozen?_drewN, World.frozen?_alloc_past _ _ _ (by simp; omega), World.frozen?_alloc_past _ _ _ (by simp), World.frozen?_alloc_at _ _ _ _ rfl]
theorem plusW_set (w : World) (l : List Nat) (y : Obj) (n k d : Nat) : (plusW w l y n).setCell ⟨w.heap.size, k, none⟩ (.int .i64 (d : Int)) = plusW w (l.set k d) y n := by
 unfold plusW
 have e : ((((w.alloc (.cells (cellsL l) 133)).alloc y).alloc zRow).drewN n).setCell ⟨w.heap.size, k, none⟩ (.int .i64 (d : Int)) = ((((w.alloc (.cells (cellsL l) 133)).alloc y).alloc zRow).setCell ⟨w.heap.size, k, none⟩ (.int .i64 (d : Int))).drewN n := rfl
 rw [e, World.setCell_alloc_past _ _ _ _ (by simp; omega), World.setCell_alloc_past _ _ _ _ (by simp), World.setCell_alloc_at _ _ _ _ _ rfl]
 congr 5
 simp [cellsL, List.map_set]
theorem plusW_drewN (w : World) (l : List Nat) (y : Obj) (n m : Nat) : (plusW w l y n).drewN m = plusW w l y (n + m) := by simp [plusW]
def yRow (y : Nat) : Obj := .cells #[.int .i64 (dig y 0 : Nat), .int .i64 (dig y 1 : Nat), .int .i64 (dig y 2 : Nat), .int .i64 (dig y 3 : Nat), .int .i64 (dig y 4 : Nat), .int .i64 (dig y 5 : Nat), .int .i64 (dig y 6 : Nat), .int .i64 (dig y 7 : Nat), .int .i64 (dig y 8 : Nat), .int .i64 (dig y 9 : Nat)] 133
theorem plusW_y (w : World) (l : List Nat) (y n : Nat) : LongAt (plusW w l (yRow y) n) (w.heap.size + 1) y := by
 intro k hk
 unfold plusW
 have h := (longAt_new (w.alloc (.cells (cellsL l) 133)) y 133).alloc (by simp) zRow k hk
 rw [show (w.alloc (.cells (cellsL l) 133)).heap.size = w.heap.size + 1 by simp] at h
 rw [World.cell?_drewN]
 exact h
set_option maxRecDepth 100000 in
set_option maxHeartbeats 2000000 in
theorem plus_any (x y : Nat) (w : World) (hx : x < 65536 ^ 10) (hs : x + y < 65536 ^ 10) :
 Calls Tryz.prog 89 #[longV x, longV y] w fun e w' => e = .returned (longV (x + y)) ∧ Below w.heap.size w w' := by
 have HX := Lib.hid hx
 have HSUM := Lib.hid hs
 clear hx hs
 have HC : Hid (cellsL (digs x 10) = #[.int .i64 (dig x 0 : Nat), .int .i64 (dig x 1 : Nat), .int .i64 (dig x 2 : Nat), .int .i64 (dig x 3 : Nat), .int .i64 (dig x 4 : Nat), .int .i64 (dig x 5 : Nat), .int .i64 (dig x 6 : Nat), .int .i64 (dig x 7 : Nat), .int .i64 (dig x 8 : Nat), .int .i64 (dig x 9 : Nat)]) := cellsL_dig _ x (digs_length x 10) (PlusInv.start x 0 HX.out).digits (val_digs x 10 HX.out)
 unfold longV
 go_enter Tryz.func89, Tryz.ntmps89
 go_wp2
 go_loopw [5, 6] (fun c i wr => ∃ (k cc n : Nat) (l : List Nat), k ≤ 10 ∧ i = .int .i64 k ∧ c = .int .i64 cc ∧ wr = plusW w l (yRow y) n ∧ PlusInv x y k l cc) (fun _ i _ => 10 - (intOf i).toNat)
 case atStart =>
  refine ⟨0, 0, 0, digs x 10, by decide, rfl, rfl, ?_, PlusInv.start x y HX.out⟩
  unfold plusW
  rw [HC.out]
  rfl
 case round =>
  obtain ⟨k, c, n, l, hk, rfl, rfl, rfl, hinv⟩ := hrel
  have HI := Lib.hid hinv
  clear hinv
  by_cases hlt : k < 10
  ·have hc : c ≤ 1 := HI.out.carry
   have cy := plusW_y w l y n k hlt
   have co := plusW_cell w l (yRow y) n k (by rw [HI.out.len]; omega)
   have cf := plusW_frozen w l (yRow y) n k
   have ho : l.getD k 0 < 65536 := getD_lt HI.out.digits _
   have hdy := dig_lt y k
   obtain ⟨t, HT⟩ : ∃ t, Hid (l.getD k 0 + dig y k + c = t) := ⟨_, rfl⟩
   have HSTEP := Lib.hid (HI.out.step hlt HT.out)
   clear HI
   obtain ⟨wr, HW⟩ : ∃ wr, Hid (plusW w l (yRow y) n = wr) := ⟨_, rfl⟩
   rw [HW.out] at cy co cf ⊢
   generalize l.getD k 0 = o at *
   generalize dig y k = b at *
   have e3 : (0 : Int) ≤ (k : Int) := by omega
   have e4 : (k : Int) < 10 := by omega
   have e6 : IntKind.i64.wrap ((o : Int) + (b : Int)) = (o : Int) + (b : Int) := IntWalk.i64_in _ (by omega)
   have e7 : IntKind.i64.wrap ((o : Int) + (b : Int) + (c : Int)) = (t : Int) := by
    have := HT.out
    rw [IntWalk.i64_in _ (by omega)]
    omega
   have ht : t ≤ 131071 := by have := HT.out; omega
   go_upto_region 5 with (fail)
   go_quiet (fail)
   clear e6 e7
   go_wp2
   go_roundw
   case rel =>
    refine ⟨k + 1, t / 65536, n + nq, l.set k (t % 65536), by omega, by go_num, by go_num, ?_, HSTEP.out⟩
    have e := plusW_set w l (yRow y) (n + nq) k (t % 65536)
    rw [← HW.out, plusW_drewN, ← e]
    rfl
   case measure => simp [intOf]; omega
  ·obtain rfl : k = 10 := by omega
   have hv := HI.out.done HSUM.out
   have hcl := cellsL_dig l (x + y) HI.out.len HI.out.digits hv
   unfold plusW yRow zRow
   rw [hcl, cellsL_zero]
   clear hcl hv HI
   go_wp2
   refine bodyPost_ret (v := longV (x + y)) ?_ rfl ⟨rfl, ?_⟩
   ·simp [results, Tryz.results89, go_sem, longV]
   ·iterate 10 refine Below.setCell ?_ (by show w.heap.size ≤ w.heap.size + 1 + 1; omega) _
    exact below_drewN ((((Below.refl _ _).alloc (Nat.le_refl _) _).alloc (by simp) _).alloc (by simp; omega) _) _
end Go.Proofs.YtklenppldblbdaaGreat
namespace Go.Proofs.YtklenppldblbdaaGreat
open Go.RowKit Go.Lib
theorem longV_small (m : Nat) (hm : m ≤ 9223372036854775808) : longV m = .agg #[.int .i64 ((m : Int) % 65536), .int .i64 ((m : Int) / 65536 % 65536), .int .i64 ((m : Int) / 65536 / 65536 % 65536), .int .i64 ((m : Int) / 65536 / 65536 / 65536 % 65536), .int .i64 0, .int .i64 0, .int .i64 0, .int .i64 0, .int .i64 0, .int .i64 0] := by
 unfold longV
 have h4 : ∀ i, 4 ≤ i → dig m i = 0 := fun i hi => dig_high (Nat.lt_of_lt_of_le (by omega : m < 65536 ^ 4) (Nat.pow_le_pow_right (by decide) hi))
 rw [h4 4 (by decide), h4 5 (by decide), h4 6 (by decide), h4 7 (by decide), h4 8 (by decide), h4 9 (by decide)]
 have e0 : (dig m 0 : Int) = (m : Int) % 65536 := by rw [dig_first]; omega
 have e1 : (dig m 1 : Int) = (m : Int) / 65536 % 65536 := by rw [dig_succ, dig_first]; omega
 have e2 : (dig m 2 : Int) = (m : Int) / 65536 / 65536 % 65536 := by rw [dig_succ, dig_succ, dig_first]; omega
 have e3 : (dig m 3 : Int) = (m : Int) / 65536 / 65536 / 65536 % 65536 := by rw [dig_succ, dig_succ, dig_succ, dig_first]; omega
 rw [e0, e1, e2, e3]
 rfl
set_option maxRecDepth 100000 in
set_option maxHeartbeats 1000000 in
theorem size_any (n : Int) (m : Nat) (w : World) (H0 : Hid (-9223372036854775808 ≤ n)) (H1 : Hid (n ≤ 9223372036854775807)) (HM : Hid (n.natAbs = m)) :
 Calls Tryz.prog 78 #[.int .i64 n] w fun e w' => e = .returned (longV m) ∧ Below w.heap.size w w' := by
 have hm : m ≤ 9223372036854775808 := by have := HM.out; have := H0.out; have := H1.out; omega
 have HV := Lib.hid (longV_small m hm)
 by_cases hn : n < 0
 ·have HW := Lib.hid (u64_of_neg n H0.out hn)
  go_enter Tryz.func78, Tryz.ntmps78
  go_upto_region 5 with (fail)
  rw [HW.out, HM.out]
  go_wp2
  go_rounds 5
  refine bodyPost_ret (v := longV m) ?_ rfl ⟨rfl, ((Below.refl _ _).alloc (Nat.le_refl _) _).alloc (by simp) _⟩
  rw [HV.out]
  simp [results, Tryz.results78, go_sem]
 ·have HW := Lib.hid (u64_of_pos n hn H1.out)
  go_enter Tryz.func78, Tryz.ntmps78
  go_upto_region 3 with (fail)
  rw [HW.out, HM.out]
  go_wp2
  go_rounds 5
  refine bodyPost_ret (v := longV m) ?_ rfl ⟨rfl, ((Below.refl _ _).alloc (Nat.le_refl _) _).alloc (by simp) _⟩
  rw [HV.out]
  simp [results, Tryz.results78, go_sem]
end Go.Proofs.YtklenppldblbdaaGreat
namespace Go.Proofs.YtklenppldblbdaaGreat
open Go.RowKit Go.Lib
def I64 (n : Int) : Prop := -9223372036854775808 ≤ n ∧ n ≤ 9223372036854775807
theorem natAbs_small {n : Int} (h : I64 n) : n.natAbs < 65536 ^ 5 := by have := h.1; have := h.2; omega
def RootRel (r s b : Nat) : Prop := (b = 0 ∧ s = r) ∨ (∃ k, b = 2 ^ k ∧ s ≤ r ∧ r < s + 2 * b ∧ s + 2 * b ≤ 4294967296)
theorem RootRel.start {r : Nat} (h : r ≤ 3037000499) : RootRel r 0 2147483648 := .inr ⟨31, by decide, by omega, by omega, by decide⟩
theorem RootRel.bound {r s b : Nat} (h : RootRel r s b) (hb : 0 < b) : s + b ≤ 4294967295 := by
 rcases h with ⟨rfl, _⟩ | ⟨k, _, _, _, h⟩ <;> omega
theorem RootRel.up {r s b : Nat} (h : RootRel r s b) (hb : 0 < b) (hs : s + b ≤ r) : RootRel r (s + b) (b / 2) := by
 rcases h with ⟨rfl, _⟩ | ⟨k, e, h1, h2, h3⟩
 ·omega
 ·cases k with
  | zero => left; simp at e; omega
  | succ k =>
    have e2 : b = 2 * 2 ^ k := by rw [e, Nat.pow_succ, Nat.mul_comm]
    exact .inr ⟨k, by omega, by omega, by omega, by omega⟩
theorem RootRel.stay {r s b : Nat} (h : RootRel r s b) (hb : 0 < b) (hs : ¬ s + b ≤ r) : RootRel r s (b / 2) := by
 rcases h with ⟨rfl, _⟩ | ⟨k, e, h1, h2, h3⟩
 ·omega
 ·cases k with
  | zero => left; simp at e; omega
  | succ k =>
    have e2 : b = 2 * 2 ^ k := by rw [e, Nat.pow_succ, Nat.mul_comm]
    exact .inr ⟨k, by omega, by omega, by omega, by omega⟩
theorem RootRel.done {r s : Nat} (h : RootRel r s 0) : s = r := by
 rcases h with ⟨_, h⟩ | ⟨k, e, _⟩
 ·exact h
 ·have := Nat.two_pow_pos k; omega
end Go.Proofs.YtklenppldblbdaaGreat
