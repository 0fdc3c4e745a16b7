/-
  What Plus of the document's answer gives, as a contract over the translated program: the sum of two long numbers that has room.
-/
import Derived.Test.YthjhekmlhmljlaaTimes
namespace Go.Proofs.Ythjhekmlhmljlaa
open Go.RowKit
set_option linter.unusedSimpArgs false
set_option linter.unusedVariables false

/-- What is known ahead of digit i of the sum of x and y. -/
structure PlusInv (x y i : Nat) (l : List Nat) (c : Nat) : Prop where
  len : l.length = 10
  digits : ∀ d ∈ l, d < 65536
  carry : c ≤ 1
  rest : ∀ k, i ≤ k → k < 10 → l.getD k 0 = dig x k
  value : val l + c * 65536 ^ i = x + y % 65536 ^ i

theorem PlusInv.start (x y : Nat) (hx : x < 65536 ^ 10) : PlusInv x y 0 (digs x 10) 0 :=
  ⟨digs_length x 10, by
    intro d hd
    obtain ⟨i, hi, rfl⟩ := List.mem_iff_getElem.1 hd
    have := digs_get x 10 i (by rw [digs_length] at hi; exact hi)
    rw [List.getD_eq_getElem?_getD, List.getElem?_eq_getElem hi] at this
    simp at this
    rw [this]
    exact dig_lt x i, by decide, fun k _ hk => digs_get x 10 k hk, by rw [val_digs x 10 hx]; simp [Nat.mod_one]⟩

theorem PlusInv.step {x y i c t : Nat} {l : List Nat} (h : PlusInv x y i l c) (hi : i < 10) (ht : l.getD i 0 + dig y i + c = t) :
    PlusInv x y (i + 1) (l.set i (t % 65536)) (t / 65536) := by
  have h1 := getD_lt h.digits i
  have h2 := dig_lt y i
  have h3 := h.carry
  have hl := h.len
  refine ⟨by simpa using h.len, set_lt h.digits _ _ (by omega), by omega, ?_, ?_⟩
  · intro k hk hk1
    rw [getD_set_other (by omega)]; exact h.rest k (by omega) hk1
  · have hv := val_set l i (t % 65536) (by omega)
    have hval := h.value
    rw [mod_succ y i, Nat.pow_succ]
    generalize l.getD i 0 = o at *
    have e1 : t / 65536 * (65536 ^ i * 65536) = (t / 65536 * 65536) * 65536 ^ i := by rw [Nat.mul_comm (65536 ^ i) 65536, ← Nat.mul_assoc]
    have et : t % 65536 * 65536 ^ i + t / 65536 * 65536 * 65536 ^ i = t * 65536 ^ i := by rw [← Nat.add_mul]; congr 1; omega
    have et2 : t * 65536 ^ i = o * 65536 ^ i + dig y i * 65536 ^ i + c * 65536 ^ i := by rw [← ht, Nat.add_mul, Nat.add_mul]
    have e3 : 65536 ^ i * dig y i = dig y i * 65536 ^ i := Nat.mul_comm _ _
    rw [e1, e3]
    generalize 65536 ^ i = P at *
    omega

theorem PlusInv.done {x y c : Nat} {l : List Nat} (h : PlusInv x y 10 l c) (hs : x + y < 65536 ^ 10) : val l = x + y := by
  have hv := h.value
  have hy : y % 65536 ^ 10 = y := Nat.mod_eq_of_lt (by omega)
  rw [hy] at hv
  have hc := h.carry
  have : c = 0 ∨ c = 1 := by omega
  rcases this with rfl | rfl
  · omega
  · omega

/-- The world w with a row of digits, a second block and a third laid behind it, and n draws made. -/
def plusW (w : World) (l : List Nat) (y : Obj) (n : Nat) : World := (((w.alloc (.cells (cellsL l) 105)).alloc y).alloc zRow).drewN n
theorem plusW_cell (w : World) (l : List Nat) (y : Obj) (n k : Nat) (hk : k < l.length) : (plusW w l y n).cell? ⟨w.heap.size, k, none⟩ = some (.int .i64 (l.getD k 0 : Nat)) := by
  unfold plusW
  rw [World.cell?_drewN, World.cell?_alloc_past _ _ _ (by simp; omega), World.cell?_alloc_past _ _ _ (by simp), World.cell?_alloc_at _ _ _ _ rfl]
  simp [cellsL, hk, List.getD]
theorem plusW_frozen (w : World) (l : List Nat) (y : Obj) (n k : Nat) : (plusW w l y n).frozen? ⟨w.heap.size, k, none⟩ = false := by
  unfold plusW
  rw [World.frozen?_drewN, World.frozen?_alloc_past _ _ _ (by simp; omega), World.frozen?_alloc_past _ _ _ (by simp), World.frozen?_alloc_at _ _ _ _ rfl]
theorem plusW_set (w : World) (l : List Nat) (y : Obj) (n k d : Nat) : (plusW w l y n).setCell ⟨w.heap.size, k, none⟩ (.int .i64 (d : Int)) = plusW w (l.set k d) y n := by
  unfold plusW
  have e : ((((w.alloc (.cells (cellsL l) 105)).alloc y).alloc zRow).drewN n).setCell ⟨w.heap.size, k, none⟩ (.int .i64 (d : Int)) = ((((w.alloc (.cells (cellsL l) 105)).alloc y).alloc zRow).setCell ⟨w.heap.size, k, none⟩ (.int .i64 (d : Int))).drewN n := rfl
  rw [e, World.setCell_alloc_past _ _ _ _ (by simp; omega), World.setCell_alloc_past _ _ _ _ (by simp), World.setCell_alloc_at _ _ _ _ _ rfl]
  congr 5
  simp [cellsL, List.map_set]
theorem plusW_drewN (w : World) (l : List Nat) (y : Obj) (n m : Nat) : (plusW w l y n).drewN m = plusW w l y (n + m) := by simp [plusW]
def yRow (y : Nat) : Obj := .cells #[.int .i64 (dig y 0 : Nat), .int .i64 (dig y 1 : Nat), .int .i64 (dig y 2 : Nat), .int .i64 (dig y 3 : Nat), .int .i64 (dig y 4 : Nat), .int .i64 (dig y 5 : Nat), .int .i64 (dig y 6 : Nat), .int .i64 (dig y 7 : Nat), .int .i64 (dig y 8 : Nat), .int .i64 (dig y 9 : Nat)] 105
theorem plusW_y (w : World) (l : List Nat) (y n : Nat) : LongAt (plusW w l (yRow y) n) (w.heap.size + 1) y := by
  intro k hk
  unfold plusW
  have h := (longAt_new (w.alloc (.cells (cellsL l) 105)) y 105).alloc (by simp) zRow k hk
  rw [show (w.alloc (.cells (cellsL l) 105)).heap.size = w.heap.size + 1 by simp] at h
  rw [World.cell?_drewN]
  exact h

set_option maxRecDepth 100000 in
set_option maxHeartbeats 2000000 in
theorem plus_any (x y : Nat) (w : World) (hx : x < 65536 ^ 10) (hs : x + y < 65536 ^ 10) :
    Calls Try.prog 77 #[longV x, longV y] w fun e w' => e = .returned (longV (x + y)) ∧ Below w.heap.size w w' := by
  have HX := Lib.hid hx
  have HSUM := Lib.hid hs
  clear hx hs
  have HC : Hid (cellsL (digs x 10) = #[.int .i64 (dig x 0 : Nat), .int .i64 (dig x 1 : Nat), .int .i64 (dig x 2 : Nat), .int .i64 (dig x 3 : Nat), .int .i64 (dig x 4 : Nat), .int .i64 (dig x 5 : Nat), .int .i64 (dig x 6 : Nat), .int .i64 (dig x 7 : Nat), .int .i64 (dig x 8 : Nat), .int .i64 (dig x 9 : Nat)]) := cellsL_dig _ x (digs_length x 10) (PlusInv.start x 0 HX.out).digits (val_digs x 10 HX.out)
  unfold longV
  go_enter Try.func77, Try.ntmps77
  go_wp2
  go_loopw [5, 6] (fun c i wr => ∃ (k cc n : Nat) (l : List Nat), k ≤ 10 ∧ i = .int .i64 k ∧ c = .int .i64 cc ∧ wr = plusW w l (yRow y) n ∧ PlusInv x y k l cc) (fun _ i _ => 10 - (intOf i).toNat)
  case atStart =>
    refine ⟨0, 0, 0, digs x 10, by decide, rfl, rfl, ?_, PlusInv.start x y HX.out⟩
    unfold plusW
    rw [HC.out]
    rfl
  case round =>
    obtain ⟨k, c, n, l, hk, rfl, rfl, rfl, hinv⟩ := hrel
    have HI := Lib.hid hinv
    clear hinv
    by_cases hlt : k < 10
    · have hc : c ≤ 1 := HI.out.carry
      have cy := plusW_y w l y n k hlt
      have co := plusW_cell w l (yRow y) n k (by rw [HI.out.len]; omega)
      have cf := plusW_frozen w l (yRow y) n k
      have ho : l.getD k 0 < 65536 := getD_lt HI.out.digits _
      have hdy := dig_lt y k
      obtain ⟨t, HT⟩ : ∃ t, Hid (l.getD k 0 + dig y k + c = t) := ⟨_, rfl⟩
      have HSTEP := Lib.hid (HI.out.step hlt HT.out)
      clear HI
      obtain ⟨wr, HW⟩ : ∃ wr, Hid (plusW w l (yRow y) n = wr) := ⟨_, rfl⟩
      rw [HW.out] at cy co cf ⊢
      generalize l.getD k 0 = o at *
      generalize dig y k = b at *
      have e3 : (0 : Int) ≤ (k : Int) := by omega
      have e4 : (k : Int) < 10 := by omega
      have e6 : IntKind.i64.wrap ((o : Int) + (b : Int)) = (o : Int) + (b : Int) := IntWalk.i64_in _ (by omega)
      have e7 : IntKind.i64.wrap ((o : Int) + (b : Int) + (c : Int)) = (t : Int) := by
        have := HT.out
        rw [IntWalk.i64_in _ (by omega)]
        omega
      have ht : t ≤ 131071 := by have := HT.out; omega
      go_upto_region 5 with (fail)
      go_quiet (fail)
      clear e6 e7
      go_wp2
      go_roundw
      case rel =>
        refine ⟨k + 1, t / 65536, n + nq, l.set k (t % 65536), by omega, by go_num, by go_num, ?_, HSTEP.out⟩
        have e := plusW_set w l (yRow y) (n + nq) k (t % 65536)
        rw [← HW.out, plusW_drewN, ← e]
        rfl
      case measure => simp [intOf]; omega
    · obtain rfl : k = 10 := by omega
      have hv := HI.out.done HSUM.out
      have hcl := cellsL_dig l (x + y) HI.out.len HI.out.digits hv
      unfold plusW yRow zRow
      rw [hcl, cellsL_zero]
      clear hcl hv HI
      go_wp2
      refine bodyPost_ret (v := longV (x + y)) ?_ rfl ⟨rfl, ?_⟩
      · simp [results, Try.results77, go_sem, longV]
      · iterate 10 refine Below.setCell ?_ (by show w.heap.size ≤ w.heap.size + 1 + 1; omega) _
        exact below_drewN ((((Below.refl _ _).alloc (Nat.le_refl _) _).alloc (by simp) _).alloc (by simp; omega) _) _
end Go.Proofs.Ythjhekmlhmljlaa
