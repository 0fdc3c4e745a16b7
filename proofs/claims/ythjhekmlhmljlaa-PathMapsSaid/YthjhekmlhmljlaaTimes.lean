/-
  What Times of the document's answer gives, as a contract over the translated program: the product of two numbers of five digits in base 65536.
-/
import Derived.Test.YthjhekmlhmljlaaUnder
import Derived.Test.YthjhekmlhmljlaaDigTimes
import Derived.Handy
namespace Go.Proofs.Ythjhekmlhmljlaa
open Go.RowKit Go.Lib
set_option linter.unusedSimpArgs false
set_option linter.unusedVariables false

/-- A row of digits as cells. -/
def cellsL (l : List Nat) : Array Value := (l.map (fun d : Nat => Value.int .i64 (d : Int))).toArray
/-- The world W with such a row laid behind it, and n draws made. -/
def rowW (W : World) (l : List Nat) (n : Nat) : World := (W.alloc (.cells (cellsL l) 105)).drewN n
theorem rowW_cell (W : World) (l : List Nat) (n k : Nat) (hk : k < l.length) : (rowW W l n).cell? ⟨W.heap.size, k, none⟩ = some (.int .i64 (l.getD k 0 : Nat)) := by
  simp [rowW, cellsL, go_sem, hk, List.getD]
theorem rowW_frozen (W : World) (l : List Nat) (n k : Nat) : (rowW W l n).frozen? ⟨W.heap.size, k, none⟩ = false := by
  simp [rowW, go_sem]
theorem rowW_set (W : World) (l : List Nat) (n k d : Nat) : (rowW W l n).setCell ⟨W.heap.size, k, none⟩ (.int .i64 (d : Int)) = rowW W (l.set k d) n := by
  unfold rowW
  have e : ((W.alloc (.cells (cellsL l) 105)).drewN n).setCell ⟨W.heap.size, k, none⟩ (.int .i64 (d : Int)) = ((W.alloc (.cells (cellsL l) 105)).setCell ⟨W.heap.size, k, none⟩ (.int .i64 (d : Int))).drewN n := rfl
  rw [e, World.setCell_alloc_at _ _ _ _ _ rfl]
  congr 3
  simp [cellsL, List.map_set]
theorem rowW_drewN (W : World) (l : List Nat) (n m : Nat) : (rowW W l n).drewN m = rowW W l (n + m) := by simp [rowW]
theorem rowW_size (W : World) (l : List Nat) (n : Nat) : (rowW W l n).heap.size = W.heap.size + 1 := by simp [rowW]
theorem rowW_below (W : World) (l : List Nat) (n : Nat) : Below W.heap.size W (rowW W l n) := below_drewN ((Below.refl _ _).alloc (Nat.le_refl _) _) _

theorem list10 (l : List Nat) (h : l.length = 10) : ∃ a0 a1 a2 a3 a4 a5 a6 a7 a8 a9, l = [a0, a1, a2, a3, a4, a5, a6, a7, a8, a9] := by
  match l, h with
  | [a0, a1, a2, a3, a4, a5, a6, a7, a8, a9], _ => exact ⟨a0, a1, a2, a3, a4, a5, a6, a7, a8, a9, rfl⟩
theorem cellsL_dig (l : List Nat) (m : Nat) (hl : l.length = 10) (hd : ∀ d ∈ l, d < 65536) (hv : val l = m) :
    cellsL l = #[.int .i64 (dig m 0 : Nat), .int .i64 (dig m 1 : Nat), .int .i64 (dig m 2 : Nat), .int .i64 (dig m 3 : Nat), .int .i64 (dig m 4 : Nat), .int .i64 (dig m 5 : Nat), .int .i64 (dig m 6 : Nat), .int .i64 (dig m 7 : Nat), .int .i64 (dig m 8 : Nat), .int .i64 (dig m 9 : Nat)] := by
  have h : ∀ i, i < 10 → dig m i = l.getD i 0 := fun i hi => by rw [← hv]; exact dig_val l hd i (by omega)
  clear hv hd
  obtain ⟨a0, a1, a2, a3, a4, a5, a6, a7, a8, a9, rfl⟩ := list10 l hl
  rw [h 0 (by decide), h 1 (by decide), h 2 (by decide), h 3 (by decide), h 4 (by decide), h 5 (by decide), h 6 (by decide), h 7 (by decide), h 8 (by decide), h 9 (by decide)]
  simp [cellsL]
theorem cellsL_zero : cellsL [0, 0, 0, 0, 0, 0, 0, 0, 0, 0] = #[.int .i64 0, .int .i64 0, .int .i64 0, .int .i64 0, .int .i64 0, .int .i64 0, .int .i64 0, .int .i64 0, .int .i64 0, .int .i64 0] := rfl

def zRow : Obj := .cells (cellsL [0, 0, 0, 0, 0, 0, 0, 0, 0, 0]) 105

set_option maxRecDepth 100000 in
set_option maxHeartbeats 2000000 in
theorem times_any (x y : Nat) (w : World) (hx : x < 65536 ^ 5) (hy : y < 65536 ^ 5) :
    Calls Try.prog 62 #[longV x, longV y] w fun e w' => e = .returned (longV (x * y)) ∧ Below w.heap.size w w' := by
  have HX := Lib.hid hx
  have HY := Lib.hid hy
  clear hx hy
  unfold longV
  go_enter Try.func62, Try.ntmps62
  go_wp2
  have LX := Lib.hid ((longAt_new w x 105).alloc (by simp) (.cells #[.int .i64 (dig y 0 : Nat), .int .i64 (dig y 1 : Nat), .int .i64 (dig y 2 : Nat), .int .i64 (dig y 3 : Nat), .int .i64 (dig y 4 : Nat), .int .i64 (dig y 5 : Nat), .int .i64 (dig y 6 : Nat), .int .i64 (dig y 7 : Nat), .int .i64 (dig y 8 : Nat), .int .i64 (dig y 9 : Nat)] 105))
  have LY := Lib.hid (longAt_new (w.alloc (.cells #[.int .i64 (dig x 0 : Nat), .int .i64 (dig x 1 : Nat), .int .i64 (dig x 2 : Nat), .int .i64 (dig x 3 : Nat), .int .i64 (dig x 4 : Nat), .int .i64 (dig x 5 : Nat), .int .i64 (dig x 6 : Nat), .int .i64 (dig x 7 : Nat), .int .i64 (dig x 8 : Nat), .int .i64 (dig x 9 : Nat)] 105)) y 105)
  have HB := Lib.hid (((Below.refl w.heap.size w).alloc (Nat.le_refl _) (.cells #[.int .i64 (dig x 0 : Nat), .int .i64 (dig x 1 : Nat), .int .i64 (dig x 2 : Nat), .int .i64 (dig x 3 : Nat), .int .i64 (dig x 4 : Nat), .int .i64 (dig x 5 : Nat), .int .i64 (dig x 6 : Nat), .int .i64 (dig x 7 : Nat), .int .i64 (dig x 8 : Nat), .int .i64 (dig x 9 : Nat)] 105)).alloc (by simp) (.cells #[.int .i64 (dig y 0 : Nat), .int .i64 (dig y 1 : Nat), .int .i64 (dig y 2 : Nat), .int .i64 (dig y 3 : Nat), .int .i64 (dig y 4 : Nat), .int .i64 (dig y 5 : Nat), .int .i64 (dig y 6 : Nat), .int .i64 (dig y 7 : Nat), .int .i64 (dig y 8 : Nat), .int .i64 (dig y 9 : Nat)] 105))
  rw [show (w.alloc (.cells #[.int .i64 (dig x 0 : Nat), .int .i64 (dig x 1 : Nat), .int .i64 (dig x 2 : Nat), .int .i64 (dig x 3 : Nat), .int .i64 (dig x 4 : Nat), .int .i64 (dig x 5 : Nat), .int .i64 (dig x 6 : Nat), .int .i64 (dig x 7 : Nat), .int .i64 (dig x 8 : Nat), .int .i64 (dig x 9 : Nat)] 105)).heap.size = w.heap.size + 1 by simp] at LY
  have HN : Hid (((w.alloc (.cells #[.int .i64 (dig x 0 : Nat), .int .i64 (dig x 1 : Nat), .int .i64 (dig x 2 : Nat), .int .i64 (dig x 3 : Nat), .int .i64 (dig x 4 : Nat), .int .i64 (dig x 5 : Nat), .int .i64 (dig x 6 : Nat), .int .i64 (dig x 7 : Nat), .int .i64 (dig x 8 : Nat), .int .i64 (dig x 9 : Nat)] 105)).alloc (.cells #[.int .i64 (dig y 0 : Nat), .int .i64 (dig y 1 : Nat), .int .i64 (dig y 2 : Nat), .int .i64 (dig y 3 : Nat), .int .i64 (dig y 4 : Nat), .int .i64 (dig y 5 : Nat), .int .i64 (dig y 6 : Nat), .int .i64 (dig y 7 : Nat), .int .i64 (dig y 8 : Nat), .int .i64 (dig y 9 : Nat)] 105)).heap.size = w.heap.size + 1 + 1) := by simp [Hid]
  generalize (w.alloc _).alloc _ = W at *
  rw [← HN.out]
  have hN1 : w.heap.size < W.heap.size := by have := HN.out; omega
  have hN2 : w.heap.size + 1 < W.heap.size := by have := HN.out; omega
  go_loopw [6] (fun i wr => ∃ (k n : Nat) (l : List Nat), k ≤ 5 ∧ i = .int .i64 k ∧ wr = rowW (W.alloc zRow) l n ∧ TimesRow x y k l) (fun i _ => 5 - (intOf i).toNat)
  case atStart => exact ⟨0, 0, [0, 0, 0, 0, 0, 0, 0, 0, 0, 0], by decide, rfl, rfl, timesRow_start x y⟩
  case round =>
    obtain ⟨k, n, l, hk, rfl, rfl, hrow⟩ := hrel
    have HR := Lib.hid hrow
    clear hrow
    by_cases hlt : k < 5
    · go_wp2
      go_loopw [7, 8] (fun c j wr => ∃ (jj cc n : Nat) (l : List Nat), jj ≤ 5 ∧ j = .int .i64 jj ∧ c = .int .i64 cc ∧ wr = rowW (W.alloc zRow) l n ∧ TimesInv x y k jj l cc) (fun _ j _ => 5 - (intOf j).toNat)
      case atStart => exact ⟨0, 0, n, l, by decide, rfl, rfl, rfl, TimesInv.start HR.out.len HR.out.digits HR.out.zeros HR.out.value⟩
      case round =>
        obtain ⟨j, c, n, l, hj, rfl, rfl, rfl, hinv⟩ := hrel
        have HI := Lib.hid hinv
        clear hinv
        by_cases hjt : j < 5
        · have hc : c < 65536 := HI.out.carry
          have cx := (LX.out.below ((Below.refl W.heap.size W).trans (((Below.refl W.heap.size W).alloc (Nat.le_refl _) zRow).trans ((rowW_below (W.alloc zRow) l n).mono (by simp)))) hN1) k (by omega)
          have cy := (LY.out.below ((Below.refl W.heap.size W).trans (((Below.refl W.heap.size W).alloc (Nat.le_refl _) zRow).trans ((rowW_below (W.alloc zRow) l n).mono (by simp)))) hN2) j (by omega)
          have co := rowW_cell (W.alloc zRow) l n (k + j) (by rw [HI.out.len]; omega)
          have cf := rowW_frozen (W.alloc zRow) l n (k + j)
          rw [show (W.alloc zRow).heap.size = W.heap.size + 1 by simp] at co cf
          have HS := Lib.hid HI.out.small
          have ho : l.getD (k + j) 0 < 65536 := getD_lt HI.out.digits _
          have hdx := dig_lt x k
          have hdy := dig_lt y j
          obtain ⟨t, HT⟩ : ∃ t, Hid (l.getD (k + j) 0 + dig x k * dig y j + c = t) := ⟨_, rfl⟩
          obtain ⟨wr, HW⟩ : ∃ wr, Hid (rowW (W.alloc zRow) l n = wr) := ⟨_, rfl⟩
          rw [HW.out] at cx cy co cf ⊢
          have HSTEP := Lib.hid (HI.out.step hlt hjt HT.out)
          have HLEN := Lib.hid HI.out.len
          clear HI HR
          generalize l.getD (k + j) 0 = o at *
          generalize dig x k = a at *
          generalize dig y j = b at *
          have hab : a * b ≤ 65535 * 65535 := Nat.mul_le_mul (by omega) (by omega)
          have e1 : IntKind.i64.wrap ((k : Int) + (j : Int)) = (k : Int) + (j : Int) := IntWalk.i64_in _ (by omega)
          have e2 : ((k : Int) + (j : Int)).toNat = k + j := by omega
          have e3 : (0 : Int) ≤ (k : Int) + (j : Int) := by omega
          have e4 : (k : Int) + (j : Int) < 10 := by omega
          have e5 : IntKind.i64.wrap ((a : Int) * (b : Int)) = (a : Int) * (b : Int) := by rw [← Int.natCast_mul]; exact IntWalk.i64_in _ (by omega)
          have e6 : IntKind.i64.wrap ((o : Int) + (a : Int) * (b : Int)) = (o : Int) + (a : Int) * (b : Int) := by rw [← Int.natCast_mul]; exact IntWalk.i64_in _ (by omega)
          have e7 : IntKind.i64.wrap ((o : Int) + (a : Int) * (b : Int) + (c : Int)) = (t : Int) := by
            have := HT.out
            rw [← Int.natCast_mul]
            rw [IntWalk.i64_in _ (by omega)]
            omega
          have ht : t ≤ 4294967295 := by have := HS.out; have := HT.out; omega
          go_upto_region 9 with (fail)
          go_quiet (fail)
          clear e1 e2 e5 e6 e7
          go_wp2
          go_roundw
          case rel =>
            refine ⟨j + 1, t / 65536, n + nq, l.set (k + j) (t % 65536), by omega, by go_num, by go_num, ?_, HSTEP.out⟩
            have e := rowW_set (W.alloc zRow) l (n + nq) (k + j) (t % 65536)
            rw [show (W.alloc zRow).heap.size = W.heap.size + 1 by simp] at e
            rw [← HW.out, rowW_drewN, ← e]
            rfl
          case measure => simp [intOf]; omega
        · obtain rfl : j = 5 := by omega
          have hc : c < 65536 := HI.out.carry
          have co := rowW_cell (W.alloc zRow) l n (k + 5) (by rw [HI.out.len]; omega)
          have cf := rowW_frozen (W.alloc zRow) l n (k + 5)
          rw [show (W.alloc zRow).heap.size = W.heap.size + 1 by simp] at co cf
          have hz : l.getD (k + 5) 0 = 0 := HI.out.zeros _ (by omega)
          rw [hz] at co
          have HROW := Lib.hid (HI.out.row hlt HY.out)
          rw [hz] at HROW
          clear hz HI HR
          obtain ⟨wr, HW⟩ : ∃ wr, Hid (rowW (W.alloc zRow) l n = wr) := ⟨_, rfl⟩
          rw [HW.out] at co cf ⊢
          have e2 : ((k : Int) + 5).toNat = k + 5 := by omega
          have e3 : (0 : Int) ≤ (k : Int) + 5 := by omega
          have e4 : (k : Int) + 5 < 10 := by omega
          go_wp2
          go_roundw
          case rel =>
            refine ⟨k + 1, n, l.set (k + 5) c, by omega, by go_num, ?_, by simpa using HROW.out⟩
            have e := rowW_set (W.alloc zRow) l n (k + 5) c
            rw [show (W.alloc zRow).heap.size = W.heap.size + 1 by simp] at e
            rw [← HW.out, ← e]
          case measure => simp [intOf]; omega
    · obtain rfl : k = 5 := by omega
      have hv : val l = x * y := by rw [HR.out.value, Nat.mod_eq_of_lt HX.out]
      have hcl := cellsL_dig l (x * y) HR.out.len HR.out.digits hv
      unfold rowW zRow
      rw [hcl, cellsL_zero]
      clear hcl hv HR
      go_wp2
      refine bodyPost_ret (v := longV (x * y)) ?_ rfl ⟨rfl, ?_⟩
      · simp [results, Try.results62, go_sem, longV]
      · have hW : w.heap.size ≤ W.heap.size := by omega
        iterate 10 refine Below.setCell ?_ (by exact hW) _
        exact below_drewN ((HB.out.alloc hW _).alloc (by simp; omega) _) _
end Go.Proofs.Ythjhekmlhmljlaa
