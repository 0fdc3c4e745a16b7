/-
  What outlineOf answers for one contour of three knots.
-/
import Derived.Test.YtllbegmgknlaiaaDeB
import Derived.StillTailTactics
namespace Go.Proofs.Ytllbegmgknlaiaa
open Go.RowKit Go.PlainAid
set_option linter.unusedSimpArgs false
set_option linter.unusedVariables false

set_option maxHeartbeats 400000 in
theorem kind1_c (w : World) : Calls Try.prog 52 #[.int .i64 1] w fun e w' => e = .returned (.int .i64 1) ∧ w = w' := by
  have b : bits .and .i64 1 1 = 1 := by decide
  go_enter Try.func52, Try.ntmps52
  go_wp2_with fail
  go_ret
  exact ⟨rfl, rfl⟩
set_option maxHeartbeats 400000 in
theorem kind0_c (w : World) : Calls Try.prog 52 #[.int .i64 0] w fun e w' => e = .returned (.int .i64 2) ∧ w = w' := by
  have b : bits .and .i64 0 1 = 0 := by decide
  go_enter Try.func52, Try.ntmps52
  go_wp2_with fail
  go_ret
  exact ⟨rfl, rfl⟩

theorem kind1_s (w : World) : Calls Try.prog 52 #[.int .i64 1] w fun e w' => e = .returned (.int .i64 1) ∧ w' = w := (kind1_c w).mono fun _ _ h => ⟨h.1, h.2.symm⟩
theorem kind0_s (w : World) : Calls Try.prog 52 #[.int .i64 0] w fun e w' => e = .returned (.int .i64 2) ∧ w' = w := (kind0_c w).mono fun _ _ h => ⟨h.1, h.2.symm⟩
theorem mkO1 (w : World) : (Instr.makeSlice 27 (.int .i64 1) (.int .i64 1)).run Try.prog w = .ok (.slice (some ⟨w.heap.size, 0, none⟩) 1 1) (w.alloc (.cells #[.slice none 0 0] 36)) := by
  have hz : (Try.prog.info? 36).map (fun i => (i.zero, i.size, i.bytes)) = some (some (.slice none 0 0), 1, 24) := by kernel_rfl
  obtain ⟨i0, hi, hz0, hz1, hz2⟩ := info_parts hz
  have h := run_make (P := Try.prog) w 27 36 i0 (.slice none 0 0) elKK.1 hi hz0 .i64 .i64 1 1 (by omega) (by omega) (by rw [hz2]; omega) (by omega)
  have e : madeCells (Value.slice none 0 0).cells 1 = #[.slice none 0 0] := by kernel_rfl
  rw [hz1] at h
  simp only [Nat.mul_one, show (1 : Int).toNat = 1 from rfl, e] at h
  exact h
theorem mkK3 (w : World) : (Instr.makeSlice 36 (.int .i64 3) (.int .i64 3)).run Try.prog w = .ok (.slice (some ⟨w.heap.size, 0, none⟩) 3 3) (w.alloc (.cells #[.int .i64 0, .int .i64 0, .int .i64 0, .int .i64 0, .int .i64 0, .int .i64 0, .int .i64 0, .int .i64 0, .int .i64 0] 35)) := by
  have hz : (Try.prog.info? 35).map (fun i => (i.zero, i.size, i.bytes)) = some (some (.agg #[.int .i64 0, .int .i64 0, .int .i64 0]), 3, 24) := by kernel_rfl
  obtain ⟨i0, hi, hz0, hz1, hz2⟩ := info_parts hz
  have h := run_make (P := Try.prog) w 36 35 i0 (.agg #[.int .i64 0, .int .i64 0, .int .i64 0]) elK.1 hi hz0 .i64 .i64 3 3 (by omega) (by omega) (by rw [hz2]; omega) (by omega)
  have e : madeCells (Value.agg #[.int .i64 0, .int .i64 0, .int .i64 0]).cells (3 * 3) = #[.int .i64 0, .int .i64 0, .int .i64 0, .int .i64 0, .int .i64 0, .int .i64 0, .int .i64 0, .int .i64 0, .int .i64 0] := by kernel_rfl
  rw [hz1] at h
  simp only [show (3 : Int).toNat = 3 from rfl, e] at h
  exact h

/-- The triangle's outline lies there. -/
def Tro (w : World) (g : Nat) : Prop := w.heap[g]? = some (.cells #[.slice (some ⟨g + 1, 0, none⟩) 3 3] 36 (0, 0)) ∧ w.heap[g + 1]? = some (.cells #[.int .i64 1, .int .i64 2, .int .i64 1, .int .i64 9, .int .i64 (-4), .int .i64 2, .int .i64 0, .int .i64 7, .int .i64 1] 35 (0, 0))
theorem Tro.isO {w : World} {g : Nat} (h : Tro w g) : IsO clK w (some ⟨g, 0, none⟩) [triK] := by
  refine .inr ⟨g, 0, rfl, fun i c hc => ?_⟩
  have hi : i = 0 := by have := (List.getElem?_eq_some_iff.1 hc).1; simp at this; omega
  subst hi
  have e : triK = c := by simpa using hc
  subst e
  refine ⟨some ⟨g + 1, 0, none⟩, 3, blk_cell h.1 0 _ rfl, by decide, .inr ⟨g + 1, 0, rfl, fun j u hj => ?_⟩⟩
  rw [Nat.zero_add]
  exact blk_cell h.2 j u (by rw [← hj]; simp [triK, clK])
theorem Tro.kb {S : Nat → Prop} {w w' : World} {g : Nat} (h : Tro w g) (k : Kb S w w') (h1 : ¬ S g) (h2 : ¬ S (g + 1)) : Tro w' g := ⟨k.blk h1 h.1, k.blk h2 h.2⟩

/-- The world within outlineOf: its row of rows, its knots so far, what was there. -/
structure OW (w W : World) (cells : Array Value) : Prop where
  out : W.heap[w.heap.size]? = some (.cells #[.slice (some ⟨w.heap.size + 1, 0, none⟩) 3 3] 36 (0, 0))
  row : W.heap[w.heap.size + 1]? = some (.cells cells 35 (0, 0))
  bel : Below w.heap.size w W
theorem OW.put {w W : World} {cells : Array Value} (h : OW w W cells) (j : Nat) (a b c : Value) : OW w (((W.setCell ⟨w.heap.size + 1, j, none⟩ a).setCell ⟨w.heap.size + 1, j + 1, none⟩ b).setCell ⟨w.heap.size + 1, j + 2, none⟩ c).drew (((cells.setIfInBounds j a).setIfInBounds (j + 1) b).setIfInBounds (j + 2) c) := by
  refine ⟨?_, ?_, ?_⟩
  · show (((W.setCell ⟨w.heap.size + 1, j, none⟩ a).setCell ⟨w.heap.size + 1, j + 1, none⟩ b).setCell ⟨w.heap.size + 1, j + 2, none⟩ c).heap[w.heap.size]? = _
    rw [Below.heap_setCell _ _ _ _ (by simp), Below.heap_setCell _ _ _ _ (by simp), Below.heap_setCell _ _ _ _ (by simp)]
    exact h.out
  · exact blk_set (blk_set (blk_set h.row j a) (j + 1) b) (j + 2) c
  · exact (bel_set (bel_set (bel_set h.bel (by omega) _) (by omega) _) (by omega) _).drew

set_option maxRecDepth 20000 in
set_option maxHeartbeats 2000000 in
theorem outlineOf_c (gs cs gf cf gx cx gy cy : Nat) (w : World) (hs : IntsIn w gs [3]) (hf : IntsIn w gf [1, 0, 1]) (hx : IntsIn w gx [1, 9, 0]) (hy : IntsIn w gy [2, -4, 7]) :
    Calls Try.prog 45 #[.slice (some ⟨gs, 0, none⟩) 1 cs, .slice (some ⟨gf, 0, none⟩) 3 cf, .slice (some ⟨gx, 0, none⟩) 3 cx, .slice (some ⟨gy, 0, none⟩) 3 cy] w fun e w' => e = .returned (.slice (some ⟨w.heap.size, 0, none⟩) 1 1) ∧ Tro w' w.heap.size ∧ Below w.heap.size w w' := by
  have HF := Lib.hid hf
  have HX := Lib.hid hx
  have HY := Lib.hid hy
  have s0 := hs 0 3 rfl
  have ls : gs < w.heap.size := World.block_lt_of_cell? w _ s0
  have hmk := mkO1 w
  have hmk2 := mkK3 (w.alloc (.cells #[.slice none 0 0] 36))
  have hsz : (w.alloc (.cells #[.slice none 0 0] 36)).heap.size = w.heap.size + 1 := by simp
  rw [hsz] at hmk2
  clear hs hf hx hy hsz
  go_enter Try.func45, Try.ntmps45
  go_wp2_with fail
  refine wp_loop_rounds 2 ?_
  rw [rounds_succ]
  go_wp2_with fail
  have HW0 : Hid (OW w ((w.alloc (.cells #[.slice (some ⟨w.heap.size + 1, 0, none⟩) 3 3] 36)).alloc (.cells #[.int .i64 0, .int .i64 0, .int .i64 0, .int .i64 0, .int .i64 0, .int .i64 0, .int .i64 0, .int .i64 0, .int .i64 0] 35)) #[.int .i64 0, .int .i64 0, .int .i64 0, .int .i64 0, .int .i64 0, .int .i64 0, .int .i64 0, .int .i64 0, .int .i64 0]) := by
    have hz : (w.alloc (.cells #[.slice (some ⟨w.heap.size + 1, 0, none⟩) 3 3] 36)).heap.size = w.heap.size + 1 := by simp
    refine ⟨blk_past (heap_alloc_new w _) _, ?_, bel_alloc ((Below.refl _ _).alloc (Nat.le_refl _) _) _⟩
    have := heap_alloc_new (w.alloc (.cells #[.slice (some ⟨w.heap.size + 1, 0, none⟩) 3 3] 36)) (.cells #[.int .i64 0, .int .i64 0, .int .i64 0, .int .i64 0, .int .i64 0, .int .i64 0, .int .i64 0, .int .i64 0, .int .i64 0] 35)
    rw [hz] at this
    exact this
  clear hmk hmk2 s0 ls
  generalize ((w.alloc (.cells #[.slice (some ⟨w.heap.size + 1, 0, none⟩) 3 3] 36)).alloc (.cells #[.int .i64 0, .int .i64 0, .int .i64 0, .int .i64 0, .int .i64 0, .int .i64 0, .int .i64 0, .int .i64 0, .int .i64 0] 35)) = W0 at *
  refine wp_loop_rounds 4 ?_
  have o0 := blk_cell HW0.out.out 0 (.slice (some ⟨w.heap.size + 1, 0, none⟩) 3 3) rfl
  have f0 := keepC HW0.out.bel (HF.out 0 1 rfl)
  have x0 := keepC HW0.out.bel (HX.out 0 1 rfl)
  have y0 := keepC HW0.out.bel (HY.out 0 2 rfl)
  have k0 := blk_cell HW0.out.row 0 (.int .i64 0) rfl
  have k1 := blk_cell HW0.out.row 1 (.int .i64 0) rfl
  have k2 := blk_cell HW0.out.row 2 (.int .i64 0) rfl
  have kf := blk_free HW0.out.row
  rw [rounds_succ]
  go_wp2_with fail
  refine wp_region_still_tail 20 (by kernel_rfl) (by kernel_rfl) ?_
  simp only [List.take_succ_cons, List.take_zero, List.drop_succ_cons, List.drop_zero]
  repeat still_step
  still_call (kind1_s _)
  repeat still_step
  refine wpStill_nil ?_
  change wpList _ _ _ _ _ W0.drew
  go_wp2_with fail
  clear o0 f0 x0 y0 k0 k1 k2 kf
  have HW1 : Hid (OW w (((W0.setCell ⟨w.heap.size + 1, 0, none⟩ (.int .i64 1)).setCell ⟨w.heap.size + 1, 1, none⟩ (.int .i64 2)).setCell ⟨w.heap.size + 1, 2, none⟩ (.int .i64 1)).drew #[.int .i64 1, .int .i64 2, .int .i64 1, .int .i64 0, .int .i64 0, .int .i64 0, .int .i64 0, .int .i64 0, .int .i64 0]) := HW0.out.put 0 (.int .i64 1) (.int .i64 2) (.int .i64 1)
  generalize (((W0.setCell ⟨w.heap.size + 1, 0, none⟩ (.int .i64 1)).setCell ⟨w.heap.size + 1, 1, none⟩ (.int .i64 2)).setCell ⟨w.heap.size + 1, 2, none⟩ (.int .i64 1)).drew = W1 at *
  have o0 := blk_cell HW1.out.out 0 (.slice (some ⟨w.heap.size + 1, 0, none⟩) 3 3) rfl
  have f0 := keepC HW1.out.bel (HF.out 1 0 rfl)
  have x0 := keepC HW1.out.bel (HX.out 1 9 rfl)
  have y0 := keepC HW1.out.bel (HY.out 1 (-4) rfl)
  have k0 := blk_cell HW1.out.row 3 (.int .i64 0) rfl
  have k1 := blk_cell HW1.out.row 4 (.int .i64 0) rfl
  have k2 := blk_cell HW1.out.row 5 (.int .i64 0) rfl
  have kf := blk_free HW1.out.row
  rw [rounds_succ]
  go_wp2_with fail
  refine wp_region_still_tail 20 (by kernel_rfl) (by kernel_rfl) ?_
  simp only [List.take_succ_cons, List.take_zero, List.drop_succ_cons, List.drop_zero]
  repeat still_step
  still_call (kind0_s _)
  repeat still_step
  refine wpStill_nil ?_
  change wpList _ _ _ _ _ W1.drew
  go_wp2_with fail
  clear o0 f0 x0 y0 k0 k1 k2 kf
  have HW2 : Hid (OW w (((W1.setCell ⟨w.heap.size + 1, 3, none⟩ (.int .i64 9)).setCell ⟨w.heap.size + 1, 4, none⟩ (.int .i64 (-4))).setCell ⟨w.heap.size + 1, 5, none⟩ (.int .i64 2)).drew #[.int .i64 1, .int .i64 2, .int .i64 1, .int .i64 9, .int .i64 (-4), .int .i64 2, .int .i64 0, .int .i64 0, .int .i64 0]) := HW1.out.put 3 (.int .i64 9) (.int .i64 (-4)) (.int .i64 2)
  generalize (((W1.setCell ⟨w.heap.size + 1, 3, none⟩ (.int .i64 9)).setCell ⟨w.heap.size + 1, 4, none⟩ (.int .i64 (-4))).setCell ⟨w.heap.size + 1, 5, none⟩ (.int .i64 2)).drew = W2 at *
  have o0 := blk_cell HW2.out.out 0 (.slice (some ⟨w.heap.size + 1, 0, none⟩) 3 3) rfl
  have f0 := keepC HW2.out.bel (HF.out 2 1 rfl)
  have x0 := keepC HW2.out.bel (HX.out 2 0 rfl)
  have y0 := keepC HW2.out.bel (HY.out 2 7 rfl)
  have k0 := blk_cell HW2.out.row 6 (.int .i64 0) rfl
  have k1 := blk_cell HW2.out.row 7 (.int .i64 0) rfl
  have k2 := blk_cell HW2.out.row 8 (.int .i64 0) rfl
  have kf := blk_free HW2.out.row
  rw [rounds_succ]
  go_wp2_with fail
  refine wp_region_still_tail 20 (by kernel_rfl) (by kernel_rfl) ?_
  simp only [List.take_succ_cons, List.take_zero, List.drop_succ_cons, List.drop_zero]
  repeat still_step
  still_call (kind1_s _)
  repeat still_step
  refine wpStill_nil ?_
  change wpList _ _ _ _ _ W2.drew
  go_wp2_with fail
  clear o0 f0 x0 y0 k0 k1 k2 kf
  have HW3 : Hid (OW w (((W2.setCell ⟨w.heap.size + 1, 6, none⟩ (.int .i64 0)).setCell ⟨w.heap.size + 1, 7, none⟩ (.int .i64 7)).setCell ⟨w.heap.size + 1, 8, none⟩ (.int .i64 1)).drew #[.int .i64 1, .int .i64 2, .int .i64 1, .int .i64 9, .int .i64 (-4), .int .i64 2, .int .i64 0, .int .i64 7, .int .i64 1]) := HW2.out.put 6 (.int .i64 0) (.int .i64 7) (.int .i64 1)
  generalize (((W2.setCell ⟨w.heap.size + 1, 6, none⟩ (.int .i64 0)).setCell ⟨w.heap.size + 1, 7, none⟩ (.int .i64 7)).setCell ⟨w.heap.size + 1, 8, none⟩ (.int .i64 1)).drew = W3 at *
  rw [rounds_succ]
  go_wp2_with fail
  rw [rounds_succ]
  go_wp2_with fail
  go_ret
  exact ⟨rfl, ⟨HW3.out.out, HW3.out.row⟩, HW3.out.bel⟩

end Go.Proofs.Ytllbegmgknlaiaa
