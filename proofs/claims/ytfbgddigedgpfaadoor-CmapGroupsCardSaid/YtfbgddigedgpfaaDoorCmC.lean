/-
  What chosen of package cmap answers: the place of the subtable whose kind ranks best. The list of kinds lies in a package-level variable: that it holds what its initialiser lays is a premise here (Rk).
-/
import Derived.Test.YtfbgddigedgpfaaDoorCmB
namespace Go.Proofs.YtfbgddigedgpfaaDoor
open Go.RowKit Go.PlainAid
set_option linter.unusedSimpArgs false
set_option linter.unusedVariables false

/-- The kinds, the best one first. -/
def kindsL : List (Int × Int) := [(3, 10), (0, 6), (0, 4), (3, 1), (0, 3), (0, 2), (0, 1), (0, 0), (1, 0)]
/-- They as the variable's cells. -/
def rankC : Array Value := #[.int .i64 3, .int .i64 10, .int .i64 0, .int .i64 6, .int .i64 0, .int .i64 4, .int .i64 3, .int .i64 1, .int .i64 0, .int .i64 3, .int .i64 0, .int .i64 2, .int .i64 0, .int .i64 1, .int .i64 0, .int .i64 0, .int .i64 1, .int .i64 0]
/-- The variable holds them. -/
def Rk (w : World) : Prop := ∃ tt fr, w.heap[0]? = some (.cells rankC tt fr)
theorem Rk.kept {w w' : World} {B : Nat} (h : Rk w) (hb : Below B w w') (hB : 0 < B) : Rk w' := by
  obtain ⟨tt, fr, h⟩ := h
  exact ⟨tt, fr, by rw [hb.block _ hB]; exact h⟩
theorem Rk.lt {w : World} (h : Rk w) : 0 < w.heap.size := by
  obtain ⟨tt, fr, h⟩ := h
  exact (Array.getElem?_eq_some_iff.1 h).1
theorem Rk.below {w w' : World} (h : Rk w) (hb : Below w.heap.size w w') : Rk w' := h.kept hb h.lt

/-- The place of the subtable whose kind ranks best. -/
def chosenR (k : Nat) (f : Nat → Int) : List (Int × Int) → Option Int
  | [] => none
  | x :: l => match firstR f x.1 x.2 k 0 with
    | some y => some y
    | none => chosenR k f l

theorem ix0 (w : World) : (Instr.index 77 (.agg rankC) (.int .i64 ((0 : Nat) : Int))).run Tryd.prog w = .ok (.agg #[.int .i64 3, .int .i64 10]) w := by kernel_rfl
theorem ix1 (w : World) : (Instr.index 77 (.agg rankC) (.int .i64 ((1 : Nat) : Int))).run Tryd.prog w = .ok (.agg #[.int .i64 0, .int .i64 6]) w := by kernel_rfl
theorem ix2 (w : World) : (Instr.index 77 (.agg rankC) (.int .i64 ((2 : Nat) : Int))).run Tryd.prog w = .ok (.agg #[.int .i64 0, .int .i64 4]) w := by kernel_rfl
theorem ix3 (w : World) : (Instr.index 77 (.agg rankC) (.int .i64 ((3 : Nat) : Int))).run Tryd.prog w = .ok (.agg #[.int .i64 3, .int .i64 1]) w := by kernel_rfl
theorem ix4 (w : World) : (Instr.index 77 (.agg rankC) (.int .i64 ((4 : Nat) : Int))).run Tryd.prog w = .ok (.agg #[.int .i64 0, .int .i64 3]) w := by kernel_rfl
theorem ix5 (w : World) : (Instr.index 77 (.agg rankC) (.int .i64 ((5 : Nat) : Int))).run Tryd.prog w = .ok (.agg #[.int .i64 0, .int .i64 2]) w := by kernel_rfl
theorem ix6 (w : World) : (Instr.index 77 (.agg rankC) (.int .i64 ((6 : Nat) : Int))).run Tryd.prog w = .ok (.agg #[.int .i64 0, .int .i64 1]) w := by kernel_rfl
theorem ix7 (w : World) : (Instr.index 77 (.agg rankC) (.int .i64 ((7 : Nat) : Int))).run Tryd.prog w = .ok (.agg #[.int .i64 0, .int .i64 0]) w := by kernel_rfl
theorem ix8 (w : World) : (Instr.index 77 (.agg rankC) (.int .i64 ((8 : Nat) : Int))).run Tryd.prog w = .ok (.agg #[.int .i64 1, .int .i64 0]) w := by kernel_rfl
theorem index_rank (i : Nat) (hi : i < 9) (p q : Int) (h : kindsL[i]? = some (p, q)) (w : World) : (Instr.index 77 (.agg rankC) (.int .i64 (i : Int))).run Tryd.prog w = .ok (.agg #[.int .i64 p, .int .i64 q]) w := by
  have h9 : i = 0 ∨ i = 1 ∨ i = 2 ∨ i = 3 ∨ i = 4 ∨ i = 5 ∨ i = 6 ∨ i = 7 ∨ i = 8 := by omega
  rcases h9 with rfl | rfl | rfl | rfl | rfl | rfl | rfl | rfl | rfl
  · cases h; exact ix0 w
  · cases h; exact ix1 w
  · cases h; exact ix2 w
  · cases h; exact ix3 w
  · cases h; exact ix4 w
  · cases h; exact ix5 w
  · cases h; exact ix6 w
  · cases h; exact ix7 w
  · cases h; exact ix8 w

set_option maxHeartbeats 1000000 in
theorem chosen_c (a : Option Addr) (k : Nat) (f : Nat → Int) (r : Option Int) (w : World) (hs : IsRw w a k f) (hk : k ≤ 1048577) (hg : Rk w) (HX : Hid (chosenR k f kindsL = r)) :
    Calls Tryd.prog 20 #[.slice a k k] w fun e w' => e = .returned (optV r) ∧ Below w.heap.size w w' := by
  have HS := Lib.hid hs
  have HK := Lib.hid hk
  obtain ⟨tt, fr, hg⟩ := hg
  clear hs hk
  go_enter Tryd.func20, Tryd.ntmps20
  go_wp2_with (refine wpList_load_row rfl 77 _ rfl 0 rfl tt rankC fr _ hg Tryd.underlying77 rfl (by kernel_rfl) ?_)
  clear hg
  go_loopw [9] (fun i wr => ∃ j : Nat, j ≤ 9 ∧ i = .int .i64 j ∧ Hid (chosenR k f (kindsL.drop j) = r) ∧ Hid (Below w.heap.size w wr)) (fun i _ => 9 - (intOf i).toNat)
  case atStart => exact ⟨0, Nat.zero_le _, rfl, HX, Below.refl _ _⟩
  case round =>
    obtain ⟨j, hj, rfl, HF, HB⟩ := hrel
    by_cases hlt : j < 9
    · have hlt' : (j : Int) < 9 := by omega
      obtain ⟨⟨p, q⟩, hpq⟩ : ∃ x, kindsL[j]? = some x := ⟨_, List.getElem?_eq_getElem (show j < kindsL.length from hlt)⟩
      have hix := index_rank j hlt p q hpq
      have HST : Hid (chosenR k f ((p, q) :: kindsL.drop (j + 1)) = r) := by
        have := HF.out
        have hl : j < kindsL.length := hlt
        rw [List.drop_eq_getElem_cons hl] at this
        have e : kindsL[j]'hl = (p, q) := by rw [List.getElem?_eq_getElem hl] at hpq; exact Option.some.inj hpq
        rwa [e] at this
      have HX7 : Hid (wrap64 ((j : Int) + 1) = ((j + 1 : Nat) : Int)) := by unfold Hid wrap64; omega
      obtain ⟨y, HY⟩ : ∃ y, Hid (firstR f p q k 0 = y) := ⟨_, rfl⟩
      have hb1 := HB.out.alloc HB.out.size (.cells #[.int .i64 p, .int .i64 q] 65)
      have HC := Lib.hid (firstOf_c a k f p q y (wr.alloc (.cells #[.int .i64 p, .int .i64 q] 65)) (HS.out.below hb1) HK.out HY)
      have HB1 := Lib.hid hb1
      clear HF hlt hj hpq hb1
      cases y with
      | none =>
        have HN : Hid (chosenR k f (kindsL.drop (j + 1)) = r) := by have := HST.out; rw [chosenR, HY.out] at this; exact this
        go_wp2_with fail
        refine HC.out.mono ?_
        rintro e w1 ⟨rfl, hb2⟩
        have HB2 := Lib.hid (HB1.out.trans (hb2.mono HB1.out.size))
        clear hb2 HB1 HC
        simp only [optV]
        go_wp2_with fail
        go_roundw
        case rel => exact ⟨j + 1, by omega, by go_num, HN, HB2⟩
        case measure => simp only [intOf]; omega
      | some y =>
        have HE : Hid (some y = r) := by have := HST.out; rw [chosenR, HY.out] at this; exact this
        go_wp2_with fail
        refine HC.out.mono ?_
        rintro e w1 ⟨rfl, hb2⟩
        have HB2 := Lib.hid (HB1.out.trans (hb2.mono HB1.out.size))
        clear hb2 HB1 HC
        simp only [optV]
        go_wp2_with fail
        go_ret2
        rw [← HE.out]
        exact ⟨rfl, HB2.out⟩
    · have hlt' : ¬ (j : Int) < 9 := by omega
      have HE : Hid (none = r) := by have := HF.out; rw [List.drop_of_length_le (by simp [kindsL]; omega), chosenR] at this; exact this
      go_wp2_with fail
      go_ret2
      rw [← HE.out]
      exact ⟨rfl, HB.out⟩

end Go.Proofs.YtfbgddigedgpfaaDoor
