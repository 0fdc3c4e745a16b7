/-
  What a font's own functions and the small functions of package metric answer: Kind, Table, Len, I16, ask, number, unitsRight, need. A font is spoken of by the blocks that it lies in, all of them below a bound.
-/
import Derived.Test.YtbcjicmledckbaaMet
import Derived.Deep.RegionHeld3
import Derived.BigQuiet
namespace Go.Proofs.Ytbcjicmledckbaa
open Go.RowKit Go.PlainAid
set_option linter.unusedSimpArgs false
set_option linter.unusedVariables false

/-- Every row lies within the file. -/
def Fits (s : ByteArray) (l : List Row) : Prop := ∀ r ∈ l, hasB s r.place r.len = true

theorem row_fits {s : ByteArray} {at' : Int} {r : Row} (h : rowOf s at' = some r) : hasB s r.place r.len = true := by
  unfold rowOf at h
  split at h
  · cases h
  · unfold rowIn at h
    split at h
    · cases h
    · rename_i hb
      simp only [Bool.not_eq_false] at hb
      split at h
      · cases h
      · split at h
        · cases h; exact hb
        · split at h
          · cases h
          · cases h; exact hb

theorem rows_fit {s : ByteArray} {at' : Int} : ∀ (k : Nat) {l : List Row}, rowsOf s at' k = some l → Fits s l
  | 0, l, h => by rw [rowsOf] at h; cases h; intro r hr; cases hr
  | k + 1, l, h => by
    rw [rowsOf] at h
    cases h1 : rowsOf s at' k with
    | none => rw [h1] at h; cases h
    | some m =>
      rw [h1] at h
      cases h2 : rowOf s (at' + 16 * k) with
      | none => rw [h2] at h; cases h
      | some r =>
        rw [h2] at h
        simp only at h
        split at h
        · cases h
        · cases h
          intro q hq
          rcases List.mem_append.1 hq with hq | hq
          · exact rows_fit k h1 q hq
          · cases List.mem_singleton.1 hq; exact row_fits h2

theorem open_fits {s : ByteArray} {face f kd : Int} {l : List Row} (h : openOf s face = (f, some (kd, l))) : Fits s l ∧ (s.size : Int) ≤ 1048576 := by
  unfold openOf at h
  split at h
  · cases h
  · rename_i hs
    split at h
    · cases h
    · split at h
      · cases h
      · split at h
        · cases h
        · rename_i m hm
          simp only [Prod.mk.injEq, Option.some.injEq] at h
          rw [← h.2.2]
          exact ⟨rows_fit _ hm, by omega⟩

/-- A font in memory, all of it below a bound. -/
structure FontIn (B : Nat) (w : World) (gf : Nat) (kd : Int) (l : List Row) (s : ByteArray) : Prop where
  at' : ∃ gl gv, gf < B ∧ gl < B ∧ gv < B ∧ w.cell? ⟨gf, 0, none⟩ = some (.int .i64 kd) ∧ w.cell? ⟨gf, 1, none⟩ = some (.slice (some ⟨gl, 0, none⟩) l.length l.length) ∧ w.cell? ⟨gf, 2, none⟩ = some (.pointer (some ⟨gv, 0, none⟩)) ∧
    w.cell? ⟨gv, 0, none⟩ = some (.string s) ∧ ∀ i, i < l.length → ∃ r, l[i]? = some r ∧ w.cell? ⟨gl, i * 3, none⟩ = some (.string r.tag) ∧ w.cell? ⟨gl, i * 3 + 1, none⟩ = some (.int .i64 r.place) ∧ w.cell? ⟨gl, i * 3 + 2, none⟩ = some (.int .i64 r.len)
  len : l.length ≤ 64
  fit : Fits s l
  size : (s.size : Int) ≤ 1048576

theorem FontIn.kept {B : Nat} {w w' : World} {gf : Nat} {kd : Int} {l : List Row} {s : ByteArray} (h : FontIn B w gf kd l s) (hb : Below B w w') : FontIn B w' gf kd l s := by
  obtain ⟨⟨gl, gv, h1, h2, h3, c0, c1, c2, c3, hr⟩, h5, h6, h7⟩ := h
  refine ⟨⟨gl, gv, h1, h2, h3, ?_, ?_, ?_, ?_, ?_⟩, h5, h6, h7⟩
  · rw [hb.cell (by exact h1), c0]
  · rw [hb.cell (by exact h1), c1]
  · rw [hb.cell (by exact h1), c2]
  · rw [hb.cell (by exact h3), c3]
  · intro i hi
    obtain ⟨r, e, d0, d1, d2⟩ := hr i hi
    exact ⟨r, e, by rw [hb.cell (by exact h2), d0], by rw [hb.cell (by exact h2), d1], by rw [hb.cell (by exact h2), d2]⟩
theorem FontIn.mono {B B' : Nat} {w : World} {gf : Nat} {kd : Int} {l : List Row} {s : ByteArray} (h : FontIn B w gf kd l s) (hb : B ≤ B') : FontIn B' w gf kd l s := by
  obtain ⟨⟨gl, gv, h1, h2, h3, hr⟩, h5, h6, h7⟩ := h
  exact ⟨⟨gl, gv, by omega, by omega, by omega, hr⟩, h5, h6, h7⟩

theorem rowCells_at : ∀ (l : List Row) (i : Nat) (r : Row), l[i]? = some r → (rowCells l)[i * 3]? = some (.string r.tag) ∧ (rowCells l)[i * 3 + 1]? = some (.int .i64 r.place) ∧ (rowCells l)[i * 3 + 2]? = some (.int .i64 r.len)
  | [], i, r, h => by simp at h
  | q :: l, 0, r, h => by simp at h; subst h; simp [rowCells]
  | q :: l, i + 1, r, h => by
    have := rowCells_at l i r (by simpa using h)
    rw [rowCells]
    rw [show (i + 1) * 3 = i * 3 + 1 + 1 + 1 by omega]
    simpa using this

theorem owns_cell {w : World} {B : Nat} {e : TypeId} {size n g c : Nat} {xs : List Value} (h : w.ownsRow B e size (.slice (some ⟨g, 0, none⟩) n c) n xs) {i : Nat} {u : Value} (hi : xs[i]? = some u) : w.cell? ⟨g, i, none⟩ = some u ∧ w.frozen? ⟨g, i, none⟩ = false := by
  obtain ⟨h1, h2 | ⟨g', cap, cur, hv, _, hg, hc, _, hs, ht⟩⟩ := h
  · cases h2.1
  · simp only [Value.slice.injEq, Option.some.injEq, Addr.mk.injEq] at hv
    obtain ⟨⟨rfl, _, _⟩, _, rfl⟩ := hv
    have hlt : i < xs.length := (List.getElem?_eq_some_iff.1 hi).1
    rw [← ht, List.getElem?_take] at hi
    split at hi
    · rw [Array.getElem?_toList] at hi
      constructor
      · simp [World.cell?, World.cells?, hg, hi]
      · simp [World.frozen?, hg]
    · cases hi

theorem IsFont.inn {B : Nat} {w : World} {gf : Nat} {kd : Int} {l : List Row} {s : ByteArray} (h : IsFont B w gf kd l s) (hf : Fits s l) (hs : (s.size : Int) ≤ 1048576) : FontIn w.heap.size w gf kd l s := by
  obtain ⟨⟨gl, gv, _, c0, c1, c2, c3, ho⟩, h5⟩ := h
  refine ⟨⟨gl, gv, World.block_lt_of_cell? w _ c0, ?_, World.block_lt_of_cell? w _ c3, c0, c1, c2, c3, ?_⟩, h5, hf, hs⟩
  · obtain ⟨h1, h2 | ⟨g', cap, cur, hv, _, hg, _⟩⟩ := ho
    · cases h2.1
    · simp only [Value.slice.injEq, Option.some.injEq, Addr.mk.injEq] at hv
      obtain ⟨⟨rfl, _, _⟩, _, rfl⟩ := hv
      exact (Array.getElem?_eq_some_iff.1 hg).1
  · intro i hi
    obtain ⟨r, hr⟩ : ∃ r, l[i]? = some r := ⟨l[i], by simp [hi]⟩
    have ⟨e0, e1, e2⟩ := rowCells_at l i r hr
    exact ⟨r, hr, (owns_cell ho e0).1, (owns_cell ho e1).1, (owns_cell ho e2).1⟩

set_option maxHeartbeats 400000 in
theorem fkind_c (B gf : Nat) (kd : Int) (l : List Row) (s : ByteArray) (w : World) (hf : FontIn B w gf kd l s) :
    Calls Try.prog 57 #[.pointer (some ⟨gf, 0, none⟩)] w fun e w' => e = .returned (.int .i64 kd) ∧ w = w' := by
  obtain ⟨⟨gl, gv, _, _, _, h0, _⟩, _⟩ := hf
  go_enter Try.func57, Try.ntmps57
  go_wp2
  go_ret
  exact ⟨rfl, rfl⟩

theorem len_c (g : Nat) (s : ByteArray) (w : World) (hc : w.cell? ⟨g, 0, none⟩ = some (.string s)) :
    Calls Try.prog 59 #[.pointer (some ⟨g, 0, none⟩)] w fun e w' => e = .returned (.int .i64 s.size) ∧ w = w' := by
  go_enter Try.func59, Try.ntmps59
  go_wp2
  go_ret
  exact ⟨rfl, rfl⟩

/-- What a function ends with that gives up with the error n. -/
def gave (n : Int) : Ending := .panicked [{ v := .iface 30 (.int .i64 n), recovered := false }]

theorem ask_yes (n : Int) (w : World) : Calls Try.prog 53 #[.bool true, .int .i64 n] w fun e w' => e = .returned (.tuple #[]) ∧ w = w' := by
  go_enter Try.func53, Try.ntmps53
  go_wp2
  go_end0
  exact ⟨rfl, rfl⟩
theorem ask_no (n : Int) (w : World) : Calls Try.prog 53 #[.bool false, .int .i64 n] w fun e w' => e = gave n ∧ w = w' := by
  go_enter Try.func53, Try.ntmps53
  go_wp2
  exact ⟨rfl, rfl, rfl⟩

theorem ask_t {b : Bool} (hb : b = true) (n : Int) (w : World) : Calls Try.prog 53 #[.bool b, .int .i64 n] w fun e w' => e = .returned (.tuple #[]) ∧ w = w' := by subst hb; exact ask_yes n w
theorem ask_f {b : Bool} (hb : b = false) (n : Int) (w : World) : Calls Try.prog 53 #[.bool b, .int .i64 n] w fun e w' => e = gave n ∧ w = w' := by subst hb; exact ask_no n w

theorem number_yes (n : Int) (w : World) : Calls Try.prog 54 #[.int .i64 n, .int .i64 0] w fun e w' => e = .returned (.int .i64 n) ∧ w = w' := by
  go_enter Try.func54, Try.ntmps54
  go_wp2_with fail
  refine (ask_yes _ _).mono ?_
  rintro e w1 ⟨rfl, rfl⟩
  go_wp2_with fail
  go_ret
  exact ⟨rfl, rfl⟩

theorem unitsRight_c (n : Int) (w : World) : Calls Try.prog 43 #[.int .i64 n] w fun e w' => e = .returned (.bool (decide (16 ≤ n) && decide (n ≤ 16384))) ∧ w = w' := by
  by_cases h : 16 ≤ n
  · go_enter Try.func43, Try.ntmps43
    go_wp2
    go_ret
    exact ⟨by simp [h], rfl⟩
  · go_enter Try.func43, Try.ntmps43
    go_wp2
    go_ret
    exact ⟨by simp [h]; omega, rfl⟩

end Go.Proofs.Ytbcjicmledckbaa
