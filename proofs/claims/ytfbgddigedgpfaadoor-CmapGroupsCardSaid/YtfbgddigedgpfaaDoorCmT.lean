/-
  What the listed variable reads as gives what the walks ask of its cells.
-/
import Derived.Test.YtfbgddigedgpfaaDoorCmC
import Derived.ProofKit
import Derived.LaidMore
import Derived.OpenShut
import Derived.Stop.Joined
import Derived.ChangeSame
namespace Go.Proofs.YtfbgddigedgpfaaDoor
open Go.ChangeShapes Go.WideShapes Go.ChangeAt Go.WideMaps Go.WideElems Go.RowKit
set_option linter.unusedSimpArgs false
set_option linter.unusedVariables false

theorem gRanked : Tryd.prog.globalNamed "serif/cmap.ranked" = some 0 := by kernel_rfl
theorem tRanked : (Tryd.prog.globals[0]?).map (·.type) = some 77 := by kernel_rfl
theorem cInt : Tryd.prog.cellsOf 3 = 1 := by kernel_rfl
theorem cKind : Tryd.prog.cellsOf 65 = 2 := by kernel_rfl
theorem cRanked : Tryd.prog.cellsOf 77 = 18 := by kernel_rfl

theorem kind_cells {H : Type} {enc : TypeId × Value → H} {w : World} {base : Nat} {sp : Nat → Bool} {held : Bool} {fuel : Nat} {cs : List Value} {y : DataW H × List MemPlace} {p q : Int}
    (h : DataW.trod enc Tryd.prog w base sp held fuel 65 cs = some y) (hy : y.1 = .agg [.lit (.int .i64 p), .lit (.int .i64 q)]) : cs = [.int .i64 p, .int .i64 q] := by
  obtain ⟨y0, y1, n, rfl, hl, h0, h1⟩ := trod_struct2 Tryd.underlying65 h
  rw [cKind] at hl
  simp only [DataW.agg.injEq, List.cons.injEq, and_true] at hy
  match cs, hl with
  | [a, b], _ =>
    obtain ⟨k0, e0, f0, _⟩ := DataW.trod_int Tryd.underlying3 h0
    obtain ⟨k1, e1, f1, _⟩ := DataW.trod_int Tryd.underlying3 h1
    rw [cInt] at e0 e1
    simp at e0 e1
    subst e0 e1
    rw [f0, f1] at hy
    simp at hy
    rw [hy.1, hy.2]

theorem kinds_cells {H : Type} {enc : TypeId × Value → H} {w : World} {base : Nat} {sp : Nat → Bool} {held : Bool} {fuel : Nat} {cs : List Value} {xs : List (DataW H × List MemPlace)}
    (h : ∀ i, i < 9 → DataW.trod enc Tryd.prog w base sp held fuel 65 ((cs.drop (i * 2)).take 2) = xs[i]?) (hx : xs.map (·.1) = kindsL.map (fun x => DataW.agg [.lit (.int .i64 x.1), .lit (.int .i64 x.2)]))
    (i : Nat) (p q : Int) (hi : kindsL[i]? = some (p, q)) : cs[i * 2]? = some (.int .i64 p) ∧ cs[i * 2 + 1]? = some (.int .i64 q) := by
  have hi9 : i < 9 := (List.getElem?_eq_some_iff.1 hi).1
  have h1 : (xs.map (·.1))[i]? = some (DataW.agg [.lit (.int .i64 p), .lit (.int .i64 q)]) := by rw [hx, List.getElem?_map, hi]; rfl
  rw [List.getElem?_map, Option.map_eq_some_iff] at h1
  obtain ⟨y, hy1, hy2⟩ := h1
  have h2 := h i hi9
  rw [hy1] at h2
  have h3 := kind_cells h2 hy2
  have a0 : ((cs.drop (i * 2)).take 2)[0]? = some (.int .i64 p) := by rw [h3]; rfl
  have a1 : ((cs.drop (i * 2)).take 2)[1]? = some (.int .i64 q) := by rw [h3]; rfl
  rw [List.getElem?_take, List.getElem?_drop] at a0 a1
  simpa using And.intro a0 a1

theorem of_laid {W : World} (h : laidMetH Tryd.prog [("serif/cmap.ranked", Rows.laid_serif_cmap_ranked)] W) : Rk W := by
  rw [MakeChecks.laidMetH_plain _ _ _ (by kernel_rfl)] at h
  obtain ⟨ps, ⟨g0, t0, cs0, f0, p0, q0, hg0, ht0, hv0, hd0, _, _⟩, _, _⟩ := h
  obtain rfl := Option.some.inj (gRanked.symm.trans hg0)
  obtain rfl := Option.some.inj (tRanked.symm.trans ht0)
  obtain ⟨xs, m, rfl, hx, hlen, hn, hel⟩ := DataW.trod_array Tryd.underlying77 hd0
  simp only [cKind] at hel
  rw [cRanked] at hlen
  have hx' : xs.map (·.1) = kindsL.map (fun x => DataW.agg [.lit (.int .i64 x.1), .lit (.int .i64 x.2)]) := by
    simp only [Prod.mk.injEq] at hx
    have := hx.1
    unfold Rows.laid_serif_cmap_ranked at this
    simp only [DataW.agg.injEq] at this
    exact this.symm
  have hk := kinds_cells hel hx'
  obtain ⟨a0, b0⟩ := hk 0 3 10 rfl
  obtain ⟨a1, b1⟩ := hk 1 0 6 rfl
  obtain ⟨a2, b2⟩ := hk 2 0 4 rfl
  obtain ⟨a3, b3⟩ := hk 3 3 1 rfl
  obtain ⟨a4, b4⟩ := hk 4 0 3 rfl
  obtain ⟨a5, b5⟩ := hk 5 0 2 rfl
  obtain ⟨a6, b6⟩ := hk 6 0 1 rfl
  obtain ⟨a7, b7⟩ := hk 7 0 0 rfl
  obtain ⟨a8, b8⟩ := hk 8 1 0 rfl
  have hcs : cs0 = rankC := by
    apply Array.ext'
    apply List.ext_getElem?
    intro j
    by_cases hj : j < 18
    · have h18 : j = 0 ∨ j = 1 ∨ j = 2 ∨ j = 3 ∨ j = 4 ∨ j = 5 ∨ j = 6 ∨ j = 7 ∨ j = 8 ∨ j = 9 ∨ j = 10 ∨ j = 11 ∨ j = 12 ∨ j = 13 ∨ j = 14 ∨ j = 15 ∨ j = 16 ∨ j = 17 := by omega
      rcases h18 with rfl | rfl | rfl | rfl | rfl | rfl | rfl | rfl | rfl | rfl | rfl | rfl | rfl | rfl | rfl | rfl | rfl | rfl
      · exact a0
      · exact b0
      · exact a1
      · exact b1
      · exact a2
      · exact b2
      · exact a3
      · exact b3
      · exact a4
      · exact b4
      · exact a5
      · exact b5
      · exact a6
      · exact b6
      · exact a7
      · exact b7
      · exact a8
      · exact b8
    · rw [List.getElem?_eq_none (by omega), List.getElem?_eq_none (by show 18 ≤ j; omega)]
  simp only [World.var?, hg0, Option.bind_some] at hv0
  split at hv0
  · rename_i c t fr hh
    cases hv0
    subst hcs
    exact ⟨_, _, hh⟩
  · cases hv0

end Go.Proofs.YtfbgddigedgpfaaDoor
