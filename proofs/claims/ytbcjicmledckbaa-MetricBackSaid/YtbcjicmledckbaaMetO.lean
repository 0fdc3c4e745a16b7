/-
  An argument of type api.Metrics opened: six numbers and three rows of numbers.
-/
import Derived.Test.YtbcjicmledckbaaSame
import Derived.ChangeSame
import Derived.ChangeSlices
import Derived.OpenShut
namespace Go.Proofs.Ytbcjicmledckbaa
open Go.RowKit Go.PlainAid Go.ChangeShapes Go.WideShapes Go.ChangeAt
set_option linter.unusedSimpArgs false
set_option linter.unusedVariables false

theorem cellsInt : Try.prog.cellsOf 3 = 1 := by kernel_rfl
theorem cellsInts : Try.prog.cellsOf 33 = 1 := by kernel_rfl
theorem cellsMet : Try.prog.cellsOf 35 = 9 := by kernel_rfl

/-- A row of numbers that came in. -/
theorem ints_in {H : Type} {enc : TypeId × Value → H} {w : World} {fuel : Nat} {c : Value} {x : DataW H × List MemPlace} (h : DataW.trod enc Try.prog w 0 (fun _ => true) true fuel 33 [c] = some x) :
    ∃ a n cap L, c = .slice a n cap ∧ IsI w a n cap L ∧ (n ≤ cap ∧ n ≤ 9223372036854775807) ∧ ∀ z ∈ L, -9223372036854775808 ≤ z ∧ z ≤ 9223372036854775807 := by
  rcases open_ints Try.underlying33 Try.underlying3 cellsInt h with ⟨hcs, hx⟩ | ⟨y, len, cap, zs, hcs, _, hl, hm, hz, hx, hcell, hwz⟩
  · simp at hcs
    subst hcs
    exact ⟨none, 0, 0, [], rfl, ⟨rfl, .inl rfl⟩, ⟨Nat.le_refl _, by omega⟩, by simp⟩
  · simp at hcs
    subst hcs
    simp at hz
    refine ⟨some y, len, cap, zs.take len, rfl, ⟨by simp; omega, ?_⟩, ⟨hl, by unfold maxLen at hm; omega⟩, ?_⟩
    · by_cases h0 : len = 0
      · exact .inl h0
      · right
        obtain ⟨b, off, spot⟩ := y
        have hc := hcell 0 (by omega)
        have hspot : spot = none := by simpa [Addr.add] using World.cell?_spot hc
        subst hspot
        refine ⟨b, off, rfl, fun i hi => ?_⟩
        have hplain : (⟨b, off, none⟩ : Addr).add i = ⟨b, off + i, none⟩ := by unfold Addr.add; split <;> simp_all
        rw [← hplain, hcell i (by omega)]
        have hi2 : i < zs.length := by omega
        simp [List.getD, hi2, hi]
    · intro z hz'
      have := hwz z (List.mem_of_mem_take hz')
      simp [Lit.wf, IntKind.min, IntKind.max, IntKind.signed, IntKind.bits] at this
      omega

/-- Metrics that came in. -/
def MetIn (w : World) (m : Met) (v : Value) (a b p : Option Addr) (ca cb cp : Nat) : Prop := v = .agg #[.int .i64 m.kind, .int .i64 m.units, .int .i64 m.glyphs, .int .i64 m.ascent, .int .i64 m.descent, .int .i64 m.gap, .slice a m.adv.length ca, .slice b m.bear.length cb, .slice p m.places.length cp] ∧
  IsI w a m.adv.length ca m.adv ∧ IsI w b m.bear.length cb m.bear ∧ IsI w p m.places.length cp m.places ∧ (∀ z ∈ [m.kind, m.units, m.glyphs, m.ascent, m.descent, m.gap], -9223372036854775808 ≤ z ∧ z ≤ 9223372036854775807) ∧ m.adv.length ≤ 9223372036854775807 ∧ m.bear.length ≤ 9223372036854775807 ∧ m.places.length ≤ 9223372036854775807

set_option maxRecDepth 20000 in
theorem open_metrics {H : Type} {enc : TypeId × Value → H} {w : World} {r : Reach} {b0 : Nat} {v : Value} {d : DataW H} {p : List MemPlace}
    (hv : Value.okWide Try.prog w r b0 35 v) (h : DataW.Trod enc Try.prog w 0 (fun _ => true) true 35 v d p) :
    ∃ m a b q ca cb cp, MetIn w m v a b q ca cb cp := by
  obtain ⟨cs, rfl, hsz, _⟩ : ∃ cs, v = .agg cs ∧ cs.size = Try.prog.cellsOf 35 ∧ Row.okWide Try.prog w r b0 35 cs := by simpa [Value.okWide, Try.underlying35] using hv
  rw [cellsMet] at hsz
  obtain ⟨l⟩ := cs
  match l, hsz with
  | [c0, c1, c2, c3, c4, c5, c6, c7, c8], _ =>
    obtain ⟨fuel, hf⟩ := h
    obtain ⟨xs, n, _, _, hl, hlen, hfld⟩ := DataW.trod_struct Try.underlying35 hf
    match xs, hlen with
    | [y0, y1, y2, y3, y4, y5, y6, y7, y8], _ =>
      have h0 : DataW.trod enc Try.prog w 0 (fun _ => true) true n 3 [c0] = some y0 := by
        have := hfld 0 _ rfl
        simpa [Value.cells, cellsInt] using this
      have h1 : DataW.trod enc Try.prog w 0 (fun _ => true) true n 3 [c1] = some y1 := by
        have := hfld 1 _ rfl
        simpa [Value.cells, cellsInt] using this
      have h2 : DataW.trod enc Try.prog w 0 (fun _ => true) true n 3 [c2] = some y2 := by
        have := hfld 2 _ rfl
        simpa [Value.cells, cellsInt] using this
      have h3 : DataW.trod enc Try.prog w 0 (fun _ => true) true n 3 [c3] = some y3 := by
        have := hfld 3 _ rfl
        simpa [Value.cells, cellsInt] using this
      have h4 : DataW.trod enc Try.prog w 0 (fun _ => true) true n 3 [c4] = some y4 := by
        have := hfld 4 _ rfl
        simpa [Value.cells, cellsInt] using this
      have h5 : DataW.trod enc Try.prog w 0 (fun _ => true) true n 3 [c5] = some y5 := by
        have := hfld 5 _ rfl
        simpa [Value.cells, cellsInt] using this
      have h6 : DataW.trod enc Try.prog w 0 (fun _ => true) true n 33 [c6] = some y6 := by
        have := hfld 6 _ rfl
        simpa [Value.cells, cellsInts] using this
      have h7 : DataW.trod enc Try.prog w 0 (fun _ => true) true n 33 [c7] = some y7 := by
        have := hfld 7 _ rfl
        simpa [Value.cells, cellsInts] using this
      have h8 : DataW.trod enc Try.prog w 0 (fun _ => true) true n 33 [c8] = some y8 := by
        have := hfld 8 _ rfl
        simpa [Value.cells, cellsInts] using this
      obtain ⟨x0, e0, _, w0⟩ := DataW.trod_int Try.underlying3 h0
      obtain ⟨x1, e1, _, w1⟩ := DataW.trod_int Try.underlying3 h1
      obtain ⟨x2, e2, _, w2⟩ := DataW.trod_int Try.underlying3 h2
      obtain ⟨x3, e3, _, w3⟩ := DataW.trod_int Try.underlying3 h3
      obtain ⟨x4, e4, _, w4⟩ := DataW.trod_int Try.underlying3 h4
      obtain ⟨x5, e5, _, w5⟩ := DataW.trod_int Try.underlying3 h5
      simp at e0 e1 e2 e3 e4 e5
      obtain ⟨a6, n6, k6, L6, f6, g6, q6, _⟩ := ints_in (c := c6) h6
      obtain ⟨a7, n7, k7, L7, f7, g7, q7, _⟩ := ints_in (c := c7) h7
      obtain ⟨a8, n8, k8, L8, f8, g8, q8, _⟩ := ints_in (c := c8) h8
      subst e0 e1 e2 e3 e4 e5 f6 f7 f8
      obtain ⟨rfl, g6'⟩ := id g6
      obtain ⟨rfl, g7'⟩ := id g7
      obtain ⟨rfl, g8'⟩ := id g8
      refine ⟨⟨x0, x1, x2, x3, x4, x5, L6, L7, L8⟩, a6, a7, a8, k6, k7, k8, rfl, g6, g7, g8, ?_, q6.2, q7.2, q8.2⟩
      simp [Lit.wf, IntKind.min, IntKind.max, IntKind.signed, IntKind.bits] at w0 w1 w2 w3 w4 w5
      intro z hz
      simp at hz
      omega

end Go.Proofs.Ytbcjicmledckbaa
