/-
  The tables of metrics without places, sorted; the parts of MetricBack that need no walk.
-/
import Derived.Test.YtbcjicmledckbaaMAlive
import Derived.Test.YtbcjicmledckbaaMetO
namespace Go.Proofs.Ytbcjicmledckbaa.metricBack
open Go.RowKit Go.PlainAid
set_option linter.unusedSimpArgs false
set_option linter.unusedVariables false

theorem sort_cff {w : World} {l : List Pv} {m : Met} (hm : m.places = []) (h : PcIs w l (piecesOf m)) (a : Option Addr) (c : Nat) (hg : IsB w a 0 c ByteArray.empty) : PcIs w (sortV (l ++ [⟨tagB cffTg, a, 0, c⟩])) (cffPieces m) := by
  unfold piecesOf at h
  rw [if_pos hm] at h
  match l, h with
  | [⟨t1, a1, n1, c1⟩, ⟨t2, a2, n2, c2⟩, ⟨t3, a3, n3, c3⟩, ⟨t5, a5, n5, c5⟩], ⟨h1, h2, h3, h5, _⟩ =>
    obtain ⟨e1, f1, g1⟩ := h1
    obtain ⟨e2, f2, g2⟩ := h2
    obtain ⟨e3, f3, g3⟩ := h3
    obtain ⟨e5, f5, g5⟩ := h5
    simp only at e1 e2 e3 e5 f1 f2 f3 f5
    subst e1 e2 e3 e5
    have e : sortV ([⟨tagB headTg, a1, n1, c1⟩, ⟨tagB hheaTg, a2, n2, c2⟩, ⟨tagB hmtxTg, a3, n3, c3⟩, ⟨tagB maxpTg, a5, n5, c5⟩] ++ [⟨tagB cffTg, a, 0, c⟩]) = [⟨tagB cffTg, a, 0, c⟩, ⟨tagB headTg, a1, n1, c1⟩, ⟨tagB hheaTg, a2, n2, c2⟩, ⟨tagB hmtxTg, a3, n3, c3⟩, ⟨tagB maxpTg, a5, n5, c5⟩] := by kernel_rfl
    rw [e]
    exact ⟨⟨rfl, rfl, hg⟩, ⟨rfl, f1, g1⟩, ⟨rfl, f2, g2⟩, ⟨rfl, f3, g3⟩, ⟨rfl, f5, g5⟩, trivial⟩

theorem goodC (m : Met) : Good (cffPieces m) := good_of (by kernel_rfl) (by kernel_rfl) (by simp [cffPieces]) (by simp [cffPieces])
theorem bigC (m : Met) (h : m.adv.length = m.bear.length) (hn : m.adv.length ≤ 4096) : bigEnough (cffPieces m) := by
  unfold bigEnough
  simp only [cffPieces, dataN, List.length_cons, List.length_nil, head_size, hhea_size, maxp_size, hmtx_size _ _ h]
  have : ByteArray.empty.size = 0 := rfl
  rw [this]
  unfold upto4
  omega

/-- What the statement asks of the metrics. -/
structure Lim (m : Met) : Prop where
  units : 16 ≤ m.units ∧ m.units ≤ 16384
  glyphs : 1 ≤ m.glyphs ∧ m.glyphs ≤ 4096
  adv : (m.adv.length : Int) = m.glyphs
  bear : (m.bear.length : Int) = m.glyphs
  places : m.places = []
  advs : ∀ x ∈ m.adv, 0 ≤ x ∧ x ≤ 65535
  bears : ∀ x ∈ m.bear, -32768 ≤ x ∧ x ≤ 32767
  three : ∀ x ∈ [m.ascent, m.descent, m.gap], -32768 ≤ x ∧ x ≤ 32767
theorem Lim.fine {m : Met} (h : Lim m) : Fine m := by
  have h1 := h.adv
  have h2 := h.bear
  have h3 := h.glyphs
  refine ⟨(by have := h.units; omega), (by omega), (fun x hx => by have := h.three x hx; omega), (fun x hx => by have := h.advs x hx; omega), (fun x hx => by have := h.bears x hx; omega), (fun x hx => by have hx' : x ∈ ([] : List Int) := (by rw [← h.places]; exact hx); simp at hx'), by omega, by rw [h.places]; simp; omega⟩
theorem Lim.back {m : Met} (h : Lim m) (hk : m.kind = 2) : openOf (madeB 2 (cffPieces m)) 0 = (0, some (2, rowsL 92 (cffPieces m))) ∧ readOf 2 (rowsL 92 (cffPieces m)) (madeB 2 (cffPieces m)) = (0, some m) :=
  have h9 := cff_back m h.units h.glyphs h.adv h.bear h.places hk h.advs h.bears (h.three _ (by simp)) (h.three _ (by simp)) (h.three _ (by simp))
  ⟨h9.1, h9.2.1⟩
theorem cff_cells (w : World) : (w.alloc (.cells #[.string ⟨#[67, 70, 70, 32]⟩, .slice none 0 0] 48)).cell? ⟨w.heap.size, 0, none⟩ = some (.string ⟨#[67, 70, 70, 32]⟩) ∧ (w.alloc (.cells #[.string ⟨#[67, 70, 70, 32]⟩, .slice none 0 0] 48)).cell? ⟨w.heap.size, 1, none⟩ = some (.slice none 0 0) ∧ Below w.heap.size w (w.alloc (.cells #[.string ⟨#[67, 70, 70, 32]⟩, .slice none 0 0] 48)) :=
  ⟨by simp [go_sem], by simp [go_sem], (Below.refl _ _).alloc (Nat.le_refl _) _⟩
theorem getD_all {P : Int → Prop} {l : List Int} (h : ∀ j, j < l.length → P (l.getD j 0)) : ∀ x ∈ l, P x := by
  intro x hx
  obtain ⟨j, hj, rfl⟩ := List.getElem_of_mem hx
  have := h j hj
  simpa [List.getD, hj] using this

end Go.Proofs.Ytbcjicmledckbaa.metricBack
