/-
  append of several pieces to an owned row, also of none; pieces without one of them; the fonts of MetricWithout.
-/
import Derived.Test.YtbcjicmledckbaaMAlive
namespace Go.Proofs.Ytbcjicmledckbaa
open Go.RowKit Go.PlainAid
set_option linter.unusedSimpArgs false
set_option linter.unusedVariables false

theorem pvCells_get : ∀ (l : List Pv) (j : Nat) (u : Value), (pvCells l)[j]? = some u → ∃ i p, l[i]? = some p ∧ ((j = i * 2 ∧ u = .string p.tag) ∨ (j = i * 2 + 1 ∧ u = .slice p.a p.n p.c))
  | [], j, u, h => by simp [pvCells] at h
  | q :: l, 0, u, h => ⟨0, q, by simp, .inl ⟨rfl, by simp [pvCells] at h; exact h.symm⟩⟩
  | q :: l, 1, u, h => ⟨0, q, by simp, .inr ⟨rfl, by simp [pvCells] at h; exact h.symm⟩⟩
  | q :: l, j + 2, u, h => by
    obtain ⟨i, p, h1, h2⟩ := pvCells_get l j u (by simpa [pvCells] using h)
    refine ⟨i + 1, p, by simpa using h1, ?_⟩
    rcases h2 with ⟨h2, h3⟩ | ⟨h2, h3⟩
    · exact .inl ⟨by omega, h3⟩
    · exact .inr ⟨by omega, h3⟩
/-- Pieces that can be read from a place on. -/
def InPa (w : World) (a : Option Addr) (l : List Pv) : Prop := l = [] ∨ ∃ b off, a = some ⟨b, off, none⟩ ∧ ∀ i p, l[i]? = some p → w.cell? ⟨b, off + i * 2, none⟩ = some (.string p.tag) ∧ w.cell? ⟨b, off + (i * 2 + 1), none⟩ = some (.slice p.a p.n p.c)

theorem append_addPs (w : World) (base : Nat) (ty : TypeId) (g c : Nat) (l m : List Pv) (a : Option Addr) (cap : Nat) (hown : OwnP base w g c l) (hB : InPa w a m) (hl : l.length + m.length ≤ 100000) (hbase : base ≤ w.heap.size) :
    ∃ g' c' w', (Builtin.append_ #[44, 44] ty #[.slice (some ⟨g, 0, none⟩) l.length c, .slice a m.length cap]).run Try.prog w = .ok (.slice (some ⟨g', 0, none⟩) (l.length + m.length) c') w' ∧
      OwnP base w' g' c' (l ++ m) ∧ w.grownBy w' (some g) ∧ (g' = g ∨ w.heap.size ≤ g') := by
  obtain ⟨i0, hi, hz0, hz1, hz2⟩ := info_parts infoPiece
  have hnc : l.length ≤ c := by
    rcases hown.2 with ⟨hv, _⟩ | ⟨g', cap', cur, hv, _, _, hnc, _⟩
    · cases hv
    · cases hv; exact hnc
  rcases hB with rfl | ⟨b, off, rfl, hc⟩
  · refine ⟨g, c, w, ?_, ?_, grown_refl _ _, .inl rfl⟩
    · cases a <;> simp [Builtin.append_, run_underlying Try.underlying44, sizeOf, typeInfo, hi, Builtin.lenOf, Builtin.firstCells, loadCells, loadCellsFrom, storeCells, hnc]
    · rw [List.append_nil]; exact hown
  · by_cases h0 : m = []
    · subst h0
      refine ⟨g, c, w, ?_, by rw [List.append_nil]; exact hown, grown_refl _ _, .inl rfl⟩
      simp [Builtin.append_, run_underlying Try.underlying44, sizeOf, typeInfo, hi, Builtin.lenOf, Builtin.firstCells, loadCells, loadCellsFrom, storeCells, hnc]
    · have hm : 0 < m.length := List.length_pos_iff.2 h0
      obtain ⟨g', c', w', hr, ho, hg, hat, hlt⟩ := run_append_lies (P := Try.prog) w 44 ty base 48 i0 _ 2 40 Try.underlying44 hi hz0 hz1 hz2 rfl (by decide) _ l.length (pvCells l) hown
        ⟨b, off, none⟩ m.length cap (pvCells m) (pvCells_length m)
        (fun j x hj => by
          obtain ⟨i, p, h1, h2⟩ := pvCells_get m j x hj
          have := hc i p h1
          rw [Addr.add_lit]
          rcases h2 with ⟨rfl, rfl⟩ | ⟨rfl, rfl⟩
          · exact this.1
          · exact this.2)
        (fun x hx => by
          obtain ⟨j, hj, rfl⟩ := List.getElem_of_mem hx
          obtain ⟨i, p, h1, h2⟩ := pvCells_get m j _ (List.getElem?_eq_getElem hj)
          rcases h2 with ⟨_, h3⟩ | ⟨_, h3⟩ <;> rw [h3] <;> rfl)
        hm (by unfold maxLen; omega) (by omega) hbase w.heap.size rfl
      refine ⟨g', c', w', hr, ?_, hg, ?_⟩
      · show w'.ownsRow _ _ _ (.slice _ (l ++ m).length _) (l ++ m).length _
        rw [List.length_append, pvCells_join]; exact ho
      · rcases hat with h | h
        · left; simpa [Value.ownBlock] using h.symm
        · right; omega

theorem step_addPs {ops : Array Oper} {o : Oper} {t : Act} {K : Act → World → Prop} {Q : Exit → Act → World → Prop} {E : Prop} (hgd : o.guard = none) (sl x : Operand)
    (ho : o.op = .call { callee := .builtin .append, args := #[sl, x], argTypes := #[44, 44] })
    (w : World) (base g c : Nat) (l m : List Pv) (a : Option Addr) (cap n k : Nat) (hn : n = l.length) (hk : k = m.length) (hs : t.eval sl = .slice (some ⟨g, 0, none⟩) n c) (hx : t.eval x = .slice a k cap)
    (hown : OwnP base w g c l) (hB : InPa w a m) (hl : l.length + m.length ≤ 100000) (hbase : base ≤ w.heap.size)
    (h : ∀ g' c' w', OwnP base w' g' c' (l ++ m) → w.grownBy w' (some g) → (g' = g ∨ w.heap.size ≤ g') → K (t.put o.dst (.slice (some ⟨g', 0, none⟩) (n + k) c')) w') :
    if Region.wanted o (yielded ops t.tmps) = true then Oper.wp Try.prog o t w K Q else E := by
  have hw : Region.wanted o (yielded ops t.tmps) = true := by simp [Region.wanted, hgd]
  rw [if_pos hw]
  subst hn hk
  obtain ⟨g', c', w', hr, h2, h3, h4⟩ := append_addPs w base o.type g c l m a cap hown hB hl hbase
  unfold Oper.wp execOp
  simp only [ho, resolve, invoke, builtin, Sem.run_bind, Sem.run_pure, Result.andThen_ok, List.map_toArray, List.map_cons, List.map_nil, hs, hx, hr]
  exact h g' c' w' h2 h3 h4

theorem pcIs_take {w : World} : ∀ {l : List Pv} {ps : List Pce} (k : Nat), PcIs w l ps → PcIs w (l.take k) (ps.take k)
  | _, _, 0, _ => by rw [List.take_zero, List.take_zero]; trivial
  | [], [], k + 1, _ => by rw [List.take_nil, List.take_nil]; trivial
  | v :: l, p :: ps, k + 1, h => by rw [List.take_succ_cons, List.take_succ_cons]; exact ⟨h.1, pcIs_take k h.2⟩
theorem pcIs_drop {w : World} : ∀ {l : List Pv} {ps : List Pce} (k : Nat), PcIs w l ps → PcIs w (l.drop k) (ps.drop k)
  | _, _, 0, h => by rw [List.drop_zero, List.drop_zero]; exact h
  | [], [], k + 1, _ => by rw [List.drop_nil, List.drop_nil]; trivial
  | v :: l, p :: ps, k + 1, h => by rw [List.drop_succ_cons, List.drop_succ_cons]; exact pcIs_drop k h.2
theorem pcIs_join {w : World} : ∀ {l m : List Pv} {ps qs : List Pce}, PcIs w l ps → PcIs w m qs → PcIs w (l ++ m) (ps ++ qs)
  | [], m, [], qs, _, h => h
  | v :: l, m, p :: ps, qs, h, h2 => ⟨h.1, pcIs_join h.2 h2⟩

/-- The font that lacks a table. -/
def metW : Met := ⟨1, 16, 1, 0, 0, 0, [1], [1], [0, 0]⟩
def lessP (k : Nat) : List Pce := (piecesG metW).take k ++ (piecesG metW).drop (k + 1)
theorem six (P : Nat → Prop) (h0 : P 0) (h1 : P 1) (h2 : P 2) (h3 : P 3) (h4 : P 4) (h5 : P 5) : ∀ k, k < 6 → P k
  | 0, _ => h0 | 1, _ => h1 | 2, _ => h2 | 3, _ => h3 | 4, _ => h4 | 5, _ => h5
theorem lenW : ∀ k, k < 6 → (lessP k).length = 5 := six _ (by kernel_rfl) (by kernel_rfl) (by kernel_rfl) (by kernel_rfl) (by kernel_rfl) (by kernel_rfl)
theorem tagW : ∀ k, k < 6 → ((lessP k).all fun p => p.1.size == 4) = true := six _ (by kernel_rfl) (by kernel_rfl) (by kernel_rfl) (by kernel_rfl) (by kernel_rfl) (by kernel_rfl)
theorem riseW : ∀ k, k < 6 → riseL (lessP k) = true := six _ (by kernel_rfl) (by kernel_rfl) (by kernel_rfl) (by kernel_rfl) (by kernel_rfl) (by kernel_rfl)
theorem risesW : ∀ k, k < 6 → Rises ByteArray.empty (lessP k) = true := six _ (by kernel_rfl) (by kernel_rfl) (by kernel_rfl) (by kernel_rfl) (by kernel_rfl) (by kernel_rfl)
theorem sizeW : ∀ k, k < 6 → (decide ((madeB 1 (lessP k)).size ≤ 1048576) && decide (12 + 16 * (lessP k).length + dataN (lessP k) ≤ 1048576)) = true := six _ (by kernel_rfl) (by kernel_rfl) (by kernel_rfl) (by kernel_rfl) (by kernel_rfl) (by kernel_rfl)
theorem goodW {k : Nat} (h : k < 6) : Good (lessP k) := good_of (tagW k h) (riseW k h) (by rw [lenW k h]; omega) (by rw [lenW k h]; omega)
theorem bigW {k : Nat} (h : k < 6) : bigEnough (lessP k) := by have := sizeW k h; simp at this; exact this.2
theorem openW {k : Nat} (h : k < 6) : openOf (madeB 1 (lessP k)) 0 = (0, some (1, rowsL 92 (lessP k))) := by
  have := open_made 1 (lessP k) (.inl rfl) (by rw [lenW k h]; omega) (by rw [lenW k h]; omega) (goodW h).tag (risesW k h) (by have := sizeW k h; simp at this; omega)
  rwa [lenW k h] at this
theorem readW : ∀ k, k < 6 → readOf 1 (rowsL 92 (lessP k)) (madeB 1 (lessP k)) = (41, none) := six _ (by kernel_rfl) (by kernel_rfl) (by kernel_rfl) (by kernel_rfl) (by kernel_rfl) (by kernel_rfl)
theorem fineW : Fine metW := ⟨by decide, by decide, by decide, by decide, by decide, by decide, rfl, by decide⟩

end Go.Proofs.Ytbcjicmledckbaa
