/-
  One row of bytes appended to another that the call owns: the row has the bytes of both, and nothing that was there is changed. And how the sums of bytes join. Condition: both have together at most 2 to the 47th bytes.
-/
import Derived.Test.YtbcjicmledckbaaSumS
namespace Go.Proofs.Ytbcjicmledckbaa
open Go.RowKit Go.PlainAid
set_option linter.unusedSimpArgs false
set_option linter.unusedVariables false

theorem bt_join_left (s u : ByteArray) {i : Nat} (h : i < s.size) : bt (s ++ u) i = bt s i := by
  rw [bt_eq _ h, bt_eq _ (show i < (s ++ u).size by rw [ByteArray.size_append]; omega)]
  have h' : i < s.data.size := h
  simp [ByteArray.data_append, Array.getElem_append, h', h]
theorem bt_join_right (s u : ByteArray) {i : Nat} (h : i < u.size) : bt (s ++ u) (s.size + i) = bt u i := by
  rw [bt_eq _ h, bt_eq _ (show s.size + i < (s ++ u).size by rw [ByteArray.size_append]; omega)]
  have h' : ¬ s.size + i < s.data.size := by have : s.data.size = s.size := rfl; omega
  have e : s.data.size = s.size := rfl
  simp [ByteArray.data_append, Array.getElem_append, h', e]

theorem rawN_join_left (s u : ByteArray) : ∀ k, k ≤ s.size → rawN (s ++ u) k = rawN s k
  | 0, _ => rfl
  | k + 1, h => by rw [rawN, rawN, rawN_join_left s u k (by omega), bt_join_left s u (by omega)]
theorem rawN_join_right (s u : ByteArray) (h4 : s.size % 4 = 0) : ∀ k, k ≤ u.size → rawN (s ++ u) (s.size + k) = rawN s s.size + rawN u k
  | 0, _ => by rw [Nat.add_zero, rawN_join_left s u _ (Nat.le_refl _), rawN]; omega
  | k + 1, h => by
    have e : wtN (s.size + k) = wtN k := by unfold wtN; rw [show (s.size + k) % 4 = k % 4 by omega]
    rw [← Nat.add_assoc, rawN, rawN, rawN_join_right s u h4 k (by omega), bt_join_right s u (by omega), e]
    omega
/-- How sums join. -/
theorem sumB_join (s u : ByteArray) (h4 : s.size % 4 = 0) : sumB (s ++ u) = (sumB s + sumB u) % 4294967296 := by
  unfold sumB
  rw [ByteArray.size_append, rawN_join_right s u h4 u.size (Nat.le_refl _)]
  omega

theorem cellsOfStr_join (s u : ByteArray) : cellsOfStr (s ++ u) = cellsOfStr s ++ cellsOfStr u := by
  apply List.ext_getElem?
  intro i
  by_cases h1 : i < s.size
  · rw [cellsOfStr_get _ i (by rw [ByteArray.size_append]; omega), List.getElem?_append_left (by rw [cellsOfStr_length]; exact h1), cellsOfStr_get _ i h1, bt_join_left s u h1]
  · rw [List.getElem?_append_right (by rw [cellsOfStr_length]; omega), cellsOfStr_length]
    by_cases h2 : i - s.size < u.size
    · rw [cellsOfStr_get _ _ h2, cellsOfStr_get _ i (by rw [ByteArray.size_append]; omega)]
      have := bt_join_right s u h2
      rw [show s.size + (i - s.size) = i by omega] at this
      rw [this]
    · rw [List.getElem?_eq_none (by rw [cellsOfStr_length, ByteArray.size_append]; omega), List.getElem?_eq_none (by rw [cellsOfStr_length]; omega)]

theorem append_join (w : World) (base : Nat) (ty : TypeId) (g c : Nat) (s u : ByteArray) (a : Option Addr) (cap : Nat) (hown : w.ownsRow base 5 1 (.slice (some ⟨g, 0, none⟩) s.size c) s.size (cellsOfStr s))
    (hB : IsB w a u.size cap u) (hs : s.size + u.size ≤ 140737488355328) (hbase : base ≤ w.heap.size) :
    ∃ g' c' w', (Builtin.append_ #[23, 23] ty #[.slice (some ⟨g, 0, none⟩) s.size c, .slice a u.size cap]).run Try.prog w = .ok (.slice (some ⟨g', 0, none⟩) (s.size + u.size) c') w' ∧
      w'.ownsRow base 5 1 (.slice (some ⟨g', 0, none⟩) (s.size + u.size) c') (s.size + u.size) (cellsOfStr (s ++ u)) ∧ Below base w w' := by
  obtain ⟨i0, hi, hz0, hz1, hz2⟩ := info_parts infoU8
  have hbg : base ≤ g := by
    rcases hown.2 with ⟨hv, _⟩ | ⟨g', cap', cur, hv, hbg, _⟩
    · cases hv
    · cases hv; exact hbg
  have hnc : s.size ≤ c := by
    rcases hown.2 with ⟨hv, _⟩ | ⟨g', cap', cur, hv, _, _, hnc, _⟩
    · cases hv
    · cases hv; exact hnc
  by_cases h0 : u.size = 0
  · refine ⟨g, c, w, ?_, ?_, Below.refl _ _⟩
    · cases a <;> simp [Builtin.append_, run_underlying Try.underlying23, sizeOf, typeInfo, hi, Builtin.lenOf, Builtin.firstCells, loadCells, loadCellsFrom, storeCells, h0, hnc]
    · have e : cellsOfStr u = [] := by simp [cellsOfStr, h0]
      rw [cellsOfStr_join, e, List.append_nil, h0, Nat.add_zero]
      exact hown
  · obtain ⟨_, _, h | ⟨b, off, rfl, hc⟩⟩ := hB
    · omega
    obtain ⟨v', w', hr, ho, hg, hn⟩ := run_append_own (P := Try.prog) w base 23 ty 5 i0 (.int .u8 0) 1 1 Try.underlying23 hi hz0 hz1 hz2 rfl (by decide) _ s.size (cellsOfStr s) hown
      ⟨b, off, none⟩ u.size cap (cellsOfStr u) (by rw [cellsOfStr_length]; omega)
      (fun j x hj => by
        have hjl : j < u.size := by
          rcases Nat.lt_or_ge j u.size with h | h
          · exact h
          · rw [List.getElem?_eq_none (by rw [cellsOfStr_length]; exact h)] at hj; cases hj
        rw [cellsOfStr_get u j hjl] at hj
        rw [Addr.add_lit, hc j hjl]
        exact hj)
      (fun x hx => by
        simp [cellsOfStr] at hx
        obtain ⟨_, _, rfl⟩ := hx
        rfl)
      (by unfold maxLen; omega) (by omega) hbase
    have hv : ∃ g' c', v' = .slice (some ⟨g', 0, none⟩) (s.size + u.size) c' := by
      rcases ho.2 with ⟨hv, _⟩ | ⟨g', cap', cur, hv, _⟩
      · have := (hn.1 hv).1
        cases this
      · exact ⟨_, _, hv⟩
    obtain ⟨g', c', rfl⟩ := hv
    refine ⟨g', c', w', hr, by rw [cellsOfStr_join]; exact ho, (Below.refl _ _).grown hg hbase ?_⟩
    intro k hk
    simp [Value.ownBlock] at hk
    omega

theorem wpList_join {ops : Array Oper} {rest : List Oper} {o : Oper} {t : Act} {Q : Exit → Act → World → Prop} (hgd : o.guard = none) (sl x : Operand)
    (ho : o.op = .call { callee := .builtin .append, args := #[sl, x], argTypes := #[23, 23] })
    (w : World) (base g c : Nat) (s u : ByteArray) (a : Option Addr) (cap : Nat) (hs : t.eval sl = .slice (some ⟨g, 0, none⟩) s.size c) (hx : t.eval x = .slice a u.size cap)
    (hown : w.ownsRow base 5 1 (.slice (some ⟨g, 0, none⟩) s.size c) s.size (cellsOfStr s)) (hB : IsB w a u.size cap u) (hl : s.size + u.size ≤ 140737488355328) (hbase : base ≤ w.heap.size)
    (h : ∀ g' c' w', IsB w' (some ⟨g', 0, none⟩) (s.size + u.size) c' (s ++ u) → Below base w w' → wpList Try.prog ops Q rest (t.put o.dst (.slice (some ⟨g', 0, none⟩) (s.size + u.size) c')) w') :
    wpList Try.prog ops Q (o :: rest) t w :=
  wpList_plain hgd fun _ hK => by
    obtain ⟨g', c', w', hr, h2, h3⟩ := append_join w base o.type g c s u a cap hown hB hl hbase
    have e : s.size + u.size = (s ++ u).size := by rw [ByteArray.size_append]
    have hI : IsB w' (some ⟨g', 0, none⟩) (s.size + u.size) c' (s ++ u) := by
      have h2' := h2
      rw [e] at h2'
      rw [e]
      exact isB_of_owns h2'
    unfold Oper.wp execOp
    simp only [ho, resolve, invoke, builtin, Sem.run_bind, Sem.run_pure, Result.andThen_ok, List.map_toArray, List.map_cons, List.map_nil, hs, hx, hr]
    exact hK _ _ (h g' c' w' hI h3)

end Go.Proofs.Ytbcjicmledckbaa
