/-
  Two rows of bytes that grow side by side; append of a string's bytes to an owned row; pieces in memory.
-/
import Derived.Test.YtbcjicmledckbaaBig
import Derived.Lib.AppendStr
namespace Go.Proofs.Ytbcjicmledckbaa
open Go.RowKit Go.PlainAid
set_option linter.unusedSimpArgs false
set_option linter.unusedVariables false

theorem strCells_eq (s : ByteArray) : Lib.strCells s = cellsOfStr s := by
  apply List.ext_getElem
  · simp [Lib.strCells, cellsOfStr_length]
  · intro i h1 h2
    have hi : i < s.size := by rw [cellsOfStr_length] at h2; exact h2
    simp only [Lib.strCells, cellsOfStr, List.getElem_map, List.getElem_range, bt_eq s hi]
    simp

theorem append_addStr (w : World) (base : Nat) (ty : TypeId) (g c : Nat) (s u : ByteArray) (hown : w.ownsRow base 5 1 (.slice (some ⟨g, 0, none⟩) s.size c) s.size (cellsOfStr s))
    (hs : s.size + u.size ≤ 140737488355328) (hbase : base ≤ w.heap.size) :
    ∃ g' c' w', (Builtin.append_ #[23, 9] ty #[.slice (some ⟨g, 0, none⟩) s.size c, .string u]).run Try.prog w = .ok (.slice (some ⟨g', 0, none⟩) (s.size + u.size) c') w' ∧
      w'.ownsRow base 5 1 (.slice (some ⟨g', 0, none⟩) (s.size + u.size) c') (s.size + u.size) (cellsOfStr (s ++ u)) ∧ w.grownBy w' (some g) ∧ (g' = g ∨ w.heap.size ≤ g') := by
  obtain ⟨i0, hi, hz0, hz1, hz2⟩ := info_parts infoU8
  obtain ⟨v', w', hr, ho, hg, _⟩ := Lib.run_append_own_string (P := Try.prog) w base 23 9 ty 5 i0 Try.underlying23 Try.underlying9 hi hz0 hz1 hz2 _ s.size (cellsOfStr s) hown u (by unfold maxLen; omega) hs hbase
  have hcells := hown.cells (g := g) rfl
  have hlen := hown.1
  rcases hown.2 with ⟨hv, _⟩ | ⟨g0, cap, cur, hv, hbg, hgg, hnc, hcm, hcs, htake⟩
  · cases hv
  · simp only [Value.slice.injEq, Option.some.injEq, Addr.mk.injEq] at hv
    obtain ⟨⟨rfl, _⟩, _, rfl⟩ := hv
    rw [strCells_eq, ← cellsOfStr_join] at ho
    by_cases hroom : s.size + u.size ≤ c
    · have hr2 := Lib.run_append_room_string (P := Try.prog) w 23 9 ty 5 i0 Try.underlying23 Try.underlying9 hi hz1 g s.size c cur hgg u hroom (by omega)
      rw [hr] at hr2
      cases hr2
      exact ⟨g, c, _, hr, ho, hg, .inl rfl⟩
    · have hr2 := Lib.run_append_grow_string (P := Try.prog) w 23 9 ty 5 i0 (.int .u8 0) Try.underlying23 Try.underlying9 hi hz0 ⟨g, 0, none⟩ s.size c (cellsOfStr s) (by rw [hz1, cellsOfStr_length]; omega) hcells u (by omega) (by omega) (by rw [hz2]; exact growslice_fits (by omega) (by omega))
      rw [hr] at hr2
      cases hr2
      exact ⟨_, _, _, hr, ho, hg, .inr (Nat.le_refl _)⟩

theorem wpList_addStr {ops : Array Oper} {rest : List Oper} {o : Oper} {t : Act} {Q : Exit → Act → World → Prop} (hgd : o.guard = none) (sl x : Operand)
    (ho : o.op = .call { callee := .builtin .append, args := #[sl, x], argTypes := #[23, 9] })
    (w : World) (base g c : Nat) (s u : ByteArray) (n : Nat) (hn : n = s.size) (hs : t.eval sl = .slice (some ⟨g, 0, none⟩) n c) (hx : t.eval x = .string u)
    (hown : w.ownsRow base 5 1 (.slice (some ⟨g, 0, none⟩) s.size c) s.size (cellsOfStr s)) (hl : s.size + u.size ≤ 140737488355328) (hbase : base ≤ w.heap.size)
    (h : ∀ g' c' w', w'.ownsRow base 5 1 (.slice (some ⟨g', 0, none⟩) (s ++ u).size c') (s ++ u).size (cellsOfStr (s ++ u)) → w.grownBy w' (some g) → (g' = g ∨ w.heap.size ≤ g') → wpList Try.prog ops Q rest (t.put o.dst (.slice (some ⟨g', 0, none⟩) (n + u.size) c')) w') :
    wpList Try.prog ops Q (o :: rest) t w :=
  wpList_plain hgd fun _ hK => by
    subst hn
    obtain ⟨g', c', w', hr, h2, h3, h4⟩ := append_addStr w base o.type g c s u hown hl hbase
    have e : s.size + u.size = (s ++ u).size := by rw [ByteArray.size_append]
    have h2' := h2
    rw [e] at h2'
    unfold Oper.wp execOp
    simp only [ho, resolve, invoke, builtin, Sem.run_bind, Sem.run_pure, Result.andThen_ok, List.map_toArray, List.map_cons, List.map_nil, hs, hx, hr]
    exact hK _ _ (h g' c' w' h2' h3 h4)

/-- An owned row of bytes. -/
abbrev OwnB (B : Nat) (w : World) (g c : Nat) (s : ByteArray) : Prop := w.ownsRow B 5 1 (.slice (some ⟨g, 0, none⟩) s.size c) s.size (cellsOfStr s)
/-- Two owned rows of bytes, in different blocks. -/
structure Duo (w : World) (sd sr : ByteArray) (gd cd gr cr : Nat) (wr : World) : Prop where
  bel : Below w.heap.size w wr
  d : OwnB w.heap.size wr gd cd sd
  r : OwnB w.heap.size wr gr cr sr
  ne : gd ≠ gr
theorem Duo.below {w wr w' : World} {sd sr : ByteArray} {gd cd gr cr : Nat} (h : Duo w sd sr gd cd gr cr wr) (hb : Below wr.heap.size wr w') : Duo w sd sr gd cd gr cr w' :=
  ⟨h.bel.trans (hb.mono h.bel.size), owns_stay h.d hb, owns_stay h.r hb, h.ne⟩
theorem Duo.addR {w wr w' : World} {sd sr s2 : ByteArray} {gd cd gr cr g' c' : Nat} (h : Duo w sd sr gd cd gr cr wr) (ho : OwnB w.heap.size w' g' c' s2) (hg : wr.grownBy w' (some gr)) (hat : g' = gr ∨ wr.heap.size ≤ g') : Duo w sd s2 gd cd g' c' w' := by
  have hd := owns_lt h.d
  refine ⟨grown_below h.bel hg h.bel.size (owns_lt h.r).2, owns_keep h.d (fun hl => hg.block gd hl (by simp; exact h.ne)), ho, ?_⟩
  rcases hat with rfl | hat
  · exact h.ne
  · omega
theorem Duo.addD {w wr w' : World} {sd sr s2 : ByteArray} {gd cd gr cr g' c' : Nat} (h : Duo w sd sr gd cd gr cr wr) (ho : OwnB w.heap.size w' g' c' s2) (hg : wr.grownBy w' (some gd)) (hat : g' = gd ∨ wr.heap.size ≤ g') : Duo w s2 sr g' c' gr cr w' := by
  have hd := owns_lt h.r
  refine ⟨grown_below h.bel hg h.bel.size (owns_lt h.d).2, ho, owns_keep h.r (fun hl => hg.block gr hl (by simp; exact Ne.symm h.ne)), ?_⟩
  rcases hat with rfl | hat
  · exact h.ne
  · omega
theorem own_empty (w0 w : World) (h : w0.heap.size ≤ w.heap.size) : OwnB w0.heap.size (w.alloc (.cells #[] 5)) w.heap.size 0 ByteArray.empty :=
  ⟨rfl, .inr ⟨w.heap.size, 0, #[], rfl, h, heap_alloc_new w _, Nat.le_refl _, by unfold maxLen; omega, rfl, rfl⟩⟩

/-- Pieces in memory. -/
def IsP (w : World) (b : Nat) (l : List Pce) : Prop := ∀ i p, l[i]? = some p → w.cell? ⟨b, i * 2, none⟩ = some (.string p.1) ∧ ∃ a c, w.cell? ⟨b, i * 2 + 1, none⟩ = some (.slice a p.2.size c) ∧ IsB w a p.2.size c p.2
theorem IsP.below {w w' : World} {b : Nat} {l : List Pce} (h : IsP w b l) (hb : Below w.heap.size w w') : IsP w' b l := by
  intro i p hp
  obtain ⟨h1, a, c, h2, h3⟩ := h i p hp
  exact ⟨keepC hb h1, a, c, keepC hb h2, h3.below hb⟩

theorem isB_cells {w : World} {b off len cap : Nat} {s : ByteArray} (h : IsB w (some ⟨b, off, none⟩) len cap s) : ∀ j v, (cellsOfStr s)[j]? = some v → w.cell? ((⟨b, off, none⟩ : Addr).add j) = some v := by
  intro j v hj
  have hjl : j < s.size := by
    rcases Nat.lt_or_ge j s.size with h | h
    · exact h
    · rw [List.getElem?_eq_none (by rw [cellsOfStr_length]; exact h)] at hj; cases hj
  obtain ⟨h1, _, h0 | ⟨b', off', e, hc⟩⟩ := h
  · omega
  · cases e
    rw [cellsOfStr_get s j hjl] at hj
    rw [Addr.add_lit, hc j (by omega)]
    exact hj

/-- append of a row of bytes to one that has no room: a new row, and nothing that was there has changed. -/
theorem append_new (w : World) (ty : TypeId) (b : Nat) (c : Nat) (s u : ByteArray) (b2 off2 cap : Nat) (hA : IsB w (some ⟨b, 0, none⟩) s.size c s)
    (hB : IsB w (some ⟨b2, off2, none⟩) u.size cap u) (hs : s.size + u.size ≤ 1000000000) (hc : c < s.size + u.size) :
    ∃ c' w', (Builtin.append_ #[23, 23] ty #[.slice (some ⟨b, 0, none⟩) s.size c, .slice (some ⟨b2, off2, none⟩) u.size cap]).run Try.prog w = .ok (.slice (some ⟨w.heap.size, 0, none⟩) (s.size + u.size) c') w' ∧
      OwnB w.heap.size w' w.heap.size c' (s ++ u) ∧ Below w.heap.size w w' := by
  obtain ⟨i0, hi, hz0, hz1, hz2⟩ := info_parts infoU8
  have hr := run_append_grow (P := Try.prog) w 23 ty 5 i0 (.int .u8 0) Try.underlying23 hi hz0 ⟨b, 0, none⟩ s.size c (cellsOfStr s) (by rw [hz1, cellsOfStr_length]; omega) (isB_cells hA) ⟨b2, off2, none⟩ u.size cap (cellsOfStr u) (by rw [hz1, cellsOfStr_length]; omega) (isB_cells hB) hc (by omega) (by rw [hz2]; exact growslice_fits (by have := hA.2.1; omega) (by omega))
  have e : s.size + u.size = (s ++ u).size := by rw [ByteArray.size_append]
  refine ⟨_, _, hr, ?_, (Below.refl w.heap.size w).drew.alloc (Nat.le_refl _) _⟩
  refine ⟨by rw [cellsOfStr_length]; omega, .inr ⟨w.heap.size, _, _, rfl, Nat.le_refl _, heap_alloc_new w.drew _, ?_, ?_, ?_, ?_⟩⟩
  · rw [← e]; exact grownCap_ge w _ _ _
  · exact grownCap_le_maxLen w _ _ _ (by unfold maxLen; omega)
  · have hz1 : (Value.int IntKind.u8 0).cells.size = 1 := rfl
    have := grownCap_ge w (s.size + u.size) c 5
    simp only [Array.size_append, List.size_toArray, size_zeroCells, hz1, cellsOfStr_length]
    omega
  · rw [cellsOfStr_join]
    simp only [Array.toList_append, List.append_assoc]
    rw [← List.append_assoc, ← e]
    have : (s.size + u.size) * 1 = (cellsOfStr s ++ cellsOfStr u).length := by rw [List.length_append, cellsOfStr_length, cellsOfStr_length]; omega
    rw [this]
    exact List.take_left
theorem wpList_new {ops : Array Oper} {rest : List Oper} {o : Oper} {t : Act} {Q : Exit → Act → World → Prop} (hgd : o.guard = none) (sl x : Operand)
    (ho : o.op = .call { callee := .builtin .append, args := #[sl, x], argTypes := #[23, 23] })
    (w : World) (b c : Nat) (s u : ByteArray) (b2 off2 cap n m : Nat) (hn : n = s.size) (hm : m = u.size) (hs : t.eval sl = .slice (some ⟨b, 0, none⟩) n c) (hx : t.eval x = .slice (some ⟨b2, off2, none⟩) m cap)
    (hA : IsB w (some ⟨b, 0, none⟩) s.size c s) (hB : IsB w (some ⟨b2, off2, none⟩) u.size cap u) (hl : s.size + u.size ≤ 1000000000) (hc : c < s.size + u.size)
    (h : ∀ c' w', OwnB w.heap.size w' w.heap.size c' (s ++ u) → Below w.heap.size w w' → wpList Try.prog ops Q rest (t.put o.dst (.slice (some ⟨w.heap.size, 0, none⟩) (n + m) c')) w') :
    wpList Try.prog ops Q (o :: rest) t w :=
  wpList_plain hgd fun _ hK => by
    subst hn hm
    obtain ⟨c', w', hr, h2, h3⟩ := append_new w o.type b c s u b2 off2 cap hA hB hl hc
    unfold Oper.wp execOp
    simp only [ho, resolve, invoke, builtin, Sem.run_bind, Sem.run_pure, Result.andThen_ok, List.map_toArray, List.map_cons, List.map_nil, hs, hx, hr]
    exact hK _ _ (h c' w' h2 h3)

end Go.Proofs.Ytbcjicmledckbaa
