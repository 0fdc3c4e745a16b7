/-
  The copy of a slice of bytes by append to a new empty slice: it owns its bytes, which are the slice's, and nothing that was there has changed. Condition: the slice has at most 2 to the 47th bytes.
-/
import Derived.Test.YtckadnegilmdbaaPeekR
import Derived.Laws.AppendOwn
import Derived.OwnWalk
namespace Go.Proofs.Ytckadnegilmdbaa
open Go.RowKit Go.PlainAid
set_option linter.unusedSimpArgs false
set_option linter.unusedVariables false

theorem infoU8 : (Try.prog.info? 5).map (fun i => (i.zero, i.size, i.bytes)) = some (some (.int .u8 0), 1, 1) := by kernel_rfl

/-- The cells of a text's bytes. -/
def cellsOfStr (s : ByteArray) : List Value := (List.range s.size).map fun i => .int .u8 (bt s i)
theorem cellsOfStr_length (s : ByteArray) : (cellsOfStr s).length = s.size := by simp [cellsOfStr]
theorem cellsOfStr_get (s : ByteArray) (i : Nat) (h : i < s.size) : (cellsOfStr s)[i]? = some (.int .u8 (bt s i)) := by simp [cellsOfStr, h]

theorem isB_of_owns {w : World} {base : Nat} {a : Option Addr} {n c : Nat} {s : ByteArray} (h : w.ownsRow base 5 1 (.slice a n c) s.size (cellsOfStr s)) : IsB w a n c s := by
  have h0 := h
  rcases h.2 with ⟨hv, hn⟩ | ⟨g, cap, cur, hv, _, _, hnc, _, _, _⟩
  · cases hv
    exact ⟨hn, Nat.le_refl _, .inl rfl⟩
  · cases hv
    refine ⟨rfl, hnc, .inr ⟨g, 0, rfl, fun i hi => ?_⟩⟩
    have := h0.cells (g := g) rfl i _ (cellsOfStr_get s i hi)
    have hplain : (⟨g, 0, none⟩ : Addr).add i = ⟨g, 0 + i, none⟩ := by unfold Addr.add; split <;> simp_all
    rw [hplain] at this
    exact this

theorem append_copy (w : World) (ty : TypeId) (a : Option Addr) (len cap : Nat) (s : ByteArray) (hB : IsB w a len cap s) (hs : len ≤ 140737488355328) :
    ∃ g c' w', (Builtin.append_ #[22, 22] ty #[.slice (some ⟨w.heap.size, 0, none⟩) 0 0, .slice a len cap]).run Try.prog (w.alloc (.cells #[] 5)) = .ok (.slice (some ⟨g, 0, none⟩) len c') w' ∧
      w'.ownsRow w.heap.size 5 1 (.slice (some ⟨g, 0, none⟩) len c') s.size (cellsOfStr s) ∧ Below w.heap.size w w' := by
  obtain ⟨i0, hi, hz0, hz1, hz2⟩ := info_parts infoU8
  have hown : (w.alloc (.cells #[] 5)).ownsRow w.heap.size 5 1 (.slice (some ⟨w.heap.size, 0, none⟩) 0 0) 0 [] := World.ownsRow_made w #[] 0 (Nat.le_refl _) (by decide) rfl
  obtain ⟨h1, h2, rfl | ⟨b, off, rfl, hc⟩⟩ := hB
  · refine ⟨w.heap.size, 0, w.alloc (.cells #[] 5), ?_, ?_, (Below.refl _ _).alloc (Nat.le_refl _) _⟩
    · cases a <;> simp [Builtin.append_, run_underlying Try.underlying22, sizeOf, typeInfo, hi, Builtin.lenOf, Builtin.firstCells, loadCells, loadCellsFrom, storeCells]
    · have e : cellsOfStr s = [] := by simp [cellsOfStr, h1]
      rw [e, h1]
      exact hown
  · have hbelow : Below w.heap.size w (w.alloc (.cells #[] 5)) := (Below.refl _ _).alloc (Nat.le_refl _) _
    obtain ⟨v', w', hr, ho, hg, hn⟩ := run_append_own (P := Try.prog) (w.alloc (.cells #[] 5)) w.heap.size 22 ty 5 i0 (.int .u8 0) 1 1 Try.underlying22 hi hz0 hz1 hz2 rfl (by decide) _ 0 [] hown
      ⟨b, off, none⟩ len cap (cellsOfStr s) (by rw [cellsOfStr_length]; omega)
      (fun j u hj => by
        have hjl : j < s.size := by
          rcases Nat.lt_or_ge j s.size with h | h
          · exact h
          · rw [List.getElem?_eq_none (by rw [cellsOfStr_length]; exact h)] at hj; cases hj
        rw [cellsOfStr_get s j hjl] at hj
        have hcj := hc j (by omega)
        have hlt := World.block_lt_of_cell? w _ hcj
        have hplain : (⟨b, off, none⟩ : Addr).add j = ⟨b, off + j, none⟩ := by unfold Addr.add; split <;> simp_all
        rw [hplain, hbelow.cell (p := ⟨b, off + j, none⟩) hlt, hcj]
        exact hj)
      (fun u hu => by
        simp [cellsOfStr] at hu
        obtain ⟨_, _, rfl⟩ := hu
        rfl)
      (by unfold maxLen; omega) (by omega) (by simp)
    simp only [Nat.zero_add, List.nil_append] at ho
    have hv : ∃ g c', v' = .slice (some ⟨g, 0, none⟩) len c' := by
      rcases ho.2 with ⟨hv, _⟩ | ⟨g, cap, cur, hv, _⟩
      · have := (hn.1 hv).1
        cases this
      · exact ⟨_, _, hv⟩
    obtain ⟨g, c', rfl⟩ := hv
    refine ⟨g, c', w', hr, by rw [h1]; exact ho, hbelow.grown hg (by simp) ?_⟩
    intro k hk
    simp [Value.ownBlock] at hk
    omega

theorem wpList_copy {ops : Array Oper} {rest : List Oper} {o : Oper} {t : Act} {Q : Exit → Act → World → Prop} (hgd : o.guard = none) (sl x : Operand)
    (ho : o.op = .call { callee := .builtin .append, args := #[sl, x], argTypes := #[22, 22] })
    (w : World) (a : Option Addr) (len cap : Nat) (s : ByteArray) (hs : t.eval sl = .slice (some ⟨w.heap.size, 0, none⟩) 0 0) (hx : t.eval x = .slice a len cap) (hB : IsB w a len cap s) (hl : len ≤ 140737488355328)
    (h : ∀ g c' w', w'.ownsRow w.heap.size 5 1 (.slice (some ⟨g, 0, none⟩) len c') s.size (cellsOfStr s) → Below w.heap.size w w' → wpList Try.prog ops Q rest (t.put o.dst (.slice (some ⟨g, 0, none⟩) len c')) w') :
    wpList Try.prog ops Q (o :: rest) t (w.alloc (.cells #[] 5)) :=
  wpList_plain hgd fun _ hK => by
    obtain ⟨g, c', w', hr, h2, h3⟩ := append_copy w o.type a len cap s hB hl
    unfold Oper.wp execOp
    simp only [ho, resolve, invoke, builtin, Sem.run_bind, Sem.run_pure, Result.andThen_ok, List.map_toArray, List.map_cons, List.map_nil, hs, hx, hr]
    exact hK _ _ (h g c' w' h2 h3)

#print axioms wpList_copy
end Go.Proofs.Ytckadnegilmdbaa
