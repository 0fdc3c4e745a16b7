/-
  append of one number to an owned row of numbers, or to the row that is none: at a plain region's list, and at a step of a region that draws.
-/
import Derived.Test.YtbcjicmledckbaaBig
namespace Go.Proofs.Ytbcjicmledckbaa
open Go.RowKit Go.PlainAid
set_option linter.unusedSimpArgs false
set_option linter.unusedVariables false

/-- An owned row of numbers, or none. -/
abbrev OwnI (B : Nat) (w : World) (v : Value) (L : List Int) : Prop := w.ownsRow B 3 1 v L.length (L.map (Value.int .i64))
theorem ownI_nil (B : Nat) (w : World) : OwnI B w (.slice none 0 0) [] := ⟨rfl, .inl ⟨rfl, rfl⟩⟩
theorem ownI_keep {B : Nat} {w w' : World} {v : Value} {L : List Int} (h : OwnI B w v L) (hk : ∀ g, v.ownBlock = some g → g < w.heap.size → w'.heap[g]? = w.heap[g]?) : OwnI B w' v L := by
  refine ⟨h.1, ?_⟩
  rcases h.2 with hn | ⟨g, cap, cur, hv, hb, hg, rest⟩
  · exact .inl hn
  · exact .inr ⟨g, cap, cur, hv, hb, by rw [hk g (by rw [hv]; rfl) (Array.getElem?_eq_some_iff.1 hg).1]; exact hg, rest⟩
theorem ownI_form {B : Nat} {w : World} {v : Value} {L : List Int} (h : OwnI B w v L) : (v = .slice none 0 0 ∧ L = []) ∨ ∃ g c, v = .slice (some ⟨g, 0, none⟩) L.length c ∧ B ≤ g ∧ g < w.heap.size := by
  rcases h.2 with ⟨h1, h2⟩ | ⟨g, cap, cur, hv, hb, hg, _⟩
  · exact .inl ⟨h1, List.eq_nil_of_length_eq_zero h2⟩
  · exact .inr ⟨g, cap, hv, hb, (Array.getElem?_eq_some_iff.1 hg).1⟩
theorem ownI_isI {B : Nat} {w : World} {g n c : Nat} {L : List Int} (h : OwnI B w (.slice (some ⟨g, 0, none⟩) n c) L) (hn : n = L.length) : IsI w (some ⟨g, 0, none⟩) n c L := by
  subst hn
  refine ⟨rfl, .inr ⟨g, 0, rfl, fun i hi => ?_⟩⟩
  rw [Nat.zero_add]
  exact (owns_cell h (u := .int .i64 (L.getD i 0)) (by simp [List.getD, hi])).1

theorem append_addI (w : World) (base : Nat) (ty : TypeId) (v : Value) (L : List Int) (X : Nat) (x : Int) (hown : OwnI base w v L) (hx : w.cell? ⟨X, 0, none⟩ = some (.int .i64 x)) (hl : L.length ≤ 1000000) (hbase : base ≤ w.heap.size) :
    ∃ g' c' w', (Builtin.append_ #[33, 33] ty #[v, .slice (some ⟨X, 0, none⟩) 1 1]).run Try.prog w = .ok (.slice (some ⟨g', 0, none⟩) (L.length + 1) c') w' ∧
      OwnI base w' (.slice (some ⟨g', 0, none⟩) (L.length + 1) c') (L ++ [x]) ∧ w.grownBy w' v.ownBlock ∧ (v.ownBlock = some g' ∨ g' = w.heap.size) ∧ g' < w'.heap.size := by
  obtain ⟨i0, hi, hz0, hz1, hz2⟩ := info_parts infoInt
  obtain ⟨g', c', w', hr, ho, hg, hat, hlt⟩ := run_append_lies (P := Try.prog) w 33 ty base 3 i0 (.int .i64 0) 1 8 Try.underlying33 hi hz0 hz1 hz2 rfl (by decide) v L.length (L.map (Value.int .i64)) hown
    ⟨X, 0, none⟩ 1 1 [.int .i64 x] rfl
    (fun j u hj => by
      match j, hj with
      | 0, hj => simp at hj; subst hj; rw [Addr.add_lit]; exact hx)
    (fun u hu => by simp at hu; subst hu; rfl)
    (by omega) (by unfold maxLen; omega) (by omega) hbase w.heap.size rfl
  refine ⟨g', c', w', hr, ?_, hg, hat, hlt⟩
  show w'.ownsRow _ _ _ _ (L ++ [x]).length ((L ++ [x]).map _)
  rw [List.length_append, List.map_append]
  exact ho
theorem wpList_addI {ops : Array Oper} {rest : List Oper} {o : Oper} {t : Act} {Q : Exit → Act → World → Prop} (hgd : o.guard = none) (sl y : Operand)
    (ho : o.op = .call { callee := .builtin .append, args := #[sl, y], argTypes := #[33, 33] })
    (w : World) (base : Nat) (v : Value) (L : List Int) (X : Nat) (x : Int) (hs : t.eval sl = v) (hy : t.eval y = .slice (some ⟨X, 0, none⟩) 1 1)
    (hown : OwnI base w v L) (hx : w.cell? ⟨X, 0, none⟩ = some (.int .i64 x)) (hl : L.length ≤ 1000000) (hbase : base ≤ w.heap.size)
    (h : ∀ g' c' w', OwnI base w' (.slice (some ⟨g', 0, none⟩) (L.length + 1) c') (L ++ [x]) → w.grownBy w' v.ownBlock → (v.ownBlock = some g' ∨ g' = w.heap.size) → g' < w'.heap.size → wpList Try.prog ops Q rest (t.put o.dst (.slice (some ⟨g', 0, none⟩) (L.length + 1) c')) w') :
    wpList Try.prog ops Q (o :: rest) t w :=
  wpList_plain hgd fun _ hK => by
    obtain ⟨g', c', w', hr, h2, h3, h4, h5⟩ := append_addI w base o.type v L X x hown hx hl hbase
    unfold Oper.wp execOp
    simp only [ho, resolve, invoke, builtin, Sem.run_bind, Sem.run_pure, Result.andThen_ok, List.map_toArray, List.map_cons, List.map_nil, hs, hy, hr]
    exact hK _ _ (h g' c' w' h2 h3 h4 h5)
theorem step_addI {ops : Array Oper} {o : Oper} {t : Act} {K : Act → World → Prop} {Q : Exit → Act → World → Prop} {E : Prop} (hgd : o.guard = none) (sl y : Operand)
    (ho : o.op = .call { callee := .builtin .append, args := #[sl, y], argTypes := #[33, 33] })
    (w : World) (base : Nat) (v : Value) (L : List Int) (X : Nat) (x : Int) (hs : t.eval sl = v) (hy : t.eval y = .slice (some ⟨X, 0, none⟩) 1 1)
    (hown : OwnI base w v L) (hx : w.cell? ⟨X, 0, none⟩ = some (.int .i64 x)) (hl : L.length ≤ 1000000) (hbase : base ≤ w.heap.size)
    (h : ∀ g' c' w', OwnI base w' (.slice (some ⟨g', 0, none⟩) (L.length + 1) c') (L ++ [x]) → w.grownBy w' v.ownBlock → (v.ownBlock = some g' ∨ g' = w.heap.size) → g' < w'.heap.size → K (t.put o.dst (.slice (some ⟨g', 0, none⟩) (L.length + 1) c')) w') :
    if Region.wanted o (yielded ops t.tmps) = true then Oper.wp Try.prog o t w K Q else E := by
  have hw : Region.wanted o (yielded ops t.tmps) = true := by simp [Region.wanted, hgd]
  rw [if_pos hw]
  obtain ⟨g', c', w', hr, h2, h3, h4, h5⟩ := append_addI w base o.type v L X x hown hx hl hbase
  unfold Oper.wp execOp
  simp only [ho, resolve, invoke, builtin, Sem.run_bind, Sem.run_pure, Result.andThen_ok, List.map_toArray, List.map_cons, List.map_nil, hs, hy, hr]
  exact h g' c' w' h2 h3 h4 h5

end Go.Proofs.Ytbcjicmledckbaa
