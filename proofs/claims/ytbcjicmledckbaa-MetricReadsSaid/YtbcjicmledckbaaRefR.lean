/-
  A row of the directory read in the file itself; the order of tags is total; append of one row to an owned row of tables or to none.
-/
import Derived.Test.YtbcjicmledckbaaRefB
import Derived.Test.YtbcjicmledckbaaMtB
import Derived.Test.YtbcjicmledckbaaBig
namespace Go.Proofs.Ytbcjicmledckbaa
open Go.RowKit Go.PlainAid
set_option linter.unusedSimpArgs false
set_option linter.unusedVariables false

theorem less_total : ∀ (a b : List UInt8), Op.bytesLess b a = !(Op.bytesLess a b || a == b)
  | [], [] => by simp [Op.bytesLess]
  | [], y :: b => by simp [Op.bytesLess]
  | x :: a, [] => by simp [Op.bytesLess]
  | x :: a, y :: b => by
    have ih := less_total a b
    simp only [Op.bytesLess]
    by_cases h : x = y
    · subst h
      simp [ih]
    · have h' : ¬ y = x := fun e => h e.symm
      have hx : (x == y) = false := by simpa using h
      have hy : (y == x) = false := by simpa using h'
      have hc : ((x :: a) == (y :: b)) = false := by simp [h]
      simp only [hx, hy, hc, Bool.false_and, Bool.or_false]
      by_cases hlt : x < y
      · have : ¬ y < x := by
          intro h2
          exact absurd (UInt8.lt_trans hlt h2) (UInt8.lt_irrefl _)
        simp [hlt, this]
      · have : y < x := by
          rcases UInt8.lt_or_lt_of_ne h with h2 | h2
          · exact absurd h2 hlt
          · exact h2
        simp [hlt, this]

theorem seg_extract {s : ByteArray} {p n : Nat} (h : p + n ≤ s.size) : Seg s p (s.extract p (p + n)) := by
  have hz : (s.extract p (p + n)).size = n := by rw [ByteArray.size_extract]; omega
  refine ⟨by rw [hz]; exact h, fun i hi => ?_⟩
  rw [hz] at hi
  rw [bt_extract s p (p + n) i h (by omega)]
theorem numOr_cut {s : ByteArray} {p n q k : Nat} (h : p + n ≤ s.size) (hq : q + k ≤ n) : numOr (s.extract p (p + n)) (q : Nat) (k : Nat) = numOr s ((p + q : Nat) : Int) (k : Nat) := by
  have hz : (s.extract p (p + n)).size = n := by rw [ByteArray.size_extract]; omega
  have h1 : hasB (s.extract p (p + n)) (q : Nat) (k : Nat) = true := by unfold hasB; simp [hz]; omega
  have h2 : hasB s ((p + q : Nat) : Int) (k : Nat) = true := by unfold hasB; simp; omega
  unfold numOr
  rw [if_pos h1, if_pos h2, Int.toNat_natCast, Int.toNat_natCast, Int.toNat_natCast, numN_seg (seg_extract h) q k (by rw [hz]; exact hq)]
theorem tagOr_cut {s : ByteArray} {p n : Nat} (h : p + n ≤ s.size) (hq : 4 ≤ n) : tagOr (s.extract p (p + n)) 0 = tagOr s (p : Nat) := by
  have hz : (s.extract p (p + n)).size = n := by rw [ByteArray.size_extract]; omega
  have h1 : hasB (s.extract p (p + n)) 0 4 = true := by unfold hasB; simp [hz]; omega
  have h2 : hasB s (p : Nat) 4 = true := by unfold hasB; simp; omega
  unfold tagOr
  rw [if_pos h1, if_pos h2]
  simp only [Prod.mk.injEq, and_true]
  apply ext_bt
  · rw [ByteArray.size_extract, hz, ByteArray.size_extract]; simp; omega
  · intro i hi
    rw [ByteArray.size_extract, hz] at hi
    simp at hi
    have e1 := bt_extract (s.extract p (p + n)) 0 4 i (by rw [hz]; omega) (by omega)
    have e2 := bt_extract s p (p + n) i h (by omega)
    have e3 := bt_extract s p (p + 4) i (by omega) (by omega)
    simp only [Nat.zero_add] at e1
    simp only [Int.toNat_natCast, Int.toNat_zero, Nat.zero_add]
    rw [e1, e2, e3]

/-- The row at a place, its numbers read in the file. -/
theorem rowOf_file {s : ByteArray} {p : Nat} (h : p + 16 ≤ s.size) : rowOf s (p : Nat) =
    (if hasB s (numOr s ((p + 8 : Nat) : Int) 4).1 (numOr s ((p + 12 : Nat) : Int) 4).1 = false then none
     else if (numOr s ((p + 8 : Nat) : Int) 4).1 % 4 ≠ 0 then none
     else if ((tagOr s (p : Nat)).1.toList == [104, 101, 97, 100]) = true then some ⟨(tagOr s (p : Nat)).1, (numOr s ((p + 8 : Nat) : Int) 4).1, (numOr s ((p + 12 : Nat) : Int) 4).1⟩
     else if sumB (s.extract (numOr s ((p + 8 : Nat) : Int) 4).1.toNat ((numOr s ((p + 8 : Nat) : Int) 4).1.toNat + (numOr s ((p + 12 : Nat) : Int) 4).1.toNat)) ≠ (numOr s ((p + 4 : Nat) : Int) 4).1 then none
     else some ⟨(tagOr s (p : Nat)).1, (numOr s ((p + 8 : Nat) : Int) 4).1, (numOr s ((p + 12 : Nat) : Int) 4).1⟩) := by
  have h2 : hasB s (p : Nat) 16 = true := by unfold hasB; simp; omega
  have e8 := numOr_cut (q := 8) (k := 4) h (by omega)
  have e12 := numOr_cut (q := 12) (k := 4) h (by omega)
  have e4 := numOr_cut (q := 4) (k := 4) h (by omega)
  have e0 := tagOr_cut (n := 16) h (by omega)
  unfold rowOf
  rw [if_neg (by rw [h2]; decide), Int.toNat_natCast]
  unfold rowIn
  have c8 : numOr (s.extract p (p + 16)) 8 4 = numOr s ((p + 8 : Nat) : Int) 4 := e8
  have c12 : numOr (s.extract p (p + 16)) 12 4 = numOr s ((p + 12 : Nat) : Int) 4 := e12
  have c4 : numOr (s.extract p (p + 16)) 4 4 = numOr s ((p + 4 : Nat) : Int) 4 := e4
  rw [c8, c12, c4, e0]

/-- An owned row of tables, or none. -/
abbrev OwnT (B : Nat) (w : World) (v : Value) (l : List Row) : Prop := w.ownsRow B 64 3 v l.length (rowCells l)
theorem ownT_nil (B : Nat) (w : World) : OwnT B w (.slice none 0 0) [] := ⟨rfl, .inl ⟨rfl, rfl⟩⟩
theorem ownT_keep {B : Nat} {w w' : World} {v : Value} {l : List Row} (h : OwnT B w v l) (hk : ∀ g, v.ownBlock = some g → g < w.heap.size → w'.heap[g]? = w.heap[g]?) : OwnT B w' v l := by
  refine ⟨h.1, ?_⟩
  rcases h.2 with hn | ⟨g, cap, cur, hv, hb, hg, rest⟩
  · exact .inl hn
  · exact .inr ⟨g, cap, cur, hv, hb, by rw [hk g (by rw [hv]; rfl) (Array.getElem?_eq_some_iff.1 hg).1]; exact hg, rest⟩
theorem wpList_addT {ops : Array Oper} {rest : List Oper} {o : Oper} {t : Act} {Q : Exit → Act → World → Prop} (hgd : o.guard = none) (sl y : Operand)
    (ho : o.op = .call { callee := .builtin .append, args := #[sl, y], argTypes := #[24, 24] })
    (w : World) (base : Nat) (v : Value) (l : List Row) (X : Nat) (r : Row) (hs : t.eval sl = v) (hy : t.eval y = .slice (some ⟨X, 0, none⟩) 1 1)
    (hown : OwnT base w v l) (h0 : w.cell? ⟨X, 0, none⟩ = some (.string r.tag)) (h1 : w.cell? ⟨X, 1, none⟩ = some (.int .i64 r.place)) (h2 : w.cell? ⟨X, 2, none⟩ = some (.int .i64 r.len)) (hl : l.length ≤ 100000) (hbase : base ≤ w.heap.size)
    (h : ∀ g' c' w', OwnT base w' (.slice (some ⟨g', 0, none⟩) (l.length + 1) c') (l ++ [r]) → w.grownBy w' v.ownBlock → (v.ownBlock = some g' ∨ g' = w.heap.size) → g' < w'.heap.size → wpList Try.prog ops Q rest (t.put o.dst (.slice (some ⟨g', 0, none⟩) (l.length + 1) c')) w') :
    wpList Try.prog ops Q (o :: rest) t w := by
  obtain ⟨i0, hi, hz0, hz1, hz2⟩ := info_parts infoTable
  refine wpList_append_lies _ hgd sl y _ ho base 64 i0 _ 3 _ Try.underlying24 hi hz0 hz1 hz2 rfl (by omega) v l.length (rowCells l) hs hown ⟨X, 0, none⟩ 1 1 [.string r.tag, .int .i64 r.place, .int .i64 r.len] hy rfl ?_ ?_ (by omega) (by unfold maxLen; omega) (by omega) hbase w.heap.size rfl ?_
  · intro j u hj
    rw [Addr.add_lit, Nat.zero_add]
    match j, hj with
    | 0, hj => simp at hj; subst hj; exact h0
    | 1, hj => simp at hj; subst hj; exact h1
    | 2, hj => simp at hj; subst hj; exact h2
  · intro u hu
    simp at hu
    rcases hu with rfl | rfl | rfl <;> rfl
  · intro g' c' w' ho' hg' hat hlt
    refine h g' c' w' ?_ hg' hat hlt
    show w'.ownsRow _ _ _ _ (l ++ [r]).length (rowCells (l ++ [r]))
    rw [List.length_append, rowCells_snoc]
    exact ho'

end Go.Proofs.Ytbcjicmledckbaa
