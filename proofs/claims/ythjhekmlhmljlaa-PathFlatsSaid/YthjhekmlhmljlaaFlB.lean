/-
  What Flat of package path gives: an outline's polygons in new memory, or refused for its reason.
-/
import Derived.Test.YthjhekmlhmljlaaFlA
namespace Go.Proofs.Ythjhekmlhmljlaa
open Go.RowKit Go.PlainAid
set_option linter.unusedSimpArgs false
set_option linter.unusedVariables false

/-- Rows of rows in new memory: the block g holds them, each is owned, one behind the other in memory; the last k are none yet. -/
structure OutAt {α : Type} (cl : α → List Value) (s : Nat) (T TS : TypeId) (g : Nat) (vs : List Value) (Ls : List (List α)) (k : Nat) (N : Nat → Nat) (V : World) : Prop where
  blk : V.heap[g]? = some (.cells (vs ++ List.replicate k (Value.slice none 0 0)).toArray TS (0, 0))
  len : vs.length = Ls.length
  row : ∀ i v L, vs[i]? = some v → Ls[i]? = some L → ∃ a c, v = .slice a L.length c ∧ V.ownsRow (N i) T s (.slice a L.length c) L.length (L.flatMap cl) ∧ ∀ h, (Value.slice a L.length c).ownBlock = some h → h < N (i + 1)
  up : ∀ i, N i ≤ N (i + 1)
  lo : g < N 0
  hi : N Ls.length ≤ V.heap.size
theorem up_le {N : Nat → Nat} (h : ∀ i, N i ≤ N (i + 1)) : ∀ (j i : Nat), i ≤ j → N i ≤ N j
  | 0, i, hij => by have : i = 0 := by omega
                    subst this; exact Nat.le_refl _
  | j + 1, i, hij => by
    by_cases e : i = j + 1
    · subst e; exact Nat.le_refl _
    · exact Nat.le_trans (up_le h j i (by omega)) (h j)
theorem OutAt.below {α : Type} {cl : α → List Value} {s : Nat} {T TS : TypeId} {g : Nat} {vs : List Value} {Ls : List (List α)} {k : Nat} {N : Nat → Nat} {V V' : World} (h : OutAt cl s T TS g vs Ls k N V) (hb : Below V.heap.size V V') : OutAt cl s T TS g vs Ls k N V' := by
  refine ⟨by rw [hb.block g (Array.getElem?_eq_some_iff.1 h.blk).1]; exact h.blk, h.len, fun i v L hv hL => ?_, h.up, h.lo, Nat.le_trans h.hi hb.size⟩
  obtain ⟨a, c, e, ho, hlt⟩ := h.row i v L hv hL
  exact ⟨a, c, e, own_below ho hb, hlt⟩
/-- One row more. -/
theorem OutAt.add {α : Type} {cl : α → List Value} {s : Nat} {T TS : TypeId} {g : Nat} {vs : List Value} {Ls : List (List α)} {k : Nat} {N : Nat → Nat} {V V' : World} {L : List α} {a : Option Addr} {c : Nat} (h : OutAt cl s T TS g vs Ls (k + 1) N V) (hb : Below V.heap.size V V') (ho : V'.ownsRow V.heap.size T s (.slice a L.length c) L.length (L.flatMap cl)) :
    OutAt cl s T TS g (vs ++ [Value.slice a L.length c]) (Ls ++ [L]) k (fun i => if i ≤ Ls.length then (if i = Ls.length then V.heap.size else N i) else V'.heap.size) (V'.setCell ⟨g, Ls.length, none⟩ (.slice a L.length c)) := by
  have h1 := h.below hb
  have hg : g < V.heap.size := (Array.getElem?_eq_some_iff.1 h.blk).1
  have hgN : g < V.heap.size := hg
  refine ⟨?_, by simp [h.len], ?_, ?_, ?_, ?_⟩
  · rw [heap_set h1.blk]
    have e : (vs ++ List.replicate (k + 1) (Value.slice none 0 0)).toArray.setIfInBounds Ls.length (.slice a L.length c) = (vs ++ [Value.slice a L.length c] ++ List.replicate k (Value.slice none 0 0)).toArray := by
      rw [List.setIfInBounds_toArray, ← h.len, List.set_append_right _ _ (Nat.le_refl _), Nat.sub_self, List.replicate_succ]
      simp
    rw [e]
  · intro i v M hv hM
    by_cases hi : i < Ls.length
    · have hv' : vs[i]? = some v := by rw [List.getElem?_append_left (by rw [h.len]; exact hi)] at hv; exact hv
      have hM' : Ls[i]? = some M := by rw [List.getElem?_append_left hi] at hM; exact hM
      obtain ⟨a', c', e, ho', hlt⟩ := h1.row i v M hv' hM'
      refine ⟨a', c', e, ?_, ?_⟩
      · have e1 : (if i ≤ Ls.length then (if i = Ls.length then V.heap.size else N i) else V'.heap.size) = N i := by rw [if_pos (by omega), if_neg (by omega)]
        simp only [e1]
        refine own_keep ho' (fun b hb' => ?_)
        have hb2 := (ho'.lt b hb').1
        have h0 := up_le h.up i 0 (Nat.zero_le _)
        have := h.lo
        exact Below.heap_setCell _ _ _ _ (by show b ≠ g; omega)
      · intro b hb'
        have := hlt b hb'
        by_cases hi2 : i + 1 = Ls.length
        · simp only [hi2, Nat.le_refl, if_true]
          have h3 := h.hi
          rw [hi2] at this
          omega
        · rw [if_pos (by omega), if_neg hi2]; exact this
    · have hil : i = Ls.length := by
        have := (List.getElem?_eq_some_iff.1 hM).1
        simp at this; omega
      subst hil
      have e1 : M = L := by simpa using hM.symm
      have e2 : v = .slice a L.length c := by
        have h4 : (vs ++ [Value.slice a L.length c])[vs.length]? = some v := by rw [h.len]; exact hv
        simpa using h4.symm
      subst e1
      refine ⟨a, c, e2, ?_, ?_⟩
      · simp only [Nat.le_refl, if_true]
        refine own_keep ho (fun b hb' => Below.heap_setCell _ _ _ _ ?_)
        have := (ho.lt b hb').1
        show b ≠ g
        omega
      · intro b hb'
        rw [if_neg (by omega)]
        exact (ho.lt b hb').2
  · intro i
    by_cases h2 : i + 1 ≤ Ls.length
    · by_cases h3 : i + 1 = Ls.length
      · simp only [h3, Nat.le_refl, if_true]
        rw [if_pos (by omega), if_neg (by omega)]
        have h4 := h.up i
        have h5 := h.hi
        rw [h3] at h4
        omega
      · rw [if_pos (by omega), if_neg (by omega), if_pos h2, if_neg h3]; exact h.up i
    · by_cases h3 : i ≤ Ls.length
      · rw [if_pos h3, if_neg h2]
        split
        · exact hb.size
        · omega
      · rw [if_neg h3, if_neg h2]; exact Nat.le_refl _
  · show g < (if 0 ≤ Ls.length then (if 0 = Ls.length then V.heap.size else N 0) else V'.heap.size)
    rw [if_pos (Nat.zero_le _)]
    split
    · exact hg
    · exact h.lo
  · have e : ¬ (Ls ++ [L]).length ≤ Ls.length := by simp
    simp only [e, if_false]
    simp
/-- It is read as these lists. -/
theorem OutAt.isO {α : Type} {cl : α → List Value} {s : Nat} {T TS : TypeId} {g : Nat} {vs : List Value} {Ls : List (List α)} {N : Nat → Nat} {V : World} (h : OutAt cl s T TS g vs Ls 0 N V) : IsO cl V (some ⟨g, 0, none⟩) Ls := by
  refine .inr ⟨g, 0, rfl, fun i c hc => ?_⟩
  have hi := (List.getElem?_eq_some_iff.1 hc).1
  obtain ⟨v, hv⟩ := get_of (show i < vs.length by rw [h.len]; exact hi)
  obtain ⟨a, cp, rfl, ho, _⟩ := h.row i v c hv hc
  refine ⟨a, cp, ?_, ?_, own_isR rfl ho⟩
  · rw [Nat.zero_add, cell_blk h.blk i]
    simp only [List.replicate_zero, List.append_nil]
    simpa using hv
  · rcases ho.2 with ⟨e, h0⟩ | ⟨g', cap', cur, e, _, _, hn, _⟩
    · omega
    · cases e; exact hn

end Go.Proofs.Ythjhekmlhmljlaa
