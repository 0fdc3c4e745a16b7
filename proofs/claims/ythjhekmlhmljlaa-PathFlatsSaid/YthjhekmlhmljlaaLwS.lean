/-
  Rows of rows that a law overwrites and appends to: what stays of them; append to any owned row, none among them. No function of the program. (What XMpB and XLwA say, without what they reach.)
-/
import Derived.Test.YthjhekmlhmljlaaFlC
namespace Go.Proofs.Ythjhekmlhmljlaa
open Go.RowKit Go.PlainAid
set_option linter.unusedSimpArgs false
set_option linter.unusedVariables false

/-- A cell of an owned row is written. -/
theorem own_put {w : World} {B : Nat} {e : TypeId} {s n g c : Nat} {xs : List Value} (h : w.ownsRow B e s (.slice (some ⟨g, 0, none⟩) n c) n xs) (i : Nat) (u : Value) : (w.setCell ⟨g, i, none⟩ u).ownsRow B e s (.slice (some ⟨g, 0, none⟩) n c) n (xs.set i u) := by
  refine ⟨by rw [List.length_set]; exact h.1, ?_⟩
  rcases h.2 with ⟨hv, _⟩ | ⟨g', cap, cur, hv, hb, hg, hnc, hcm, hcs, ht⟩
  · cases hv
  · cases hv
    refine .inr ⟨g, c, cur.setIfInBounds i u, rfl, hb, heap_set hg, hnc, hcm, by rw [Array.size_setIfInBounds]; exact hcs, ?_⟩
    rw [← ht, Array.toList_setIfInBounds, List.take_set]
theorem flat_set (L : List Kn) : ∀ (j : Nat) (k : Kn), (((L.flatMap clK).set (j * 3) (.int .i64 k.x)).set (j * 3 + 1) (.int .i64 k.y)).set (j * 3 + 2) (.int .i64 k.k) = (L.set j k).flatMap clK := by
  induction L with
  | nil => intro j k; simp
  | cons a L ih =>
    intro j k
    cases j with
    | zero => simp [clK]
    | succ j =>
      have h1 : (j + 1) * 3 = j * 3 + 3 := by omega
      rw [List.set_cons_succ, List.flatMap_cons, List.flatMap_cons, ← ih j k, h1]
      simp [clK, List.set_cons_succ]
theorem flat_setS (L : List Sp) : ∀ (j : Nat) (k : Sp), ((L.flatMap clS).set (j * 2) (.int .i64 k.x)).set (j * 2 + 1) (.int .i64 k.y) = (L.set j k).flatMap clS := by
  induction L with
  | nil => intro j k; simp
  | cons a L ih =>
    intro j k
    cases j with
    | zero => simp [clS]
    | succ j =>
      have h1 : (j + 1) * 2 = j * 2 + 2 := by omega
      rw [List.set_cons_succ, List.flatMap_cons, List.flatMap_cons, ← ih j k, h1]
      simp [clS, List.set_cons_succ]
/-- append of a row that is there to any owned row. -/
theorem app_any {t e : TypeId} {s by' : Nat} (H : ElT t e s by') (w : World) (base : Nat) (ty : TypeId) (a0 : Option Addr) (n c : Nat) (xs : List Value) (b m cap : Nat) (news : List Value)
    (hown : w.ownsRow base e s (.slice a0 n c) n xs) (hl : news.length = m * s) (hsrc : Lies w b 0 news) (h1 : ∀ u ∈ news, u.oneCell' = true) (hm0 : 0 < m)
    (hb : (n + m) * by' ≤ 140737488355328) (hm : n + m ≤ 140737488355328) (hbase : base ≤ w.heap.size) :
    ∃ g' c' w', (Builtin.append_ #[t, t] ty #[.slice a0 n c, .slice (some ⟨b, 0, none⟩) m cap]).run Try.prog w = .ok (.slice (some ⟨g', 0, none⟩) (n + m) c') w' ∧
      w'.ownsRow base e s (.slice (some ⟨g', 0, none⟩) (n + m) c') (n + m) (xs ++ news) ∧ w.grownBy w' (Value.slice a0 n c).ownBlock ∧ ((Value.slice a0 n c).ownBlock = some g' ∨ g' = w.heap.size) := by
  obtain ⟨ht, hs0, z, hz, hzs⟩ := H
  obtain ⟨i0, hi, hz0, hz1, hz2⟩ := info_parts hz
  obtain ⟨g', c', w', hr, ho, hg, hat, hlt⟩ := run_append_lies (P := Try.prog) w t ty base e i0 z s by' ht hi hz0 hz1 hz2 hzs hs0 _ n xs hown ⟨b, 0, none⟩ m cap news hl
    (fun j u hj => by rw [Addr.add_lit]; exact hsrc j u hj) h1 (by omega) (by unfold maxLen; omega) hb hbase w.heap.size rfl
  exact ⟨g', c', w', hr, ho, hg, hat⟩
theorem wpList_appA {t e : TypeId} {s by' : Nat} (H : ElT t e s by') {ops : Array Oper} {rest : List Oper} {o : Oper} {f : Act} {Q : Exit → Act → World → Prop} (hgd : o.guard = none) (sl x : Operand)
    (ho : o.op = .call { callee := .builtin .append, args := #[sl, x], argTypes := #[t, t] })
    (w : World) (base : Nat) (a0 : Option Addr) (n c : Nat) (xs : List Value) (b m cap : Nat) (news : List Value) (hs : f.eval sl = .slice a0 n c) (hx : f.eval x = .slice (some ⟨b, 0, none⟩) m cap)
    (hown : w.ownsRow base e s (.slice a0 n c) n xs) (hl : news.length = m * s) (hsrc : Lies w b 0 news) (h1 : ∀ u ∈ news, u.oneCell' = true) (hm0 : 0 < m)
    (hb : (n + m) * by' ≤ 140737488355328) (hm : n + m ≤ 140737488355328) (hbase : base ≤ w.heap.size)
    (h : ∀ g' c' w', w'.ownsRow base e s (.slice (some ⟨g', 0, none⟩) (n + m) c') (n + m) (xs ++ news) → w.grownBy w' (Value.slice a0 n c).ownBlock → ((Value.slice a0 n c).ownBlock = some g' ∨ g' = w.heap.size) → wpList Try.prog ops Q rest (f.put o.dst (.slice (some ⟨g', 0, none⟩) (n + m) c')) w') :
    wpList Try.prog ops Q (o :: rest) f w :=
  wpList_plain hgd fun _ hK => by
    obtain ⟨g', c', w', hr, h2, h3, h4⟩ := app_any H w base o.type a0 n c xs b m cap news hown hl hsrc h1 hm0 hb hm hbase
    unfold Oper.wp execOp
    simp only [ho, resolve, invoke, builtin, Sem.run_bind, Sem.run_pure, Result.andThen_ok, List.map_toArray, List.map_cons, List.map_nil, hs, hx, hr]
    exact hK _ _ (h g' c' w' h2 h3 h4)

/-- The rows from the i-th on, each in blocks of its own. -/
structure Gots (s : Nat) (T TS : TypeId) (V : World) (G n i M : Nat) (vs : List Value) (N : Nat → Nat) : Prop where
  blk : V.heap[G]? = some (.cells vs.toArray TS (0, 0))
  len : vs.length = n
  rows : ∀ j, i ≤ j → j < n → ∃ a m c xs, vs[j]? = some (.slice a m c) ∧ m ≤ M ∧ V.ownsRow (N j) T s (.slice a m c) m xs ∧ ∀ h, (Value.slice a m c).ownBlock = some h → h < N (j + 1)
  up : ∀ j, N j ≤ N (j + 1)
  lo : G < N 0
  hi : N n ≤ V.heap.size
/-- The i-th row: it lies apart from the later ones. -/
def RowI (s : Nat) (T : TypeId) (V : World) (G n i : Nat) (N : Nat → Nat) (a : Option Addr) (m c : Nat) : Prop := ∃ xs, V.ownsRow (G + 1) T s (.slice a m c) m xs ∧ ∀ h, (Value.slice a m c).ownBlock = some h → h < N (i + 1) ∨ N n ≤ h
theorem gots_of {α : Type} {cl : α → List Value} {s : Nat} {T TS : TypeId} {g : Nat} {vs : List Value} {Ls : List (List α)} {N : Nat → Nat} {V : World} {M : Nat} (h : OutAt cl s T TS g vs Ls 0 N V) (hM : ∀ L ∈ Ls, L.length ≤ M) : Gots s T TS V g Ls.length 0 M vs N := by
  refine ⟨by have := h.blk; simpa using this, h.len, fun j _ hj => ?_, h.up, h.lo, h.hi⟩
  obtain ⟨L, hL⟩ := get_of hj
  obtain ⟨v, hv⟩ := get_of (show j < vs.length by rw [h.len]; exact hj)
  obtain ⟨a, c, rfl, ho, hlt⟩ := h.row j v L hv hL
  exact ⟨a, L.length, c, _, hv, hM L (List.mem_of_getElem? hL), ho, hlt⟩
theorem own_up {w : World} {B B' : Nat} {e : TypeId} {s n : Nat} {v : Value} {xs : List Value} (h : w.ownsRow B e s v n xs) (hB : B' ≤ B) : w.ownsRow B' e s v n xs := by
  refine ⟨h.1, ?_⟩
  rcases h.2 with hn | ⟨g, cap, cur, hv, hb, rest⟩
  · exact .inl hn
  · exact .inr ⟨g, cap, cur, hv, Nat.le_trans hB hb, rest⟩
theorem Gots.take {s : Nat} {T TS : TypeId} {V : World} {G n i M : Nat} {vs : List Value} {N : Nat → Nat} (h : Gots s T TS V G n i M vs N) (hi : i < n) : ∃ a m c, vs[i]? = some (.slice a m c) ∧ m ≤ M ∧ RowI s T V G n i N a m c ∧ Gots s T TS V G n (i + 1) M vs N := by
  obtain ⟨a, m, c, xs, h1, h2, h3, h4⟩ := h.rows i (Nat.le_refl _) hi
  refine ⟨a, m, c, h1, h2, ⟨xs, own_up h3 ?_, fun x hx => .inl (h4 x hx)⟩, h.blk, h.len, fun j hj hjn => h.rows j (by omega) hjn, h.up, h.lo, h.hi⟩
  have h5 := up_le h.up i 0 (Nat.zero_le _)
  have h6 := h.lo
  omega
theorem Gots.cell {s : Nat} {T TS : TypeId} {V : World} {G n i M : Nat} {vs : List Value} {N : Nat → Nat} (h : Gots s T TS V G n i M vs N) {j : Nat} {v : Value} (hv : vs[j]? = some v) : V.cell? ⟨G, j, none⟩ = some v ∧ V.frozen? ⟨G, j, none⟩ = false := by
  refine ⟨?_, frozen_blk h.blk j⟩
  rw [cell_blk h.blk j]; simpa using hv
/-- What the later rows lie in is kept. -/
theorem Gots.keep {s : Nat} {T TS : TypeId} {V V' : World} {G n i M : Nat} {vs : List Value} {N : Nat → Nat} (h : Gots s T TS V G n i M vs N) (hsz : V.heap.size ≤ V'.heap.size) (hk : ∀ x, (x = G ∨ (N i ≤ x ∧ x < N n)) → V'.heap[x]? = V.heap[x]?) : Gots s T TS V' G n i M vs N := by
  refine ⟨by rw [hk G (.inl rfl)]; exact h.blk, h.len, fun j hj hjn => ?_, h.up, h.lo, Nat.le_trans h.hi hsz⟩
  obtain ⟨a, m, c, xs, h1, h2, h3, h4⟩ := h.rows j hj hjn
  refine ⟨a, m, c, xs, h1, h2, own_keep h3 (fun x hx => hk x (.inr ⟨?_, ?_⟩)), h4⟩
  · have h5 := (h3.lt x hx).1
    have h6 := up_le h.up j i hj
    omega
  · have h5 := h4 x hx
    have h6 := up_le h.up n (j + 1) (by omega)
    omega
/-- A cell of the i-th row is written. -/
theorem RowI.isSome {s : Nat} {T : TypeId} {V : World} {G n i : Nat} {N : Nat → Nat} {a : Option Addr} {m c : Nat} (h : RowI s T V G n i N a m c) (hm : 0 < m) : ∃ b, a = some ⟨b, 0, none⟩ ∧ G < b ∧ (b < N (i + 1) ∨ N n ≤ b) := by
  obtain ⟨xs, h1, h2⟩ := h
  rcases h1.2 with ⟨_, h0⟩ | ⟨g, cap, cur, hv, hb, _⟩
  · omega
  · cases hv
    exact ⟨g, rfl, by omega, h2 g rfl⟩
theorem RowI.cell {s : Nat} {T : TypeId} {V : World} {G n i : Nat} {N : Nat → Nat} {b m c : Nat} (h : RowI s T V G n i N (some ⟨b, 0, none⟩) m c) {j : Nat} (hj : j < m * s) : (∃ u, V.cell? ⟨b, j, none⟩ = some u) ∧ V.frozen? ⟨b, j, none⟩ = false := by
  obtain ⟨xs, h1, h2⟩ := h
  obtain ⟨u, hu⟩ := get_of (show j < xs.length by rw [h1.1]; exact hj)
  refine ⟨⟨u, by have := own_lies h1 j u hu; rwa [Nat.zero_add] at this⟩, ?_⟩
  rcases h1.2 with ⟨hv, _⟩ | ⟨g', cap, cur, hv, hb, hg, _⟩
  · cases hv
  · cases hv; exact frozen_blk hg j
theorem RowI.put {s : Nat} {T : TypeId} {V : World} {G n i : Nat} {N : Nat → Nat} {b m c : Nat} (h : RowI s T V G n i N (some ⟨b, 0, none⟩) m c) (j : Nat) (u : Value) : RowI s T (V.setCell ⟨b, j, none⟩ u) G n i N (some ⟨b, 0, none⟩) m c := by
  obtain ⟨xs, h1, h2⟩ := h
  exact ⟨_, own_put h1 j u, h2⟩
theorem Gots.put {s : Nat} {T TS : TypeId} {V : World} {G n i M : Nat} {vs : List Value} {N : Nat → Nat} (h : Gots s T TS V G n (i + 1) M vs N) {b : Nat} (hg : G < b) (hb : b < N (i + 1) ∨ N n ≤ b) (j : Nat) (u : Value) : Gots s T TS (V.setCell ⟨b, j, none⟩ u) G n (i + 1) M vs N :=
  h.keep (by simp) (fun x hx => Below.heap_setCell _ _ _ _ (by show x ≠ b; omega))
/-- The i-th row is appended to. -/
theorem Gots.app {s : Nat} {T TS : TypeId} {V V' : World} {G n i M : Nat} {vs : List Value} {N : Nat → Nat} {a : Option Addr} {m c g' c' m' : Nat} {ys : List Value} (h : Gots s T TS V G n (i + 1) M vs N) (hr : RowI s T V G n i N a m c) (hin : i < n)
    (ho : V'.ownsRow (G + 1) T s (.slice (some ⟨g', 0, none⟩) m' c') m' ys) (hg : V.grownBy V' (Value.slice a m c).ownBlock) (hat : (Value.slice a m c).ownBlock = some g' ∨ g' = V.heap.size) :
    Gots s T TS (V'.setCell ⟨G, i, none⟩ (.slice (some ⟨g', 0, none⟩) m' c')) G n (i + 1) M (vs.set i (.slice (some ⟨g', 0, none⟩) m' c')) N ∧ (vs.set i (.slice (some ⟨g', 0, none⟩) m' c'))[i]? = some (.slice (some ⟨g', 0, none⟩) m' c') ∧
      RowI s T (V'.setCell ⟨G, i, none⟩ (.slice (some ⟨g', 0, none⟩) m' c')) G n i N (some ⟨g', 0, none⟩) m' c' := by
  obtain ⟨xs, h1, h2⟩ := hr
  have hGV : G < V.heap.size := (Array.getElem?_eq_some_iff.1 h.blk).1
  have hgN : g' < N (i + 1) ∨ N n ≤ g' := by
    rcases hat with e | e
    · exact h2 g' e
    · have := h.hi; omega
  have hgG : G + 1 ≤ g' := (ownsRow_cap ho).2.1
  have hk : ∀ x, (x = G ∨ (N (i + 1) ≤ x ∧ x < N n)) → V'.heap[x]? = V.heap[x]? := by
    intro x hx
    have h0 := up_le h.up (i + 1) 0 (Nat.zero_le _)
    have h3 := h.lo
    have h4 := h.hi
    refine hg.block x (by omega) (fun e => ?_)
    have h5 := (h1.lt x e.symm).1
    have h6 := h2 x e.symm
    omega
  have hV := h.keep hg.size hk
  refine ⟨⟨?_, by rw [List.length_set]; exact h.len, fun j hj hjn => ?_, h.up, h.lo, by simpa using hV.hi⟩, ?_, ?_⟩
  · rw [heap_set hV.blk]
    simp
  · obtain ⟨a2, m2, c2, xs2, q1, q2, q3, q4⟩ := hV.rows j hj hjn
    refine ⟨a2, m2, c2, xs2, by rw [List.getElem?_set_ne (by omega)]; exact q1, q2, own_keep q3 (fun x hx => Below.heap_setCell _ _ _ _ ?_), q4⟩
    have h5 := (q3.lt x hx).1
    have h6 := up_le h.up j 0 (Nat.zero_le _)
    have h7 := h.lo
    show x ≠ G
    omega
  · rw [List.getElem?_set_self (by rw [h.len]; exact hin)]
  · refine ⟨ys, own_keep ho (fun x hx => Below.heap_setCell _ _ _ _ ?_), fun x hx => ?_⟩
    · have : x = g' := by simpa [Value.ownBlock] using hx.symm
      show x ≠ G
      omega
    · have : x = g' := by simpa [Value.ownBlock] using hx.symm
      subst this; exact hgN

end Go.Proofs.Ythjhekmlhmljlaa
