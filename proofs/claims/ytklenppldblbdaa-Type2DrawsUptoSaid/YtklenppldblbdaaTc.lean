/-
  The machine's outline written: a new contour, a new knot of the last one; the row that is opened, the row that is left.
-/
import Derived.Test.YtklenppldblbdaaTb
namespace Go.Proofs.Ytklenppldblbdaa
open Go.RowKit Go.PlainAid
set_option linter.unusedSimpArgs false
set_option linter.unusedVariables false

/-- A cell of an owned row is written. -/
theorem own_put {w : World} {B : Nat} {e : TypeId} {s n g c : Nat} {xs : List Value} (h : w.ownsRow B e s (.slice (some ⟨g, 0, none⟩) n c) n xs) (i : Nat) (u : Value) : (w.setCell ⟨g, i, none⟩ u).ownsRow B e s (.slice (some ⟨g, 0, none⟩) n c) n (xs.set i u) := by
  refine ⟨by rw [List.length_set]; exact h.1, ?_⟩
  rcases h.2 with ⟨hv, _⟩ | ⟨g', cap, cur, hv, hb, hg, hnc, hcm, hcs, ht⟩
  · cases hv
  · cases hv
    refine .inr ⟨g, c, cur.setIfInBounds i u, rfl, hb, blk_set hg _ _, hnc, hcm, by rw [Array.size_setIfInBounds]; exact hcs, ?_⟩
    rw [← ht, Array.toList_setIfInBounds, List.take_set]

/-- append of a row that is there to any owned row. -/
theorem app_any {t e : TypeId} {s by' : Nat} (H : ElT t e s by') (w : World) (base : Nat) (ty : TypeId) (a0 : Option Addr) (n c : Nat) (xs : List Value) (b m cap : Nat) (news : List Value)
    (hown : w.ownsRow base e s (.slice a0 n c) n xs) (hl : news.length = m * s) (hsrc : Lies w b 0 news) (h1 : ∀ u ∈ news, u.oneCell' = true) (hm0 : 0 < m)
    (hb : (n + m) * by' ≤ 140737488355328) (hm : n + m ≤ 140737488355328) (hbase : base ≤ w.heap.size) :
    ∃ g' c' w', (Builtin.append_ #[t, t] ty #[.slice a0 n c, .slice (some ⟨b, 0, none⟩) m cap]).run Try.prog w = .ok (.slice (some ⟨g', 0, none⟩) (n + m) c') w' ∧
      w'.ownsRow base e s (.slice (some ⟨g', 0, none⟩) (n + m) c') (n + m) (xs ++ news) ∧ w.grownBy w' (Value.slice a0 n c).ownBlock ∧ ((Value.slice a0 n c).ownBlock = some g' ∨ g' = w.heap.size) := by
  obtain ⟨ht, hs0, z, hz, hzs⟩ := H
  obtain ⟨i0, hi, hz0, hz1, hz2⟩ := info_parts hz
  obtain ⟨g', c', w', hr, ho, hg, hat, hlt⟩ := run_append_lies (P := Try.prog) w t ty base e i0 z s by' ht hi hz0 hz1 hz2 hzs hs0 _ n xs hown ⟨b, 0, none⟩ m cap news hl
    (fun j u hj => by rw [Addr.add_lit]; exact hsrc j u hj) h1 (by omega) (by unfold maxLen; omega) hb hbase w.heap.size rfl
  exact ⟨g', c', w', hr, ho, hg, hat⟩

theorem wpList_appA {t e : TypeId} {s by' : Nat} (H : ElT t e s by') {ops : Array Oper} {rest : List Oper} {o : Oper} {f : Act} {Q : Exit → Act → World → Prop} (hgd : o.guard = none) (sl x : Operand)
    (ho : o.op = .call { callee := .builtin .append, args := #[sl, x], argTypes := #[t, t] })
    (w : World) (base : Nat) (a0 : Option Addr) (n c : Nat) (xs : List Value) (b m cap : Nat) (news : List Value) (hs : f.eval sl = .slice a0 n c) (hx : f.eval x = .slice (some ⟨b, 0, none⟩) m cap)
    (hown : w.ownsRow base e s (.slice a0 n c) n xs) (hl : news.length = m * s) (hsrc : Lies w b 0 news) (h1 : ∀ u ∈ news, u.oneCell' = true) (hm0 : 0 < m)
    (hb : (n + m) * by' ≤ 140737488355328) (hm : n + m ≤ 140737488355328) (hbase : base ≤ w.heap.size)
    (h : ∀ g' c' w', w'.ownsRow base e s (.slice (some ⟨g', 0, none⟩) (n + m) c') (n + m) (xs ++ news) → w.grownBy w' (Value.slice a0 n c).ownBlock → ((Value.slice a0 n c).ownBlock = some g' ∨ g' = w.heap.size) → wpList Try.prog ops Q rest (f.put o.dst (.slice (some ⟨g', 0, none⟩) (n + m) c')) w') :
    wpList Try.prog ops Q (o :: rest) f w :=
  wpList_plain hgd fun _ hK => by
    obtain ⟨g', c', w', hr, h2, h3, h4⟩ := app_any H w base o.type a0 n c xs b m cap news hown hl hsrc h1 hm0 hb hm hbase
    unfold Oper.wp execOp
    simp only [ho, resolve, invoke, builtin, Sem.run_bind, Sem.run_pure, Result.andThen_ok, List.map_toArray, List.map_cons, List.map_nil, hs, hx, hr]
    exact hK _ _ (h g' c' w' h2 h3 h4)

theorem step_appA {t e : TypeId} {s by' : Nat} (H : ElT t e s by') {ops : Array Oper} {o : Oper} {f : Act} {K : Act → World → Prop} {Q : Exit → Act → World → Prop} {E : Prop} (hgd : o.guard = none) (sl x : Operand)
    (ho : o.op = .call { callee := .builtin .append, args := #[sl, x], argTypes := #[t, t] })
    (w : World) (base : Nat) (a0 : Option Addr) (n c : Nat) (xs : List Value) (b m cap : Nat) (news : List Value) (hs : f.eval sl = .slice a0 n c) (hx : f.eval x = .slice (some ⟨b, 0, none⟩) m cap)
    (hown : w.ownsRow base e s (.slice a0 n c) n xs) (hl : news.length = m * s) (hsrc : Lies w b 0 news) (h1 : ∀ u ∈ news, u.oneCell' = true) (hm0 : 0 < m)
    (hb : (n + m) * by' ≤ 140737488355328) (hm : n + m ≤ 140737488355328) (hbase : base ≤ w.heap.size)
    (h : ∀ g' c' w', w'.ownsRow base e s (.slice (some ⟨g', 0, none⟩) (n + m) c') (n + m) (xs ++ news) → w.grownBy w' (Value.slice a0 n c).ownBlock → ((Value.slice a0 n c).ownBlock = some g' ∨ g' = w.heap.size) → K (f.put o.dst (.slice (some ⟨g', 0, none⟩) (n + m) c')) w') :
    if Region.wanted o (yielded ops f.tmps) = true then Oper.wp Try.prog o f w K Q else E := by
  have hw : Region.wanted o (yielded ops f.tmps) = true := by simp [Region.wanted, hgd]
  rw [if_pos hw]
  obtain ⟨g', c', w', hr, h2, h3, h4⟩ := app_any H w base o.type a0 n c xs b m cap news hown hl hsrc h1 hm0 hb hm hbase
  unfold Oper.wp execOp
  simp only [ho, resolve, invoke, builtin, Sem.run_bind, Sem.run_pure, Result.andThen_ok, List.map_toArray, List.map_cons, List.map_nil, hs, hx, hr]
  exact h g' c' w' h2 h3 h4

theorem elP : ElT 57 72 1 8 := ⟨Try.underlying57, by decide, .pointer none, by kernel_rfl, rfl⟩
theorem elI : ElT 50 3 1 8 := ⟨Try.underlying50, by decide, .int .i64 0, by kernel_rfl, rfl⟩

theorem own_some {w : World} {B : Nat} {e : TypeId} {s n c : Nat} {a : Option Addr} {xs : List Value} (h : w.ownsRow B e s (.slice a n c) n xs) (hn : 0 < n) : ∃ g, a = some ⟨g, 0, none⟩ ∧ B ≤ g ∧ g < w.heap.size ∧ n ≤ c := by
  rcases h.2 with ⟨_, h0⟩ | ⟨g, cap, cur, hv, hb, hg, hnc, _⟩
  · omega
  · cases hv; exact ⟨g, rfl, hb, blk_lt hg, hnc⟩

/-- A new contour. -/
theorem Mach.begun {w w' : World} {B M F g c : Nat} {L : Lay} {s : MS} (h : Mach w B M F L s) (ho : w'.ownsRow B 35 1 (.slice (some ⟨g, 0, none⟩) (s.out.length + 1) c) (s.out.length + 1) (L.vs ++ [.slice none 0 0]))
    (hg : w.grownBy w' (Value.slice L.oa s.out.length L.oc).ownBlock) : Mach (w'.setCell ⟨M, 0, none⟩ (.slice (some ⟨g, 0, none⟩) (s.out.length + 1) c)) B M F { L with oa := some ⟨g, 0, none⟩, oc := c, vs := L.vs ++ [.slice none 0 0] } { s with out := s.out ++ [[]] } := by
  have ht := typ_own h.out.own
  have hm := blk_chg h.mem hg ht (by decide)
  have hg2 := grown_set w' M 0 (.slice (some ⟨g, 0, none⟩) (s.out.length + 1) c)
  have ht2 := typ_blk hm
  have hl : L.vs.length = s.out.length := by have := h.out.own.1; omega
  refine ⟨?_, h.mB, ⟨?_, ?_, ?_⟩, (h.rows.chg hg ht (by decide) (by decide) (by decide)).chg hg2 ht2 (by decide) (by decide) (by decide), own_chg (own_chg h.stack hg ht (by decide)) hg2 ht2 (by decide)⟩
  · rw [blk_set hm]
    simp [mcells]
  · have := own_chg ho hg2 ht2 (by decide)
    show (w'.setCell ⟨M, 0, none⟩ (.slice (some ⟨g, 0, none⟩) (s.out.length + 1) c)).ownsRow B 35 1 (.slice (some ⟨g, 0, none⟩) (s.out ++ [[]]).length c) (s.out ++ [[]]).length (L.vs ++ [.slice none 0 0])
    rw [List.length_append]
    exact this
  · intro i d hd
    by_cases hi : i < s.out.length
    · rw [List.getElem?_append_left hi] at hd
      obtain ⟨ai, ci, h1, h2⟩ := h.out.conts i d hd
      exact ⟨ai, ci, by show (L.vs ++ [.slice none 0 0])[i]? = _; rw [List.getElem?_append_left (by omega)]; exact h1, own_chg (own_chg h2 hg ht (by decide)) hg2 ht2 (by decide)⟩
    · rw [List.getElem?_append_right (by omega)] at hd
      have hi2 : i - s.out.length = 0 := by have := (List.getElem?_eq_some_iff.1 hd).1; simp at this; omega
      rw [hi2] at hd
      have e : [] = d := by simpa using hd
      subst e
      exact ⟨none, 0, by show (L.vs ++ [.slice none 0 0])[i]? = _; rw [List.getElem?_append_right (by omega), hl, hi2]; rfl, by simp, .inl ⟨rfl, rfl⟩⟩
  · intro i j v u x hij hv hu hx
    have hv' : (L.vs ++ [.slice none 0 0])[i]? = some v := hv
    have hu' : (L.vs ++ [.slice none 0 0])[j]? = some u := hu
    by_cases hi : i < L.vs.length
    · rw [List.getElem?_append_left hi] at hv'
      by_cases hj : j < L.vs.length
      · rw [List.getElem?_append_left hj] at hu'
        exact h.out.apart i j v u x hij hv' hu' hx
      · rw [List.getElem?_append_right (by omega)] at hu'
        have hj2 : j - L.vs.length = 0 := by have := (List.getElem?_eq_some_iff.1 hu').1; simp at this; omega
        rw [hj2] at hu'
        have e : Value.slice none 0 0 = u := by simpa using hu'
        subst e
        simp [Value.ownBlock]
    · rw [List.getElem?_append_right (by omega)] at hv'
      have hi2 : i - L.vs.length = 0 := by have := (List.getElem?_eq_some_iff.1 hv').1; simp at this; omega
      rw [hi2] at hv'
      have e : Value.slice none 0 0 = v := by simpa using hv'
      subst e
      simp [Value.ownBlock] at hx

theorem snocLast_length (o : List (List Kn)) (k : Kn) (h : 0 < o.length) : (snocLast o k).length = o.length := by simp [snocLast]; omega

theorem snocLast_at (o : List (List Kn)) (k : Kn) (i : Nat) (h : i + 1 < o.length) : (snocLast o k)[i]? = o[i]? := by
  rw [snocLast, List.getElem?_append_left (by simp; omega), List.getElem?_dropLast, if_pos (by omega)]

theorem snocLast_last (o : List (List Kn)) (k : Kn) (c : List Kn) (h : o[o.length - 1]? = some c) : (snocLast o k)[o.length - 1]? = some (c ++ [k]) := by
  have hl := (List.getElem?_eq_some_iff.1 h).1
  rw [snocLast, List.getElem?_append_right (by simp), List.length_dropLast, Nat.sub_self, List.getLast?_eq_getElem?, h]
  rfl

/-- A new knot of the last contour. -/
theorem Mach.knotted {w w' : World} {B M F g g' c' : Nat} {L : Lay} {s : MS} {k : Kn} {c : List Kn} {ai : Option Addr} {ci : Nat} (h : Mach w B M F L s) (hc : s.out[s.out.length - 1]? = some c) (hv : L.vs[s.out.length - 1]? = some (.slice ai c.length ci))
    (hG : L.oa = some ⟨g, 0, none⟩) (ho : w'.ownsRow B 38 3 (.slice (some ⟨g', 0, none⟩) (c.length + 1) c') (c.length + 1) (c.flatMap clK ++ clK k))
    (hg : w.grownBy w' (Value.slice ai c.length ci).ownBlock) (hat : (Value.slice ai c.length ci).ownBlock = some g' ∨ g' = w.heap.size) :
    Mach (w'.setCell ⟨g, s.out.length - 1, none⟩ (.slice (some ⟨g', 0, none⟩) (c.length + 1) c')) B M F { L with vs := L.vs.set (s.out.length - 1) (.slice (some ⟨g', 0, none⟩) (c.length + 1) c') } { s with out := snocLast s.out k } := by
  have hn : 0 < s.out.length := by have := (List.getElem?_eq_some_iff.1 hc).1; omega
  obtain ⟨a2, c2, hv2, hown⟩ := h.out.conts _ c hc
  rw [hv] at hv2
  have hv2' : ai = a2 ∧ ci = c2 := by simpa using hv2
  obtain ⟨rfl, rfl⟩ := hv2'
  have ht := typ_own hown
  have hm := blk_chg h.mem hg ht (by decide)
  have hor := own_chg h.out.own hg ht (by decide)
  rw [hG] at hor
  have hg2 := grown_set w' g (s.out.length - 1) (.slice (some ⟨g', 0, none⟩) (c.length + 1) c')
  have ht2 : TypAt w' (some g) 35 := typ_own hor
  have hl : L.vs.length = s.out.length := by have := h.out.own.1; omega
  have hsl := snocLast_length s.out k hn
  refine ⟨?_, h.mB, ⟨?_, ?_, ?_⟩, (h.rows.chg hg ht (by decide) (by decide) (by decide)).chg hg2 ht2 (by decide) (by decide) (by decide), own_chg (own_chg h.stack hg ht (by decide)) hg2 ht2 (by decide)⟩
  · rw [blk_chg hm hg2 ht2 (by decide)]
    simp [mcells, hsl]
  · show World.ownsRow _ B 35 1 (.slice L.oa (snocLast s.out k).length L.oc) (snocLast s.out k).length (L.vs.set (s.out.length - 1) (.slice (some ⟨g', 0, none⟩) (c.length + 1) c'))
    rw [hsl, hG]
    exact own_put hor _ _
  · intro i d hd
    have hd' : (snocLast s.out k)[i]? = some d := hd
    have hil := (List.getElem?_eq_some_iff.1 hd').1
    by_cases hi : i + 1 < s.out.length
    · rw [snocLast_at _ _ _ hi] at hd'
      obtain ⟨a3, c3, h1, h2⟩ := h.out.conts i d hd'
      refine ⟨a3, c3, by show (L.vs.set _ _)[i]? = _; rw [List.getElem?_set_ne (by omega)]; exact h1, own_chg (own_apart h2 hg fun x hx => ?_) hg2 ht2 (by decide)⟩
      intro e
      exact h.out.apart i (s.out.length - 1) _ _ x (by omega) h1 hv hx e
    · have hi2 : i = s.out.length - 1 := by omega
      subst hi2
      rw [snocLast_last _ _ _ hc] at hd'
      have e : c ++ [k] = d := by simpa using hd'
      subst e
      refine ⟨some ⟨g', 0, none⟩, c', by show (L.vs.set _ _)[s.out.length - 1]? = _; rw [List.getElem?_set_self (by omega), List.length_append]; rfl, ?_⟩
      rw [List.length_append, List.flatMap_append]
      have := own_chg ho hg2 ht2 (by decide)
      simpa using this
  · intro i j v u x hij hvi hvj hx
    have hvi' : (L.vs.set (s.out.length - 1) (.slice (some ⟨g', 0, none⟩) (c.length + 1) c'))[i]? = some v := hvi
    have hvj' : (L.vs.set (s.out.length - 1) (.slice (some ⟨g', 0, none⟩) (c.length + 1) c'))[j]? = some u := hvj
    have hlt : ∀ (i : Nat) (v : Value) (x : Nat), L.vs[i]? = some v → v.ownBlock = some x → x < w.heap.size := by
      intro i v x h1 h2
      have hi := (List.getElem?_eq_some_iff.1 h1).1
      obtain ⟨d, hd⟩ := get_of (show i < s.out.length by omega)
      obtain ⟨a3, c3, h3, h4⟩ := h.out.conts i d hd
      rw [h1] at h3
      have e : v = .slice a3 d.length c3 := by simpa using h3
      subst e
      exact (h4.lt x h2).2
    by_cases hi : i = s.out.length - 1
    · subst hi
      rw [List.getElem?_set_self (by omega)] at hvi'
      have e : Value.slice (some ⟨g', 0, none⟩) (c.length + 1) c' = v := by simpa using hvi'
      subst e
      rw [List.getElem?_set_ne hij] at hvj'
      have e2 : g' = x := by simpa [Value.ownBlock] using hx
      subst e2
      intro hu
      rcases hat with e3 | e3
      · exact h.out.apart _ j _ _ _ hij hv hvj' e3 hu
      · have := hlt j u _ hvj' hu
        omega
    · rw [List.getElem?_set_ne (by omega)] at hvi'
      by_cases hj : j = s.out.length - 1
      · subst hj
        rw [List.getElem?_set_self (by omega)] at hvj'
        have e : Value.slice (some ⟨g', 0, none⟩) (c.length + 1) c' = u := by simpa using hvj'
        subst e
        intro hu
        have e2 : g' = x := by simpa [Value.ownBlock] using hu
        subst e2
        rcases hat with e3 | e3
        · exact h.out.apart i _ _ _ _ hij hvi' hv hx e3
        · have := hlt i v _ hvi' hx
          omega
      · rw [List.getElem?_set_ne (by omega)] at hvj'
        exact h.out.apart i j v u x hij hvi' hvj' hx

/-- A routine is opened. -/
theorem Mach.opened {w w' : World} {B M F R V g c : Nat} {L : Lay} {s : MS} {r : Rw} (h : Mach w B M F L s) (hr : RowAt w R V r) (hR : B ≤ R) (hne : ∀ q ∈ L.rb, q.1 ≠ R)
    (ho : w'.ownsRow B 72 1 (.slice (some ⟨g, 0, none⟩) (s.rows.length + 1) c) (s.rows.length + 1) ((L.rb.reverse.map fun q => .pointer (some ⟨q.1, 0, none⟩)) ++ [.pointer (some ⟨R, 0, none⟩)])) (hg : w.grownBy w' (some L.pg)) :
    Mach (w'.setCell ⟨M, 6, none⟩ (.slice (some ⟨g, 0, none⟩) (s.rows.length + 1) c)) B M F { L with pg := g, pc := c, rb := (R, V) :: L.rb } { s with rows := r :: s.rows } := by
  have ht : TypAt w (some L.pg) 72 := typ_own h.rows.own
  have hm := blk_chg h.mem hg ht (by decide)
  have hg2 := grown_set w' M 6 (.slice (some ⟨g, 0, none⟩) (s.rows.length + 1) c)
  have ht2 := typ_blk hm
  refine ⟨?_, h.mB, (h.out.chg hg ht (by decide) (by decide)).chg hg2 ht2 (by decide) (by decide), ⟨?_, ?_, ?_, ?_⟩, own_chg (own_chg h.stack hg ht (by decide)) hg2 ht2 (by decide)⟩
  · rw [blk_set hm]
    simp [mcells]
  · have := own_chg ho hg2 ht2 (by decide)
    simpa using this
  · show L.rb.length + 1 = s.rows.length + 1
    rw [h.rows.len]
  · intro i q p h1 h2
    cases i with
    | zero =>
      have e1 : r = q := by simpa using h1
      have e2 : (R, V) = p := by simpa using h2
      subst e1; subst e2
      exact ⟨hR, (hr.chg hg ht (by decide) (by decide)).chg hg2 ht2 (by decide) (by decide)⟩
    | succ i =>
      have h3 := h.rows.rows i q p h1 h2
      exact ⟨h3.1, (h3.2.chg hg ht (by decide) (by decide)).chg hg2 ht2 (by decide) (by decide)⟩
  · show (((R, V) :: L.rb).map Prod.fst).Nodup
    rw [List.map_cons, List.nodup_cons]
    refine ⟨?_, h.rows.apart⟩
    intro hm
    obtain ⟨q, hq, e⟩ := List.mem_map.1 hm
    exact hne q hq e

/-- The routine is left. -/
theorem Mach.left {w : World} {B M F n : Nat} {L : Lay} {s : MS} {q : Nat × Nat} {rb : List (Nat × Nat)} {r : Rw} {rest : List Rw} (h : Mach w B M F L s) (hb : L.rb = q :: rb) (hr : s.rows = r :: rest) (hn : rest.length = n) :
    Mach (w.setCell ⟨M, 6, none⟩ (.slice (some ⟨L.pg, 0, none⟩) n L.pc)) B M F { L with rb := rb } { s with rows := rest } := by
  have hg := grown_set w M 6 (.slice (some ⟨L.pg, 0, none⟩) n L.pc)
  have hlen := h.rows.len
  rw [hb, hr] at hlen
  simp at hlen
  refine ⟨?_, h.mB, h.out.chg hg h.typ (by decide) (by decide), ⟨?_, hlen, ?_, ?_⟩, own_chg h.stack hg h.typ (by decide)⟩
  · rw [blk_set h.mem]
    simp [mcells, hn]
  · have h1 := own_chg h.rows.own hg h.typ (by decide)
    rw [hr, hb] at h1
    have h2 := own_cut h1 n (by simp; omega)
    have e : ((((q :: rb).reverse.map fun q => Value.pointer (some ⟨q.1, 0, none⟩)).take (n * 1))) = rb.reverse.map fun q => Value.pointer (some ⟨q.1, 0, none⟩) := by
      rw [List.reverse_cons, List.map_append, List.take_left' (by simp; omega)]
    rw [e] at h2
    show World.ownsRow _ B 72 1 (.slice (some ⟨L.pg, 0, none⟩) rest.length L.pc) rest.length _
    rw [hn]
    exact h2
  · intro i x p h1 h2
    have h3 := h.rows.rows (i + 1) x p (by rw [hr]; exact h1) (by rw [hb]; exact h2)
    exact ⟨h3.1, h3.2.chg hg h.typ (by decide) (by decide)⟩
  · have := h.rows.apart
    rw [hb, List.map_cons, List.nodup_cons] at this
    exact this.2

end Go.Proofs.Ytklenppldblbdaa
