/-
  What MetricReads' walk works with: the font that the document opens, the answers of both readings, the metrics that are written over.
-/
import Derived.Test.YtbcjicmledckbaaRefO
import Derived.Test.YtbcjicmledckbaaRdC
namespace Go.Proofs.Ytbcjicmledckbaa
open Go.RowKit Go.PlainAid
set_option linter.unusedSimpArgs false
set_option linter.unusedVariables false

theorem kindB_of {t : ByteArray} (h : ¬ kindB t = 0) : kindB t = 1 ∨ kindB t = 2 := by
  unfold kindB at *
  split
  · exact .inl rfl
  · split
    · exact .inl rfl
    · split
      · exact .inr rfl
      · rename_i h1 h2 h3; exact absurd (by rw [if_neg h1, if_neg h2, if_neg h3]) h
theorem head_ok {s : ByteArray} {a : Int} (h : ¬ (headOf s a).2.2 ≠ 0) : ((headOf s a).1 = 1 ∨ (headOf s a).1 = 2) ∧ 1 ≤ (headOf s a).2.1 ∧ (headOf s a).2.1 ≤ 64 := by
  have hb : 0 ≤ (numOr s (a + 4) 2).1 := (num16_bound (f := (numOr s (a + 4) 2).2) (x := (numOr s (a + 4) 2).1) rfl).1
  unfold headOf at *
  split at h
  · exact absurd (show (31 : Int) ≠ 0 by decide) h
  · split at h
    · exact absurd (show (32 : Int) ≠ 0 by decide) h
    · split at h
      · exact absurd (show (31 : Int) ≠ 0 by decide) h
      · split at h
        · exact absurd (show (31 : Int) ≠ 0 by decide) h
        · split at h
          · exact absurd (show (33 : Int) ≠ 0 by decide) h
          · rename_i h1 h2 h3 h4 h5
            rw [if_neg h1, if_neg h2, if_neg h3, if_neg h4, if_neg h5]
            exact ⟨kindB_of h2, by show 1 ≤ (numOr s (a + 4) 2).1; omega, by show (numOr s (a + 4) 2).1 ≤ 64; omega⟩
theorem rowsOf_length {s : ByteArray} {b : Int} : ∀ {k : Nat} {l : List Row}, rowsOf s b k = some l → l.length = k
  | 0, l, h => by simp [rowsOf] at h; subst h; rfl
  | k + 1, l, h => by
    rw [rowsOf] at h
    cases h1 : rowsOf s b k with
    | none => rw [h1] at h; simp at h
    | some q =>
      have hq := rowsOf_length h1
      rw [h1] at h
      simp only at h
      split at h
      · cases h
      · split at h
        · cases h
        · simp at h; subst h; simp [hq]
theorem open_no {s : ByteArray} {f : Int} (h : openOf s 0 = (f, none)) : f ≠ 0 := by
  unfold openOf at h
  split at h
  · simp only [Prod.mk.injEq, and_true] at h; rw [← h]; decide
  · split at h
    · rename_i h2; simp only [Prod.mk.injEq, and_true] at h; rw [← h]; exact h2
    · split at h
      · rename_i h3; simp only [Prod.mk.injEq, and_true] at h; rw [← h]; exact h3
      · split at h
        · simp only [Prod.mk.injEq, and_true] at h; rw [← h]; decide
        · simp at h
theorem open_yes {s : ByteArray} {f kd : Int} {l : List Row} (h : openOf s 0 = (f, some (kd, l))) : f = 0 ∧ (kd = 1 ∨ kd = 2) ∧ 1 ≤ l.length ∧ l.length ≤ 64 ∧ 0 < s.size := by
  have hs : 0 < s.size := by
    rcases Nat.eq_zero_or_pos s.size with h0 | h0
    · have e : s = ⟨#[]⟩ := by
        apply ByteArray.ext
        apply Array.ext
        · exact h0
        · intro i h1 h2; simp at h2
      have e2 : openOf ⟨#[]⟩ 0 = (31, none) := by kernel_rfl
      rw [e, e2] at h
      simp at h
    · exact h0
  have key : f = 0 ∧ (kd = 1 ∨ kd = 2) ∧ 1 ≤ l.length ∧ l.length ≤ 64 → f = 0 ∧ (kd = 1 ∨ kd = 2) ∧ 1 ≤ l.length ∧ l.length ≤ 64 ∧ 0 < s.size := fun q => ⟨q.1, q.2.1, q.2.2.1, q.2.2.2, hs⟩
  apply key
  clear key
  unfold openOf at h
  split at h
  · simp at h
  · split at h
    · simp at h
    · split at h
      · simp at h
      · rename_i h3
        have hd := head_ok h3
        cases h4 : rowsOf s ((dirOf s 0).1 + 12) (headOf s (dirOf s 0).1).2.1.toNat with
        | none => rw [h4] at h; simp at h
        | some q =>
          rw [h4] at h
          simp only [Prod.mk.injEq, Option.some.injEq] at h
          obtain ⟨rfl, rfl, rfl⟩ := h
          have hl := rowsOf_length h4
          exact ⟨rfl, hd.1, by omega, by omega⟩
theorem rfont_of {w w' : World} {a : Option Addr} {cap : Nat} {s : ByteArray} {f kd : Int} {l : List Row} {rv : Value} {B : Nat} (hB : IsB w' a s.size cap s) (h : openOf s 0 = (f, some (kd, l))) (ho : OwnT B w' rv l) :
    ∃ g c bf of, rv = .slice (some ⟨g, 0, none⟩) l.length c ∧ a = some ⟨bf, of, none⟩ ∧ RFont w' g c bf of cap l s := by
  have hy := open_yes h
  have hf := open_fits h
  obtain ⟨bf, of, rfl⟩ := isB_addr hB hy.2.2.2.2
  rcases ho.2 with ⟨_, hn⟩ | ⟨g, c, cur, hv, rest⟩
  · omega
  · refine ⟨g, c, bf, of, hv, rfl, ?_⟩
    subst hv
    exact ⟨fun i r hr => ⟨(owns_cell ho (rowCells_at l i r hr).1).1, (owns_cell ho (rowCells_at l i r hr).2.1).1, (owns_cell ho (rowCells_at l i r hr).2.2).1⟩, hB, hf.1, hy.2.2.2.1, hf.2⟩

/-- The metrics that an answer bears. -/
def metOf (r : Int × Option Met) : Met := match r.2 with
  | none => met0
  | some m => m
theorem ints_own {B : Nat} {w : World} {g : Nat} {L : List Int} (h : IntsAt w g L) (hB : B ≤ g) (hl : L.length ≤ 5000) : OwnI B w (.slice (some ⟨g, 0, none⟩) L.length L.length) L := by
  refine ⟨by simp, .inr ⟨g, L.length, (L.map (Value.int .i64)).toArray, rfl, hB, h, Nat.le_refl _, by unfold maxLen; omega, by simp, by simp [List.take_of_length_le]⟩⟩
/-- What a reading answers: metrics whose rows are new memory, each a row of its own. -/
theorem read_rows {w w' : World} {r : Int × Option Met} {e : Ending} (h : ReadPost w r e w') :
    ∃ va vb vp, e = .returned (.tuple #[.agg #[.int .i64 (metOf r).kind, .int .i64 (metOf r).units, .int .i64 (metOf r).glyphs, .int .i64 (metOf r).ascent, .int .i64 (metOf r).descent, .int .i64 (metOf r).gap, va, vb, vp], .int .i64 r.1]) ∧
      OwnI w.heap.size w' va (metOf r).adv ∧ OwnI w.heap.size w' vb (metOf r).bear ∧ OwnI w.heap.size w' vp (metOf r).places ∧
      (∀ k, va.ownBlock = some k → vb.ownBlock ≠ some k) ∧ (∀ k, va.ownBlock = some k → vp.ownBlock ≠ some k) ∧ (∀ k, vb.ownBlock = some k → vp.ownBlock ≠ some k) ∧
      (metOf r).bear.length = (metOf r).adv.length ∧ (metOf r).adv.length ≤ 4096 ∧ (metOf r).places.length ≤ 4097 ∧ Below w.heap.size w w' := by
  obtain ⟨f, o⟩ := r
  cases o with
  | none =>
    obtain ⟨rfl, hb⟩ := h
    exact ⟨.slice none 0 0, .slice none 0 0, .slice none 0 0, rfl, ownI_nil _ _, ownI_nil _ _, ownI_nil _ _, (fun k hk => by cases hk), (fun k hk => by cases hk), (fun k hk => by cases hk), rfl, by simp [metOf, met0], by simp [metOf, met0], hb⟩
  | some m =>
    obtain ⟨v, rfl, ⟨ga, gb, pv, hv, h1, h2, h3, h4, h5, h6, h7, h8⟩, hb⟩ := h
    have ob : OwnI w.heap.size w' pv m.places := by
      rcases h5 with ⟨rfl, e5⟩ | ⟨gp, rfl, hp, hge⟩
      · rw [e5]; exact ownI_nil _ _
      · exact ints_own hp (by omega) (by omega)
    have hpn : ∀ k, k ≤ gb → pv.ownBlock ≠ some k := by
      intro k hk hq
      rcases h5 with ⟨rfl, e5⟩ | ⟨gp, rfl, hp, hge⟩
      · cases hq
      · have : gp = k := by cases hq; rfl
        omega
    refine ⟨_, _, pv, by rw [hv]; rfl, ints_own h3 h1 (by show m.adv.length ≤ 5000; omega), ints_own h4 (by omega) (by show m.bear.length ≤ 5000; omega), ob, ?_, ?_, ?_, h6, h7, h8, hb⟩
    · intro k hk hq
      have e1 : ga = k := by cases hk; rfl
      have e2 : gb = k := by cases hq; rfl
      omega
    · intro k hk hq
      have e1 : ga = k := by cases hk; rfl
      exact hpn k (by omega) hq
    · intro k hk hq
      have e1 : gb = k := by cases hk; rfl
      exact hpn k (by omega) hq
theorem dread_met {w w' : World} {r : Int × Option Met} {e : Ending} (h : DReadPost w r e w') :
    ∃ a b p ca cb cp, e = .returned (.tuple #[.agg #[.int .i64 (metOf r).kind, .int .i64 (metOf r).units, .int .i64 (metOf r).glyphs, .int .i64 (metOf r).ascent, .int .i64 (metOf r).descent, .int .i64 (metOf r).gap, .slice a (metOf r).adv.length ca, .slice b (metOf r).bear.length cb, .slice p (metOf r).places.length cp], .int .i64 r.1]) ∧
      IsMet w' (metOf r) (.agg #[.int .i64 (metOf r).kind, .int .i64 (metOf r).units, .int .i64 (metOf r).glyphs, .int .i64 (metOf r).ascent, .int .i64 (metOf r).descent, .int .i64 (metOf r).gap, .slice a (metOf r).adv.length ca, .slice b (metOf r).bear.length cb, .slice p (metOf r).places.length cp]) ∧ Below w.heap.size w w' := by
  obtain ⟨f, o⟩ := r
  cases o with
  | none =>
    obtain ⟨rfl, hb⟩ := h
    exact ⟨none, none, none, 0, 0, 0, rfl, noneMet_is _, hb⟩
  | some m =>
    obtain ⟨v, rfl, hm, hb⟩ := h
    have hm2 := hm
    obtain ⟨a, b, p, ca, cb, cp, rfl, _⟩ := hm
    exact ⟨a, b, p, ca, cb, cp, rfl, hm2, hb⟩
theorem own_isMet {B : Nat} {w : World} {m : Met} {va vb vp : Value} (oa : OwnI B w va m.adv) (ob : OwnI B w vb m.bear) (op : OwnI B w vp m.places) (h1 : m.bear.length = m.adv.length) (h2 : m.adv.length ≤ 4096) (h3 : m.places.length ≤ 4097) :
    IsMet w m (.agg #[.int .i64 m.kind, .int .i64 m.units, .int .i64 m.glyphs, .int .i64 m.ascent, .int .i64 m.descent, .int .i64 m.gap, va, vb, vp]) := by
  obtain ⟨a, ca, rfl, ia⟩ := ownI_is oa
  obtain ⟨b, cb, rfl, ib⟩ := ownI_is ob
  obtain ⟨p, cp, rfl, ip⟩ := ownI_is op
  exact ⟨a, b, p, ca, cb, cp, rfl, ia, ib, ip, by omega, by omega, by omega⟩
theorem ownI_set {B : Nat} {w : World} {g n c : Nat} {L : List Int} (h : OwnI B w (.slice (some ⟨g, 0, none⟩) n c) L) {i : Nat} (hi : i < L.length) (x : Int) : OwnI B (w.setCell ⟨g, i, none⟩ (.int .i64 x)) (.slice (some ⟨g, 0, none⟩) n c) (L.set i x) := by
  obtain ⟨h1, ⟨hv, _⟩ | ⟨g', cap, cur, hv, hb, hg, hc, hm, hs, ht⟩⟩ := h
  · cases hv
  · simp only [Value.slice.injEq, Option.some.injEq, Addr.mk.injEq] at hv
    obtain ⟨⟨rfl, _, _⟩, rfl, rfl⟩ := hv
    refine ⟨by simp, .inr ⟨g, c, cur.setIfInBounds i (.int .i64 x), by simp, hb, ?_, by simpa using hc, hm, by simpa using hs, ?_⟩⟩
    · have hlt : g < w.heap.size := (Array.getElem?_eq_some_iff.1 hg).1
      have hce : i < cur.size := by rw [hs]; omega
      simp [World.setCell, Array.getElem?_modify, hg]
    · simp at ht ⊢
      rw [List.take_set, ht]

/-- The law's world while the first answer is written over: the document's answer lies below, the second reading's from N0 on. -/
structure LT (w5 w9 : World) (MV N0 : Nat) (k0 k1 k2 k3 k4 k5 : Int) (va : Value) (La : List Int) (vb : Value) (Lb : List Int) (vp : Value) (Lp : List Int) (wr : World) : Prop where
  bel : Below w5.heap.size w5 wr
  m : Blk wr MV [.int .i64 k0, .int .i64 k1, .int .i64 k2, .int .i64 k3, .int .i64 k4, .int .i64 k5, va, vb, vp]
  hM : w5.heap.size ≤ MV
  hN : MV < N0
  hw : N0 ≤ w9.heap.size
  sz : w9.heap.size ≤ wr.heap.size
  keep : ∀ k, N0 ≤ k → k < w9.heap.size → wr.heap[k]? = w9.heap[k]?
  oa : OwnI w5.heap.size wr va La
  ob : OwnI w5.heap.size wr vb Lb
  op : OwnI w5.heap.size wr vp Lp
  xa : ∀ k, va.ownBlock = some k → k ≠ MV ∧ (k < N0 ∨ w9.heap.size ≤ k)
  xb : ∀ k, vb.ownBlock = some k → k ≠ MV ∧ (k < N0 ∨ w9.heap.size ≤ k)
  xp : ∀ k, vp.ownBlock = some k → k ≠ MV ∧ (k < N0 ∨ w9.heap.size ≤ k)
  nab : ∀ k, va.ownBlock = some k → vb.ownBlock ≠ some k
  nap : ∀ k, va.ownBlock = some k → vp.ownBlock ≠ some k
  nbp : ∀ k, vb.ownBlock = some k → vp.ownBlock ≠ some k
theorem LT.below {w5 w9 : World} {MV N0 : Nat} {k0 k1 k2 k3 k4 k5 : Int} {va : Value} {La : List Int} {vb : Value} {Lb : List Int} {vp : Value} {Lp : List Int} {wr w' : World} (h : LT w5 w9 MV N0 k0 k1 k2 k3 k4 k5 va La vb Lb vp Lp wr) (hb : Below wr.heap.size wr w') : LT w5 w9 MV N0 k0 k1 k2 k3 k4 k5 va La vb Lb vp Lp w' :=
  ⟨h.bel.trans (hb.mono h.bel.size), h.m.below hb, h.hM, h.hN, h.hw, Nat.le_trans h.sz hb.size, fun k h1 h2 => by rw [hb.block k (by have := h.sz; omega)]; exact h.keep k h1 h2, ownI_keep h.oa (fun k _ hl => hb.block k hl), ownI_keep h.ob (fun k _ hl => hb.block k hl), ownI_keep h.op (fun k _ hl => hb.block k hl), h.xa, h.xb, h.xp, h.nab, h.nap, h.nbp⟩
theorem LT.le {w5 w9 : World} {MV N0 : Nat} {k0 k1 k2 k3 k4 k5 : Int} {va : Value} {La : List Int} {vb : Value} {Lb : List Int} {vp : Value} {Lp : List Int} {wr : World} (h : LT w5 w9 MV N0 k0 k1 k2 k3 k4 k5 va La vb Lb vp Lp wr) : w5.heap.size ≤ wr.heap.size := h.bel.size

theorem LT.growA {w5 w9 : World} {MV N0 : Nat} {k0 k1 k2 k3 k4 k5 : Int} {va : Value} {La : List Int} {vb : Value} {Lb : List Int} {vp : Value} {Lp : List Int} {wr w' : World} (h : LT w5 w9 MV N0 k0 k1 k2 k3 k4 k5 va La vb Lb vp Lp wr) (hg : wr.grownBy w' va.ownBlock) : Blk w' MV [.int .i64 k0, .int .i64 k1, .int .i64 k2, .int .i64 k3, .int .i64 k4, .int .i64 k5, va, vb, vp] :=
  h.m.heap (hg.block MV h.m.lt (fun q => (h.xa _ q.symm).1 rfl))
theorem LT.addA {w5 w9 : World} {MV N0 : Nat} {k0 k1 k2 k3 k4 k5 : Int} {va : Value} {La : List Int} {vb : Value} {Lb : List Int} {vp : Value} {Lp : List Int} {wr w' : World} {g' n' c' : Nat} {L' : List Int} (h : LT w5 w9 MV N0 k0 k1 k2 k3 k4 k5 va La vb Lb vp Lp wr) (ho : OwnI w5.heap.size w' (.slice (some ⟨g', 0, none⟩) n' c') L') (hg : wr.grownBy w' va.ownBlock) (hat : va.ownBlock = some g' ∨ g' = wr.heap.size) :
    LT w5 w9 MV N0 k0 k1 k2 k3 k4 k5 (.slice (some ⟨g', 0, none⟩) n' c') L' vb Lb vp Lp (w'.setCell ⟨MV, 6, none⟩ (.slice (some ⟨g', 0, none⟩) n' c')) := by
  have hM := h.hM
  have hMl := h.m.lt
  have fr : ∀ k, ((.slice (some ⟨g', 0, none⟩) n' c') : Value).ownBlock = some k → k = g' := by intro k q; cases q; rfl
  have e : ∀ k, k < wr.heap.size → va.ownBlock ≠ some k → k ≠ MV → (w'.setCell ⟨MV, 6, none⟩ (.slice (some ⟨g', 0, none⟩) n' c')).heap[k]? = wr.heap[k]? := fun k h1 h2 h3 => by
    rw [Below.heap_setCell _ _ _ _ (by show k ≠ MV; exact h3)]; exact hg.block k h1 (fun q => h2 q.symm)
  have gne : g' ≠ MV := by
    rcases hat with q | q
    · exact (h.xa _ q).1
    · omega
  have hbel : Below w5.heap.size w5 (w'.setCell ⟨MV, 6, none⟩ (.slice (some ⟨g', 0, none⟩) n' c')) := (h.bel.grown hg h.bel.size (fun k hk => (ownI_lt h.oa hk).1)).setCell (p := ⟨MV, 6, none⟩) hM _
  have hnew : OwnI w5.heap.size (w'.setCell ⟨MV, 6, none⟩ (.slice (some ⟨g', 0, none⟩) n' c')) (.slice (some ⟨g', 0, none⟩) n' c') L' := ownI_keep ho (fun k hk _ => Below.heap_setCell _ _ _ _ (by obtain rfl := fr k hk; exact gne))
  have hsz : w9.heap.size ≤ (w'.setCell ⟨MV, 6, none⟩ (.slice (some ⟨g', 0, none⟩) n' c')).heap.size := by have := h.sz; have := hg.size; simp [World.setCell]; omega
  refine ⟨hbel, (h.growA hg).set 6 (by omega) _, hM, h.hN, h.hw, hsz, ?_, hnew, ownI_keep h.ob (fun k hk hl => e k hl (fun q => h.nab k q hk) (h.xb k hk).1), ownI_keep h.op (fun k hk hl => e k hl (fun q => h.nap k q hk) (h.xp k hk).1), (fun k hk => by obtain rfl := fr k hk; rcases hat with q | q; exact h.xa _ q; have := h.sz; have := h.hw; have := h.hN; exact ⟨by omega, .inr (by omega)⟩), h.xb, h.xp, (fun k hk hq => by obtain rfl := fr k hk; rcases hat with q | q; exact h.nab _ q hq; have := (ownI_lt h.ob hq).2; omega), (fun k hk hq => by obtain rfl := fr k hk; rcases hat with q | q; exact h.nap _ q hq; have := (ownI_lt h.op hq).2; omega), h.nbp⟩
  intro k h1 h2
  have hn := h.hN
  rw [e k (by have := h.sz; omega) (fun q => by have := (h.xa k q).2; omega) (by omega)]
  exact h.keep k h1 h2
theorem LT.putA {w5 w9 : World} {MV N0 : Nat} {k0 k1 k2 k3 k4 k5 : Int} {La : List Int} {vb : Value} {Lb : List Int} {vp : Value} {Lp : List Int} {wr : World} {g n c : Nat} (h : LT w5 w9 MV N0 k0 k1 k2 k3 k4 k5 (.slice (some ⟨g, 0, none⟩) n c) La vb Lb vp Lp wr) {j : Nat} (hj : j < La.length) (y : Int) : LT w5 w9 MV N0 k0 k1 k2 k3 k4 k5 (.slice (some ⟨g, 0, none⟩) n c) (La.set j y) vb Lb vp Lp (wr.setCell ⟨g, j, none⟩ (.int .i64 y)) := by
  have hx := h.xa g rfl
  have hge := (ownI_lt h.oa (g := g) rfl).1
  have e : ∀ k, k ≠ g → (wr.setCell ⟨g, j, none⟩ (.int .i64 y)).heap[k]? = wr.heap[k]? := fun k hk => Below.heap_setCell _ _ _ _ (by exact hk)
  have hs : (wr.setCell ⟨g, j, none⟩ (.int .i64 y)).heap.size = wr.heap.size := by simp [World.setCell]
  refine ⟨h.bel.setCell (p := ⟨g, j, none⟩) hge _, h.m.heap (e _ (Ne.symm hx.1)), h.hM, h.hN, h.hw, by rw [hs]; exact h.sz, ?_, ownI_set h.oa hj y, ownI_keep h.ob (fun k hk _ => e k (fun q => by subst q; exact h.nab _ rfl hk)), ownI_keep h.op (fun k hk _ => e k (fun q => by subst q; exact h.nap _ rfl hk)), h.xa, h.xb, h.xp, h.nab, h.nap, h.nbp⟩
  intro k h1 h2
  rw [e k (fun q => by subst q; have := hx.2; omega)]
  exact h.keep k h1 h2

theorem LT.growB {w5 w9 : World} {MV N0 : Nat} {k0 k1 k2 k3 k4 k5 : Int} {va : Value} {La : List Int} {vb : Value} {Lb : List Int} {vp : Value} {Lp : List Int} {wr w' : World} (h : LT w5 w9 MV N0 k0 k1 k2 k3 k4 k5 va La vb Lb vp Lp wr) (hg : wr.grownBy w' vb.ownBlock) : Blk w' MV [.int .i64 k0, .int .i64 k1, .int .i64 k2, .int .i64 k3, .int .i64 k4, .int .i64 k5, va, vb, vp] :=
  h.m.heap (hg.block MV h.m.lt (fun q => (h.xb _ q.symm).1 rfl))
theorem LT.addB {w5 w9 : World} {MV N0 : Nat} {k0 k1 k2 k3 k4 k5 : Int} {va : Value} {La : List Int} {vb : Value} {Lb : List Int} {vp : Value} {Lp : List Int} {wr w' : World} {g' n' c' : Nat} {L' : List Int} (h : LT w5 w9 MV N0 k0 k1 k2 k3 k4 k5 va La vb Lb vp Lp wr) (ho : OwnI w5.heap.size w' (.slice (some ⟨g', 0, none⟩) n' c') L') (hg : wr.grownBy w' vb.ownBlock) (hat : vb.ownBlock = some g' ∨ g' = wr.heap.size) :
    LT w5 w9 MV N0 k0 k1 k2 k3 k4 k5 va La (.slice (some ⟨g', 0, none⟩) n' c') L' vp Lp (w'.setCell ⟨MV, 7, none⟩ (.slice (some ⟨g', 0, none⟩) n' c')) := by
  have hM := h.hM
  have hMl := h.m.lt
  have fr : ∀ k, ((.slice (some ⟨g', 0, none⟩) n' c') : Value).ownBlock = some k → k = g' := by intro k q; cases q; rfl
  have e : ∀ k, k < wr.heap.size → vb.ownBlock ≠ some k → k ≠ MV → (w'.setCell ⟨MV, 7, none⟩ (.slice (some ⟨g', 0, none⟩) n' c')).heap[k]? = wr.heap[k]? := fun k h1 h2 h3 => by
    rw [Below.heap_setCell _ _ _ _ (by show k ≠ MV; exact h3)]; exact hg.block k h1 (fun q => h2 q.symm)
  have gne : g' ≠ MV := by
    rcases hat with q | q
    · exact (h.xb _ q).1
    · omega
  have hbel : Below w5.heap.size w5 (w'.setCell ⟨MV, 7, none⟩ (.slice (some ⟨g', 0, none⟩) n' c')) := (h.bel.grown hg h.bel.size (fun k hk => (ownI_lt h.ob hk).1)).setCell (p := ⟨MV, 7, none⟩) hM _
  have hnew : OwnI w5.heap.size (w'.setCell ⟨MV, 7, none⟩ (.slice (some ⟨g', 0, none⟩) n' c')) (.slice (some ⟨g', 0, none⟩) n' c') L' := ownI_keep ho (fun k hk _ => Below.heap_setCell _ _ _ _ (by obtain rfl := fr k hk; exact gne))
  have hsz : w9.heap.size ≤ (w'.setCell ⟨MV, 7, none⟩ (.slice (some ⟨g', 0, none⟩) n' c')).heap.size := by have := h.sz; have := hg.size; simp [World.setCell]; omega
  refine ⟨hbel, (h.growB hg).set 7 (by omega) _, hM, h.hN, h.hw, hsz, ?_, ownI_keep h.oa (fun k hk hl => e k hl (fun q => h.nab k hk q) (h.xa k hk).1), hnew, ownI_keep h.op (fun k hk hl => e k hl (fun q => h.nbp k q hk) (h.xp k hk).1), h.xa, (fun k hk => by obtain rfl := fr k hk; rcases hat with q | q; exact h.xb _ q; have := h.sz; have := h.hw; have := h.hN; exact ⟨by omega, .inr (by omega)⟩), h.xp, (fun k hk hq => by obtain rfl := fr k hq; rcases hat with q | q; exact h.nab _ hk q; have := (ownI_lt h.oa hk).2; omega), h.nap, (fun k hk hq => by obtain rfl := fr k hk; rcases hat with q | q; exact h.nbp _ q hq; have := (ownI_lt h.op hq).2; omega)⟩
  intro k h1 h2
  have hn := h.hN
  rw [e k (by have := h.sz; omega) (fun q => by have := (h.xb k q).2; omega) (by omega)]
  exact h.keep k h1 h2
theorem LT.putB {w5 w9 : World} {MV N0 : Nat} {k0 k1 k2 k3 k4 k5 : Int} {va : Value} {La : List Int} {Lb : List Int} {vp : Value} {Lp : List Int} {wr : World} {g n c : Nat} (h : LT w5 w9 MV N0 k0 k1 k2 k3 k4 k5 va La (.slice (some ⟨g, 0, none⟩) n c) Lb vp Lp wr) {j : Nat} (hj : j < Lb.length) (y : Int) : LT w5 w9 MV N0 k0 k1 k2 k3 k4 k5 va La (.slice (some ⟨g, 0, none⟩) n c) (Lb.set j y) vp Lp (wr.setCell ⟨g, j, none⟩ (.int .i64 y)) := by
  have hx := h.xb g rfl
  have hge := (ownI_lt h.ob (g := g) rfl).1
  have e : ∀ k, k ≠ g → (wr.setCell ⟨g, j, none⟩ (.int .i64 y)).heap[k]? = wr.heap[k]? := fun k hk => Below.heap_setCell _ _ _ _ (by exact hk)
  have hs : (wr.setCell ⟨g, j, none⟩ (.int .i64 y)).heap.size = wr.heap.size := by simp [World.setCell]
  refine ⟨h.bel.setCell (p := ⟨g, j, none⟩) hge _, h.m.heap (e _ (Ne.symm hx.1)), h.hM, h.hN, h.hw, by rw [hs]; exact h.sz, ?_, ownI_keep h.oa (fun k hk _ => e k (fun q => by subst q; exact h.nab _ hk rfl)), ownI_set h.ob hj y, ownI_keep h.op (fun k hk _ => e k (fun q => by subst q; exact h.nbp _ rfl hk)), h.xa, h.xb, h.xp, h.nab, h.nap, h.nbp⟩
  intro k h1 h2
  rw [e k (fun q => by subst q; have := hx.2; omega)]
  exact h.keep k h1 h2

theorem LT.growP {w5 w9 : World} {MV N0 : Nat} {k0 k1 k2 k3 k4 k5 : Int} {va : Value} {La : List Int} {vb : Value} {Lb : List Int} {vp : Value} {Lp : List Int} {wr w' : World} (h : LT w5 w9 MV N0 k0 k1 k2 k3 k4 k5 va La vb Lb vp Lp wr) (hg : wr.grownBy w' vp.ownBlock) : Blk w' MV [.int .i64 k0, .int .i64 k1, .int .i64 k2, .int .i64 k3, .int .i64 k4, .int .i64 k5, va, vb, vp] :=
  h.m.heap (hg.block MV h.m.lt (fun q => (h.xp _ q.symm).1 rfl))
theorem LT.addP {w5 w9 : World} {MV N0 : Nat} {k0 k1 k2 k3 k4 k5 : Int} {va : Value} {La : List Int} {vb : Value} {Lb : List Int} {vp : Value} {Lp : List Int} {wr w' : World} {g' n' c' : Nat} {L' : List Int} (h : LT w5 w9 MV N0 k0 k1 k2 k3 k4 k5 va La vb Lb vp Lp wr) (ho : OwnI w5.heap.size w' (.slice (some ⟨g', 0, none⟩) n' c') L') (hg : wr.grownBy w' vp.ownBlock) (hat : vp.ownBlock = some g' ∨ g' = wr.heap.size) :
    LT w5 w9 MV N0 k0 k1 k2 k3 k4 k5 va La vb Lb (.slice (some ⟨g', 0, none⟩) n' c') L' (w'.setCell ⟨MV, 8, none⟩ (.slice (some ⟨g', 0, none⟩) n' c')) := by
  have hM := h.hM
  have hMl := h.m.lt
  have fr : ∀ k, ((.slice (some ⟨g', 0, none⟩) n' c') : Value).ownBlock = some k → k = g' := by intro k q; cases q; rfl
  have e : ∀ k, k < wr.heap.size → vp.ownBlock ≠ some k → k ≠ MV → (w'.setCell ⟨MV, 8, none⟩ (.slice (some ⟨g', 0, none⟩) n' c')).heap[k]? = wr.heap[k]? := fun k h1 h2 h3 => by
    rw [Below.heap_setCell _ _ _ _ (by show k ≠ MV; exact h3)]; exact hg.block k h1 (fun q => h2 q.symm)
  have gne : g' ≠ MV := by
    rcases hat with q | q
    · exact (h.xp _ q).1
    · omega
  have hbel : Below w5.heap.size w5 (w'.setCell ⟨MV, 8, none⟩ (.slice (some ⟨g', 0, none⟩) n' c')) := (h.bel.grown hg h.bel.size (fun k hk => (ownI_lt h.op hk).1)).setCell (p := ⟨MV, 8, none⟩) hM _
  have hnew : OwnI w5.heap.size (w'.setCell ⟨MV, 8, none⟩ (.slice (some ⟨g', 0, none⟩) n' c')) (.slice (some ⟨g', 0, none⟩) n' c') L' := ownI_keep ho (fun k hk _ => Below.heap_setCell _ _ _ _ (by obtain rfl := fr k hk; exact gne))
  have hsz : w9.heap.size ≤ (w'.setCell ⟨MV, 8, none⟩ (.slice (some ⟨g', 0, none⟩) n' c')).heap.size := by have := h.sz; have := hg.size; simp [World.setCell]; omega
  refine ⟨hbel, (h.growP hg).set 8 (by omega) _, hM, h.hN, h.hw, hsz, ?_, ownI_keep h.oa (fun k hk hl => e k hl (fun q => h.nap k hk q) (h.xa k hk).1), ownI_keep h.ob (fun k hk hl => e k hl (fun q => h.nbp k hk q) (h.xb k hk).1), hnew, h.xa, h.xb, (fun k hk => by obtain rfl := fr k hk; rcases hat with q | q; exact h.xp _ q; have := h.sz; have := h.hw; have := h.hN; exact ⟨by omega, .inr (by omega)⟩), h.nab, (fun k hk hq => by obtain rfl := fr k hq; rcases hat with q | q; exact h.nap _ hk q; have := (ownI_lt h.oa hk).2; omega), (fun k hk hq => by obtain rfl := fr k hq; rcases hat with q | q; exact h.nbp _ hk q; have := (ownI_lt h.ob hk).2; omega)⟩
  intro k h1 h2
  have hn := h.hN
  rw [e k (by have := h.sz; omega) (fun q => by have := (h.xp k q).2; omega) (by omega)]
  exact h.keep k h1 h2
theorem LT.putP {w5 w9 : World} {MV N0 : Nat} {k0 k1 k2 k3 k4 k5 : Int} {va : Value} {La : List Int} {vb : Value} {Lb : List Int} {Lp : List Int} {wr : World} {g n c : Nat} (h : LT w5 w9 MV N0 k0 k1 k2 k3 k4 k5 va La vb Lb (.slice (some ⟨g, 0, none⟩) n c) Lp wr) {j : Nat} (hj : j < Lp.length) (y : Int) : LT w5 w9 MV N0 k0 k1 k2 k3 k4 k5 va La vb Lb (.slice (some ⟨g, 0, none⟩) n c) (Lp.set j y) (wr.setCell ⟨g, j, none⟩ (.int .i64 y)) := by
  have hx := h.xp g rfl
  have hge := (ownI_lt h.op (g := g) rfl).1
  have e : ∀ k, k ≠ g → (wr.setCell ⟨g, j, none⟩ (.int .i64 y)).heap[k]? = wr.heap[k]? := fun k hk => Below.heap_setCell _ _ _ _ (by exact hk)
  have hs : (wr.setCell ⟨g, j, none⟩ (.int .i64 y)).heap.size = wr.heap.size := by simp [World.setCell]
  refine ⟨h.bel.setCell (p := ⟨g, j, none⟩) hge _, h.m.heap (e _ (Ne.symm hx.1)), h.hM, h.hN, h.hw, by rw [hs]; exact h.sz, ?_, ownI_keep h.oa (fun k hk _ => e k (fun q => by subst q; exact h.nap _ hk rfl)), ownI_keep h.ob (fun k hk _ => e k (fun q => by subst q; exact h.nbp _ hk rfl)), ownI_set h.op hj y, h.xa, h.xb, h.xp, h.nab, h.nap, h.nbp⟩
  intro k h1 h2
  rw [e k (fun q => by subst q; have := hx.2; omega)]
  exact h.keep k h1 h2

end Go.Proofs.Ytbcjicmledckbaa
