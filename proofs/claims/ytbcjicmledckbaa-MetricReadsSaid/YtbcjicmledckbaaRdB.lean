/-
  What the document's Read works with: the font's box, the answer's cells, the metrics that grow.
-/
import Derived.Test.YtbcjicmledckbaaRefH
import Derived.Test.YtbcjicmledckbaaAddI
import Derived.Test.YtbcjicmledckbaaTrip
namespace Go.Proofs.Ytbcjicmledckbaa
open Go.RowKit Go.PlainAid
set_option linter.unusedSimpArgs false
set_option linter.unusedVariables false

theorem ownI_lt {B : Nat} {w : World} {v : Value} {L : List Int} (h : OwnI B w v L) {g : Nat} (hg : v.ownBlock = some g) : B ≤ g ∧ g < w.heap.size := by
  rcases h.2 with ⟨hn, _⟩ | ⟨g', cap, cur, hv, hb, hh, _⟩
  · rw [hn] at hg; cases hg
  · rw [hv] at hg; cases hg; exact ⟨hb, (Array.getElem?_eq_some_iff.1 hh).1⟩
theorem ownI_is {B : Nat} {w : World} {v : Value} {L : List Int} (h : OwnI B w v L) : ∃ a c, v = .slice a L.length c ∧ IsI w a L.length c L := by
  rcases ownI_form h with ⟨rfl, rfl⟩ | ⟨g, c, rfl, _⟩
  · exact ⟨none, 0, rfl, rfl, .inl rfl⟩
  · exact ⟨_, c, rfl, ownI_isI h rfl⟩
theorem ownI_last {B : Nat} {w : World} {v : Value} {L : List Int} {j : Nat} (h : OwnI B w v L) (hl : L.length = j + 1) : ∃ g c, v = .slice (some ⟨g, 0, none⟩) (j + 1) c ∧ w.cell? ⟨g, j, none⟩ = some (.int .i64 (L.getD j 0)) := by
  rcases ownI_form h with ⟨_, h2⟩ | ⟨g, c, rfl, _⟩
  · rw [h2] at hl; cases hl
  · refine ⟨g, c, by rw [hl], (owns_cell h (u := .int .i64 (L.getD j 0)) ?_).1⟩
    simp [List.getD, show j < L.length by omega]
theorem Blk.lt {w : World} {g : Nat} {vs : List Value} (h : Blk w g vs) : g < w.heap.size := by
  have h0 := h.c 0 (by omega)
  rw [List.getElem?_eq_getElem (by rw [h.len]; omega)] at h0
  exact World.block_lt_of_cell? w _ h0
theorem Blk.heap {w w' : World} {g : Nat} {vs : List Value} (h : Blk w g vs) (hk : w'.heap[g]? = w.heap[g]?) : Blk w' g vs :=
  ⟨h.len, fun i hi => by rw [World.cell?_of_block hk]; exact h.c i hi, fun i hi => by rw [World.frozen?_of_block hk]; exact h.f i hi⟩
theorem cellAt {w w' : World} {b o : Nat} {v : Value} (hk : w'.heap[b]? = w.heap[b]?) (h : w.cell? ⟨b, o, none⟩ = some v) : w'.cell? ⟨b, o, none⟩ = some v := by rw [World.cell?_of_block hk]; exact h

/-- The font's box, the answer's cells, the metrics that are none. -/
structure RZ (w : World) (kd : Int) (g c bf of cap : Nat) (l : List Row) (s : ByteArray) (wr : World) : Prop where
  bel : Below w.heap.size w wr
  b0 : wr.cell? ⟨w.heap.size, 0, none⟩ = some (.int .i64 kd)
  b1 : wr.cell? ⟨w.heap.size, 1, none⟩ = some (.slice (some ⟨g, 0, none⟩) l.length c)
  b2 : wr.cell? ⟨w.heap.size, 2, none⟩ = some (.slice (some ⟨bf, of, none⟩) s.size cap)
  r : Blk wr (w.heap.size + 1) [.int .i64 0, .int .i64 0, .int .i64 0, .int .i64 0, .int .i64 0, .int .i64 0, .slice none 0 0, .slice none 0 0, .slice none 0 0]
  n : Blk wr (w.heap.size + 1 + 1) [.int .i64 0, .int .i64 0, .int .i64 0, .int .i64 0, .int .i64 0, .int .i64 0, .slice none 0 0, .slice none 0 0, .slice none 0 0]
  rf : RFont w g c bf of cap l s
theorem RZ.heap {w : World} {kd : Int} {g c bf of cap : Nat} {l : List Row} {s : ByteArray} {wr w' : World} (h : RZ w kd g c bf of cap l s wr) (hb : Below w.heap.size w w') (hk : ∀ k, k < w.heap.size + 3 → k < wr.heap.size → w'.heap[k]? = wr.heap[k]?) : RZ w kd g c bf of cap l s w' :=
  ⟨hb, cellAt (hk _ (by omega) (World.block_lt_of_cell? wr _ h.b0)) h.b0, cellAt (hk _ (by omega) (World.block_lt_of_cell? wr _ h.b0)) h.b1, cellAt (hk _ (by omega) (World.block_lt_of_cell? wr _ h.b0)) h.b2, h.r.heap (hk _ (by omega) h.r.lt), h.n.heap (hk _ (by omega) h.n.lt), h.rf⟩
theorem RZ.below {w : World} {kd : Int} {g c bf of cap : Nat} {l : List Row} {s : ByteArray} {wr w' : World} (h : RZ w kd g c bf of cap l s wr) (hb : Below wr.heap.size wr w') : RZ w kd g c bf of cap l s w' := h.heap (h.bel.trans (hb.mono h.bel.size)) (fun k _ hl => hb.block k hl)

/-- The metrics that grow, their rows above them. -/
structure RD (w : World) (kd : Int) (g c bf of cap : Nat) (l : List Row) (s : ByteArray) (M : Nat) (u gn asc de gp : Int) (va : Value) (La : List Int) (vb : Value) (Lb : List Int) (vp : Value) (Lp : List Int) (wr : World) : Prop where
  z : RZ w kd g c bf of cap l s wr
  m : Blk wr M [.int .i64 kd, .int .i64 u, .int .i64 gn, .int .i64 asc, .int .i64 de, .int .i64 gp, va, vb, vp]
  hM : w.heap.size + 3 ≤ M
  oa : OwnI (M + 1) wr va La
  ob : OwnI (M + 1) wr vb Lb
  op : OwnI (M + 1) wr vp Lp
  nab : ∀ k, va.ownBlock = some k → vb.ownBlock ≠ some k
  nap : ∀ k, va.ownBlock = some k → vp.ownBlock ≠ some k
  nbp : ∀ k, vb.ownBlock = some k → vp.ownBlock ≠ some k
theorem RD.below {w : World} {kd : Int} {g c bf of cap : Nat} {l : List Row} {s : ByteArray} {M : Nat} {u gn asc de gp : Int} {va : Value} {La : List Int} {vb : Value} {Lb : List Int} {vp : Value} {Lp : List Int} {wr w' : World} (h : RD w kd g c bf of cap l s M u gn asc de gp va La vb Lb vp Lp wr) (hb : Below wr.heap.size wr w') : RD w kd g c bf of cap l s M u gn asc de gp va La vb Lb vp Lp w' :=
  ⟨h.z.below hb, h.m.below hb, h.hM, ownI_keep h.oa (fun k _ hl => hb.block k hl), ownI_keep h.ob (fun k _ hl => hb.block k hl), ownI_keep h.op (fun k _ hl => hb.block k hl), h.nab, h.nap, h.nbp⟩
theorem RD.lt {w : World} {kd : Int} {g c bf of cap : Nat} {l : List Row} {s : ByteArray} {M : Nat} {u gn asc de gp : Int} {va : Value} {La : List Int} {vb : Value} {Lb : List Int} {vp : Value} {Lp : List Int} {wr : World} (h : RD w kd g c bf of cap l s M u gn asc de gp va La vb Lb vp Lp wr) : M + 1 ≤ wr.heap.size := h.m.lt

theorem RD.growA {w : World} {kd : Int} {g c bf of cap : Nat} {l : List Row} {s : ByteArray} {M : Nat} {u gn asc de gp : Int} {va : Value} {La : List Int} {vb : Value} {Lb : List Int} {vp : Value} {Lp : List Int} {wr w' : World} (h : RD w kd g c bf of cap l s M u gn asc de gp va La vb Lb vp Lp wr) (hg : wr.grownBy w' va.ownBlock) : Blk w' M [.int .i64 kd, .int .i64 u, .int .i64 gn, .int .i64 asc, .int .i64 de, .int .i64 gp, va, vb, vp] :=
  h.m.heap (hg.block M h.m.lt (fun q => by have := (ownI_lt h.oa q.symm).1; omega))
theorem RD.addA {w : World} {kd : Int} {g c bf of cap : Nat} {l : List Row} {s : ByteArray} {M : Nat} {u gn asc de gp : Int} {va : Value} {La : List Int} {vb : Value} {Lb : List Int} {vp : Value} {Lp : List Int} {wr w' : World} {g' n' c' : Nat} {L' : List Int} (h : RD w kd g c bf of cap l s M u gn asc de gp va La vb Lb vp Lp wr) (ho : OwnI (M + 1) w' (.slice (some ⟨g', 0, none⟩) n' c') L') (hg : wr.grownBy w' va.ownBlock) (hat : va.ownBlock = some g' ∨ g' = wr.heap.size) :
    RD w kd g c bf of cap l s M u gn asc de gp (.slice (some ⟨g', 0, none⟩) n' c') L' vb Lb vp Lp (w'.setCell ⟨M, 6, none⟩ (.slice (some ⟨g', 0, none⟩) n' c')) := by
  have hM := h.hM
  have hMl := h.m.lt
  have lo : ∀ k, k ≤ M → va.ownBlock ≠ some k := fun k hk q => by have := (ownI_lt h.oa q).1; omega
  have e : ∀ k, k < wr.heap.size → va.ownBlock ≠ some k → k ≠ M → (w'.setCell ⟨M, 6, none⟩ (.slice (some ⟨g', 0, none⟩) n' c')).heap[k]? = wr.heap[k]? := fun k h1 h2 h3 => by
    rw [Below.heap_setCell _ _ _ _ (by show k ≠ M; exact h3)]; exact hg.block k h1 (fun q => h2 q.symm)
  have hlt := (ownI_lt ho (g := g') rfl).1
  have fr : ∀ k, ((.slice (some ⟨g', 0, none⟩) n' c') : Value).ownBlock = some k → k = g' := by intro k q; cases q; rfl
  have hbel : Below w.heap.size w (w'.setCell ⟨M, 6, none⟩ (.slice (some ⟨g', 0, none⟩) n' c')) := (h.z.bel.grown hg h.z.bel.size (fun k hk => by have := (ownI_lt h.oa hk).1; omega)).setCell (p := ⟨M, 6, none⟩) (by show w.heap.size ≤ M; omega) _
  have hnew : OwnI (M + 1) (w'.setCell ⟨M, 6, none⟩ (.slice (some ⟨g', 0, none⟩) n' c')) (.slice (some ⟨g', 0, none⟩) n' c') L' := ownI_keep ho (fun k hk _ => Below.heap_setCell _ _ _ _ (by cases hk; show g' ≠ M; omega))
  refine ⟨h.z.heap hbel (fun k hk hl => e k hl (lo k (by omega)) (by omega)), (h.growA hg).set 6 (by omega) _, hM, hnew, ownI_keep h.ob (fun k hk hl => e k hl (fun q => h.nab k q hk) (by have := (ownI_lt h.ob hk).1; omega)), ownI_keep h.op (fun k hk hl => e k hl (fun q => h.nap k q hk) (by have := (ownI_lt h.op hk).1; omega)), (fun k hk hq => by obtain rfl := fr k hk; rcases hat with q | q; exact h.nab _ q hq; have := (ownI_lt h.ob hq).2; omega), (fun k hk hq => by obtain rfl := fr k hk; rcases hat with q | q; exact h.nap _ q hq; have := (ownI_lt h.op hq).2; omega), h.nbp⟩

theorem RD.growB {w : World} {kd : Int} {g c bf of cap : Nat} {l : List Row} {s : ByteArray} {M : Nat} {u gn asc de gp : Int} {va : Value} {La : List Int} {vb : Value} {Lb : List Int} {vp : Value} {Lp : List Int} {wr w' : World} (h : RD w kd g c bf of cap l s M u gn asc de gp va La vb Lb vp Lp wr) (hg : wr.grownBy w' vb.ownBlock) : Blk w' M [.int .i64 kd, .int .i64 u, .int .i64 gn, .int .i64 asc, .int .i64 de, .int .i64 gp, va, vb, vp] :=
  h.m.heap (hg.block M h.m.lt (fun q => by have := (ownI_lt h.ob q.symm).1; omega))
theorem RD.addB {w : World} {kd : Int} {g c bf of cap : Nat} {l : List Row} {s : ByteArray} {M : Nat} {u gn asc de gp : Int} {va : Value} {La : List Int} {vb : Value} {Lb : List Int} {vp : Value} {Lp : List Int} {wr w' : World} {g' n' c' : Nat} {L' : List Int} (h : RD w kd g c bf of cap l s M u gn asc de gp va La vb Lb vp Lp wr) (ho : OwnI (M + 1) w' (.slice (some ⟨g', 0, none⟩) n' c') L') (hg : wr.grownBy w' vb.ownBlock) (hat : vb.ownBlock = some g' ∨ g' = wr.heap.size) :
    RD w kd g c bf of cap l s M u gn asc de gp va La (.slice (some ⟨g', 0, none⟩) n' c') L' vp Lp (w'.setCell ⟨M, 7, none⟩ (.slice (some ⟨g', 0, none⟩) n' c')) := by
  have hM := h.hM
  have hMl := h.m.lt
  have lo : ∀ k, k ≤ M → vb.ownBlock ≠ some k := fun k hk q => by have := (ownI_lt h.ob q).1; omega
  have e : ∀ k, k < wr.heap.size → vb.ownBlock ≠ some k → k ≠ M → (w'.setCell ⟨M, 7, none⟩ (.slice (some ⟨g', 0, none⟩) n' c')).heap[k]? = wr.heap[k]? := fun k h1 h2 h3 => by
    rw [Below.heap_setCell _ _ _ _ (by show k ≠ M; exact h3)]; exact hg.block k h1 (fun q => h2 q.symm)
  have hlt := (ownI_lt ho (g := g') rfl).1
  have fr : ∀ k, ((.slice (some ⟨g', 0, none⟩) n' c') : Value).ownBlock = some k → k = g' := by intro k q; cases q; rfl
  have hbel : Below w.heap.size w (w'.setCell ⟨M, 7, none⟩ (.slice (some ⟨g', 0, none⟩) n' c')) := (h.z.bel.grown hg h.z.bel.size (fun k hk => by have := (ownI_lt h.ob hk).1; omega)).setCell (p := ⟨M, 7, none⟩) (by show w.heap.size ≤ M; omega) _
  have hnew : OwnI (M + 1) (w'.setCell ⟨M, 7, none⟩ (.slice (some ⟨g', 0, none⟩) n' c')) (.slice (some ⟨g', 0, none⟩) n' c') L' := ownI_keep ho (fun k hk _ => Below.heap_setCell _ _ _ _ (by cases hk; show g' ≠ M; omega))
  refine ⟨h.z.heap hbel (fun k hk hl => e k hl (lo k (by omega)) (by omega)), (h.growB hg).set 7 (by omega) _, hM, ownI_keep h.oa (fun k hk hl => e k hl (fun q => h.nab k hk q) (by have := (ownI_lt h.oa hk).1; omega)), hnew, ownI_keep h.op (fun k hk hl => e k hl (fun q => h.nbp k q hk) (by have := (ownI_lt h.op hk).1; omega)), (fun k hk hq => by obtain rfl := fr k hq; rcases hat with q | q; exact h.nab _ hk q; have := (ownI_lt h.oa hk).2; omega), h.nap, (fun k hk hq => by obtain rfl := fr k hk; rcases hat with q | q; exact h.nbp _ q hq; have := (ownI_lt h.op hq).2; omega)⟩

theorem RD.growP {w : World} {kd : Int} {g c bf of cap : Nat} {l : List Row} {s : ByteArray} {M : Nat} {u gn asc de gp : Int} {va : Value} {La : List Int} {vb : Value} {Lb : List Int} {vp : Value} {Lp : List Int} {wr w' : World} (h : RD w kd g c bf of cap l s M u gn asc de gp va La vb Lb vp Lp wr) (hg : wr.grownBy w' vp.ownBlock) : Blk w' M [.int .i64 kd, .int .i64 u, .int .i64 gn, .int .i64 asc, .int .i64 de, .int .i64 gp, va, vb, vp] :=
  h.m.heap (hg.block M h.m.lt (fun q => by have := (ownI_lt h.op q.symm).1; omega))
theorem RD.addP {w : World} {kd : Int} {g c bf of cap : Nat} {l : List Row} {s : ByteArray} {M : Nat} {u gn asc de gp : Int} {va : Value} {La : List Int} {vb : Value} {Lb : List Int} {vp : Value} {Lp : List Int} {wr w' : World} {g' n' c' : Nat} {L' : List Int} (h : RD w kd g c bf of cap l s M u gn asc de gp va La vb Lb vp Lp wr) (ho : OwnI (M + 1) w' (.slice (some ⟨g', 0, none⟩) n' c') L') (hg : wr.grownBy w' vp.ownBlock) (hat : vp.ownBlock = some g' ∨ g' = wr.heap.size) :
    RD w kd g c bf of cap l s M u gn asc de gp va La vb Lb (.slice (some ⟨g', 0, none⟩) n' c') L' (w'.setCell ⟨M, 8, none⟩ (.slice (some ⟨g', 0, none⟩) n' c')) := by
  have hM := h.hM
  have hMl := h.m.lt
  have lo : ∀ k, k ≤ M → vp.ownBlock ≠ some k := fun k hk q => by have := (ownI_lt h.op q).1; omega
  have e : ∀ k, k < wr.heap.size → vp.ownBlock ≠ some k → k ≠ M → (w'.setCell ⟨M, 8, none⟩ (.slice (some ⟨g', 0, none⟩) n' c')).heap[k]? = wr.heap[k]? := fun k h1 h2 h3 => by
    rw [Below.heap_setCell _ _ _ _ (by show k ≠ M; exact h3)]; exact hg.block k h1 (fun q => h2 q.symm)
  have hlt := (ownI_lt ho (g := g') rfl).1
  have fr : ∀ k, ((.slice (some ⟨g', 0, none⟩) n' c') : Value).ownBlock = some k → k = g' := by intro k q; cases q; rfl
  have hbel : Below w.heap.size w (w'.setCell ⟨M, 8, none⟩ (.slice (some ⟨g', 0, none⟩) n' c')) := (h.z.bel.grown hg h.z.bel.size (fun k hk => by have := (ownI_lt h.op hk).1; omega)).setCell (p := ⟨M, 8, none⟩) (by show w.heap.size ≤ M; omega) _
  have hnew : OwnI (M + 1) (w'.setCell ⟨M, 8, none⟩ (.slice (some ⟨g', 0, none⟩) n' c')) (.slice (some ⟨g', 0, none⟩) n' c') L' := ownI_keep ho (fun k hk _ => Below.heap_setCell _ _ _ _ (by cases hk; show g' ≠ M; omega))
  refine ⟨h.z.heap hbel (fun k hk hl => e k hl (lo k (by omega)) (by omega)), (h.growP hg).set 8 (by omega) _, hM, ownI_keep h.oa (fun k hk hl => e k hl (fun q => h.nap k hk q) (by have := (ownI_lt h.oa hk).1; omega)), ownI_keep h.ob (fun k hk hl => e k hl (fun q => h.nbp k hk q) (by have := (ownI_lt h.ob hk).1; omega)), hnew, h.nab, (fun k hk hq => by obtain rfl := fr k hq; rcases hat with q | q; exact h.nap _ hk q; have := (ownI_lt h.oa hk).2; omega), (fun k hk hq => by obtain rfl := fr k hq; rcases hat with q | q; exact h.nbp _ hk q; have := (ownI_lt h.ob hk).2; omega)⟩

/-- How the document's Read ends. -/
def DReadPost (w : World) (r : Int × Option Met) (e : Ending) (w' : World) : Prop :=
  match r with
  | (f, none) => e = .returned (.tuple #[noneMet, .int .i64 f]) ∧ Below w.heap.size w w'
  | (f, some m) => ∃ v, e = .returned (.tuple #[v, .int .i64 f]) ∧ IsMet w' m v ∧ Below w.heap.size w w'
theorem dread_no {w w' : World} {r : Int × Option Met} {f : Int} (h : r = (f, none)) (hb : Below w.heap.size w w') : DReadPost w r (.returned (.tuple #[.agg #[.int .i64 0, .int .i64 0, .int .i64 0, .int .i64 0, .int .i64 0, .int .i64 0, .slice none 0 0, .slice none 0 0, .slice none 0 0], .int .i64 f])) w' := by subst h; exact ⟨rfl, hb⟩
theorem dread_yes {w w' : World} {r : Int × Option Met} {m : Met} {v : Value} (h : r = (0, some m)) (hm : IsMet w' m v) (hb : Below w.heap.size w w') : DReadPost w r (.returned (.tuple #[v, .int .i64 0])) w' := by subst h; exact ⟨v, rfl, hm, hb⟩

theorem read_heads_no {kd : Int} {l : List Row} {s : ByteArray} {f : Int} (h : headsOf l s = (f, none)) : readOf kd l s = (f, none) ∧ f ≠ 0 := by
  unfold headsOf at h
  unfold readOf
  cases h1 : tabN l s headTg 54 with
  | none => rw [h1] at h; simp only [Prod.mk.injEq] at h; rw [← h.1]; exact ⟨rfl, by decide⟩
  | some hd =>
    rw [h1] at h
    simp only at h ⊢
    by_cases h2 : (rHead hd).1 ≠ 0
    · rw [if_pos h2] at h ⊢
      simp only [Prod.mk.injEq, and_true] at h
      exact ⟨by rw [h], by rw [← h]; exact h2⟩
    · rw [if_neg h2] at h ⊢
      cases h3 : tabN l s maxpTg 6 with
      | none => rw [h3] at h; simp only [Prod.mk.injEq] at h; rw [← h.1]; exact ⟨rfl, by decide⟩
      | some mx =>
        rw [h3] at h
        simp only at h ⊢
        by_cases h4 : (rMaxp mx).1 ≠ 0
        · rw [if_pos h4] at h ⊢
          simp only [Prod.mk.injEq, and_true] at h
          exact ⟨by rw [h], by rw [← h]; exact h4⟩
        · rw [if_neg h4] at h ⊢
          cases h5 : tabN l s hheaTg 36 with
          | none => rw [h5] at h; simp only [Prod.mk.injEq] at h; rw [← h.1]; exact ⟨rfl, by decide⟩
          | some hh =>
            rw [h5] at h
            simp only at h ⊢
            by_cases h6 : (rHhea hh (rMaxp mx).2).1 ≠ 0
            · rw [if_pos h6] at h ⊢
              simp only [Prod.mk.injEq, and_true] at h
              exact ⟨by rw [h], by rw [← h]; exact h6⟩
            · rw [if_neg h6] at h
              simp at h
/-- What is left to read behind the heads. -/
def readRest (kd : Int) (l : List Row) (s : ByteArray) (u : Int) (n wn : Nat) (asc de gp fo : Int) : Int × Option Met :=
  match tabN l s hmtxTg (2 * (n : Int) + 2 * (wn : Int)) with
  | none => (41, none)
  | some hm =>
    if (rPlaces kd l s n fo).1 ≠ 0 then ((rPlaces kd l s n fo).1, none) else
    (0, some ⟨kd, u, n, asc, de, gp, advL hm wn n, bearL hm wn n, (rPlaces kd l s n fo).2⟩)
theorem read_heads_yes {kd : Int} {l : List Row} {s : ByteArray} {f u gn asc de gp fo wd : Int} (h : headsOf l s = (f, some (u, gn, asc, de, gp, fo, wd))) :
    f = 0 ∧ ∃ n wn : Nat, gn = n ∧ wd = wn ∧ 1 ≤ n ∧ n ≤ 4096 ∧ 1 ≤ wn ∧ wn ≤ n ∧ (fo = 0 ∨ fo = 1) ∧ readOf kd l s = readRest kd l s u n wn asc de gp fo := by
  unfold headsOf at h
  unfold readOf
  cases h1 : tabN l s headTg 54 with
  | none => rw [h1] at h; simp at h
  | some hd =>
    rw [h1] at h
    simp only at h ⊢
    by_cases h2 : (rHead hd).1 ≠ 0
    · rw [if_pos h2] at h; simp at h
    · rw [if_neg h2] at h ⊢
      cases h3 : tabN l s maxpTg 6 with
      | none => rw [h3] at h; simp at h
      | some mx =>
        rw [h3] at h
        simp only at h ⊢
        by_cases h4 : (rMaxp mx).1 ≠ 0
        · rw [if_pos h4] at h; simp at h
        · rw [if_neg h4] at h ⊢
          cases h5 : tabN l s hheaTg 36 with
          | none => rw [h5] at h; simp at h
          | some hh =>
            rw [h5] at h
            simp only at h ⊢
            by_cases h6 : (rHhea hh (rMaxp mx).2).1 ≠ 0
            · rw [if_pos h6] at h; simp at h
            · rw [if_neg h6] at h ⊢
              obtain ⟨n, en, hn1, hn2⟩ := maxp_glyphs (b := mx) (by simpa using h4)
              rw [en] at h h6 ⊢
              obtain ⟨wn, ew, hw1, hw2⟩ := hhea_wide (b := hh) (n := n) (by simpa using h6)
              have hfo := head_form (b := hd) (by simpa using h2)
              rw [ew] at h ⊢
              simp only [Prod.mk.injEq, Option.some.injEq] at h
              obtain ⟨rfl, rfl, rfl, rfl, rfl, rfl, rfl, rfl⟩ := h
              refine ⟨rfl, n, wn, rfl, rfl, hn1, hn2, hw1, hw2, hfo, ?_⟩
              unfold readRest
              simp only [Int.toNat_natCast]
              cases tabN l s hmtxTg (2 * (n : Int) + 2 * (wn : Int)) <;> rfl
theorem advL_next (b : ByteArray) (wd : Int) (k : Nat) : advL b wd (k + 1) = advL b wd k ++ [advAt b wd k] := by simp [advL, List.range_succ]
theorem bearL_next (b : ByteArray) (wd : Int) (k : Nat) : bearL b wd (k + 1) = bearL b wd k ++ [bearAt b wd k] := by simp [bearL, List.range_succ]
theorem bel_dr {B : Nat} {a w : World} (h : Below B a w) : Below B a w.drew := ⟨h.os, h.tape, h.output, h.size, h.block⟩
theorem bel_undr {w w' : World} (h : Below w.drew.heap.size w.drew w') : Below w.heap.size w w' := ⟨h.os, h.tape, h.output, h.size, h.block⟩
theorem refi16_y (a : Option Addr) (len cap : Nat) (s : ByteArray) (at' x f y : Int) (w : World) (hB : IsB w a len cap s) (hs : (len : Int) ≤ 140737488355328) (HX : Hid (numOr s at' 2 = (x, f))) (HY : Hid (sign16 x = y)) :
    Calls Try.prog 33 #[.slice a len cap, .int .i64 at'] w fun e w' => e = .returned (.int .i64 y) ∧ w = w' := by
  have h := refi16_c a len cap s at' x f w hB hs HX
  rw [HY.out] at h
  exact h
theorem rd_lens {hm : ByteArray} {wn k n gk : Nat} {La Lb : List Int} (h : advL hm wn k = La ∧ bearL hm wn k = Lb) (hk : gk + k = n) (hn : 1 ≤ n ∧ n ≤ 4096 ∧ 1 ≤ wn ∧ wn ≤ n) : La.length = k ∧ Lb.length = k ∧ k ≤ 4096 := by
  obtain ⟨rfl, rfl⟩ := h
  exact ⟨advL_length _ _ _, bearL_length _ _ _, by omega⟩
theorem placeL_len {b : ByteArray} {form size : Int} : ∀ {k : Nat} {l : List Int}, placeL b form size k = some l → l.length = k
  | 0, l, h => by simp [placeL] at h; subst h; rfl
  | k + 1, l, h => by
    unfold placeL at h
    cases h1 : placeL b form size k with
    | none => rw [h1] at h; cases h
    | some q =>
      rw [h1] at h
      simp only at h
      split at h
      · cases h
      · simp at h
        rw [← h, List.length_append, placeL_len h1]; rfl
theorem placeL_none {b : ByteArray} {form size : Int} {k : Nat} (h : placeL b form size k = none) : ∀ j, placeL b form size (k + j) = none
  | 0 => h
  | j + 1 => by
    show placeL b form size ((k + j) + 1) = none
    unfold placeL
    rw [placeL_none h j]
theorem placeL_stop {b : ByteArray} {form size : Int} {k n : Nat} (h : placeL b form size (k + 1) = none) (hk : k < n) : placeL b form size n = none := by
  have := placeL_none h (n - (k + 1))
  rwa [show k + 1 + (n - (k + 1)) = n by omega] at this
theorem placeL_at {b : ByteArray} {form size x : Int} {k : Nat} {l : List Int} (h : placeL b form size k = some l) (hx : placeAt b form (k : Int) = x) : placeL b form size (k + 1) = if (0 < k ∧ x < l.getD (k - 1) 0) ∨ size < x then none else some (l ++ [x]) := by
  rw [placeL, h, hx]

theorem adv_step {hm : ByteArray} {wn : Int} {k : Nat} {La : List Int} {x : Int} (h : advL hm wn k = La) (hx : advAt hm wn k = x) : advL hm wn (k + 1) = La ++ [x] := by rw [advL_next, h, hx]
theorem bear_step {hm : ByteArray} {wn : Int} {k : Nat} {Lb : List Int} {x : Int} (h : bearL hm wn k = Lb) (hx : bearAt hm wn k = x) : bearL hm wn (k + 1) = Lb ++ [x] := by rw [bearL_next, h, hx]
theorem adv_lo {hm : ByteArray} {wn k : Nat} {x f : Int} (h : k < wn) (hx : numOr hm (4 * (k : Int)) 2 = (x, f)) : advAt hm wn k = x := by unfold advAt; rw [if_pos (by omega), hx]
theorem adv_hi {hm : ByteArray} {wn k : Nat} {x f : Int} (h : ¬ k < wn) (hx : numOr hm (4 * (wn : Int) - 4) 2 = (x, f)) : advAt hm wn k = x := by unfold advAt; rw [if_neg (by omega), hx]
theorem bear_lo {hm : ByteArray} {wn k : Nat} {x f y : Int} (h : k < wn) (hx : numOr hm (4 * (k : Int) + 2) 2 = (x, f)) (hy : sign16 x = y) : bearAt hm wn k = y := by unfold bearAt; rw [if_pos (by omega), hx, ← hy]
theorem bear_hi {hm : ByteArray} {wn k : Nat} {x f y : Int} (h : ¬ k < wn) (hx : numOr hm (2 * (wn : Int) + 2 * (k : Int)) 2 = (x, f)) (hy : sign16 x = y) : bearAt hm wn k = y := by unfold bearAt; rw [if_neg (by omega), hx, ← hy]
theorem lps_1 {gk k n : Nat} (h : gk + k = n) (hlt : k < n) : gk - 1 + (k + 1) = n ∧ gk - 1 < gk := by omega
theorem put_other {w : World} {R g : Nat} (h : g ≠ R) (u0 u1 u2 u3 u4 u5 u6 u7 u8 : Value) : (((((((((w.setCell ⟨R, 0, none⟩ u0).setCell ⟨R, 1, none⟩ u1).setCell ⟨R, 2, none⟩ u2).setCell ⟨R, 3, none⟩ u3).setCell ⟨R, 4, none⟩ u4).setCell ⟨R, 5, none⟩ u5).setCell ⟨R, 6, none⟩ u6).setCell ⟨R, 7, none⟩ u7).setCell ⟨R, 8, none⟩ u8).heap[g]? = w.heap[g]? := by
  have e : ∀ (x : World) (i : Nat) (u : Value), (x.setCell ⟨R, i, none⟩ u).heap[g]? = x.heap[g]? := fun x i u => Below.heap_setCell _ _ _ _ (by exact h)
  rw [e, e, e, e, e, e, e, e, e]
theorem RD.isMet {w : World} {kd : Int} {g c bf of cap : Nat} {l : List Row} {s : ByteArray} {M : Nat} {u gn asc de gp : Int} {va : Value} {La : List Int} {vb : Value} {Lb : List Int} {vp : Value} {Lp : List Int} {wr w' : World} (h : RD w kd g c bf of cap l s M u gn asc de gp va La vb Lb vp Lp wr) (hk : ∀ k, k ≠ w.heap.size + 1 → w'.heap[k]? = wr.heap[k]?) (h1 : La.length ≤ 5000) (h2 : Lb.length ≤ 5000) (h3 : Lp.length ≤ 5000) :
    IsMet w' ⟨kd, u, gn, asc, de, gp, La, Lb, Lp⟩ (.agg #[.int .i64 kd, .int .i64 u, .int .i64 gn, .int .i64 asc, .int .i64 de, .int .i64 gp, va, vb, vp]) := by
  have hM := h.hM
  have ka : OwnI (M + 1) w' va La := ownI_keep h.oa (fun k hg _ => hk k (by have := (ownI_lt h.oa hg).1; omega))
  have kb : OwnI (M + 1) w' vb Lb := ownI_keep h.ob (fun k hg _ => hk k (by have := (ownI_lt h.ob hg).1; omega))
  have kp : OwnI (M + 1) w' vp Lp := ownI_keep h.op (fun k hg _ => hk k (by have := (ownI_lt h.op hg).1; omega))
  obtain ⟨a, ca, rfl, ia⟩ := ownI_is ka
  obtain ⟨b, cb, rfl, ib⟩ := ownI_is kb
  obtain ⟨p, cp, rfl, ip⟩ := ownI_is kp
  exact ⟨a, b, p, ca, cb, cp, rfl, ia, ib, ip, by show La.length ≤ _; omega, by show Lb.length ≤ _; omega, by show Lp.length ≤ _; omega⟩
theorem pl_cff_no {l : List Row} {s : ByteArray} {gn fo : Int} (h : tabN l s cffTg 0 = none) : rPlaces 2 l s gn fo = (41, []) := by unfold rPlaces; rw [if_pos rfl, h]
theorem pl_cff_yes {l : List Row} {s b : ByteArray} {gn fo : Int} (h : tabN l s cffTg 0 = some b) : rPlaces 2 l s gn fo = (0, []) := by unfold rPlaces; rw [if_pos rfl, h]
theorem pl_loca_no {kd : Int} {l : List Row} {s : ByteArray} {gn fo : Int} (hk : ¬ kd = 2) (h : tabN l s locaTg ((gn + 1) * (2 + 2 * fo)) = none) : rPlaces kd l s gn fo = (41, []) := by unfold rPlaces; rw [if_neg hk, h]
theorem pl_glyf_no {kd : Int} {l : List Row} {s lo : ByteArray} {gn fo : Int} (hk : ¬ kd = 2) (h : tabN l s locaTg ((gn + 1) * (2 + 2 * fo)) = some lo) (h2 : tabN l s glyfTg 0 = none) : rPlaces kd l s gn fo = (41, []) := by unfold rPlaces; rw [if_neg hk, h]; simp only; rw [h2]
theorem pl_all {kd : Int} {l : List Row} {s lo gl : ByteArray} {n : Nat} {fo : Int} (hk : ¬ kd = 2) (h : tabN l s locaTg (((n : Int) + 1) * (2 + 2 * fo)) = some lo) (h2 : tabN l s glyfTg 0 = some gl) :
    rPlaces kd l s n fo = match placeL lo fo gl.size (n + 1) with | none => (41, []) | some ps => (0, ps) := by
  unfold rPlaces; rw [if_neg hk, h]; simp only; rw [h2]; simp only
  rw [show ((n : Int) + 1).toNat = n + 1 by omega]
  cases placeL lo fo gl.size (n + 1) <;> rfl
theorem rest_err {r : Int × Option Met} {p : Int × List Int} {m : List Int → Met} (h : r = if p.1 ≠ 0 then (p.1, none) else (0, some (m p.2))) (hp : p = (41, [])) : r = (41, none) := by subst hp; rw [h]; rfl
theorem rest_ok {r : Int × Option Met} {p : Int × List Int} {ps : List Int} {m : List Int → Met} (h : r = if p.1 ≠ 0 then (p.1, none) else (0, some (m p.2))) (hp : p = (0, ps)) : r = (0, some (m ps)) := by subst hp; rw [h]; rfl
theorem place_0 {b : ByteArray} {k : Nat} {x f : Int} (h : numOr b (2 * (k : Int)) 2 = (x, f)) : placeAt b 0 k = 2 * x := by unfold placeAt; rw [if_neg (by decide), h]
theorem place_1 {b : ByteArray} {k : Nat} {x f : Int} (h : numOr b (4 * (k : Int)) 4 = (x, f)) : placeAt b 1 k = x := by unfold placeAt; rw [if_pos rfl, h]
theorem pl_bad {b : ByteArray} {form size x : Int} {k : Nat} {l : List Int} {bad : Bool} (h : placeL b form size k = some l) (hx : placeAt b form (k : Int) = x) (hb : bad = ((decide (0 < k) && decide (x < l.getD (k - 1) 0)) || decide (size < x))) : placeL b form size (k + 1) = if bad = true then none else some (l ++ [x]) := by
  rw [placeL_at h hx, hb]
  by_cases h1 : 0 < k ∧ x < l.getD (k - 1) 0
  · rw [if_pos (.inl h1), decide_eq_true h1.1, decide_eq_true h1.2]; rfl
  · by_cases h2 : size < x
    · rw [if_pos (.inr h2)]; simp [h2]
    · rw [if_neg (by rintro (q | q); exact h1 q; exact h2 q)]
      rw [if_neg]
      simp only [Bool.or_eq_true, Bool.and_eq_true, decide_eq_true_eq]
      rintro (q | q)
      · exact h1 q
      · exact h2 q

end Go.Proofs.Ytbcjicmledckbaa
