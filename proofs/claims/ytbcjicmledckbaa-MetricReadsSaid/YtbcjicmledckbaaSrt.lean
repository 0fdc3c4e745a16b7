/-
  Rows of pieces in memory; what the document's Sorted answers: each piece put ahead of the first one whose tag is greater.
-/
import Derived.Test.YtbcjicmledckbaaBld
namespace Go.Proofs.Ytbcjicmledckbaa
open Go.RowKit Go.PlainAid
set_option linter.unusedSimpArgs false
set_option linter.unusedVariables false

/-- A piece as it lies in memory: its tag, and where its bytes lie. -/
structure Pv where
  tag : ByteArray
  a : Option Addr
  n : Nat
  c : Nat
/-- The cells of a row of pieces. -/
def pvCells : List Pv → List Value
  | [] => []
  | p :: r => .string p.tag :: .slice p.a p.n p.c :: pvCells r
theorem pvCells_length : ∀ l, (pvCells l).length = l.length * 2
  | [] => rfl
  | p :: r => by simp [pvCells, pvCells_length r]; omega
theorem pvCells_join : ∀ l m, pvCells (l ++ m) = pvCells l ++ pvCells m
  | [], m => rfl
  | p :: r, m => by simp [pvCells, pvCells_join r m]
theorem pvCells_at : ∀ (l : List Pv) (i : Nat) (p : Pv), l[i]? = some p → (pvCells l)[i * 2]? = some (.string p.tag) ∧ (pvCells l)[i * 2 + 1]? = some (.slice p.a p.n p.c)
  | [], i, r, h => by simp at h
  | q :: l, 0, r, h => by simp at h; subst h; simp [pvCells]
  | q :: l, i + 1, r, h => by
    have := pvCells_at l i r (by simpa using h)
    rw [pvCells, show (i + 1) * 2 = i * 2 + 1 + 1 by omega]
    simpa using this

/-- An owned row of pieces. -/
abbrev OwnP (B : Nat) (w : World) (g c : Nat) (l : List Pv) : Prop := w.ownsRow B 48 2 (.slice (some ⟨g, 0, none⟩) l.length c) l.length (pvCells l)
/-- A row of pieces that can be read. -/
def InP (w : World) (g : Nat) (l : List Pv) : Prop := ∀ i p, l[i]? = some p → w.cell? ⟨g, i * 2, none⟩ = some (.string p.tag) ∧ w.cell? ⟨g, i * 2 + 1, none⟩ = some (.slice p.a p.n p.c)
theorem ownP_in {B : Nat} {w : World} {g c : Nat} {l : List Pv} (h : OwnP B w g c l) : InP w g l := by
  intro i p hp
  have ⟨e0, e1⟩ := pvCells_at l i p hp
  exact ⟨(owns_cell h e0).1, (owns_cell h e1).1⟩
theorem InP.below {w w' : World} {g : Nat} {l : List Pv} (h : InP w g l) (hb : Below w.heap.size w w') : InP w' g l := by
  intro i p hp
  obtain ⟨h1, h2⟩ := h i p hp
  exact ⟨keepC hb h1, keepC hb h2⟩

theorem infoPiece : (Try.prog.info? 48).map (fun i => (i.zero, i.size, i.bytes)) = some (some (.agg #[.string ⟨#[]⟩, .slice none 0 0]), 2, 40) := by kernel_rfl

theorem wpList_addP {ops : Array Oper} {rest : List Oper} {o : Oper} {t : Act} {Q : Exit → Act → World → Prop} (hgd : o.guard = none) (sl x : Operand)
    (ho : o.op = .call { callee := .builtin .append, args := #[sl, x], argTypes := #[44, 44] })
    (w : World) (base g c : Nat) (l : List Pv) (p : Pv) (X n : Nat) (hn : n = l.length) (hs : t.eval sl = .slice (some ⟨g, 0, none⟩) n c) (hx : t.eval x = .slice (some ⟨X, 0, none⟩) 1 1)
    (hown : OwnP base w g c l) (h0 : w.cell? ⟨X, 0, none⟩ = some (.string p.tag)) (h1 : w.cell? ⟨X, 1, none⟩ = some (.slice p.a p.n p.c)) (hl : l.length ≤ 100000) (hbase : base ≤ w.heap.size)
    (h : ∀ g' c' w', OwnP base w' g' c' (l ++ [p]) → w.grownBy w' (some g) → (g' = g ∨ w.heap.size ≤ g') → wpList Try.prog ops Q rest (t.put o.dst (.slice (some ⟨g', 0, none⟩) (n + 1) c')) w') :
    wpList Try.prog ops Q (o :: rest) t w := by
  subst hn
  obtain ⟨i0, hi, hz0, hz1, hz2⟩ := info_parts infoPiece
  refine wpList_append_lies _ hgd sl x _ ho base 48 i0 _ 2 40 Try.underlying44 hi hz0 hz1 hz2 rfl (by omega) _ l.length (pvCells l) hs hown ⟨X, 0, none⟩ 1 1 [.string p.tag, .slice p.a p.n p.c] hx rfl ?_ ?_ (by omega) (by unfold maxLen; omega) (by omega) hbase w.heap.size rfl ?_
  · intro j u hj
    rw [Addr.add_lit, Nat.zero_add]
    match j, hj with
    | 0, hj => simp at hj; subst hj; exact h0
    | 1, hj => simp at hj; subst hj; exact h1
  · intro u hu
    simp at hu
    rcases hu with rfl | rfl <;> rfl
  · intro g' c' w' ho' hg' hat hlt
    refine h g' c' w' ?_ hg' ?_
    · show w'.ownsRow _ _ _ (.slice _ (l ++ [p]).length _) (l ++ [p]).length _
      rw [List.length_append, pvCells_join]
      exact ho'
    · rcases hat with hat | hat
      · left; simpa [Value.ownBlock] using hat.symm
      · right; omega

/-- One round of the inner loop. -/
def stepP (p : Pv) (s : List Pv × Bool) (q : Pv) : List Pv × Bool := if !s.2 && Op.bytesLess p.tag.toList q.tag.toList then (s.1 ++ [p] ++ [q], true) else (s.1 ++ [q], s.2)
/-- A piece put into its place. -/
def insV (p : Pv) (out : List Pv) : List Pv := if (out.foldl (stepP p) ([], false)).2 then (out.foldl (stepP p) ([], false)).1 else (out.foldl (stepP p) ([], false)).1 ++ [p]
/-- All of them. -/
def sortV (l : List Pv) : List Pv := l.foldl (fun out p => insV p out) []

theorem foldP_len (p : Pv) (out : List Pv) : ∀ s : List Pv × Bool, s.1.length ≤ (out.foldl (stepP p) s).1.length ∧ (out.foldl (stepP p) s).1.length + (if s.2 then 1 else 0) = s.1.length + out.length + (if (out.foldl (stepP p) s).2 then 1 else 0) := by
  induction out with
  | nil => intro s; obtain ⟨a, b⟩ := s; cases b <;> simp
  | cons q r ih =>
    intro s
    have h := ih (stepP p s q)
    rw [List.foldl_cons]
    have hs : s.1.length ≤ (stepP p s q).1.length ∧ (stepP p s q).1.length + (if s.2 then 1 else 0) = s.1.length + 1 + (if (stepP p s q).2 then 1 else 0) := by
      unfold stepP
      by_cases hc : (!s.2 && Op.bytesLess p.tag.toList q.tag.toList) = true
      · rw [if_pos hc]
        have : s.2 = false := by simp at hc; exact hc.1
        simp [this]
      · rw [if_neg hc]
        simp
    simp only [List.length_cons]
    omega
theorem insV_length (p : Pv) (out : List Pv) : (insV p out).length = out.length + 1 := by
  have h := (foldP_len p out ([], false)).2
  unfold insV
  split
  · rename_i hc
    simp [hc] at h
    omega
  · rename_i hc
    simp [hc] at h
    simp
    omega
theorem sortV_snoc (l : List Pv) (p : Pv) : sortV (l ++ [p]) = insV p (sortV l) := by simp [sortV]
theorem sortV_length : ∀ (l : List Pv), (sortV l).length = l.length := by
  intro l
  have : ∀ (r : List Pv) (o : List Pv), (r.foldl (fun out p => insV p out) o).length = o.length + r.length := by
    intro r
    induction r with
    | nil => intro o; simp
    | cons p r ih => intro o; rw [List.foldl_cons, ih, insV_length, List.length_cons]; omega
  unfold sortV
  rw [this]
  simp
theorem own_none (w0 w : World) (h : w0.heap.size ≤ w.heap.size) : OwnP w0.heap.size (w.alloc (.cells #[] 48)) w.heap.size 0 [] :=
  ⟨rfl, .inr ⟨w.heap.size, 0, #[], rfl, h, heap_alloc_new w _, Nat.le_refl _, by unfold maxLen; omega, rfl, rfl⟩⟩

/-- The state of the inner loop: the row that grows, and all that was there kept. -/
structure SIn (w1 : World) (acc : List Pv) (gn cn : Nat) (wr : World) : Prop where
  bel : Below w1.heap.size w1 wr
  own : OwnP w1.heap.size wr gn cn acc
theorem SIn.below {w1 wr w' : World} {acc : List Pv} {gn cn : Nat} (h : SIn w1 acc gn cn wr) (hb : Below wr.heap.size wr w') : SIn w1 acc gn cn w' :=
  ⟨h.bel.trans (hb.mono h.bel.size), owns_stay h.own hb⟩
theorem two_cells (w : World) (t : ByteArray) (a : Option Addr) (n c : Nat) : (w.alloc (.cells #[.string t, .slice a n c] 48)).cell? ⟨w.heap.size, 0, none⟩ = some (.string t) ∧ (w.alloc (.cells #[.string t, .slice a n c] 48)).cell? ⟨w.heap.size, 1, none⟩ = some (.slice a n c) ∧
    Below w.heap.size w (w.alloc (.cells #[.string t, .slice a n c] 48)) ∧ (w.alloc (.cells #[.string t, .slice a n c] 48)).heap.size = w.heap.size + 1 :=
  ⟨by simp [go_sem], by simp [go_sem], (Below.refl _ _).alloc (Nat.le_refl _) _, by simp [go_sem]⟩
theorem SIn.add {w1 wr w' : World} {acc acc' : List Pv} {gn cn g' c' : Nat} (h : SIn w1 acc gn cn wr) (ho : OwnP w1.heap.size w' g' c' acc') (hg : wr.grownBy w' (some gn)) : SIn w1 acc' g' c' w' :=
  ⟨grown_below h.bel hg h.bel.size (owns_lt h.own).2, ho⟩

set_option maxHeartbeats 4000000 in
theorem sorted_c (b c : Nat) (l : List Pv) (w : World) (hI : InP w b l) (hn : l.length ≤ 1000) :
    Calls Try.prog 15 #[.slice (some ⟨b, 0, none⟩) l.length c] w fun e w' => ∃ g c', e = .returned (.slice (some ⟨g, 0, none⟩) l.length c') ∧ OwnP w.heap.size w' g c' (sortV l) ∧ Below w.heap.size w w' := by
  have HI := Lib.hid hI
  have HN := Lib.hid hn
  have HO0 := Lib.hid (own_none w w (Nat.le_refl _))
  have HB0 : Hid (Below w.heap.size w (w.alloc (.cells #[] 48))) := (Below.refl _ _).alloc (Nat.le_refl _) _
  clear hI hn
  generalize hln : l.length = n at *
  have HLN := Lib.hid hln
  clear hln
  go_enter Try.func15, Try.ntmps15
  go_wp2_with fail
  go_loopw [3, 13] (fun ov i wr => ∃ k go co : Nat, k ≤ n ∧ ov = .slice (some ⟨go, 0, none⟩) k co ∧ i = .int .i64 k ∧ Hid (OwnP w.heap.size wr go co (sortV (l.take k))) ∧ Hid (Below w.heap.size w wr)) (fun _ i _ => n - (intOf i).toNat)
  case atStart => exact ⟨0, w.heap.size, 0, Nat.zero_le _, rfl, rfl, HO0, HB0⟩
  case round =>
    clear HO0 HB0
    obtain ⟨k, go, co, hk, rfl, rfl, HO, HB⟩ := hrel
    have HSL : Hid ((sortV (l.take k)).length = k) := by unfold Hid; rw [sortV_length, List.length_take, HLN.out]; omega
    have HW7 : Hid (wrap64 ((k : Int) + 1) = ((k + 1 : Nat) : Int)) := by have := HN.out; unfold Hid wrap64; omega
    by_cases hlt : k < n
    · have hlt' : (k : Int) < (n : Int) := by omega
      obtain ⟨⟨tg, pa, pn, pc⟩, hp⟩ : ∃ p, l[k]? = some p := ⟨l[k]'(by rw [HLN.out]; exact hlt), by simp [HLN.out, hlt]⟩
      obtain ⟨h1, h2⟩ := (HI.out.below HB.out) k _ hp
      simp only at h1 h2
      have HPK : Hid (sortV (l.take (k + 1)) = insV ⟨tg, pa, pn, pc⟩ (sortV (l.take k))) := by unfold Hid; rw [List.take_add_one, hp]; exact sortV_snoc _ _
      have HBA : Hid (Below wr.heap.size wr (wr.alloc (.cells #[.string tg, .slice pa pn pc] 48))) := (Below.refl _ _).alloc (Nat.le_refl _) _
      have HBW := Lib.hid (HB.out.trans (HBA.out.mono HB.out.size))
      have HOI := Lib.hid (ownP_in (owns_stay HO.out HBA.out))
      have hx0 : (wr.alloc (.cells #[.string tg, .slice pa pn pc] 48)).cell? ⟨wr.heap.size, 0, none⟩ = some (.string tg) := by simp [go_sem]
      have hx1 : (wr.alloc (.cells #[.string tg, .slice pa pn pc] 48)).cell? ⟨wr.heap.size, 1, none⟩ = some (.slice pa pn pc) := by simp [go_sem]
      have HX := Lib.hid (And.intro hx0 hx1)
      have hws : (wr.alloc (.cells #[.string tg, .slice pa pn pc] 48)).heap.size = wr.heap.size + 1 := by simp [go_sem]
      clear hp HB HO HBA hx0 hx1
      go_wp2_with fail
      generalize (wr.alloc (.cells #[.string tg, .slice pa pn pc] 48)) = w1 at *
      have HS0 : Hid (SIn w1 [] (wr.heap.size + 1) 0 (w1.alloc (.cells #[] 48))) := by
        rw [← hws]
        exact ⟨(Below.refl _ _).alloc (Nat.le_refl _) _, own_none w1 w1 (Nat.le_refl _)⟩
      clear h1 h2
      generalize hX : wr.heap.size = X at *
      clear hX hws
      generalize hout : sortV (l.take k) = out at *
      clear hout
      go_loopw [6, 7, 20] (fun nv pv i wr => ∃ j m gn cn : Nat, ∃ acc : List Pv, ∃ pl : Bool, j ≤ k ∧ nv = .slice (some ⟨gn, 0, none⟩) m cn ∧ pv = .bool pl ∧ i = .int .i64 j ∧ Hid ((out.take j).foldl (stepP ⟨tg, pa, pn, pc⟩) ([], false) = (acc, pl)) ∧ Hid (m = acc.length ∧ acc.length ≤ j + 1) ∧ Hid (SIn w1 acc gn cn wr)) (fun _ _ i _ => k - (intOf i).toNat)
      case atStart => exact ⟨0, 0, X + 1, 0, [], false, Nat.zero_le _, rfl, rfl, rfl, rfl, ⟨rfl, Nat.zero_le _⟩, HS0⟩
      case round =>
        clear HS0
        obtain ⟨j, m, gn, cn, acc, pl, hj, rfl, rfl, rfl, HF, HM, HS⟩ := hrel
        have HFL : Hid (acc.length = j + (if pl then 1 else 0)) := by
          have h := (foldP_len ⟨tg, pa, pn, pc⟩ (out.take j) ([], false)).2
          rw [HF.out] at h
          have h3 : (out.take j).length = j := by rw [List.length_take, HSL.out]; omega
          unfold Hid
          simp [h3] at h
          exact h
        by_cases hjk : j < k
        · have hjk' : (j : Int) < (k : Int) := by omega
          obtain ⟨⟨qt, qa, qn, qc⟩, hq⟩ : ∃ q, out[j]? = some q := ⟨out[j]'(by rw [HSL.out]; exact hjk), by simp [HSL.out, hjk]⟩
          obtain ⟨h1, h2⟩ := (HOI.out.below HS.out.bel) j _ hq
          simp only at h1 h2
          have HNX : Hid ((out.take (j + 1)).foldl (stepP ⟨tg, pa, pn, pc⟩) ([], false) = stepP ⟨tg, pa, pn, pc⟩ (acc, pl) ⟨qt, qa, qn, qc⟩) := by
            unfold Hid; rw [List.take_add_one, hq]; simp only [Option.toList_some, List.foldl_append, List.foldl_cons, List.foldl_nil, HF.out]
          have ha := two_cells wr qt qa qn qc
          have hsa := HS.out.below ha.2.2.1
          have ha0 := ha.1
          have ha1 := ha.2.1
          have hb := two_cells (wr.alloc (.cells #[.string qt, .slice qa qn qc] 48)) qt qa qn qc
          rw [ha.2.2.2] at hb
          have HSB := Lib.hid (hsa.below (by have := hb.2.2.1; rwa [← ha.2.2.2] at this))
          have hb0 := hb.1
          have hb1 := hb.2.1
          clear hb
          have hlen := ha.2.2.2
          have HBW1 := Lib.hid (HS.out.bel.trans (ha.2.2.1.mono HS.out.bel.size))
          have hX0 := keepC HBW1.out HX.out.1
          have hX1 := keepC HBW1.out HX.out.2
          have HGN := Lib.hid (owns_lt HS.out.own).1
          have HSA := Lib.hid hsa
          clear hsa HS ha
          cases pl
          · cases hless : Op.bytesLess tg.toList qt.toList
            · have HN2 : Hid ((out.take (j + 1)).foldl (stepP ⟨tg, pa, pn, pc⟩) ([], false) = (acc ++ [⟨qt, qa, qn, qc⟩], false)) := by unfold Hid; rw [HNX.out, stepP, if_neg (by simp [hless])]
              clear hq HNX
              go_wp2_with (at_builtin; refine wpList_addP rfl _ _ rfl ((wr.alloc (.cells #[.string qt, .slice qa qn qc] 48)).alloc (.cells #[.string qt, .slice qa qn qc] 48)) w1.heap.size gn cn acc ⟨qt, qa, qn, qc⟩ (wr.heap.size + 1) m HM.out.1 rfl rfl HSB.out.own hb0 hb1 (by have := HM.out; have := HN.out; omega) HSB.out.bel.size ?_; intro g2 c2 w2 ho hg hat; have HS2 := Lib.hid (HSB.out.add ho hg); clear ho hg hat)
              have HWJ : Hid (wrap64 ((j : Int) + 1) = ((j + 1 : Nat) : Int)) := by have := HN.out; unfold Hid wrap64; omega
              go_roundw
              case rel => exact ⟨j + 1, m + 1, g2, c2, acc ++ [⟨qt, qa, qn, qc⟩], false, by omega, rfl, rfl, by rw [HWJ.out], HN2, by have := HM.out; unfold Hid; simp; omega, HS2⟩
              case measure => rw [HWJ.out]; simp only [intOf]; omega
            · have HN2 : Hid ((out.take (j + 1)).foldl (stepP ⟨tg, pa, pn, pc⟩) ([], false) = (acc ++ [⟨tg, pa, pn, pc⟩] ++ [⟨qt, qa, qn, qc⟩], true)) := by unfold Hid; rw [HNX.out, stepP, if_pos (by simp [hless])]
              clear hq HNX hb0 hb1 HSB
              have hb := two_cells (wr.alloc (.cells #[.string qt, .slice qa qn qc] 48)) tg pa pn pc
              rw [hlen] at hb
              have HSB := Lib.hid (HSA.out.below (by have := hb.2.2.1; rwa [← hlen] at this))
              have hb0 := hb.1
              have hb1 := hb.2.1
              have hqa0 := keepC (by have := hb.2.2.1; rwa [← hlen] at this) ha0
              have hqa1 := keepC (by have := hb.2.2.1; rwa [← hlen] at this) ha1
              clear hb
              go_wp2_with (first
                | (at_builtin; refine wpList_addP rfl _ _ rfl ((wr.alloc (.cells #[.string qt, .slice qa qn qc] 48)).alloc (.cells #[.string tg, .slice pa pn pc] 48)) w1.heap.size gn cn acc ⟨tg, pa, pn, pc⟩ (wr.heap.size + 1) m HM.out.1 rfl rfl HSB.out.own hb0 hb1 (by have := HM.out; have := HN.out; omega) HSB.out.bel.size ?_; intro g2 c2 w2 ho hg hat; have HS2 := Lib.hid (HSB.out.add ho hg); have hq0 := hg.cell hqa0 (by have := HGN.out; simp; omega); have hq1 := hg.cell hqa1 (by have := HGN.out; simp; omega); have hc := two_cells w2 qt qa qn qc; have HS3 := Lib.hid (HS2.out.below hc.2.2.1); have hc0 := hc.1; have hc1 := hc.2.1; clear ho hg hat hc)
                | (at_builtin; refine wpList_addP rfl _ _ rfl (w2.alloc (.cells #[.string qt, .slice qa qn qc] 48)) w1.heap.size g2 c2 (acc ++ [⟨tg, pa, pn, pc⟩]) ⟨qt, qa, qn, qc⟩ w2.heap.size (m + 1) (by have := HM.out; simp; omega) rfl rfl HS3.out.own hc0 hc1 (by have := HM.out; have := HN.out; simp; omega) HS3.out.bel.size ?_; intro g4 c4 w4 ho hg hat; have HS4 := Lib.hid (HS3.out.add ho hg); clear ho hg hat))
              have HWJ : Hid (wrap64 ((j : Int) + 1) = ((j + 1 : Nat) : Int)) := by have := HN.out; unfold Hid wrap64; omega
              go_roundw
              case rel => exact ⟨j + 1, m + 1 + 1, g4, c4, acc ++ [⟨tg, pa, pn, pc⟩] ++ [⟨qt, qa, qn, qc⟩], true, by omega, rfl, rfl, by rw [HWJ.out], HN2, by have := HM.out; have := HFL.out; unfold Hid; simp at *; omega, HS4⟩
              case measure => rw [HWJ.out]; simp only [intOf]; omega
          · have HN2 : Hid ((out.take (j + 1)).foldl (stepP ⟨tg, pa, pn, pc⟩) ([], false) = (acc ++ [⟨qt, qa, qn, qc⟩], true)) := by unfold Hid; rw [HNX.out, stepP, if_neg (by simp)]
            clear hq HNX
            go_wp2_with (at_builtin; refine wpList_addP rfl _ _ rfl ((wr.alloc (.cells #[.string qt, .slice qa qn qc] 48)).alloc (.cells #[.string qt, .slice qa qn qc] 48)) w1.heap.size gn cn acc ⟨qt, qa, qn, qc⟩ (wr.heap.size + 1) m HM.out.1 rfl rfl HSB.out.own hb0 hb1 (by have := HM.out; have := HN.out; omega) HSB.out.bel.size ?_; intro g2 c2 w2 ho hg hat; have HS2 := Lib.hid (HSB.out.add ho hg); clear ho hg hat)
            have HWJ : Hid (wrap64 ((j : Int) + 1) = ((j + 1 : Nat) : Int)) := by have := HN.out; unfold Hid wrap64; omega
            go_roundw
            case rel => exact ⟨j + 1, m + 1, g2, c2, acc ++ [⟨qt, qa, qn, qc⟩], true, by omega, rfl, rfl, by rw [HWJ.out], HN2, by have := HM.out; unfold Hid; simp; omega, HS2⟩
            case measure => rw [HWJ.out]; simp only [intOf]; omega
        · have hjk' : ¬ (j : Int) < (k : Int) := by omega
          have HFF : Hid (out.foldl (stepP ⟨tg, pa, pn, pc⟩) ([], false) = (acc, pl)) := by
            have := HF.out
            rwa [List.take_of_length_le (by rw [HSL.out]; omega)] at this
          have HLL := Lib.hid (insV_length ⟨tg, pa, pn, pc⟩ out)
          cases pl
          · have HE : Hid (insV ⟨tg, pa, pn, pc⟩ out = acc ++ [⟨tg, pa, pn, pc⟩]) := by unfold Hid insV; rw [HFF.out]; rfl
            have hX0 := keepC HS.out.bel HX.out.1
            have hX1 := keepC HS.out.bel HX.out.2
            have hb := two_cells wr tg pa pn pc
            have HSB := Lib.hid (HS.out.below hb.2.2.1)
            have hb0 := hb.1
            have hb1 := hb.2.1
            clear hb HS
            go_wp2_with (at_builtin; refine wpList_addP rfl _ _ rfl (wr.alloc (.cells #[.string tg, .slice pa pn pc] 48)) w1.heap.size gn cn acc ⟨tg, pa, pn, pc⟩ wr.heap.size m HM.out.1 rfl rfl HSB.out.own hb0 hb1 (by have := HM.out; have := HN.out; omega) HSB.out.bel.size ?_; intro g2 c2 w2 ho hg hat; have HS2 := Lib.hid (HSB.out.add ho hg); clear ho hg hat)
            go_roundw
            case rel => exact ⟨k + 1, g2, c2, by omega, by have := HLL.out; rw [HE.out] at this; have := HM.out; have := HSL.out; simp at *; congr 1; omega, by rw [HW7.out], by unfold Hid; rw [HPK.out, HE.out]; exact owns_base HBW.out.size HS2.out.own, HBW.out.trans (HS2.out.bel.mono HBW.out.size)⟩
            case measure => rw [HW7.out]; simp only [intOf]; omega
          · have HE : Hid (insV ⟨tg, pa, pn, pc⟩ out = acc) := by unfold Hid insV; rw [HFF.out]; rfl
            go_wp2_with fail
            go_roundw
            case rel => exact ⟨k + 1, gn, cn, by omega, by have := HLL.out; rw [HE.out] at this; have := HM.out; have := HSL.out; congr 1; omega, by rw [HW7.out], by unfold Hid; rw [HPK.out, HE.out]; exact owns_base HBW.out.size HS.out.own, HBW.out.trans (HS.out.bel.mono HBW.out.size)⟩
            case measure => rw [HW7.out]; simp only [intOf]; omega
    · have hlt' : ¬ (k : Int) < (n : Int) := by omega
      have ek : k = n := by omega
      have HE : Hid (l.take k = l) := by unfold Hid; rw [ek]; exact List.take_of_length_le (by rw [HLN.out]; omega)
      go_wp2_with fail
      go_ret
      have h9 := HO.out
      rw [HE.out] at h9
      exact ⟨go, co, by rfl, h9, HB.out⟩

end Go.Proofs.Ytbcjicmledckbaa
