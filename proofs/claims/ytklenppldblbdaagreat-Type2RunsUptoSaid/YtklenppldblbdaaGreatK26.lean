import Derived.Test.YtklenppldblbdaaGreatK25
import Derived.Test.YtklenppldblbdaaGreatK08
set_option linter.unusedSimpArgs false
set_option linter.unusedVariables false
namespace Go.Proofs.YtklenppldblbdaaGreat
open Go.RowKit Go.PlainAid
structure Rest (s s' : MS) : Prop where
 rows : s'.rows = s.rows
 stack : s'.stack = s.stack
 fuel : s'.fuel = s.fuel
 stems : s'.stems = s.stems
 width : s'.width = s.width
 asked : s'.asked = s.asked
 ended : s'.ended = s.ended
theorem Rest.refl (s : MS) : Rest s s := ⟨rfl, rfl, rfl, rfl, rfl, rfl, rfl⟩
theorem Rest.trans {a b c : MS} (h : Rest a b) (k : Rest b c) : Rest a c := ⟨k.rows.trans h.rows, k.stack.trans h.stack, k.fuel.trans h.fuel, k.stems.trans h.stems, k.width.trans h.width, k.asked.trans h.asked, k.ended.trans h.ended⟩
theorem Rest.refuse (s : MS) (e : Int) : Rest s (s.refuse e) := by unfold MS.refuse; split <;> exact ⟨rfl, rfl, rfl, rfl, rfl, rfl, rfl⟩
theorem Rest.knot (s : MS) (a b c : Int) : Rest s (s.knot a b c) := by
 unfold MS.knot
 split
 ·exact Rest.refl _
 split
 ·exact Rest.refuse _ _
 split
 ·exact Rest.refuse _ _
 ·exact ⟨rfl, rfl, rfl, rfl, rfl, rfl, rfl⟩
theorem Rest.move (s : MS) (a b : Int) : Rest s (s.move a b) := by
 unfold MS.move
 split
 ·exact Rest.refuse _ _
 ·exact Rest.trans (b := { s with out := s.out ++ [[]] }) ⟨rfl, rfl, rfl, rfl, rfl, rfl, rfl⟩ (Rest.knot _ _ _ _)
theorem Rest.curve (s : MS) (a b c d e f : Int) : Rest s (s.curve a b c d e f) := ((Rest.knot _ _ _ _).trans (Rest.knot _ _ _ _)).trans (Rest.knot _ _ _ _)
theorem Rest.lines : ∀ (l : List Int) (s : MS), Rest s (MS.lines l s)
 | [], s => Rest.refl _
 | [x], s => Rest.refl _
 | x :: y :: r, s => (Rest.knot _ _ _ _).trans (Rest.lines r _)
theorem Rest.steps : ∀ (l : List Int) (ax : Bool) (s : MS), Rest s (MS.steps l ax s)
 | [], ax, s => Rest.refl _
 | d :: r, ax, s => Rest.trans (by cases ax <;> exact Rest.knot _ _ _ _) (Rest.steps r _ _)
theorem Rest.curves : ∀ (l : List Int) (s : MS), Rest s (MS.curves l s)
 | [], s => Rest.refl _
 | [_], s => Rest.refl _
 | [_, _], s => Rest.refl _
 | [_, _, _], s => Rest.refl _
 | [_, _, _, _], s => Rest.refl _
 | [_, _, _, _, _], s => Rest.refl _
 | _ :: _ :: _ :: _ :: _ :: _ :: r, s => (Rest.curve _ _ _ _ _ _ _).trans (Rest.curves r _)
theorem Rest.wavesFrom : ∀ (l : List Int) (odd : Int) (ax : Bool) (s : MS), Rest s (MS.wavesFrom odd l ax s)
 | [], _, ax, s => by simp [MS.wavesFrom]; exact Rest.refl _
 | [_], _, ax, s => by simp [MS.wavesFrom]; exact Rest.refl _
 | [_, _], _, ax, s => by simp [MS.wavesFrom]; exact Rest.refl _
 | [_, _, _], _, ax, s => by simp [MS.wavesFrom]; exact Rest.refl _
 | _ :: _ :: _ :: _ :: r, _, ax, s => Rest.trans (by cases ax <;> exact Rest.curve _ _ _ _ _ _ _) (Rest.wavesFrom r _ _ _)
theorem Rest.turns : ∀ (l : List Int) (ax : Bool) (s : MS), Rest s (MS.turns l ax s)
 | [], ax, s => Rest.refl _
 | [_], ax, s => Rest.refl _
 | [_, _], ax, s => Rest.refl _
 | [_, _, _], ax, s => Rest.refl _
 | _ :: _ :: _ :: _ :: r, ax, s => Rest.trans (by cases ax <;> exact Rest.curve _ _ _ _ _ _ _) (Rest.turns r _ _)
theorem Rest.fault (s : MS) (f : Int) : Rest s { s with fault := f } := ⟨rfl, rfl, rfl, rfl, rfl, rfl, rfl⟩
theorem Rest.strokes (s : MS) (op : Int) (l : List Int) : Rest s (MS.strokes op l s) := by
 unfold MS.strokes MS.waves
 split
 ·exact Rest.lines _ _
 split
 ·exact Rest.steps _ _ _
 split
 ·exact Rest.curves _ _
 split
 ·exact (Rest.curves _ _).trans (Rest.lines _ _)
 split
 ·exact (Rest.lines _ _).trans (Rest.curves _ _)
 split
 ·split <;> exact Rest.wavesFrom _ _ _ _
 split
 ·exact Rest.turns _ _ _
 ·exact Rest.refl _
theorem Rest.flex (s : MS) (op : Int) (l : List Int) : Rest s (MS.flex op l s) := by
 unfold MS.flex
 simp only
 split
 ·exact (Rest.curve _ _ _ _ _ _ _).trans (Rest.curve _ _ _ _ _ _ _)
 split
 ·exact Rest.curves _ _
 split
 ·exact ((Rest.fault _ _).trans (Rest.curve _ _ _ _ _ _ _)).trans (Rest.curve _ _ _ _ _ _ _)
 split
 ·exact ((Rest.fault _ _).trans (Rest.curves _ _)).trans (Rest.curve _ _ _ _ _ _ _)
 ·exact Rest.refl _
theorem Rest.draw (s : MS) (op : Int) (l : List Int) : Rest s (MS.draw op l s) := by
 unfold MS.draw
 split
 ·exact Rest.refuse _ _
 split
 ·exact Rest.refuse _ _
 split
 ·exact Rest.flex _ _ _
 ·exact Rest.strokes _ _ _
structure StepFit (s : MS) : Prop where
 pen : PenFit s
 few : s.stack.length ≤ 48
 small : ∀ v ∈ s.stack, -2147483648 ≤ v ∧ v ≤ 2147483648
 fuel : s.fuel ≤ 20000
 stems : s.stems ≤ 200
 stems0 : s.fault = 0 → s.stems ≤ 96
 open' : 1 ≤ s.rows.length ∧ s.rows.length ≤ 11
 size : ∀ r ∈ s.rows, r.s.size ≤ 1000000
 rows0 : s.fault = 0 → ∀ r ∈ s.rows, r.c = false ∧ r.p ≤ r.s.size
theorem refuse_fault (s : MS) (e : Int) (he : e ≠ 0) : (s.refuse e).fault ≠ 0 := by
 unfold MS.refuse
 split
 ·exact he
 ·assumption
theorem next_c' {r : Rw} {k : Nat} (hc : r.c = false) (h : (r.next k).2.c = false) : r.p + k ≤ r.s.size := by
 unfold Rw.next numOr hasB at h
 simp only [hc, Bool.false_or] at h
 split at h
 ·rename_i hh
  simp at hh
  omega
 ·simp at h
theorem next_cut (r : Rw) (k : Nat) (h : r.c = true) : (r.next k).2.c = true := by simp [Rw.next, h]
theorem next_ok {r : Rw} {k : Nat} (h : (r.next k).2.c = false) : r.c = false ∧ r.p + k ≤ r.s.size := by
 have hc : r.c = false := by
  cases hx : r.c
  ·rfl
  ·rw [next_cut r k hx] at h; cases h
 exact ⟨hc, next_c' hc h⟩
def Goes (r r' : Rw) : Prop := r'.s = r.s ∧ r.p ≤ r'.p ∧ r'.p ≤ r.p + 4 ∧ (r'.c = false → r.c = false ∧ (r.p ≤ r.s.size → r'.p ≤ r.s.size))
theorem Goes.refl (r : Rw) : Goes r r := ⟨rfl, Nat.le_refl _, by omega, fun h => ⟨h, fun h => h⟩⟩
theorem goes_next (r : Rw) (k : Nat) (hk : k ≤ 4) : Goes r (r.next k).2 := ⟨rfl, by simp [Rw.next], by simp [Rw.next]; omega, fun h => ⟨(next_ok h).1, fun _ => (next_ok h).2⟩⟩
theorem goes_operand (r : Rw) (b : Int) : Goes r (r.operand b).2 := by
 unfold Rw.operand
 split
 ·exact goes_next r 2 (by decide)
 split
 ·exact Goes.refl _
 split
 ·exact Goes.refl _
 split
 ·exact goes_next r 1 (by decide)
 ·exact goes_next r 1 (by decide)
theorem goes_prog (r : Rw) (b : Int) : Goes r (r.prog b).2 := by
 unfold Rw.prog
 split
 ·exact goes_next r 4 (by decide)
 ·exact goes_operand r b
theorem goes_oper (r : Rw) (b : Int) : Goes r (r.oper b).2 := by
 unfold Rw.oper
 split
 ·exact goes_next r 1 (by decide)
 ·exact Goes.refl _
theorem prog_bound (r : Rw) (b : Int) (b0 : 0 ≤ b) (b1 : b ≤ 255) : -2147483648 ≤ (r.prog b).1.1 ∧ (r.prog b).1.1 ≤ 2147483648 := by
 have h1 := operand_bound r b b0 b1
 have h2 := sign32_bound (next_bound r).2.2.1 (next_bound r).2.2.2
 unfold Rw.prog
 split
 ·simp only; omega
 ·simp only; omega
theorem item_row (r : Rw) : r.item.2.s = r.s ∧ r.item.2.p ≤ r.p + 9 ∧ (r.item.2.c = false → r.c = false ∧ (r.p ≤ r.s.size → r.item.2.p ≤ r.s.size)) := by
 have g1 := goes_next r 1 (by decide)
 have g2 := goes_prog (r.next 1).2 (r.next 1).1
 unfold Rw.item
 simp only
 split
 ·exact ⟨g2.1.trans g1.1, by have := g1.2.2.1; have := g2.2.2.1; omega, fun h => ⟨(g1.2.2.2 (g2.2.2.2 h).1).1, fun hp => by have h3 := (g2.2.2.2 h).2; rw [g1.1] at h3; exact h3 ((g1.2.2.2 (g2.2.2.2 h).1).2 hp)⟩⟩
 ·have g3 := goes_oper ((r.next 1).2.prog (r.next 1).1).2 (r.next 1).1
  have g1' : (r.next 1).2.p = r.p + 1 := rfl
  refine ⟨(g3.1.trans g2.1).trans g1.1, by have := g2.2.2.1; have := g3.2.2.1; show (((r.next 1).2.prog (r.next 1).1).2.oper (r.next 1).1).2.p ≤ _; omega, fun h => ?_⟩
  have h3 := g3.2.2.2 h
  have h2 := g2.2.2.2 h3.1
  have h1 := g1.2.2.2 h2.1
  refine ⟨h1.1, fun hp => ?_⟩
  have a1 := h1.2 hp
  have a2 := h2.2 (by rw [g1.1]; exact a1)
  have a3 := h3.2 (by rw [g2.1]; exact a2)
  rw [g2.1, g1.1] at a3
  exact a3
theorem item_bound {r : Rw} (h : r.item.1.2 = true) : -2147483648 ≤ r.item.1.1 ∧ r.item.1.1 ≤ 2147483648 := by
 have hb := (next_bound r).1
 have hx := prog_bound (r.next 1).2 (r.next 1).1 hb.1 hb.2
 unfold Rw.item at h ⊢
 simp only at h ⊢
 by_cases hq : ((r.next 1).2.prog (r.next 1).1).1.2 = true
 ·rw [if_pos hq]; exact hx
 ·rw [if_neg hq] at h; simp at h
theorem StepFit.refuse {s : MS} (h : StepFit s) (e : Int) (he : e ≠ 0) : StepFit (s.refuse e) := by
 have hr := Rest.refuse s e
 have hf := refuse_fault s e he
 exact ⟨h.pen.refuse e, by rw [hr.stack]; exact h.few, by rw [hr.stack]; exact h.small, by rw [hr.fuel]; exact h.fuel, by rw [hr.stems]; exact h.stems, fun h0 => absurd h0 hf, by rw [hr.rows]; exact h.open', by rw [hr.rows]; exact h.size, fun h0 => absurd h0 hf⟩
theorem StepFit.rest {s s' : MS} (h : StepFit s) (hr : Rest s s') (hp : PenFit s') (h0 : s.fault = 0) : StepFit s' :=
 ⟨hp, by rw [hr.stack]; exact h.few, by rw [hr.stack]; exact h.small, by rw [hr.fuel]; exact h.fuel, by rw [hr.stems]; exact h.stems, fun _ => by rw [hr.stems]; exact h.stems0 h0, by rw [hr.rows]; exact h.open', by rw [hr.rows]; exact h.size, fun _ => by rw [hr.rows]; exact h.rows0 h0⟩
theorem StepFit.behind {s : MS} (h : StepFit s) (w1 : Int) (l : List Int) (many : Bool) : StepFit (s.behind w1 l many).2 := by
 obtain ⟨a1, a2, a3, a4, a5, a6, a7, a8⟩ := behind_stems s w1 l many
 exact ⟨h.pen.behind w1 l many, by rw [a5]; exact h.few, by rw [a5]; exact h.small, by rw [a6]; exact h.fuel, by rw [a1]; exact h.stems, by rw [a7, a1]; exact h.stems0, by rw [a4]; exact h.open', by rw [a4]; exact h.size, by rw [a7, a4]; exact h.rows0⟩
theorem StepFit.addStems {s : MS} (h : StepFit s) (h0 : s.fault = 0) (w1 : Int) (l : List Int) (hl : l.length ≤ 48) : StepFit (s.addStems w1 l) := by
 unfold MS.addStems
 have hb := h.behind w1 l (decide (l.length % 2 = 1))
 have hs := behind_stems s w1 l (decide (l.length % 2 = 1))
 have hq := (behind_list s w1 l (decide (l.length % 2 = 1))).1
 generalize s.behind w1 l (decide (l.length % 2 = 1)) = q at *
 have hst := h.stems0 h0
 simp only
 split
 ·exact hb.refuse _ (by decide)
 split
 ·have h1 : StepFit ({ q.2 with stems := q.2.stems + q.1.length / 2, fault := 1 } : MS) := ⟨hb.pen, hb.few, hb.small, hb.fuel, by simp only; omega, fun e => by simp at e, hb.open', hb.size, fun e => by simp at e⟩
  unfold MS.refuse
  simp only
  split
  ·exact ⟨hb.pen, hb.few, hb.small, hb.fuel, by simp only; omega, fun e => by simp at e, hb.open', hb.size, fun e => by simp at e⟩
  ·rename_i hne
   exact absurd (hs.2.2.2.2.2.2.1.trans h0) hne
 ·exact ⟨hb.pen, hb.few, hb.small, hb.fuel, by simp only; omega, fun _ => by simp only; omega, hb.open', hb.size, hb.rows0⟩
theorem StepFit.passMask {s : MS} (h : StepFit s) : StepFit s.passMask := by
 unfold MS.passMask
 match hr : s.rows with
 | [] => exact h
 | r :: rest =>
   have hsz := h.size
   have ho := h.open'
   have h00 := h.rows0
   rw [hr] at hsz ho h00
   have hps : (r.pass ((s.stems + 7) / 8)).s = r.s := rfl
   simp only
   split
   ·rename_i hc
    unfold MS.refuse
    simp only
    split
    ·exact ⟨h.pen, h.few, h.small, h.fuel, h.stems, fun e => by simp at e, ho, fun r' h' => by
      rcases List.mem_cons.1 h' with rfl | h'
      ·exact hsz r (by simp)
      ·exact hsz r' (by simp [h']), fun e => by simp at e⟩
    ·rename_i hf
     exact ⟨h.pen, h.few, h.small, h.fuel, h.stems, h.stems0, ho, fun r' h' => by
      rcases List.mem_cons.1 h' with rfl | h'
      ·exact hsz r (by simp)
      ·exact hsz r' (by simp [h']), fun e => absurd e hf⟩
   ·rename_i hc
    refine ⟨h.pen, h.few, h.small, h.fuel, h.stems, h.stems0, ho, fun r' h' => by
     rcases List.mem_cons.1 h' with rfl | h'
     ·exact hsz r (by simp)
     ·exact hsz r' (by simp [h']), fun e r' h' => ?_⟩
    have h0 := h00 e
    rcases List.mem_cons.1 h' with rfl | h'
    ·have hc' : (r.pass ((s.stems + 7) / 8)).c = false := by simpa using hc
     refine ⟨hc', ?_⟩
     simp [Rw.pass, hasB] at hc' ⊢
     omega
    ·exact h0 r' (by simp [h'])
theorem StepFit.move {s : MS} (h : StepFit s) (h0 : s.fault = 0) (a b : Int) : StepFit (s.move a b) := h.rest (Rest.move _ _ _) (h.pen.move _ _) h0
theorem StepFit.begin {s : MS} (h : StepFit s) (h0 : s.fault = 0) (w1 op : Int) (l : List Int) : StepFit (s.begin w1 op l) := by
 unfold MS.begin
 simp only
 have hb := h.behind w1 l (decide (l.length = (if op = 21 then 2 else 1) + 1))
 have hf := (behind_stems s w1 l (decide (l.length = (if op = 21 then 2 else 1) + 1))).2.2.2.2.2.2.1
 generalize s.behind w1 l (decide (l.length = (if op = 21 then 2 else 1) + 1)) = q at *
 rw [h0] at hf
 repeat' split
 all_goals first
  | exact hb.refuse _ (by decide)
  | exact hb.move hf _ _
  | exact hb
theorem StepFit.finish {s : MS} (h : StepFit s) (w1 : Int) (l : List Int) : StepFit (s.finish w1 l) := by
 unfold MS.finish
 simp only
 have hb := h.behind w1 l (decide (l.length = 1) || decide (l.length = 5))
 generalize s.behind w1 l (decide (l.length = 1) || decide (l.length = 5)) = q at *
 repeat' split
 ·exact ⟨hb.pen, hb.few, hb.small, hb.fuel, hb.stems, hb.stems0, hb.open', hb.size, hb.rows0⟩
 ·exact hb.refuse _ (by decide)
 ·exact hb.refuse _ (by decide)
theorem StepFit.take {s : MS} (h : StepFit s) (h0 : s.fault = 0) (w1 op : Int) (l : List Int) (hl : l.length ≤ 48) : StepFit (s.take w1 op l) := by
 unfold MS.take
 split
 ·exact h.addStems h0 w1 l hl
 split
 ·exact (h.addStems h0 w1 l hl).passMask
 split
 ·exact h.begin h0 w1 op l
 split
 ·exact h.finish w1 l
 ·exact h.rest (Rest.draw _ _ _) (h.pen.draw _ _) h0
theorem StepFit.cut {s : MS} (h : StepFit s) (l : List Int) (hl : ∀ v ∈ l, v ∈ s.stack) (hn : l.length ≤ s.stack.length) : StepFit { s with stack := l } :=
 ⟨h.pen, Nat.le_trans hn h.few, fun v hv => h.small v (hl v hv), h.fuel, h.stems, h.stems0, h.open', h.size, h.rows0⟩
def FSFit (f : FS) : Prop := (∀ P ∈ f.glyphs, P.size ≤ 1000000) ∧ (∀ P ∈ f.locals, P.size ≤ 1000000) ∧ (∀ P ∈ f.globals, P.size ≤ 1000000)
theorem StepFit.call {s : MS} (h : StepFit s) (rs : List ByteArray) (hrs : ∀ P ∈ rs, P.size ≤ 1000000) : StepFit (s.call rs) := by
 unfold MS.call
 split
 ·exact h.refuse _ (by decide)
 ·have h1 : StepFit { s with stack := s.stack.dropLast } := h.cut _ (fun v hv => (List.dropLast_sublist _).subset hv) (by simp)
  simp only
  split
  ·exact h1.refuse _ (by decide)
  split
  ·exact h1.refuse _ (by decide)
  ·rename_i hr hd
   refine ⟨h1.pen, h1.few, h1.small, h1.fuel, h1.stems, h1.stems0, by simp only [List.length_cons]; omega, fun r hr => ?_, fun e r hr => ?_⟩
   ·rcases List.mem_cons.1 hr with rfl | hr
    ·simp only [List.getD_eq_getElem?_getD]
     cases hx : rs[(s.stack.getLast?.getD 0 / 65536 + biasN rs.length).toNat]? with
     | none => exact Nat.zero_le _
     | some P => exact hrs P (List.mem_of_getElem? hx)
    ·exact h.size r hr
   ·rcases List.mem_cons.1 hr with rfl | hr
    ·exact ⟨rfl, Nat.zero_le _⟩
    ·exact h.rows0 e r hr
theorem StepFit.leave {s : MS} (h : StepFit s) : StepFit s.leave := by
 unfold MS.leave
 split
 ·exact h.refuse _ (by decide)
 ·have := h.open'
  exact ⟨h.pen, h.few, h.small, h.fuel, h.stems, h.stems0, by simp only [List.length_tail]; omega, fun r hr => h.size r (List.mem_of_mem_tail hr), fun e r hr => h.rows0 e r (List.mem_of_mem_tail hr)⟩
theorem StepFit.operate {s : MS} (h : StepFit s) (h0 : s.fault = 0) (f : FS) (hf : FSFit f) (op : Int) : StepFit (s.operate f op) := by
 unfold MS.operate
 split
 ·exact h.call _ hf.2.1
 split
 ·exact h.call _ hf.2.2
 split
 ·exact h.leave
 ·exact (h.take h0 f.w1 op s.stack h.few).cut [] (by simp) (by simp)
theorem StepFit.push {s : MS} (h : StepFit s) (n : Int) (hn : -2147483648 ≤ n ∧ n ≤ 2147483648) : StepFit (s.push n) := by
 unfold MS.push
 split
 ·exact h.refuse _ (by decide)
 ·have := h.few
  refine ⟨h.pen, by simp; omega, fun v hv => ?_, h.fuel, h.stems, h.stems0, h.open', h.size, h.rows0⟩
  rcases List.mem_append.1 hv with hv | hv
  ·exact h.small v hv
  ·simp at hv; subst hv; exact hn
theorem StepFit.step {s : MS} (h : StepFit s) (h0 : s.fault = 0) (f : FS) (hf : FSFit f) : StepFit (s.step f) := by
 unfold MS.step
 match hr : s.rows with
 | [] => exact h
 | r :: rest =>
   have hsz := h.size
   have ho := h.open'
   have h00 := h.rows0 h0
   rw [hr] at hsz ho h00
   have hi := item_row r
   simp only
   split
   ·exact h.refuse _ (by decide)
   split
   ·exact h.refuse _ (by decide)
   ·rename_i hp hfu
    have hfl := h.fuel
    have hz : ∀ r' ∈ r.item.2 :: rest, r'.s.size ≤ 1000000 := fun r' h' => by
     rcases List.mem_cons.1 h' with rfl | h'
     ·rw [hi.1]; exact hsz r (by simp)
     ·exact hsz r' (by simp [h'])
    split
    ·unfold MS.refuse
     simp only
     rw [if_pos h0]
     exact ⟨h.pen, h.few, h.small, by simp only; omega, h.stems, fun e => by simp at e, ho, hz, fun e => by simp at e⟩
    ·rename_i hc
     have hc' : r.item.2.c = false := by simpa using hc
     have h1 : StepFit { s with fuel := s.fuel + 1, rows := r.item.2 :: rest } := ⟨h.pen, h.few, h.small, by simp only; omega, h.stems, h.stems0, ho, hz, fun _ r' h' => by
      rcases List.mem_cons.1 h' with rfl | h'
      ·have h3 := h00 r (by simp)
       refine ⟨hc', ?_⟩
       rw [hi.1]
       exact (hi.2.2 hc').2 h3.2
      ·exact h00 r' (by simp [h'])⟩
     split
     ·rename_i hop
      exact h1.push _ (item_bound hop)
     ·exact h1.operate h0 f hf _
theorem take_fuel (s : MS) (w1 op : Int) (l : List Int) : (s.take w1 op l).fuel = s.fuel := by
 unfold MS.take
 split
 ·exact (addStems_keeps s w1 l).2.2.2.2.2
 split
 ·have hk := (addStems_keeps s w1 l).2.2.2.2.2
  unfold MS.passMask
  split
  ·exact hk
  ·simp only
   split
   ·rw [(Rest.refuse _ _).fuel]; exact hk
   ·exact hk
 split
 ·unfold MS.begin
  simp only
  have hq := (behind_stems s w1 l (decide (l.length = (if op = 21 then 2 else 1) + 1))).2.2.2.2.2.1
  generalize s.behind w1 l (decide (l.length = (if op = 21 then 2 else 1) + 1)) = q at *
  repeat' split
  all_goals first
   | (rw [(Rest.refuse _ _).fuel]; exact hq)
   | (rw [(Rest.move _ _ _).fuel]; exact hq)
   | exact hq
 split
 ·unfold MS.finish
  simp only
  have hq := (behind_stems s w1 l (decide (l.length = 1) || decide (l.length = 5))).2.2.2.2.2.1
  generalize s.behind w1 l (decide (l.length = 1) || decide (l.length = 5)) = q at *
  repeat' split
  all_goals first
   | (rw [(Rest.refuse _ _).fuel]; exact hq)
   | exact hq
 ·exact (Rest.draw _ _ _).fuel
theorem operate_fuel (s : MS) (f : FS) (op : Int) : (s.operate f op).fuel = s.fuel := by
 have hcall : ∀ rs, (s.call rs).fuel = s.fuel := by
  intro rs
  unfold MS.call
  split
  ·exact (Rest.refuse _ _).fuel
  ·simp only
   split
   ·exact (Rest.refuse _ _).fuel
   split
   ·exact (Rest.refuse _ _).fuel
   ·rfl
 unfold MS.operate
 split
 ·exact hcall _
 split
 ·exact hcall _
 split
 ·unfold MS.leave
  split
  ·exact (Rest.refuse _ _).fuel
  ·rfl
 ·exact take_fuel s f.w1 op s.stack
theorem step_fuel {s : MS} (f : FS) (h0 : (s.step f).fault = 0) (hr : s.rows ≠ []) : (s.step f).fuel = s.fuel + 1 := by
 unfold MS.step at h0 ⊢
 match hx : s.rows with
 | [] => exact absurd hx hr
 | r :: rest =>
   rw [hx] at h0
   simp only at h0 ⊢
   split at h0
   ·exact absurd h0 (refuse_fault _ _ (by decide))
   split at h0
   ·exact absurd h0 (refuse_fault _ _ (by decide))
   rename_i h1 h2
   rw [if_neg h1, if_neg h2]
   split at h0
   ·exact absurd h0 (refuse_fault _ _ (by decide))
   rename_i h3
   rw [if_neg h3]
   split
   ·unfold MS.push
    split
    ·exact (Rest.refuse _ _).fuel
    ·rfl
   ·exact operate_fuel _ _ _
end Go.Proofs.YtklenppldblbdaaGreat
namespace Go.Proofs.YtklenppldblbdaaGreat
open Go.RowKit Go.PlainAid
def GoM (f : FS) (k : Nat) (s s' : MS) : Prop := ∀ n, MS.run f (n + k) s = MS.run f n s'
theorem GoM.refl (f : FS) (s : MS) : GoM f 0 s s := fun n => rfl
theorem GoM.step {f : FS} {s s' : MS} (h0 : s.ended = false) (h1 : s.fault = 0) (h2 : s.step f = s') : GoM f 1 s s' := fun n => by
 rw [MS.run, if_neg (by rw [h0, h1]; simp), h2]
theorem GoM.trans {f : FS} {k m : Nat} {s s' s'' : MS} (h : GoM f k s s') (g : GoM f m s' s'') : GoM f (k + m) s s'' := fun n => by
 rw [show n + (k + m) = n + m + k by omega, h, g]
theorem num_at {s : ByteArray} {p k : Nat} (h : p + k ≤ s.size) : numOr s (p : Int) (k : Int) = (numN s p k, 0) := by
 unfold numOr
 rw [if_pos (by unfold hasB; simp; omega)]
 rfl
theorem num_no {s : ByteArray} {p k : Nat} (h : s.size < p + k) (hk : 0 < k) : numOr s (p : Int) (k : Int) = (0, 21) := by
 unfold numOr
 rw [if_neg]
 unfold hasB; simp; omega
theorem next_in {s : ByteArray} {p k : Nat} (h : p + k ≤ s.size) : (Rw.mk s p false).next k = (numN s p k, ⟨s, p + k, false⟩) := by
 unfold Rw.next; simp only [num_at h]; rfl
theorem next_out {s : ByteArray} {p k : Nat} (h : s.size < p + k) (hk : 0 < k) : (Rw.mk s p false).next k = (0, ⟨s, p + k, true⟩) := by
 unfold Rw.next; simp only [num_no h hk]; rfl
theorem next_one {s : ByteArray} {p : Nat} (h : p < s.size) : (Rw.mk s p false).next 1 = (bt s p, ⟨s, p + 1, false⟩) := by
 rw [next_in (by omega)]; simp [numN]
theorem prog_28 (r : Rw) : r.prog 28 = ((sign16 (r.next 2).1 * 65536, true), (r.next 2).2) := by
 unfold Rw.prog Rw.operand; rw [if_neg (by decide), if_pos rfl]
theorem prog_255 (r : Rw) : r.prog 255 = ((sign32 (r.next 4).1, true), (r.next 4).2) := by
 unfold Rw.prog; rw [if_pos rfl]
theorem prog_one (r : Rw) {b : Int} (h0 : 32 ≤ b) (h1 : b ≤ 246) : r.prog b = (((b - 139) * 65536, true), r) := by
 unfold Rw.prog Rw.operand; rw [if_neg (by omega), if_neg (by omega), if_neg (by omega), if_pos (by omega)]
theorem prog_two (r : Rw) {b : Int} (h0 : 247 ≤ b) (h1 : b ≤ 250) : r.prog b = ((((b - 247) * 256 + (r.next 1).1 + 108) * 65536, true), (r.next 1).2) := by
 unfold Rw.prog Rw.operand; rw [if_neg (by omega), if_neg (by omega), if_neg (by omega), if_neg (by omega), if_pos (by omega)]
theorem prog_neg (r : Rw) {b : Int} (h0 : 251 ≤ b) (h1 : b ≤ 254) : r.prog b = (((-(b - 251) * 256 - (r.next 1).1 - 108) * 65536, true), (r.next 1).2) := by
 unfold Rw.prog Rw.operand; rw [if_neg (by omega), if_neg (by omega), if_neg (by omega), if_neg (by omega), if_neg (by omega)]
theorem num_cases {s : ByteArray} {p : Nat} (hp : p < s.size) :
 (∃ q : Nat, (numD s p).2 = (q : Int) ∧ p < q ∧ q ≤ s.size ∧ (Rw.mk s (p + 1) false).prog (bt s p) = (((numD s p).1, true), ⟨s, q, false⟩)) ∨
 ((numD s p).2 = -2 ∧ ((Rw.mk s (p + 1) false).prog (bt s p)).1.2 = true ∧ ((Rw.mk s (p + 1) false).prog (bt s p)).2.c = true) ∨
 ((numD s p).2 = -1 ∧ bt s p < 32 ∧ bt s p ≠ 28) := by
 have hb0 := bt_nonneg s p
 have hb1 := bt_le s p
 by_cases e28 : bt s p = 28
 ·by_cases hh : p + 1 + 2 ≤ s.size
  ·have e : numOr s ((p + 1 : Nat) : Int) 2 = (numN s (p + 1) 2, 0) := num_at hh
   have hd : numD s p = (sign16 (numN s (p + 1) 2) * 65536, ((p + 3 : Nat) : Int)) := by unfold numD; rw [if_pos e28, e]; rfl
   rw [hd, e28, prog_28, next_in hh]
   exact .inl ⟨p + 3, rfl, by omega, by omega, rfl⟩
  ·have e : numOr s ((p + 1 : Nat) : Int) 2 = (0, 21) := num_no (k := 2) (by omega) (by decide)
   have hd : numD s p = (0, -2) := by unfold numD; rw [if_pos e28, e]; rfl
   rw [hd, e28, prog_28, next_out (show s.size < p + 1 + 2 by omega) (by decide)]
   exact .inr (.inl ⟨rfl, rfl, rfl⟩)
 by_cases e255 : bt s p = 255
 ·by_cases hh : p + 1 + 4 ≤ s.size
  ·have e : numOr s ((p + 1 : Nat) : Int) 4 = (numN s (p + 1) 4, 0) := num_at hh
   have hd : numD s p = (sign32 (numN s (p + 1) 4), ((p + 5 : Nat) : Int)) := by unfold numD; rw [if_neg e28, if_pos e255, e]; rfl
   rw [hd, e255, prog_255, next_in hh]
   exact .inl ⟨p + 5, rfl, by omega, by omega, rfl⟩
  ·have e : numOr s ((p + 1 : Nat) : Int) 4 = (0, 21) := num_no (k := 4) (by omega) (by decide)
   have hd : numD s p = (0, -2) := by unfold numD; rw [if_neg e28, if_pos e255, e]; rfl
   rw [hd, e255, prog_255, next_out (show s.size < p + 1 + 4 by omega) (by decide)]
   exact .inr (.inl ⟨rfl, rfl, rfl⟩)
 by_cases e32 : 32 ≤ bt s p
 ·have hd0 : numD s p = if (operD s p).2.2 = true then ((operD s p).1 * 65536, (operD s p).2.1) else (0, -2) := by unfold numD; rw [if_neg e28, if_neg e255, if_pos e32]
  by_cases e246 : bt s p ≤ 246
  ·have ho : operD s p = (bt s p - 139, ((p + 1 : Nat) : Int), true) := by unfold operD; rw [if_pos e246]
   rw [hd0, ho, prog_one _ e32 e246]
   exact .inl ⟨p + 1, rfl, by omega, by omega, rfl⟩
  ·by_cases hz : s.size ≤ p + 1
   ·have ho : operD s p = (0, 0, false) := by unfold operD; rw [if_neg e246, if_pos hz]
    rw [hd0, ho]
    refine .inr (.inl ⟨rfl, ?_⟩)
    by_cases e250 : bt s p ≤ 250
    ·rw [prog_two _ (by omega) e250, next_out (show s.size < p + 1 + 1 by omega) (by decide)]; exact ⟨rfl, rfl⟩
    ·rw [prog_neg _ (by omega) (by omega), next_out (show s.size < p + 1 + 1 by omega) (by decide)]; exact ⟨rfl, rfl⟩
   ·by_cases e250 : bt s p ≤ 250
    ·have ho : operD s p = ((bt s p - 247) * 256 + bt s (p + 1) + 108, ((p + 2 : Nat) : Int), true) := by unfold operD; rw [if_neg e246, if_neg hz, if_pos e250]
     rw [hd0, ho, prog_two _ (by omega) e250, next_one (show p + 1 < s.size by omega)]
     exact .inl ⟨p + 2, rfl, by omega, by omega, rfl⟩
    ·have ho : operD s p = (-(bt s p - 251) * 256 - bt s (p + 1) - 108, ((p + 2 : Nat) : Int), true) := by unfold operD; rw [if_neg e246, if_neg hz, if_neg e250]
     rw [hd0, ho, prog_neg _ (by omega) (by omega), next_one (show p + 1 < s.size by omega)]
     exact .inl ⟨p + 2, rfl, by omega, by omega, rfl⟩
 ·have hd : numD s p = (0, -1) := by unfold numD; rw [if_neg e28, if_neg e255, if_neg e32]
  rw [hd]
  exact .inr (.inr ⟨rfl, by omega, e28⟩)
theorem item_num {s : ByteArray} {p : Nat} (hp : p < s.size) (h : 0 ≤ (numD s p).2) : ∃ q : Nat, (numD s p).2 = (q : Int) ∧ p < q ∧ q ≤ s.size ∧ (Rw.mk s p false).item = (((numD s p).1, true), ⟨s, q, false⟩) := by
 rcases num_cases hp with ⟨q, h1, h2, h3, h4⟩ | ⟨h1, _⟩ | ⟨h1, _⟩
 ·refine ⟨q, h1, h2, h3, ?_⟩
  unfold Rw.item
  simp only [next_one hp, h4, if_true]
 ·omega
 ·omega
theorem item_bad {s : ByteArray} {p : Nat} (hp : p < s.size) (h : (numD s p).2 = -2) : (Rw.mk s p false).item.2.c = true := by
 rcases num_cases hp with ⟨q, h1, _⟩ | ⟨_, h2, h3⟩ | ⟨h1, _⟩
 ·omega
 ·unfold Rw.item
  simp only [next_one hp, h2, if_true, h3]
 ·omega
theorem item_op {s : ByteArray} {p : Nat} (hp : p < s.size) (h : (numD s p).2 = -1) :
 (bt s p ≠ 12 → (Rw.mk s p false).item = ((bt s p, false), ⟨s, p + 1, false⟩)) ∧ (bt s p = 12 → p + 1 < s.size → (Rw.mk s p false).item = ((1200 + bt s (p + 1), false), ⟨s, p + 2, false⟩)) ∧ (bt s p = 12 → s.size ≤ p + 1 → (Rw.mk s p false).item.2.c = true) := by
 have hb : bt s p < 32 ∧ bt s p ≠ 28 := by
  rcases num_cases hp with ⟨q, h1, _⟩ | ⟨h1, _⟩ | ⟨_, h2⟩
  ·omega
  ·omega
  ·exact h2
 have hpr : ∀ r : Rw, r.prog (bt s p) = ((0, false), r) := by
  intro r
  unfold Rw.prog Rw.operand
  rw [if_neg (by omega), if_neg hb.2, if_pos (.inl hb.1)]
  rfl
 unfold Rw.item
 simp only [next_one hp, hpr, if_false, Bool.false_eq_true]
 unfold Rw.oper
 refine ⟨fun h12 => ?_, fun h12 hq => ?_, fun h12 hq => ?_⟩
 ·rw [if_neg h12]
 ·rw [if_pos h12, next_one hq]
 ·rw [if_pos h12, next_out (by omega) (by decide)]
theorem step_item {f : FS} {s : MS} {b : ByteArray} {p : Nat} {rest : List Rw} (hr : s.rows = ⟨b, p, false⟩ :: rest) (hp : p < b.size) (hf : s.fuel ≠ 20000) (hc : (Rw.mk b p false).item.2.c = false) :
 s.step f = (let s1 : MS := { s with fuel := s.fuel + 1, rows := (Rw.mk b p false).item.2 :: rest }
  if (Rw.mk b p false).item.1.2 = true then s1.push (Rw.mk b p false).item.1.1 else s1.operate f (Rw.mk b p false).item.1.1) := by
 unfold MS.step
 rw [hr]
 simp only
 rw [if_neg (by omega), if_neg hf, if_neg (by rw [hc]; simp)]
theorem step_broken {f : FS} {s : MS} {b : ByteArray} {p : Nat} {rest : List Rw} (hr : s.rows = ⟨b, p, false⟩ :: rest) (hp : p < b.size) (hf : s.fuel ≠ 20000) (hc : (Rw.mk b p false).item.2.c = true) :
 s.step f = ({ s with fuel := s.fuel + 1, rows := (Rw.mk b p false).item.2 :: rest } : MS).refuse 81 := by
 unfold MS.step
 rw [hr]
 simp only
 rw [if_neg (by omega), if_neg hf, if_pos hc]
theorem step_over {f : FS} {s : MS} {b : ByteArray} {p : Nat} {rest : List Rw} (hr : s.rows = ⟨b, p, false⟩ :: rest) (hp : b.size ≤ p) : s.step f = s.refuse 81 := by
 unfold MS.step
 rw [hr]
 simp only
 rw [if_pos hp]
theorem step_worn {f : FS} {s : MS} {b : ByteArray} {p : Nat} {rest : List Rw} (hr : s.rows = ⟨b, p, false⟩ :: rest) (hp : p < b.size) (hf : s.fuel = 20000) : s.step f = s.refuse 83 := by
 unfold MS.step
 rw [hr]
 simp only
 rw [if_neg (by omega), if_pos hf]
end Go.Proofs.YtklenppldblbdaaGreat
