/-
  What hmtx of package metric's reader does: two new rows of numbers, filled.
-/
import Derived.Test.YtbcjicmledckbaaMtC
import Derived.Test.YtbcjicmledckbaaInts
namespace Go.Proofs.Ytbcjicmledckbaa
open Go.RowKit Go.PlainAid
set_option linter.unusedSimpArgs false
set_option linter.unusedVariables false

/-- The first k numbers are those of f, the others 0. -/
def partL (f : Nat → Int) (n k : Nat) : List Int := (List.range n).map fun g => if g < k then f g else 0
theorem partL_length (f : Nat → Int) (n k : Nat) : (partL f n k).length = n := by simp [partL]
theorem partL_start (f : Nat → Int) (n : Nat) : partL f n 0 = List.replicate n 0 := by
  apply List.ext_getElem
  · simp [partL]
  · intro i h1 h2; simp [partL]
theorem partL_end (f : Nat → Int) (n : Nat) : partL f n n = (List.range n).map f := by
  apply List.ext_getElem
  · simp [partL]
  · intro i h1 h2; simp [partL] at h1 ⊢; intro h; omega
theorem partL_set (f : Nat → Int) (n k : Nat) : (partL f n k).set k (f k) = partL f n (k + 1) := by
  apply List.ext_getElem
  · simp [partL]
  · intro i h1 h2
    simp [partL, List.getElem_set]
    by_cases e : k = i
    · subst e; simp
    · simp [e]
      have : (i < k + 1) = (i < k) := by simp; omega
      simp [this]

/-- How the reading of hmtx ends. -/
def HmtxPost (gr gf : Nat) (w : World) (vs : List Value) (n wide : Nat) (v : Option ByteArray) (e : Ending) (w' : World) : Prop :=
  match v with
  | none => e = gave 41 ∧ Below gr w w'
  | some b => e = .returned (.tuple #[]) ∧ Below gr w w' ∧ ∃ ga gb, Rd w' gr gf ((vs.set 6 (.slice (some ⟨ga, 0, none⟩) n n)).set 7 (.slice (some ⟨gb, 0, none⟩) n n)) ∧ IntsAt w' ga (advL b wide n) ∧ IntsAt w' gb (bearL b wide n) ∧ w.heap.size ≤ ga ∧ ga < gb
theorem hmtxPost_no {gr gf : Nat} {w w' : World} {vs : List Value} {n wide : Nat} {v : Option ByteArray} (hv : v = none) (hb : Below gr w w') : HmtxPost gr gf w vs n wide v (gave 41) w' := by subst hv; exact ⟨rfl, hb⟩

/-- The state of the loop. -/
structure HLoop (gr gf : Nat) (w : World) (vs : List Value) (n wide ga gb gv : Nat) (tb : ByteArray) (k : Nat) (wr : World) : Prop where
  bel : Below gr w wr
  rd : Rd wr gr gf ((vs.set 6 (.slice (some ⟨ga, 0, none⟩) n n)).set 7 (.slice (some ⟨gb, 0, none⟩) n n))
  a : IntsAt wr ga (partL (fun g => advAt tb wide g) n k)
  b : IntsAt wr gb (partL (fun g => bearAt tb wide g) n k)
  v : wr.cell? ⟨gv, 0, none⟩ = some (.string tb)
  ord : gr < gv ∧ gv < ga ∧ ga < gb ∧ w.heap.size ≤ ga

theorem hloop_start {gr gf : Nat} {w w1 w2 w4 : World} {vs : List Value} {n wide gv : Nat} {b : ByteArray} (hb : Below gr w w1) (hr : Rd w1 gr gf vs) (hc : w1.cell? ⟨gv, 0, none⟩ = some (.string b)) (h1 : gr < gv)
    (i1 : IntsAt w2 w1.heap.size (List.replicate n 0)) (b1 : Below w1.heap.size w1 w2) (z1 : w2.heap.size = w1.heap.size + 1)
    (i3 : IntsAt w4 (w2.setCell ⟨gr, 7, none⟩ (.slice (some ⟨w1.heap.size, 0, none⟩) n n)).heap.size (List.replicate n 0)) (b3 : Below (w2.setCell ⟨gr, 7, none⟩ (.slice (some ⟨w1.heap.size, 0, none⟩) n n)).heap.size (w2.setCell ⟨gr, 7, none⟩ (.slice (some ⟨w1.heap.size, 0, none⟩) n n)) w4) :
    HLoop gr gf w vs n wide w1.heap.size (w2.setCell ⟨gr, 7, none⟩ (.slice (some ⟨w1.heap.size, 0, none⟩) n n)).heap.size gv b 0 (w4.setCell ⟨gr, 8, none⟩ (.slice (some ⟨(w2.setCell ⟨gr, 7, none⟩ (.slice (some ⟨w1.heap.size, 0, none⟩) n n)).heap.size, 0, none⟩) n n)) ∧
      Rd w2 gr gf vs ∧ Rd w4 gr gf (vs.set 6 (.slice (some ⟨w1.heap.size, 0, none⟩) n n)) := by
  have hlt := hr.lt
  have hv := World.block_lt_of_cell? w1 _ hc
  simp only at hv
  have r0 := hr.kept b1 hlt
  have r1 := r0.set 6 (by omega) (.slice (some ⟨w1.heap.size, 0, none⟩) n n)
  have c1 := keepC b1 hc
  have b1' : Below gr w w2 := hb.trans (b1.mono (by omega))
  have i2 := i1.other ⟨gr, 7, none⟩ (.slice (some ⟨w1.heap.size, 0, none⟩) n n) (by simp; omega)
  have c2 : (w2.setCell ⟨gr, 7, none⟩ (.slice (some ⟨w1.heap.size, 0, none⟩) n n)).cell? ⟨gv, 0, none⟩ = some (.string b) := by rw [World.cell?_setCell_other _ _ _ _ (by simp)]; exact c1
  have b2 : Below gr w (w2.setCell ⟨gr, 7, none⟩ (.slice (some ⟨w1.heap.size, 0, none⟩) n n)) := b1'.setCell (p := ⟨gr, 7, none⟩) (Nat.le_refl _) _
  have z2 : (w2.setCell ⟨gr, 7, none⟩ (.slice (some ⟨w1.heap.size, 0, none⟩) n n)).heap.size = w1.heap.size + 1 := by rw [← z1]; simp [go_sem]
  simp only [Nat.reduceAdd] at r1
  generalize (w2.setCell ⟨gr, 7, none⟩ (.slice (some ⟨w1.heap.size, 0, none⟩) n n)) = w3 at *
  have r4 := r1.kept b3 (by omega)
  refine ⟨⟨(b2.trans (b3.mono (by omega))).setCell (p := ⟨gr, 8, none⟩) (Nat.le_refl _) _, r4.set 7 (by omega) _, ?_, ?_, ?_, ⟨h1, by omega, by omega, hb.size⟩⟩, r0, r4⟩
  · rw [partL_start]; exact (i2.below b3).other _ _ (by simp; omega)
  · rw [partL_start]; exact i3.other _ _ (by simp; omega)
  · rw [World.cell?_setCell_other _ _ _ _ (by simp)]; exact keepC b3 c2

theorem advAt_low {b : ByteArray} {wide k : Nat} (h : k < wide) : advAt b wide k = (numOr b (4 * (k : Int)) 2).1 := by unfold advAt; rw [if_pos (by omega)]
theorem advAt_high {b : ByteArray} {wide k : Nat} (h : ¬ k < wide) : advAt b wide k = (numOr b (4 * ((wide : Int) - 1)) 2).1 := by unfold advAt; rw [if_neg (by omega)]; congr 2; omega
theorem bearAt_low {b : ByteArray} {wide k : Nat} (h : k < wide) : bearAt b wide k = sign16 (numOr b (4 * (k : Int) + 2) 2).1 := by unfold bearAt; rw [if_pos (by omega)]
theorem bearAt_high {b : ByteArray} {wide k : Nat} (h : ¬ k < wide) : bearAt b wide k = sign16 (numOr b (2 * (wide : Int) + 2 * k) 2).1 := by unfold bearAt; rw [if_neg (by omega)]

theorem hloop_next {gr gf : Nat} {w wr : World} {vs : List Value} {n wide ga gb gv : Nat} {b : ByteArray} {k : Nat} (h : HLoop gr gf w vs n wide ga gb gv b k wr) {x y : Int} (hx : advAt b wide k = x) (hy : bearAt b wide k = y) :
    HLoop gr gf w vs n wide ga gb gv b (k + 1) ((wr.setCell ⟨ga, k, none⟩ (.int .i64 x)).setCell ⟨gb, k, none⟩ (.int .i64 y)) := by
  obtain ⟨h1, h2, h3, h4, h5, h6⟩ := h
  have hrk : ∀ (p : Addr) (u : World) (vs : List Value) (z : Value), p.block ≠ gr → Rd u gr gf vs → Rd (u.setCell p z) gr gf vs := by
    intro p u vs z hp hr
    refine ⟨?_, hr.len, ?_, ?_⟩
    · rw [World.cell?_setCell_other _ _ _ _ (by intro q; subst q; exact hp rfl)]; exact hr.p
    · intro i hi; rw [World.cell?_setCell_other _ _ _ _ (by intro q; subst q; exact hp rfl)]; exact hr.c i hi
    · intro i hi; simpa using hr.f i hi
  refine ⟨(h1.setCell (p := ⟨ga, k, none⟩) (by show gr ≤ ga; omega) _).setCell (p := ⟨gb, k, none⟩) (by show gr ≤ gb; omega) _, hrk _ _ _ _ (by show gb ≠ gr; omega) (hrk _ _ _ _ (by show ga ≠ gr; omega) h2), ?_, ?_, ?_, h6⟩
  · subst hx
    have := h3.set k (advAt b wide k)
    rw [partL_set (fun g => advAt b wide g) n k] at this
    exact this.other _ _ (by simp; omega)
  · subst hy
    have := (h4.other ⟨ga, k, none⟩ (.int .i64 x) (by simp; omega)).set k (bearAt b wide k)
    rwa [partL_set (fun g => bearAt b wide g) n k] at this
  · rw [World.cell?_setCell_other _ _ _ _ (by intro q; cases q; omega), World.cell?_setCell_other _ _ _ _ (by intro q; cases q; omega)]; exact h5

theorem HLoop.drew {gr gf : Nat} {w wr : World} {vs : List Value} {n wide ga gb gv : Nat} {b : ByteArray} {k : Nat} (h : HLoop gr gf w vs n wide ga gb gv b k wr) : HLoop gr gf w vs n wide ga gb gv b k wr.drew :=
  ⟨h.bel.drew, ⟨h.rd.p, h.rd.len, h.rd.c, h.rd.f⟩, h.a, h.b, h.v, h.ord⟩
theorem hloop_two {gr gf : Nat} {w wr : World} {vs : List Value} {n wide ga gb gv : Nat} {b : ByteArray} {k : Nat} (h : HLoop gr gf w vs n wide ga gb gv b k wr) {x y : Int} (hx : advAt b wide k = x) (hy : bearAt b wide k = y) :
    HLoop gr gf w vs n wide ga gb gv b (k + 1) ((wr.setCell ⟨ga, k, none⟩ (.int .i64 x)).drew.setCell ⟨gb, k, none⟩ (.int .i64 y)).drew := (hloop_next h hx hy).drew.drew
/-- What is read behind the first store. -/
theorem hloop_mid {gr gf : Nat} {w wr : World} {vs : List Value} {n wide ga gb gv : Nat} {b : ByteArray} {k : Nat} (h : HLoop gr gf w vs n wide ga gb gv b k wr) (x : Value) (p : Addr) (hp : p.block < ga ∨ ga < p.block) : (wr.setCell ⟨ga, k, none⟩ x).drew.cell? p = wr.cell? p :=
  World.cell?_setCell_other _ _ _ _ (by intro q; subst q; simp at hp)
theorem hloop_end {gr gf : Nat} {w wr : World} {vs : List Value} {n wide ga gb gv : Nat} {b : ByteArray} {k : Nat} (h : HLoop gr gf w vs n wide ga gb gv b k wr) (x y : Value) (p : Addr) (hp : p.block < ga) : ((wr.setCell ⟨ga, k, none⟩ x).drew.setCell ⟨gb, k, none⟩ y).drew.cell? p = wr.cell? p := by
  have hg := h.ord
  have := World.cell?_setCell_other (w := (wr.setCell ⟨ga, k, none⟩ x).drew) (a := ⟨gb, k, none⟩) (v := y) (b := p) (by intro q; subst q; simp at hp; omega)
  exact this.trans (hloop_mid h x p (.inl hp))

set_option maxHeartbeats 4000000 in
theorem hmtx_c (gr gf n wide : Nat) (kd : Int) (l : List Row) (s : ByteArray) (w : World) (vs : List Value) (hR : Rd w gr gf vs) (hn : vs[2]? = some (.int .i64 n)) (hF : FontIn gr w gf kd l s) (hw1 : 1 ≤ wide) (hw2 : wide ≤ n) (hn2 : n ≤ 4096) :
    Calls Try.prog 37 #[.pointer (some ⟨gr, 0, none⟩), .int .i64 wide] w (HmtxPost gr gf w vs n wide (tabN l s hmtxTg (2 * n + 2 * wide))) := by
  have HR := Lib.hid hR
  have HF := Lib.hid hF
  have HG := Lib.hid hR.lt
  have HS := Lib.hid hF.size
  have HNN := Lib.hid hn
  have HW := Lib.hid (And.intro hw1 (And.intro hw2 hn2))
  have hc3 := (hR.c 2 (by omega)).trans hn
  clear hR hF hn
  obtain ⟨v, HV⟩ : ∃ v, Hid (tabN l s hmtxTg (2 * n + 2 * wide) = v) := ⟨_, rfl⟩
  have e1 : wrap64 (4 * (wide : Int)) = 4 * (wide : Int) := by unfold wrap64; omega
  have e2 : wrap64 ((n : Int) - (wide : Int)) = (n : Int) - (wide : Int) := by unfold wrap64; omega
  have e3 : wrap64 (2 * ((n : Int) - (wide : Int))) = 2 * ((n : Int) - (wide : Int)) := by unfold wrap64; omega
  have e4 : wrap64 (4 * (wide : Int) + 2 * ((n : Int) - (wide : Int))) = 2 * n + 2 * wide := by unfold wrap64; omega
  clear hw1 hw2 hn2
  go_enter Try.func37, Try.ntmps37
  go_wp2_with fail
  refine (need_c w.heap.size gr gf kd (2 * n + 2 * wide) l s _ w HR.out.p (HF.out.mono (Nat.le_of_lt HG.out)) (Nat.le_refl _)).mono ?_
  rw [show (ByteArray.toList ⟨#[104, 109, 116, 120]⟩) = hmtxTg from tl_hmtxTg, HV.out]
  cases v with
  | none =>
    rintro e w1 ⟨rfl, hb1⟩
    unfold gave
    go_wp2_with fail
    exact ⟨rfl, hmtxPost_no (by first | exact HV.out | rfl) (hb1.mono (Nat.le_of_lt HG.out))⟩
  | some b =>
    have HZ := Lib.hid (tab_small HV.out HS.out)
    rintro e w1 ⟨gv, rfl, hc1, hs1, hb1⟩
    have HB1 := Lib.hid (hb1.mono (Nat.le_of_lt HG.out))
    have HR1 := Lib.hid (HR.out.kept hb1 HG.out)
    have HVV : Hid (gr < gv) := by have := HG.out; unfold Hid; omega
    obtain ⟨w2, hmk1, hi1, hbb1, hz1⟩ := make_ints n (by have := HW.out; omega) w1
    obtain ⟨w4, hmk2, hi3, hbb3, hz3⟩ := make_ints n (by have := HW.out; omega) (w2.setCell ⟨gr, 7, none⟩ (.slice (some ⟨w1.heap.size, 0, none⟩) n n))
    obtain ⟨hl0, hr2, hr4⟩ := hloop_start (wide := wide) HB1.out HR1.out hc1 HVV.out hi1 hbb1 hz1 hi3 hbb3
    have HL0 := Lib.hid hl0
    have hc3' := (HR1.out.c 2 (by omega)).trans HNN.out
    have hc32 := (hr2.c 2 (by omega)).trans HNN.out
    obtain ⟨z, hz⟩ := hr2.at 6 (by omega)
    have hfz := hr2.f 7 (by omega)
    obtain ⟨z', hz'⟩ := hr4.at 7 (by omega)
    have hfz' := hr4.f 8 (by omega)
    have hc34 := (hr4.c 2 (by omega)).trans (by simpa using HNN.out)
    generalize hga : w1.heap.size = ga at *
    generalize hgb : (w2.setCell ⟨gr, 7, none⟩ (.slice (some ⟨ga, 0, none⟩) n n)).heap.size = gb at *
    simp only [Nat.reduceAdd] at *
    clear hb1 hs1 e1 e2 e3 e4 hc3 hl0 hi1 hbb1 hz1 hi3 hbb3 hz3 hr2 hr4
    go_wp2_with fail
    clear hc3' hc32 hz hfz hz' hfz' hc34 hmk1 hmk2 hga hgb
    go_loopw [45] (fun i wr => ∃ k : Nat, k ≤ n ∧ i = .int .i64 k ∧ Hid (HLoop gr gf w vs n wide ga gb gv b k wr)) (fun i _ => n - (intOf i).toNat)
    case atStart => exact ⟨0, Nat.zero_le _, rfl, HL0⟩
    case round =>
      clear HL0
      obtain ⟨k, hk, rfl, HL⟩ := hrel
      by_cases hlt : k < n
      · have hlt' : (k : Int) < (n : Int) := by omega
        have hv := HL.out.v
        have hs7 := (HL.out.rd.c 6 (by omega)).trans (by have := HL.out.rd.len; simp at this; simp [this] : _ = some (.slice (some ⟨ga, 0, none⟩) n n))
        have hs8 := (HL.out.rd.c 7 (by omega)).trans (by have := HL.out.rd.len; simp at this; simp [this] : _ = some (.slice (some ⟨gb, 0, none⟩) n n))
        simp only [Nat.reduceAdd] at hs7 hs8
        have hca := HL.out.a.cell (i := k) (by rw [partL_length]; exact hlt)
        have hcb := HL.out.b.cell (i := k) (by rw [partL_length]; exact hlt)
        have hfa := HL.out.a.frozen k
        have hfb := HL.out.b.frozen k
        by_cases hw : k < wide
        · have X1 := num_in (b := b) (a := 4 * (k : Int)) (n := 2) (by omega) (by omega) (by have := HZ.out; omega)
          have X2 := num_in (b := b) (a := 4 * (k : Int) + 2) (n := 2) (by omega) (by omega) (by have := HZ.out; omega)
          have HY1 : Hid (advAt b wide k = (numOr b (4 * (k : Int)) 2).1) := advAt_low hw
          have HY2 : Hid (bearAt b wide k = sign16 (numOr b (4 * (k : Int) + 2) 2).1) := bearAt_low hw
          generalize (numOr b (4 * (k : Int)) 2).1 = x1 at *
          generalize (numOr b (4 * (k : Int) + 2) 2).1 = x2 at *
          have hb1 : IntKind.i64.wrap ((wide : Int) - 1) = (wide : Int) - 1 := by have := HW.out; rw [IntWalk.i64_left]; unfold wrap64; omega
          have hm1 : IntKind.i64.wrap (4 * (k : Int)) = 4 * (k : Int) := by have := HW.out; rw [IntWalk.i64_left]; unfold wrap64; omega
          have hm2 : IntKind.i64.wrap (4 * (k : Int) + 2) = 4 * (k : Int) + 2 := by have := HW.out; rw [IntWalk.i64_left]; unfold wrap64; omega
          have hs7' := (hloop_mid HL.out (.int .i64 x1) ⟨gr, 7, none⟩ (.inl (by have := HL.out.ord; show gr < ga; omega))).trans hs7
          have hs8' := (hloop_mid HL.out (.int .i64 x1) ⟨gr, 8, none⟩ (.inl (by have := HL.out.ord; show gr < ga; omega))).trans hs8
          have hv' := (hloop_mid HL.out (.int .i64 x1) ⟨gv, 0, none⟩ (.inl (by have := HL.out.ord; show gv < ga; omega))).trans hv
          have hcb' := (hloop_mid HL.out (.int .i64 x1) ⟨gb, k, none⟩ (.inr (by have := HL.out.ord; show ga < gb; omega))).trans hcb
          have hfb' : (wr.setCell ⟨ga, k, none⟩ (.int .i64 x1)).drew.frozen? ⟨gb, k, none⟩ = false := by have : (wr.setCell ⟨ga, k, none⟩ (.int .i64 x1)).frozen? ⟨gb, k, none⟩ = false := (by simpa using hfb); exact this
          have hs8'' := fun y => (hloop_end HL.out (.int .i64 x1) y ⟨gr, 8, none⟩ (by have := HL.out.ord; show gr < ga; omega)).trans hs8
          have HY3 := Lib.hid (hloop_two HL.out HY1.out HY2.out)
          go_wp2_with fail
          go_region_held3 (fun W => W.cell? ⟨gr, 7, none⟩ = some (.slice (some ⟨ga, 0, none⟩) n n)) (first | exact hs7 | exact hs7')
            (first
              | (go_at_call 49; refine (u16_c gv (4 * (k : Int)) x1 0 b wr.drew hv (by have := HZ.out; omega) (by have := HW.out; omega) X1).mono ?_; rintro e w6 ⟨rfl, rfl⟩)
              | (go_at_call 54; refine (number_yes _ _).mono ?_; rintro e w6 ⟨rfl, rfl⟩))
          clear hs7 hs8 hv hcb hfb hca hfa hs7'
          generalize (wr.setCell ⟨ga, k, none⟩ (.int .i64 x1)).drew = w7 at *
          go_wp2_with fail
          have q0 : IntKind.i64.wrap 0 = 0 := by rw [IntWalk.i64_left]; unfold wrap64; omega
          have q1 : IntKind.i64.wrap ((k : Int) - (k : Int)) = 0 := by rw [IntWalk.i64_left]; unfold wrap64; omega
          have q2 : IntKind.i64.wrap (2 * 0) = 0 := by rw [IntWalk.i64_left]; unfold wrap64; omega
          have q3 : IntKind.i64.wrap (4 * (k : Int) + 2 + 0) = 4 * (k : Int) + 2 := by have := HW.out; rw [IntWalk.i64_left]; unfold wrap64; omega
          go_region_held3 (fun W => W.cell? ⟨gr, 8, none⟩ = some (.slice (some ⟨gb, 0, none⟩) n n)) (first | exact hs8' | exact hs8'' _)
            (first
              | (go_at_call 56; refine (i16_c gv (4 * (k : Int) + 2) x2 0 b w7.drew hv' (by have := HZ.out; omega) (by have := HW.out; omega) X2).mono ?_; rintro e w6 ⟨rfl, rfl⟩)
              | (go_at_call 54; refine (number_yes _ _).mono ?_; rintro e w6 ⟨rfl, rfl⟩))
          go_wp2_with fail
          have HW7 : Hid (wrap64 ((k : Int) + 1) = ((k + 1 : Nat) : Int)) := by have := HW.out; unfold Hid wrap64; omega
          go_roundw
          case rel => exact ⟨k + 1, by omega, by rw [HW7.out], HY3⟩
          case measure => rw [HW7.out]; simp only [intOf]; omega
        · have X1 := num_in (b := b) (a := 4 * ((wide : Int) - 1)) (n := 2) (by have := HW.out; omega) (by omega) (by have := HZ.out; omega)
          have X2 := num_in (b := b) (a := 2 * (wide : Int) + 2 * (k : Int)) (n := 2) (by omega) (by omega) (by have := HZ.out; omega)
          have HY1 : Hid (advAt b wide k = (numOr b (4 * ((wide : Int) - 1)) 2).1) := advAt_high hw
          have HY2 : Hid (bearAt b wide k = sign16 (numOr b (2 * (wide : Int) + 2 * (k : Int)) 2).1) := bearAt_high hw
          generalize (numOr b (4 * ((wide : Int) - 1)) 2).1 = x1 at *
          generalize (numOr b (2 * (wide : Int) + 2 * (k : Int)) 2).1 = x2 at *
          have hb1 : IntKind.i64.wrap ((wide : Int) - 1) = (wide : Int) - 1 := by have := HW.out; rw [IntWalk.i64_left]; unfold wrap64; omega
          have hm1 : IntKind.i64.wrap (4 * ((wide : Int) - 1)) = 4 * ((wide : Int) - 1) := by have := HW.out; rw [IntWalk.i64_left]; unfold wrap64; omega
          have hm2 : IntKind.i64.wrap (4 * ((wide : Int) - 1) + 2) = 4 * ((wide : Int) - 1) + 2 := by have := HW.out; rw [IntWalk.i64_left]; unfold wrap64; omega
          have hm3 : IntKind.i64.wrap ((k : Int) - ((wide : Int) - 1)) = (k : Int) - ((wide : Int) - 1) := by have := HW.out; rw [IntWalk.i64_left]; unfold wrap64; omega
          have hm4 : IntKind.i64.wrap (2 * ((k : Int) - ((wide : Int) - 1))) = 2 * ((k : Int) - ((wide : Int) - 1)) := by have := HW.out; rw [IntWalk.i64_left]; unfold wrap64; omega
          have hm5 : IntKind.i64.wrap (4 * ((wide : Int) - 1) + 2 + 2 * ((k : Int) - ((wide : Int) - 1))) = 2 * (wide : Int) + 2 * (k : Int) := by have := HW.out; rw [IntWalk.i64_left]; unfold wrap64; omega
          have hs7' := (hloop_mid HL.out (.int .i64 x1) ⟨gr, 7, none⟩ (.inl (by have := HL.out.ord; show gr < ga; omega))).trans hs7
          have hs8' := (hloop_mid HL.out (.int .i64 x1) ⟨gr, 8, none⟩ (.inl (by have := HL.out.ord; show gr < ga; omega))).trans hs8
          have hv' := (hloop_mid HL.out (.int .i64 x1) ⟨gv, 0, none⟩ (.inl (by have := HL.out.ord; show gv < ga; omega))).trans hv
          have hcb' := (hloop_mid HL.out (.int .i64 x1) ⟨gb, k, none⟩ (.inr (by have := HL.out.ord; show ga < gb; omega))).trans hcb
          have hfb' : (wr.setCell ⟨ga, k, none⟩ (.int .i64 x1)).drew.frozen? ⟨gb, k, none⟩ = false := by have : (wr.setCell ⟨ga, k, none⟩ (.int .i64 x1)).frozen? ⟨gb, k, none⟩ = false := (by simpa using hfb); exact this
          have hs8'' := fun y => (hloop_end HL.out (.int .i64 x1) y ⟨gr, 8, none⟩ (by have := HL.out.ord; show gr < ga; omega)).trans hs8
          have HY3 := Lib.hid (hloop_two HL.out HY1.out HY2.out)
          go_wp2_with fail
          go_region_held3 (fun W => W.cell? ⟨gr, 7, none⟩ = some (.slice (some ⟨ga, 0, none⟩) n n)) (first | exact hs7 | exact hs7')
            (first
              | (go_at_call 49; refine (u16_c gv (4 * ((wide : Int) - 1)) x1 0 b wr.drew hv (by have := HZ.out; omega) (by have := HW.out; omega) X1).mono ?_; rintro e w6 ⟨rfl, rfl⟩)
              | (go_at_call 54; refine (number_yes _ _).mono ?_; rintro e w6 ⟨rfl, rfl⟩))
          clear hs7 hs8 hv hcb hfb hca hfa hs7'
          generalize (wr.setCell ⟨ga, k, none⟩ (.int .i64 x1)).drew = w7 at *
          go_wp2_with fail
          go_region_held3 (fun W => W.cell? ⟨gr, 8, none⟩ = some (.slice (some ⟨gb, 0, none⟩) n n)) (first | exact hs8' | exact hs8'' _)
            (first
              | (go_at_call 56; refine (i16_c gv (2 * (wide : Int) + 2 * (k : Int)) x2 0 b w7.drew hv' (by have := HZ.out; omega) (by have := HW.out; omega) X2).mono ?_; rintro e w6 ⟨rfl, rfl⟩)
              | (go_at_call 54; refine (number_yes _ _).mono ?_; rintro e w6 ⟨rfl, rfl⟩))
          go_wp2_with fail
          have HW7 : Hid (wrap64 ((k : Int) + 1) = ((k + 1 : Nat) : Int)) := by have := HW.out; unfold Hid wrap64; omega
          go_roundw
          case rel => exact ⟨k + 1, by omega, by rw [HW7.out], HY3⟩
          case measure => rw [HW7.out]; simp only [intOf]; omega
      · have hlt' : ¬ (k : Int) < (n : Int) := by omega
        have e : k = n := by omega
        subst e
        have HP : Hid (HmtxPost gr gf w vs k wide (tabN l s hmtxTg (2 * k + 2 * wide)) (.returned (.tuple #[])) wr) := by
          unfold Hid; rw [HV.out]
          refine ⟨rfl, HL.out.bel, ga, gb, HL.out.rd, ?_, ?_, HL.out.ord.2.2.2, HL.out.ord.2.2.1⟩
          · have := HL.out.a; rwa [partL_end] at this
          · have := HL.out.b; rwa [partL_end] at this
        go_wp2_with fail
        go_end0
        exact HP.out

end Go.Proofs.Ytbcjicmledckbaa
