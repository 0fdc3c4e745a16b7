/-
  What addStems, passMask and end of the machine answer.
-/
import Derived.Test.YtklenppldblbdaaTp
namespace Go.Proofs.Ytklenppldblbdaa
open Go.RowKit Go.PlainAid
set_option linter.unusedSimpArgs false
set_option linter.unusedVariables false

/-- The font's added width, below the machine. -/
structure FCell (w : World) (F B : Nat) (w1 : Int) : Prop where
  cell : w.cell? ⟨F, 7, none⟩ = some (.int .i64 w1)
  lt : F < B
  bound : -4294967296 ≤ w1 ∧ w1 ≤ 4294967296

theorem FCell.below {w w' : World} {F B : Nat} {w1 : Int} (h : FCell w F B w1) (hb : Below B w w') : FCell w' F B w1 := ⟨by rw [hb.cell (p := ⟨F, 7, none⟩) h.lt]; exact h.cell, h.lt, h.bound⟩

/-- The operands of an operator. -/
structure OpdsOk (w : World) (l : List Int) (a : Option Addr) (c : Nat) : Prop where
  at' : Opds w l a
  le : l.length ≤ c
  few : l.length ≤ 1000
  small : ∀ v ∈ l, -2147483648 ≤ v ∧ v ≤ 2147483648

theorem behind_k (B M F : Nat) (L : Lay) (s : MS) (l : List Int) (a : Option Addr) (c : Nat) (many : Bool) (w1 : Int) (w : World) (h : Mach w B M F L s) (ho : OpdsOk w l a c) (hm : many = true → 0 < l.length) (hF : FCell w F B w1) :
    Calls Try.prog 69 #[.pointer (some ⟨M, 0, none⟩), .slice a l.length c, .bool many] w (BPost B M F L (s.behind w1 l many) w) :=
  behind_c B M F L s l a c many w1 w h ho.at' ho.le ho.few hm ho.small hF.cell hF.lt hF.bound

theorem behind_stems (s : MS) (w1 : Int) (l : List Int) (many : Bool) : (s.behind w1 l many).2.stems = s.stems ∧ (s.behind w1 l many).2.out = s.out ∧ (s.behind w1 l many).2.knots = s.knots ∧ (s.behind w1 l many).2.rows = s.rows ∧ (s.behind w1 l many).2.stack = s.stack ∧ (s.behind w1 l many).2.fuel = s.fuel ∧ (s.behind w1 l many).2.fault = s.fault ∧ (s.behind w1 l many).2.ended = s.ended := by
  unfold MS.behind; split <;> simp
theorem behind_list (s : MS) (w1 : Int) (l : List Int) (many : Bool) : (s.behind w1 l many).1.length ≤ l.length ∧ ∀ v ∈ (s.behind w1 l many).1, v ∈ l := by
  unfold MS.behind
  split
  · exact ⟨by simp, fun v hv => List.mem_of_mem_tail hv⟩
  · exact ⟨Nat.le_refl _, fun v hv => hv⟩

set_option maxRecDepth 20000 in
set_option maxHeartbeats 2000000 in
theorem addStems_c (B M F : Nat) (L : Lay) (s : MS) (l : List Int) (a : Option Addr) (c : Nat) (w1 : Int) (w : World) (h : Mach w B M F L s) (ho : OpdsOk w l a c) (hF : FCell w F B w1) (hst : s.stems ≤ 1000) :
    Calls Try.prog 63 #[.pointer (some ⟨M, 0, none⟩), .slice a l.length c] w (LPost B M F L (s.addStems w1 l) (.tuple #[]) w) := by
  have H := Lib.hid h
  obtain ⟨many, hmany⟩ : ∃ b, decide (l.length % 2 = 1) = b := ⟨_, rfl⟩
  have HQ := Lib.hid (behind_k B M F L s l a c many w1 w h ho (fun e => by rw [e] at hmany; simp at hmany; omega) hF)
  have hqs := (behind_stems s w1 l many).1
  have hql := (behind_list s w1 l many).1
  have HE : Hid (s.addStems w1 l = if (s.behind w1 l many).1.length % 2 ≠ 0 then (s.behind w1 l many).2.refuse 81 else if 96 < (s.behind w1 l many).2.stems + (s.behind w1 l many).1.length / 2 then ({ (s.behind w1 l many).2 with stems := (s.behind w1 l many).2.stems + (s.behind w1 l many).1.length / 2 } : MS).refuse 83 else { (s.behind w1 l many).2 with stems := (s.behind w1 l many).2.stems + (s.behind w1 l many).1.length / 2 }) := by unfold Hid MS.addStems; rw [hmany]
  rw [HE.out]
  clear HE
  generalize s.behind w1 l many = q at *
  obtain ⟨k, HKK⟩ : ∃ k, Hid (q.1.length = k) := ⟨_, rfl⟩
  obtain ⟨n, HN⟩ : ∃ n, Hid (l.length = n) := ⟨_, rfl⟩
  obtain ⟨t, HT⟩ : ∃ t, Hid (q.2.stems = t) := ⟨_, rfl⟩
  have ht : t ≤ 1000 := by rw [← HT.out, hqs]; exact hst
  have hk : k ≤ 1000 := by rw [← HKK.out]; exact Nat.le_trans hql ho.few
  have hn : n ≤ 1000 := by rw [← HN.out]; exact ho.few
  rw [HN.out] at HQ ⊢
  rw [HKK.out, HT.out]
  have hmod : (((n : Int) % 2) == 1) = many := by rw [← hmany, HN.out]; apply Bool.eq_iff_iff.2; simp; omega
  clear h ho hF hst hqs hql hmany
  by_cases hodd : k % 2 ≠ 0
  · rw [if_pos hodd]
    have z1 : (((k : Int) % 2) != 0) = true := by simp; omega
    have z2 : (((k : Int) % 2) == 0) = false := by simp; omega
    clear hodd
    go_enter Try.func63, Try.ntmps63
    go_wp2_with fail
    refine HQ.out.mono ?_
    rintro e w2 ⟨a2, c2, rfl, h1, h2, h3, h4, h5⟩
    rw [HKK.out] at h2 ⊢
    have H2 := Lib.hid h3
    have HB2 := Lib.hid h4
    have HK2 := Lib.hid h5
    clear h1 h2 h3 h4 h5 hmod
    go_wp2_with fail
    refine (refuse_c B M F L q.2 81 _ H2.out).mono ?_
    rintro e w3 ⟨rfl, h2, hb2, hk2⟩
    have H3 := Lib.hid h2
    have HB3 := Lib.hid (HB2.out.trans hb2)
    have HK3 := Lib.hid (HK2.out.trans hk2)
    clear h2 hb2 hk2
    go_wp2_with fail
    go_end0
    exact ⟨rfl, H3.out, HB3.out, HK3.out⟩
  · rw [if_neg hodd]
    have z1 : (((k : Int) % 2) != 0) = false := by simp; omega
    have z2 : (((k : Int) % 2) == 0) = true := by simp; omega
    have HTK : Hid ((t : Int) + (k : Int) / 2 = ((t + k / 2 : Nat) : Int)) := by unfold Hid; omega
    have HST : Hid (∀ W, Mach W B M F L q.2 → Mach (W.setCell ⟨M, 9, none⟩ (.int .i64 ((t : Int) + (k : Int) / 2))) B M F L { q.2 with stems := t + k / 2 }) := by
      intro W hW
      rw [HTK.out]
      exact hW.setStems _
    clear hodd
    by_cases hbig : 96 < t + k / 2
    · rw [if_pos hbig]
      have z3 : (96 : Int) < (t : Int) + (k : Int) / 2 := by omega
      clear hbig
      go_enter Try.func63, Try.ntmps63
      go_wp2_with fail
      refine HQ.out.mono ?_
      rintro e w2 ⟨a2, c2, rfl, h1, h2, h3, h4, h5⟩
      rw [HKK.out] at h2 ⊢
      have H2 := Lib.hid h3
      have c9 := h3.c9
      rw [HT.out] at c9
      have f9 := h3.f 9
      have H3 := Lib.hid (HST.out _ h3)
      have HB2 := Lib.hid (h4.trans (h3.bset 9 (.int .i64 ((t : Int) + (k : Int) / 2))).1)
      have HK2 := Lib.hid (h5.trans (h3.bset 9 (.int .i64 ((t : Int) + (k : Int) / 2))).2)
      clear h1 h2 h3 h4 h5 hmod
      go_wp2_with fail
      refine (refuse_c B M F L _ 83 _ H3.out).mono ?_
      rintro e w3 ⟨rfl, h2, hb2, hk2⟩
      have H4 := Lib.hid h2
      have HB3 := Lib.hid (HB2.out.trans hb2)
      have HK3 := Lib.hid (HK2.out.trans hk2)
      clear h2 hb2 hk2
      go_wp2_with fail
      go_end0
      exact ⟨rfl, H4.out, HB3.out, HK3.out⟩
    · rw [if_neg hbig]
      have z3 : ¬ (96 : Int) < (t : Int) + (k : Int) / 2 := by omega
      clear hbig
      go_enter Try.func63, Try.ntmps63
      go_wp2_with fail
      refine HQ.out.mono ?_
      rintro e w2 ⟨a2, c2, rfl, h1, h2, h3, h4, h5⟩
      rw [HKK.out] at h2 ⊢
      have c9 := h3.c9
      rw [HT.out] at c9
      have f9 := h3.f 9
      have H3 := Lib.hid (HST.out _ h3)
      have HB2 := Lib.hid (h4.trans (h3.bset 9 (.int .i64 ((t : Int) + (k : Int) / 2))).1)
      have HK2 := Lib.hid (h5.trans (h3.bset 9 (.int .i64 ((t : Int) + (k : Int) / 2))).2)
      clear h1 h2 h3 h4 h5 hmod
      go_wp2_with fail
      go_end0
      exact ⟨rfl, H3.out, HB2.out, HK2.out⟩

/-- The row that is gone through. -/
theorem Mach.cur {w : World} {B M F : Nat} {L : Lay} {s : MS} {r : Rw} {rest : List Rw} (h : Mach w B M F L s) (hr : s.rows = r :: rest) :
    ∃ R V rb, L.rb = (R, V) :: rb ∧ w.cell? ⟨L.pg, rest.length, none⟩ = some (.pointer (some ⟨R, 0, none⟩)) ∧ RowAt w R V r ∧ B ≤ R := by
  have hlen := h.rows.len
  rw [hr] at hlen
  cases hb : L.rb with
  | nil => rw [hb] at hlen; simp at hlen
  | cons q rb =>
    have h1 := h.rows.rows 0 r q (by rw [hr]; rfl) (by rw [hb]; rfl)
    refine ⟨q.1, q.2, rb, rfl, ?_, h1.2, h1.1⟩
    have h2 := own_lies h.rows.own rest.length (.pointer (some ⟨q.1, 0, none⟩)) (by
      rw [hb] at hlen ⊢
      simp at hlen
      rw [List.reverse_cons, List.map_append, List.getElem?_append_right (by simp; omega)]
      simp [hlen])
    rwa [Nat.zero_add] at h2

set_option maxRecDepth 20000 in
set_option maxHeartbeats 2000000 in
theorem passMask_c (B M F : Nat) (L : Lay) (s : MS) (r : Rw) (rest : List Rw) (w : World) (h : Mach w B M F L s) (hr : s.rows = r :: rest) (hf : RwFit r) (hst : s.stems ≤ 1000) (hl : s.rows.length ≤ 100) :
    Calls Try.prog 64 #[.pointer (some ⟨M, 0, none⟩)] w (LPost B M F L s.passMask (.tuple #[]) w) := by
  have H := Lib.hid h
  obtain ⟨R, V, rb, hb, hcur, hrow, hBR⟩ := h.cur hr
  obtain ⟨k, HKK⟩ : ∃ k, Hid ((s.stems + 7) / 8 = k) := ⟨_, rfl⟩
  have hk : k ≤ 1000 := by rw [← HKK.out]; omega
  have HE : Hid (s.passMask = if (r.pass k).c = true then ({ s with rows := r.pass k :: rest } : MS).refuse 81 else { s with rows := r.pass k :: rest }) := by unfold Hid MS.passMask; rw [hr, ← HKK.out]
  rw [HE.out]
  obtain ⟨m, HM⟩ : ∃ m, Hid (rest.length = m) := ⟨_, rfl⟩
  rw [HM.out] at hcur
  have c6 := h.c6
  have c9 := h.c9
  have hlm : s.rows.length = m + 1 := by rw [hr, List.length_cons, HM.out]
  rw [hlm] at c6 hl
  obtain ⟨t, HT⟩ : ∃ t, Hid (s.stems = t) := ⟨_, rfl⟩
  rw [HT.out] at c9 hst
  have HWK : Hid (((t : Int) + 7) / 8 = (k : Int)) := by have h1 := HKK.out; have h2 := HT.out; unfold Hid; omega
  have hm : m ≤ 100 := by omega
  have b0 : (0 : Int) ≤ (m : Int) := by omega
  have b1 : (m : Int) < (m : Int) + 1 := by omega
  have HRW := Lib.hid hrow
  have HB := Lib.hid (And.intro hb (And.intro hr hBR))
  have HF := Lib.hid hf
  clear h hr hf hb hrow hBR HE hl
  cases hc : (r.pass k).c
  · rw [if_neg (by simp)]
    have HCC := Lib.hid hc
    clear hc
    go_enter Try.func64, Try.ntmps64
    go_wp2_with fail
    go_quiet (fail)
    have HRQ := Lib.hid (HRW.out.below (bel_drewN0 w nq))
    have HMQ := Lib.hid (H.out.below (bel_drewN0 w nq))
    clear hcur c6
    go_wp2_with fail
    rw [HWK.out]
    refine (rpass_c R V r k _ HRQ.out HF.out hk).mono ?_
    rintro e w2 ⟨rfl, hr2, hg2⟩
    have H2 := Lib.hid (HMQ.out.rowed HB.out.2.1 HB.out.1 hr2 hg2)
    have d2 := hr2.c2
    have HB2 : Hid (Below B w w2) := Below.trans (bel_drewN (Below.refl _ _) nq) ⟨hg2.os, hg2.tape, hg2.output, hg2.size, fun j hj => hg2.block j (Nat.lt_of_lt_of_le hj HMQ.out.le) (fun e => by cases e; have := HB.out.2.2; omega)⟩
    have HK2 : Hid (IntKeep w w2) := (keep_bel (bel_drewN0 w nq)).trans (keep_chg hg2 HRQ.out.typ (by decide))
    clear hr2 hg2 c9
    rw [HCC.out] at d2
    go_wp2_with fail
    go_end0
    exact ⟨rfl, H2.out, HB2.out, HK2.out⟩
  · rw [if_pos rfl]
    have HCC := Lib.hid hc
    clear hc
    go_enter Try.func64, Try.ntmps64
    go_wp2_with fail
    go_quiet (fail)
    have HRQ := Lib.hid (HRW.out.below (bel_drewN0 w nq))
    have HMQ := Lib.hid (H.out.below (bel_drewN0 w nq))
    clear hcur c6
    go_wp2_with fail
    rw [HWK.out]
    refine (rpass_c R V r k _ HRQ.out HF.out hk).mono ?_
    rintro e w2 ⟨rfl, hr2, hg2⟩
    have H2 := Lib.hid (HMQ.out.rowed HB.out.2.1 HB.out.1 hr2 hg2)
    have d2 := hr2.c2
    have HB2 : Hid (Below B w w2) := Below.trans (bel_drewN (Below.refl _ _) nq) ⟨hg2.os, hg2.tape, hg2.output, hg2.size, fun j hj => hg2.block j (Nat.lt_of_lt_of_le hj HMQ.out.le) (fun e => by cases e; have := HB.out.2.2; omega)⟩
    have HK2 : Hid (IntKeep w w2) := (keep_bel (bel_drewN0 w nq)).trans (keep_chg hg2 HRQ.out.typ (by decide))
    clear hr2 hg2 c9
    rw [HCC.out] at d2
    go_wp2_with fail
    refine (refuse_c B M F L _ 81 _ H2.out).mono ?_
    rintro e w3 ⟨rfl, h2, hb2, hk2⟩
    have H4 := Lib.hid h2
    have HB3 := Lib.hid (HB2.out.trans hb2)
    have HK3 := Lib.hid (HK2.out.trans hk2)
    clear h2 hb2 hk2
    go_wp2_with fail
    go_end0
    exact ⟨rfl, H4.out, HB3.out, HK3.out⟩

end Go.Proofs.Ytklenppldblbdaa
