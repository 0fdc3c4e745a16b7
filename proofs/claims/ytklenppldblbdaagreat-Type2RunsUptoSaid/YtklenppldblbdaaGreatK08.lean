import Derived.Test.YtklenppldblbdaaGreatK07
import Derived.Test.YtklenppldblbdaaGreatK03
import Derived.Laws.OwnMore
import Derived.Test.YtklenppldblbdaaGreatK04
set_option linter.unusedSimpArgs false
set_option linter.unusedVariables false
namespace Go.Proofs.YtklenppldblbdaaGreat
open Go.RowKit Go.PlainAid
structure FCell (w : World) (F B : Nat) (w1 : Int) : Prop where
 cell : w.cell? ⟨F, 7, none⟩ = some (.int .i64 w1)
 lt : F < B
 bound : -4294967296 ≤ w1 ∧ w1 ≤ 4294967296
theorem FCell.below {w w' : World} {F B : Nat} {w1 : Int} (h : FCell w F B w1) (hb : Below B w w') : FCell w' F B w1 := ⟨by rw [hb.cell (p := ⟨F, 7, none⟩) h.lt]; exact h.cell, h.lt, h.bound⟩
structure OpdsOk (w : World) (l : List Int) (a : Option Addr) (c : Nat) : Prop where
 at' : Opds w l a
 le : l.length ≤ c
 few : l.length ≤ 1000
 small : ∀ v ∈ l, -2147483648 ≤ v ∧ v ≤ 2147483648
theorem behind_k (B M F : Nat) (L : Lay) (s : MS) (l : List Int) (a : Option Addr) (c : Nat) (many : Bool) (w1 : Int) (w : World) (h : Mach w B M F L s) (ho : OpdsOk w l a c) (hm : many = true → 0 < l.length) (hF : FCell w F B w1) :
 Calls Tryz.prog 91 #[.pointer (some ⟨M, 0, none⟩), .slice a l.length c, .bool many] w (BPost B M F L (s.behind w1 l many) w) :=
 behind_c B M F L s l a c many w1 w h ho.at' ho.le ho.few hm ho.small hF.cell hF.lt hF.bound
theorem behind_stems (s : MS) (w1 : Int) (l : List Int) (many : Bool) : (s.behind w1 l many).2.stems = s.stems ∧ (s.behind w1 l many).2.out = s.out ∧ (s.behind w1 l many).2.knots = s.knots ∧ (s.behind w1 l many).2.rows = s.rows ∧ (s.behind w1 l many).2.stack = s.stack ∧ (s.behind w1 l many).2.fuel = s.fuel ∧ (s.behind w1 l many).2.fault = s.fault ∧ (s.behind w1 l many).2.ended = s.ended := by
 unfold MS.behind; split <;> simp
theorem behind_list (s : MS) (w1 : Int) (l : List Int) (many : Bool) : (s.behind w1 l many).1.length ≤ l.length ∧ ∀ v ∈ (s.behind w1 l many).1, v ∈ l := by
 unfold MS.behind
 split
 ·exact ⟨by simp, fun v hv => List.mem_of_mem_tail hv⟩
 ·exact ⟨Nat.le_refl _, fun v hv => hv⟩
set_option maxRecDepth 20000 in
set_option maxHeartbeats 2000000 in
theorem addStems_c (B M F : Nat) (L : Lay) (s : MS) (l : List Int) (a : Option Addr) (c : Nat) (w1 : Int) (w : World) (h : Mach w B M F L s) (ho : OpdsOk w l a c) (hF : FCell w F B w1) (hst : s.stems ≤ 1000) :
 Calls Tryz.prog 84 #[.pointer (some ⟨M, 0, none⟩), .slice a l.length c] w (LPost B M F L (s.addStems w1 l) (.tuple #[]) w) := by
 have H := Lib.hid h
 obtain ⟨many, hmany⟩ : ∃ b, decide (l.length % 2 = 1) = b := ⟨_, rfl⟩
 have HQ := Lib.hid (behind_k B M F L s l a c many w1 w h ho (fun e => by rw [e] at hmany; simp at hmany; omega) hF)
 have hqs := (behind_stems s w1 l many).1
 have hql := (behind_list s w1 l many).1
 have HE : Hid (s.addStems w1 l = if (s.behind w1 l many).1.length % 2 ≠ 0 then (s.behind w1 l many).2.refuse 81 else if 96 < (s.behind w1 l many).2.stems + (s.behind w1 l many).1.length / 2 then ({ (s.behind w1 l many).2 with stems := (s.behind w1 l many).2.stems + (s.behind w1 l many).1.length / 2 } : MS).refuse 83 else { (s.behind w1 l many).2 with stems := (s.behind w1 l many).2.stems + (s.behind w1 l many).1.length / 2 }) := by unfold Hid MS.addStems; rw [hmany]
 rw [HE.out]
 clear HE
 generalize s.behind w1 l many = q at *
 obtain ⟨k, HKK⟩ : ∃ k, Hid (q.1.length = k) := ⟨_, rfl⟩
 obtain ⟨n, HN⟩ : ∃ n, Hid (l.length = n) := ⟨_, rfl⟩
 obtain ⟨t, HT⟩ : ∃ t, Hid (q.2.stems = t) := ⟨_, rfl⟩
 have ht : t ≤ 1000 := by rw [← HT.out, hqs]; exact hst
 have hk : k ≤ 1000 := by rw [← HKK.out]; exact Nat.le_trans hql ho.few
 have hn : n ≤ 1000 := by rw [← HN.out]; exact ho.few
 rw [HN.out] at HQ ⊢
 rw [HKK.out, HT.out]
 have hmod : (((n : Int) % 2) == 1) = many := by rw [← hmany, HN.out]; apply Bool.eq_iff_iff.2; simp; omega
 clear h ho hF hst hqs hql hmany
 by_cases hodd : k % 2 ≠ 0
 ·rw [if_pos hodd]
  have z1 : (((k : Int) % 2) != 0) = true := by simp; omega
  have z2 : (((k : Int) % 2) == 0) = false := by simp; omega
  clear hodd
  go_enter Tryz.func84, Tryz.ntmps84
  go_wp2_with fail
  refine HQ.out.mono ?_
  rintro e w2 ⟨a2, c2, rfl, h1, h2, h3, h4, h5⟩
  rw [HKK.out] at h2 ⊢
  have H2 := Lib.hid h3
  have HB2 := Lib.hid h4
  have HK2 := Lib.hid h5
  clear h1 h2 h3 h4 h5 hmod
  go_wp2_with fail
  refine (refuse_c B M F L q.2 81 _ H2.out).mono ?_
  rintro e w3 ⟨rfl, h2, hb2, hk2⟩
  have H3 := Lib.hid h2
  have HB3 := Lib.hid (HB2.out.trans hb2)
  have HK3 := Lib.hid (HK2.out.trans hk2)
  clear h2 hb2 hk2
  go_wp2_with fail
  go_end0
  exact ⟨rfl, H3.out, HB3.out, HK3.out⟩
 ·rw [if_neg hodd]
  have z1 : (((k : Int) % 2) != 0) = false := by simp; omega
  have z2 : (((k : Int) % 2) == 0) = true := by simp; omega
  have HTK : Hid ((t : Int) + (k : Int) / 2 = ((t + k / 2 : Nat) : Int)) := by unfold Hid; omega
  have HST : Hid (∀ W, Mach W B M F L q.2 → Mach (W.setCell ⟨M, 9, none⟩ (.int .i64 ((t : Int) + (k : Int) / 2))) B M F L { q.2 with stems := t + k / 2 }) := by
   intro W hW
   rw [HTK.out]
   exact hW.setStems _
  clear hodd
  by_cases hbig : 96 < t + k / 2
  ·rw [if_pos hbig]
   have z3 : (96 : Int) < (t : Int) + (k : Int) / 2 := by omega
   clear hbig
   go_enter Tryz.func84, Tryz.ntmps84
   go_wp2_with fail
   refine HQ.out.mono ?_
   rintro e w2 ⟨a2, c2, rfl, h1, h2, h3, h4, h5⟩
   rw [HKK.out] at h2 ⊢
   have H2 := Lib.hid h3
   have c9 := h3.c9
   rw [HT.out] at c9
   have f9 := h3.f 9
   have H3 := Lib.hid (HST.out _ h3)
   have HB2 := Lib.hid (h4.trans (h3.bset 9 (.int .i64 ((t : Int) + (k : Int) / 2))).1)
   have HK2 := Lib.hid (h5.trans (h3.bset 9 (.int .i64 ((t : Int) + (k : Int) / 2))).2)
   clear h1 h2 h3 h4 h5 hmod
   go_wp2_with fail
   refine (refuse_c B M F L _ 83 _ H3.out).mono ?_
   rintro e w3 ⟨rfl, h2, hb2, hk2⟩
   have H4 := Lib.hid h2
   have HB3 := Lib.hid (HB2.out.trans hb2)
   have HK3 := Lib.hid (HK2.out.trans hk2)
   clear h2 hb2 hk2
   go_wp2_with fail
   go_end0
   exact ⟨rfl, H4.out, HB3.out, HK3.out⟩
  ·rw [if_neg hbig]
   have z3 : ¬ (96 : Int) < (t : Int) + (k : Int) / 2 := by omega
   clear hbig
   go_enter Tryz.func84, Tryz.ntmps84
   go_wp2_with fail
   refine HQ.out.mono ?_
   rintro e w2 ⟨a2, c2, rfl, h1, h2, h3, h4, h5⟩
   rw [HKK.out] at h2 ⊢
   have c9 := h3.c9
   rw [HT.out] at c9
   have f9 := h3.f 9
   have H3 := Lib.hid (HST.out _ h3)
   have HB2 := Lib.hid (h4.trans (h3.bset 9 (.int .i64 ((t : Int) + (k : Int) / 2))).1)
   have HK2 := Lib.hid (h5.trans (h3.bset 9 (.int .i64 ((t : Int) + (k : Int) / 2))).2)
   clear h1 h2 h3 h4 h5 hmod
   go_wp2_with fail
   go_end0
   exact ⟨rfl, H3.out, HB2.out, HK2.out⟩
theorem Mach.cur {w : World} {B M F : Nat} {L : Lay} {s : MS} {r : Rw} {rest : List Rw} (h : Mach w B M F L s) (hr : s.rows = r :: rest) :
 ∃ R V rb, L.rb = (R, V) :: rb ∧ w.cell? ⟨L.pg, rest.length, none⟩ = some (.pointer (some ⟨R, 0, none⟩)) ∧ RowAt w R V r ∧ B ≤ R := by
 have hlen := h.rows.len
 rw [hr] at hlen
 cases hb : L.rb with
 | nil => rw [hb] at hlen; simp at hlen
 | cons q rb =>
   have h1 := h.rows.rows 0 r q (by rw [hr]; rfl) (by rw [hb]; rfl)
   refine ⟨q.1, q.2, rb, rfl, ?_, h1.2, h1.1⟩
   have h2 := own_lies h.rows.own rest.length (.pointer (some ⟨q.1, 0, none⟩)) (by
    rw [hb] at hlen ⊢
    simp at hlen
    rw [List.reverse_cons, List.map_append, List.getElem?_append_right (by simp; omega)]
    simp [hlen])
   rwa [Nat.zero_add] at h2
set_option maxRecDepth 20000 in
set_option maxHeartbeats 2000000 in
theorem passMask_c (B M F : Nat) (L : Lay) (s : MS) (r : Rw) (rest : List Rw) (w : World) (h : Mach w B M F L s) (hr : s.rows = r :: rest) (hf : RwFit r) (hst : s.stems ≤ 1000) (hl : s.rows.length ≤ 100) :
 Calls Tryz.prog 85 #[.pointer (some ⟨M, 0, none⟩)] w (LPost B M F L s.passMask (.tuple #[]) w) := by
 have H := Lib.hid h
 obtain ⟨R, V, rb, hb, hcur, hrow, hBR⟩ := h.cur hr
 obtain ⟨k, HKK⟩ : ∃ k, Hid ((s.stems + 7) / 8 = k) := ⟨_, rfl⟩
 have hk : k ≤ 1000 := by rw [← HKK.out]; omega
 have HE : Hid (s.passMask = if (r.pass k).c = true then ({ s with rows := r.pass k :: rest } : MS).refuse 81 else { s with rows := r.pass k :: rest }) := by unfold Hid MS.passMask; rw [hr, ← HKK.out]
 rw [HE.out]
 obtain ⟨m, HM⟩ : ∃ m, Hid (rest.length = m) := ⟨_, rfl⟩
 rw [HM.out] at hcur
 have c6 := h.c6
 have c9 := h.c9
 have hlm : s.rows.length = m + 1 := by rw [hr, List.length_cons, HM.out]
 rw [hlm] at c6 hl
 obtain ⟨t, HT⟩ : ∃ t, Hid (s.stems = t) := ⟨_, rfl⟩
 rw [HT.out] at c9 hst
 have HWK : Hid (((t : Int) + 7) / 8 = (k : Int)) := by have h1 := HKK.out; have h2 := HT.out; unfold Hid; omega
 have hm : m ≤ 100 := by omega
 have b0 : (0 : Int) ≤ (m : Int) := by omega
 have b1 : (m : Int) < (m : Int) + 1 := by omega
 have HRW := Lib.hid hrow
 have HB := Lib.hid (And.intro hb (And.intro hr hBR))
 have HF := Lib.hid hf
 clear h hr hf hb hrow hBR HE hl
 cases hc : (r.pass k).c
 ·rw [if_neg (by simp)]
  have HCC := Lib.hid hc
  clear hc
  go_enter Tryz.func85, Tryz.ntmps85
  go_wp2_with fail
  go_quiet (fail)
  have HRQ := Lib.hid (HRW.out.below (bel_drewN0 w nq))
  have HMQ := Lib.hid (H.out.below (bel_drewN0 w nq))
  clear hcur c6
  go_wp2_with fail
  rw [HWK.out]
  refine (rpass_c R V r k _ HRQ.out HF.out hk).mono ?_
  rintro e w2 ⟨rfl, hr2, hg2⟩
  have H2 := Lib.hid (HMQ.out.rowed HB.out.2.1 HB.out.1 hr2 hg2)
  have d2 := hr2.c2
  have HB2 : Hid (Below B w w2) := Below.trans (bel_drewN (Below.refl _ _) nq) ⟨hg2.os, hg2.tape, hg2.output, hg2.size, fun j hj => hg2.block j (Nat.lt_of_lt_of_le hj HMQ.out.le) (fun e => by cases e; have := HB.out.2.2; omega)⟩
  have HK2 : Hid (IntKeep w w2) := (keep_bel (bel_drewN0 w nq)).trans (keep_chg hg2 HRQ.out.typ (by decide))
  clear hr2 hg2 c9
  rw [HCC.out] at d2
  go_wp2_with fail
  go_end0
  exact ⟨rfl, H2.out, HB2.out, HK2.out⟩
 ·rw [if_pos rfl]
  have HCC := Lib.hid hc
  clear hc
  go_enter Tryz.func85, Tryz.ntmps85
  go_wp2_with fail
  go_quiet (fail)
  have HRQ := Lib.hid (HRW.out.below (bel_drewN0 w nq))
  have HMQ := Lib.hid (H.out.below (bel_drewN0 w nq))
  clear hcur c6
  go_wp2_with fail
  rw [HWK.out]
  refine (rpass_c R V r k _ HRQ.out HF.out hk).mono ?_
  rintro e w2 ⟨rfl, hr2, hg2⟩
  have H2 := Lib.hid (HMQ.out.rowed HB.out.2.1 HB.out.1 hr2 hg2)
  have d2 := hr2.c2
  have HB2 : Hid (Below B w w2) := Below.trans (bel_drewN (Below.refl _ _) nq) ⟨hg2.os, hg2.tape, hg2.output, hg2.size, fun j hj => hg2.block j (Nat.lt_of_lt_of_le hj HMQ.out.le) (fun e => by cases e; have := HB.out.2.2; omega)⟩
  have HK2 : Hid (IntKeep w w2) := (keep_bel (bel_drewN0 w nq)).trans (keep_chg hg2 HRQ.out.typ (by decide))
  clear hr2 hg2 c9
  rw [HCC.out] at d2
  go_wp2_with fail
  refine (refuse_c B M F L _ 81 _ H2.out).mono ?_
  rintro e w3 ⟨rfl, h2, hb2, hk2⟩
  have H4 := Lib.hid h2
  have HB3 := Lib.hid (HB2.out.trans hb2)
  have HK3 := Lib.hid (HK2.out.trans hk2)
  clear h2 hb2 hk2
  go_wp2_with fail
  go_end0
  exact ⟨rfl, H4.out, HB3.out, HK3.out⟩
end Go.Proofs.YtklenppldblbdaaGreat
namespace Go.Proofs.YtklenppldblbdaaGreat
open Go.RowKit Go.PlainAid
structure Duo (w : World) (sd sr : ByteArray) (gd cd gr cr : Nat) (wr : World) : Prop where
 bel : Below w.heap.size w wr
 d : OwnB w.heap.size wr gd cd sd
 r : OwnB w.heap.size wr gr cr sr
 ne : gd ≠ gr
theorem Duo.below {w wr w' : World} {sd sr : ByteArray} {gd cd gr cr : Nat} (h : Duo w sd sr gd cd gr cr wr) (hb : Below wr.heap.size wr w') : Duo w sd sr gd cd gr cr w' :=
 ⟨h.bel.trans (hb.mono h.bel.size), owns_stay h.d hb, owns_stay h.r hb, h.ne⟩
theorem Duo.addR {w wr w' : World} {sd sr s2 : ByteArray} {gd cd gr cr g' c' : Nat} (h : Duo w sd sr gd cd gr cr wr) (ho : OwnB w.heap.size w' g' c' s2) (hg : wr.grownBy w' (some gr)) (hat : g' = gr ∨ wr.heap.size ≤ g') : Duo w sd s2 gd cd g' c' w' := by
 have hd := owns_lt h.d
 refine ⟨grown_below h.bel hg h.bel.size (owns_lt h.r).2, owns_keep h.d (fun hl => hg.block gd hl (by simp; exact h.ne)), ho, ?_⟩
 rcases hat with rfl | hat
 ·exact h.ne
 ·omega
theorem Duo.addD {w wr w' : World} {sd sr s2 : ByteArray} {gd cd gr cr g' c' : Nat} (h : Duo w sd sr gd cd gr cr wr) (ho : OwnB w.heap.size w' g' c' s2) (hg : wr.grownBy w' (some gd)) (hat : g' = gd ∨ wr.heap.size ≤ g') : Duo w s2 sr g' c' gr cr w' := by
 have hd := owns_lt h.r
 refine ⟨grown_below h.bel hg h.bel.size (owns_lt h.d).2, ho, owns_keep h.r (fun hl => hg.block gr hl (by simp; exact Ne.symm h.ne)), ?_⟩
 rcases hat with rfl | hat
 ·exact h.ne
 ·omega
theorem own_empty (w0 w : World) (h : w0.heap.size ≤ w.heap.size) : OwnB w0.heap.size (w.alloc (.cells #[] 5)) w.heap.size 0 ByteArray.empty :=
 ⟨rfl, .inr ⟨w.heap.size, 0, #[], rfl, h, heap_alloc_new w _, Nat.le_refl _, by unfold maxLen; omega, rfl, rfl⟩⟩
theorem lit_isB {w : World} {C : Array Value} {s : ByteArray} (f : Nat × Nat) (h : C.toList = cellsOfStr s) : IsB (w.alloc (.cells C 5 f)) (some ⟨w.heap.size, 0, none⟩) s.size s.size s := by
 refine ⟨rfl, Nat.le_refl _, .inr ⟨w.heap.size, 0, rfl, ?_⟩⟩
 intro i hi
 have hh := heap_alloc_new w (.cells C 5 f)
 rw [Nat.zero_add]
 have h2 : C[i]? = some (.int .u8 (bt s i)) := by rw [← Array.getElem?_toList, h]; exact cellsOfStr_get s i hi
 unfold World.cell?
 simp only [hh]
 exact h2
theorem step_add {ops : Array Oper} {o : Oper} {t : Act} {K : Act → World → Prop} {Q : Exit → Act → World → Prop} {E : Prop} (hgd : o.guard = none) (sl x : Operand)
 (ho : o.op = .call { callee := .builtin .append, args := #[sl, x], argTypes := #[22, 22] })
 (w : World) (base g c : Nat) (s u : ByteArray) (a : Option Addr) (cap n m : Nat) (hn : n = s.size) (hm : m = u.size) (hs : t.eval sl = .slice (some ⟨g, 0, none⟩) n c) (hx : t.eval x = .slice a m cap)
 (hown : w.ownsRow base 5 1 (.slice (some ⟨g, 0, none⟩) s.size c) s.size (cellsOfStr s)) (hB : IsB w a u.size cap u) (hl : s.size + u.size ≤ 140737488355328) (hbase : base ≤ w.heap.size)
 (h : ∀ g' c' w', w'.ownsRow base 5 1 (.slice (some ⟨g', 0, none⟩) (s ++ u).size c') (s ++ u).size (cellsOfStr (s ++ u)) → w.grownBy w' (some g) → (g' = g ∨ w.heap.size ≤ g') → K (t.put o.dst (.slice (some ⟨g', 0, none⟩) (n + m) c')) w') :
 if Region.wanted o (yielded ops t.tmps) = true then Oper.wp Tryz.prog o t w K Q else E := by
 have hw : Region.wanted o (yielded ops t.tmps) = true := by simp [Region.wanted, hgd]
 rw [if_pos hw]
 subst hn hm
 obtain ⟨g', c', w', hr, h2, h3, h4⟩ := append_add w base o.type g c s u a cap hown hB hl hbase
 have e : s.size + u.size = (s ++ u).size := by rw [ByteArray.size_append]
 have h2' := h2
 rw [e] at h2'
 unfold Oper.wp execOp
 simp only [ho, resolve, invoke, builtin, Sem.run_bind, Sem.run_pure, Result.andThen_ok, List.map_toArray, List.map_cons, List.map_nil, hs, hx, hr]
 exact h g' c' w' h2' h3 h4
theorem own_lit {w0 w : World} {C : Array Value} {s : ByteArray} (h : w0.heap.size ≤ w.heap.size) (hC : C.toList = cellsOfStr s) (hs : s.size ≤ 1000) : OwnB w0.heap.size (w.alloc (.cells C 5)) w.heap.size s.size s :=
 ⟨by rw [cellsOfStr_length]; omega, .inr ⟨w.heap.size, s.size, C, rfl, h, heap_alloc_new w _, Nat.le_refl _, by unfold maxLen; omega, by rw [← Array.length_toList, hC, cellsOfStr_length]; omega, by rw [hC, List.take_of_length_le (by rw [cellsOfStr_length]; omega)]⟩⟩
def sizeN : List ByteArray → Nat
 | [] => 0
 | p :: r => p.size + sizeN r
def dataB : List ByteArray → ByteArray
 | [] => ByteArray.empty
 | p :: r => p ++ dataB r
def offsB : List ByteArray → Nat → ByteArray
 | [], _ => ByteArray.empty
 | p :: r, t => bigB t 2 ++ offsB r (t + p.size)
theorem sizeN_snoc (p : ByteArray) : ∀ l, sizeN (l ++ [p]) = sizeN l + p.size
 | [] => by simp [sizeN]
 | q :: r => by simp [sizeN, sizeN_snoc p r]; omega
theorem dataB_size : ∀ l, (dataB l).size = sizeN l
 | [] => rfl
 | q :: r => by rw [dataB, ByteArray.size_append, dataB_size r, sizeN]
theorem dataB_snoc (p : ByteArray) : ∀ l, dataB (l ++ [p]) = dataB l ++ p
 | [] => by simp [dataB, join_empty]
 | q :: r => by rw [List.cons_append, dataB, dataB_snoc p r, dataB, join_assoc]
theorem offsB_snoc (p : ByteArray) : ∀ (l : List ByteArray) (t : Nat), offsB (l ++ [p]) t = offsB l t ++ bigB (t + sizeN l : Nat) 2
 | [], t => by simp [offsB, sizeN, join_empty]
 | q :: r, t => by
   rw [List.cons_append, offsB, offsB_snoc p r, offsB, join_assoc, sizeN, Nat.add_assoc]
theorem offsB_size : ∀ (l : List ByteArray) (t : Nat), (offsB l t).size = 2 * l.length
 | [], t => rfl
 | q :: r, t => by rw [offsB, ByteArray.size_append, bigB_size, offsB_size r, List.length_cons]; omega
def headB (n : Nat) : ByteArray := bigB n 2 ++ ⟨#[2]⟩
def packI (l : List ByteArray) : ByteArray := if l.length = 0 then bigB 0 2 else headB l.length ++ offsB l 1 ++ bigB (1 + sizeN l : Nat) 2 ++ dataB l
theorem headB_size (n : Nat) : (headB n).size = 3 := by rw [headB, ByteArray.size_append, bigB_size]; rfl
theorem packI_size (l : List ByteArray) : (packI l).size = if l.length = 0 then 2 else 5 + 2 * l.length + sizeN l := by
 unfold packI
 split
 ·rw [bigB_size]
 ·rw [ByteArray.size_append, ByteArray.size_append, ByteArray.size_append, headB_size, offsB_size, bigB_size, dataB_size]; omega
def intB (n : Int) : ByteArray := ⟨#[29]⟩ ++ bigB (if n < 0 then n + 4294967296 else n) 4
theorem intB_size (n : Int) : (intB n).size = 5 := by rw [intB, ByteArray.size_append, bigB_size]; rfl
def IsL (w : World) (a : Option Addr) (Ps : List ByteArray) : Prop := Ps = [] ∨ ∃ b off, a = some ⟨b, off, none⟩ ∧ ∀ (i : Nat) (P : ByteArray), Ps[i]? = some P → ∃ (ai : Option Addr) (ci : Nat), w.cell? ⟨b, off + i, none⟩ = some (.slice ai P.size ci) ∧ IsB w ai P.size ci P
theorem IsL.below {w w' : World} {a : Option Addr} {Ps : List ByteArray} (h : IsL w a Ps) (hb : Below w.heap.size w w') : IsL w' a Ps := by
 rcases h with h | ⟨b, off, h1, h2⟩
 ·exact .inl h
 ·refine .inr ⟨b, off, h1, fun i P hP => ?_⟩
  obtain ⟨ai, ci, h3, h4⟩ := h2 i P hP
  exact ⟨ai, ci, keepC hb h3, h4.below hb⟩
theorem two_cells : (#[.int .u8 2] : Array Value).toList = cellsOfStr ⟨#[2]⟩ := by kernel_rfl
theorem c29_cells : (#[.int .u8 29] : Array Value).toList = cellsOfStr ⟨#[29]⟩ := by kernel_rfl
theorem bigOwn {w0 w : World} {g k : Nat} {x : Int} (h : BytL w g (bytesL (bigB x k))) (hb : w0.heap.size ≤ g) (hk : k ≤ 8) : OwnB w0.heap.size w g k (bigB x k) := by
 have := h.owns hb (by rw [bigB_size]; omega)
 show w.ownsRow _ _ _ (.slice _ (bigB x k).size _) (bigB x k).size _
 rw [bigB_size] at this ⊢
 exact this
set_option maxHeartbeats 1000000 in
theorem int_c (n : Int) (w : World) (h0 : -2147483648 ≤ n) (h1 : n ≤ 2147483647) :
 Calls Tryz.prog 15 #[.int .i64 n] w fun e w' => ∃ g c, e = .returned (.slice (some ⟨g, 0, none⟩) 5 c) ∧ OwnB w.heap.size w' g c (intB n) ∧ Below w.heap.size w w' := by
 by_cases hn : n < 0
 ·have HE : Hid (intB n = ⟨#[29]⟩ ++ bigB (n + 4294967296) 4) := by unfold Hid intB; rw [if_pos hn]
  rw [HE.out]
  have HB := Lib.hid (And.intro h0 (And.intro h1 hn))
  have HB0 : Hid (Below w.heap.size w (w.alloc (.cells #[.int .u8 29] 5))) := (Below.refl _ _).alloc (Nat.le_refl _) _
  have HO0 : Hid (OwnB w.heap.size (w.alloc (.cells #[.int .u8 29] 5)) w.heap.size 1 ⟨#[29]⟩) := own_lit (Nat.le_refl _) c29_cells (by decide)
  go_enter Tryz.func15, Tryz.ntmps15
  go_wp2_with fail
  refine (big4_c (n + 4294967296) _ (by have := HB.out; omega) (by have := HB.out; omega)).mono ?_
  rintro e w1 ⟨rfl, hby, hb1⟩
  rw [show (w.alloc (.cells #[.int .u8 29] 5)).heap.size = w.heap.size + 1 by simp] at hby
  have HI1 := Lib.hid (bigIs hby (by omega))
  have HO1 := Lib.hid (owns_stay HO0.out hb1)
  have HB1 := Lib.hid (bel_next HB0.out hb1)
  clear hby hb1
  go_wp2_with (at_builtin; refine wpList_add rfl _ _ rfl w1 w.heap.size w.heap.size 1 ⟨#[29]⟩ (bigB (n + 4294967296) 4) _ 4 1 4 rfl (bigB_size _ _).symm rfl rfl HO1.out HI1.out (by rw [bigB_size]; decide) HB1.out.size ?_; intro g9 c9 w9 ho9 hg9 hat9)
  have HB9 := Lib.hid (grown_below HB1.out hg9 HB1.out.size (Nat.le_refl _))
  have HO9 := Lib.hid ho9
  clear ho9 hg9 hat9
  go_wp2_with fail
  go_ret
  exact ⟨g9, c9, rfl, HO9.out, HB9.out⟩
 ·have HE : Hid (intB n = ⟨#[29]⟩ ++ bigB n 4) := by unfold Hid intB; rw [if_neg hn]
  rw [HE.out]
  have HB := Lib.hid (And.intro h0 (And.intro h1 hn))
  have HB0 : Hid (Below w.heap.size w (w.alloc (.cells #[.int .u8 29] 5))) := (Below.refl _ _).alloc (Nat.le_refl _) _
  have HO0 : Hid (OwnB w.heap.size (w.alloc (.cells #[.int .u8 29] 5)) w.heap.size 1 ⟨#[29]⟩) := own_lit (Nat.le_refl _) c29_cells (by decide)
  go_enter Tryz.func15, Tryz.ntmps15
  go_wp2_with fail
  refine (big4_c n _ (by have := HB.out; omega) (by have := HB.out; omega)).mono ?_
  rintro e w1 ⟨rfl, hby, hb1⟩
  rw [show (w.alloc (.cells #[.int .u8 29] 5)).heap.size = w.heap.size + 1 by simp] at hby
  have HI1 := Lib.hid (bigIs hby (by omega))
  have HO1 := Lib.hid (owns_stay HO0.out hb1)
  have HB1 := Lib.hid (bel_next HB0.out hb1)
  clear hby hb1
  go_wp2_with (at_builtin; refine wpList_add rfl _ _ rfl w1 w.heap.size w.heap.size 1 ⟨#[29]⟩ (bigB n 4) _ 4 1 4 rfl (bigB_size _ _).symm rfl rfl HO1.out HI1.out (by rw [bigB_size]; decide) HB1.out.size ?_; intro g9 c9 w9 ho9 hg9 hat9)
  have HB9 := Lib.hid (grown_below HB1.out hg9 HB1.out.size (Nat.le_refl _))
  have HO9 := Lib.hid ho9
  clear ho9 hg9 hat9
  go_wp2_with fail
  go_ret
  exact ⟨g9, c9, rfl, HO9.out, HB9.out⟩
set_option maxHeartbeats 2000000 in
theorem packI_none (a : Option Addr) (c : Nat) (w : World) :
 Calls Tryz.prog 14 #[.slice a 0 c] w fun e w' => ∃ g c, e = .returned (.slice (some ⟨g, 0, none⟩) (packI []).size c) ∧ OwnB w.heap.size w' g c (packI []) ∧ Below w.heap.size w w' := by
 go_enter Tryz.func14, Tryz.ntmps14
 go_wp2_with fail
 refine (big2_c 0 _ (by omega) (by omega)).mono ?_
 rintro e w1 ⟨rfl, hby, hb1⟩
 have HO := Lib.hid (bigOwn (w0 := w) hby (Nat.le_refl _) (by omega))
 have HB := Lib.hid hb1
 clear hby hb1
 go_wp2_with fail
 go_ret
 exact ⟨_, 2, rfl, HO.out, HB.out⟩
set_option maxRecDepth 20000 in
set_option maxHeartbeats 4000000 in
theorem packI_some (a : Option Addr) (c : Nat) (Ps : List ByteArray) (w : World) (h : IsL w a Ps) (h0 : 0 < Ps.length) (hn : Ps.length ≤ 60000) (hs : sizeN Ps ≤ 1000000) :
 Calls Tryz.prog 14 #[.slice a Ps.length c] w fun e w' => ∃ g c, e = .returned (.slice (some ⟨g, 0, none⟩) (packI Ps).size c) ∧ OwnB w.heap.size w' g c (packI Ps) ∧ Below w.heap.size w w' := by
 have HL := Lib.hid h
 obtain ⟨b, off, rfl, _⟩ : ∃ b off, a = some ⟨b, off, none⟩ ∧ True := by
  rcases h with h | ⟨b, off, h1, _⟩
  ·rw [h] at h0; simp at h0
  ·exact ⟨b, off, h1, trivial⟩
 obtain ⟨n, HN⟩ : ∃ n, Hid (Ps.length = n) := ⟨_, rfl⟩
 rw [HN.out] at h0 hn ⊢
 have z1 : ((n : Int) == 0) = false := by simp; omega
 have HH := Lib.hid hn
 have HS := Lib.hid hs
 clear h hs hn
 go_enter Tryz.func14, Tryz.ntmps14
 go_wp2_with fail
 refine (big2_c n _ (by omega) (by have := HH.out; omega)).mono ?_
 rintro e w1 ⟨rfl, hby, hb1⟩
 have HO := Lib.hid (bigOwn (w0 := w) hby (Nat.le_refl _) (by omega))
 have HB := Lib.hid hb1
 have HB2 := Lib.hid (bel_alloc hb1 (.cells #[.int .u8 2] 5))
 have HI2 : Hid (IsB (w1.alloc (.cells #[.int .u8 2] 5)) (some ⟨w1.heap.size, 0, none⟩) (ByteArray.mk #[2]).size 1 ⟨#[2]⟩) := lit_isB _ two_cells
 clear hby hb1
 go_wp2_with (at_builtin; refine wpList_add rfl _ _ rfl (w1.alloc (.cells #[.int .u8 2] 5)) w.heap.size w.heap.size 2 (bigB n 2) ⟨#[2]⟩ _ 1 2 1 (bigB_size _ _).symm rfl rfl rfl (owns_stay HO.out ((Below.refl _ _).alloc (Nat.le_refl _) _)) HI2.out (by rw [bigB_size]; decide) HB2.out.size ?_; intro g3 c3 w3 ho3 hg3 hat3)
 have HB3 := Lib.hid (grown_below HB2.out hg3 HB2.out.size (Nat.le_refl _))
 have HD0 : Hid (Duo w ByteArray.empty (headB n ++ offsB (Ps.take 0) 1) w3.heap.size 0 g3 c3 (w3.alloc (.cells #[] 5))) := by
  refine ⟨bel_alloc HB3.out _, own_empty _ _ HB3.out.size, ?_, by have := (owns_lt ho3).2; have := (ownsRow_cap ho3).2.2; omega⟩
  have : headB n ++ offsB (Ps.take 0) 1 = bigB n 2 ++ ⟨#[2]⟩ := by rw [List.take_zero, offsB, ByteArray.append_empty]; rfl
  rw [this]
  exact owns_stay ho3 ((Below.refl _ _).alloc (Nat.le_refl _) _)
 clear ho3 hg3 hat3 HO HI2 HB HB2 HB3
 go_wp2_with fail
 generalize HW4 : w3.alloc (.cells #[] 5) = w4 at *
 generalize w3.heap.size = gd0 at *
 clear HW4
 go_loopw [3, 4, 5, 21] (fun ov av dv iv wr => ∃ (i no : Nat) (nd gd cd gr cr : Nat), i ≤ n ∧ ov = .slice (some ⟨gr, 0, none⟩) no cr ∧ av = .int .i64 ((1 + nd : Nat) : Int) ∧ dv = .slice (some ⟨gd, 0, none⟩) nd cd ∧ iv = .int .i64 (i : Int) ∧ Hid (no = (headB n ++ offsB (Ps.take i) 1).size) ∧ Hid (nd = (dataB (Ps.take i)).size) ∧ Hid (Duo w (dataB (Ps.take i)) (headB n ++ offsB (Ps.take i) 1) gd cd gr cr wr)) (fun _ _ _ v _ => n - (intOf v).toNat)
 case atStart => exact ⟨0, 3, 0, gd0, 0, g3, c3, Nat.zero_le _, rfl, rfl, rfl, rfl, (by unfold Hid; rw [ByteArray.size_append, headB_size, List.take_zero]; rfl), rfl, HD0⟩
 case round =>
  clear HD0
  obtain ⟨i, no, nd, gd, cd, gr, cr, hi, rfl, rfl, rfl, rfl, HNO, HND, HD⟩ := hrel
  by_cases hlt : i < n
  ·obtain ⟨P, hP⟩ := get_of (show i < Ps.length by rw [HN.out]; exact hlt)
   have hLr := HL.out
   rcases hLr with hLr | ⟨b', off', e1, hLr⟩
   ·rw [hLr] at hP; simp at hP
   cases e1
   obtain ⟨ai, ci, hcellw, hPB⟩ := hLr i P hP
   have hcell := keepC HD.out.bel hcellw
   have hT : Ps.take (i + 1) = Ps.take i ++ [P] := by rw [List.take_add_one, hP]; rfl
   have hsz : sizeN (Ps.take i) + P.size ≤ sizeN Ps := by
    have h1 : sizeN (Ps.take (i + 1)) ≤ sizeN Ps := by
     have h2 := dataB_size (Ps.take (i + 1))
     have h3 : Ps = Ps.take (i + 1) ++ Ps.drop (i + 1) := (List.take_append_drop _ _).symm
     have h4 : ∀ (l m : List ByteArray), sizeN (l ++ m) = sizeN l + sizeN m := by
      intro l m; induction l with
      | nil => simp [sizeN]
      | cons x r ih => simp [sizeN, ih]; omega
     have h5 := h4 (Ps.take (i + 1)) (Ps.drop (i + 1))
     rw [← h3] at h5
     omega
    rw [hT, sizeN_snoc] at h1
    exact h1
   have HSZ : Hid (nd + P.size ≤ 1000000) := by have h1 := HND.out; rw [dataB_size] at h1; have h2 := HS.out; unfold Hid; omega
   have HNO2 : Hid (no ≤ 200000) := by have h1 := HNO.out; rw [ByteArray.size_append, headB_size, offsB_size, List.length_take] at h1; have h2 := HH.out; unfold Hid; omega
   have HT := Lib.hid hT
   have HPB := Lib.hid hPB
   have hlt' : (i : Int) < (n : Int) := by omega
   have hi0 : (0 : Int) ≤ (i : Int) := by omega
   have HLT := Lib.hid hlt
   have hw1 : wrap64 (((1 + nd : Nat) : Int) + (P.size : Int)) = ((1 + (nd + P.size) : Nat) : Int) := by have := HSZ.out; unfold wrap64; omega
   have HW1 := Lib.hid hw1
   have hnd : nd ≤ 1000000 := by have := HSZ.out; omega
   have hPz : P.size ≤ 1000000 := by have := HSZ.out; omega
   obtain ⟨pz, HPZ⟩ : ∃ pz, Hid (P.size = pz) := ⟨_, rfl⟩
   rw [HPZ.out] at hcell hw1 hPz
   have HX := Lib.hid (next64 (j := i) (by have := HH.out; omega))
   clear hP hLr hT hsz hPB hlt hw1
   go_wp2_with fail
   refine (big2_c ((1 + nd : Nat) : Int) _ (by omega) (by omega)).mono ?_
   rintro e w5 ⟨rfl, hby, hb5⟩
   have HI5 := Lib.hid (bigIs hby (by omega))
   have HD5 := Lib.hid (HD.out.below hb5)
   clear hby hb5 hcell hcellw
   go_wp2_with (at_builtin; first
    | (refine wpList_add rfl _ _ rfl w5 w.heap.size gr cr (headB n ++ offsB (Ps.take i) 1) (bigB ((1 + nd : Nat) : Int) 2) _ 2 no 2 HNO.out (bigB_size _ _).symm rfl rfl HD5.out.r HI5.out (by rw [bigB_size, ← HNO.out]; have := HNO2.out; omega) HD5.out.bel.size ?_; intro g6 c6 w6 ho6 hg6 hat6; have HD6 := Lib.hid (HD5.out.addR ho6 hg6 hat6); have HPB6 := Lib.hid (HPB.out.below HD6.out.bel); clear ho6 hg6 hat6)
    | (refine wpList_add rfl _ _ rfl w6 w.heap.size gd cd (dataB (Ps.take i)) P ai ci nd pz HND.out HPZ.out.symm rfl rfl HD6.out.d HPB6.out (by rw [← HND.out]; have := HSZ.out; omega) HD6.out.bel.size ?_; intro g7 c7 w7 ho7 hg7 hat7))
   have HD7 : Hid (Duo w (dataB (Ps.take (i + 1))) (headB n ++ offsB (Ps.take (i + 1)) 1) g7 c7 g6 c6 w7) := by
    have h1 := HD6.out.addD ho7 hg7 hat7
    have e1 : dataB (Ps.take (i + 1)) = dataB (Ps.take i) ++ P := by rw [HT.out, dataB_snoc]
    have e2 : headB n ++ offsB (Ps.take (i + 1)) 1 = headB n ++ offsB (Ps.take i) 1 ++ bigB ((1 + nd : Nat) : Int) 2 := by rw [HT.out, offsB_snoc, ← join_assoc, ← dataB_size, ← HND.out]
    unfold Hid
    rw [e1, e2]
    exact h1
   have HND7 : Hid (nd + pz = (dataB (Ps.take (i + 1))).size) := by unfold Hid; rw [HT.out, dataB_snoc, ByteArray.size_append, ← HND.out, HPZ.out]
   have HNO7 : Hid (no + 2 = (headB n ++ offsB (Ps.take (i + 1)) 1).size) := by unfold Hid; rw [HT.out, offsB_snoc, ← join_assoc, ByteArray.size_append, bigB_size, ← HNO.out]
   clear ho7 hg7 hat7
   exact ⟨⟨i + 1, no + 2, nd + pz, g7, c7, g6, c6, HLT.out, rfl, by have h1 := HPZ.out; congr 1; omega, rfl, by first | rw [HX.out] | go_num, HNO7, HND7, HD7⟩, by (try rw [HX.out]); have := HLT.out; simp only [intOf]; omega⟩
  ·obtain rfl : i = n := by omega
   have h1 : ¬ (i : Int) < (i : Int) := by omega
   have HT : Hid (Ps.take i = Ps) := by unfold Hid; rw [← HN.out]; exact List.take_length
   rw [HT.out] at HNO HND HD
   have HSZ : Hid (nd ≤ 1000000) := by have h1 := HND.out; rw [dataB_size] at h1; have h2 := HS.out; unfold Hid; omega
   have HNO2 : Hid (no ≤ 200000) := by have h1 := HNO.out; rw [ByteArray.size_append, headB_size, offsB_size, HN.out] at h1; have h2 := HH.out; unfold Hid; omega
   have hnd := HSZ.out
   go_wp2_with fail
   refine (big2_c ((1 + nd : Nat) : Int) _ (by omega) (by omega)).mono ?_
   rintro e w5 ⟨rfl, hby, hb5⟩
   have HI5 := Lib.hid (bigIs hby (by omega))
   have HD5 := Lib.hid (HD.out.below hb5)
   clear hby hb5
   go_wp2_with (at_builtin; first
    | (refine wpList_add rfl _ _ rfl w5 w.heap.size gr cr (headB i ++ offsB Ps 1) (bigB ((1 + nd : Nat) : Int) 2) _ 2 no 2 HNO.out (bigB_size _ _).symm rfl rfl HD5.out.r HI5.out (by rw [bigB_size, ← HNO.out]; have := HNO2.out; omega) HD5.out.bel.size ?_; intro g6 c6 w6 ho6 hg6 hat6; have HD6 := Lib.hid (HD5.out.addR ho6 hg6 hat6); clear ho6 hg6 hat6)
    | (refine wpList_add rfl _ _ rfl w6 w.heap.size g6 c6 (headB i ++ offsB Ps 1 ++ bigB ((1 + nd : Nat) : Int) 2) (dataB Ps) (some ⟨gd, 0, none⟩) cd (no + 2) nd (by rw [ByteArray.size_append, bigB_size, ← HNO.out]) HND.out rfl rfl HD6.out.r (by have h2 := isB_of_owns HD6.out.d; rw [← HND.out] at h2; rw [← HND.out]; exact h2) (by rw [ByteArray.size_append, bigB_size, ← HNO.out, ← HND.out]; have := HNO2.out; have := HSZ.out; omega) HD6.out.bel.size ?_; intro g7 c7 w7 ho7 hg7 hat7))
   have HE : Hid (headB i ++ offsB Ps 1 ++ bigB ((1 + nd : Nat) : Int) 2 ++ dataB Ps = packI Ps) := by
    unfold Hid packI
    rw [if_neg (by rw [HN.out]; omega), HN.out, ← dataB_size, ← HND.out]
   have HZ : Hid (no + 2 + nd = (packI Ps).size) := by
    unfold Hid
    rw [← HE.out, ByteArray.size_append, ByteArray.size_append, bigB_size, ← HNO.out, ← HND.out]
   rw [HE.out] at ho7
   have HO := Lib.hid ho7
   have HB := Lib.hid (grown_below HD6.out.bel hg7 HD6.out.bel.size (owns_lt HD6.out.r).2)
   clear ho7 hg7 hat7
   go_wp2_with fail
   go_ret
   exact ⟨g7, c7, by rw [← HZ.out]; rfl, HO.out, HB.out⟩
theorem packI_c (a : Option Addr) (c : Nat) (Ps : List ByteArray) (w : World) (h : IsL w a Ps) (hn : Ps.length ≤ 60000) (hs : sizeN Ps ≤ 1000000) :
 Calls Tryz.prog 14 #[.slice a Ps.length c] w fun e w' => ∃ g c, e = .returned (.slice (some ⟨g, 0, none⟩) (packI Ps).size c) ∧ OwnB w.heap.size w' g c (packI Ps) ∧ Below w.heap.size w w' := by
 by_cases h0 : Ps.length = 0
 ·obtain rfl : Ps = [] := List.eq_nil_of_length_eq_zero h0
  exact packI_none a c w
 ·exact packI_some a c Ps w h (by omega) hn hs
end Go.Proofs.YtklenppldblbdaaGreat
namespace Go.Proofs.YtklenppldblbdaaGreat
open Go.RowKit Go.PlainAid
set_option maxHeartbeats 400000 in
theorem refsum_d (a b s f : Int) (w : World) (HS : Hid (sumOr a b = (s, f))) :
 Calls Tryz.prog 60 #[.int .i64 a, .int .i64 b] w fun e w' => e = .returned (.tuple #[.int .i64 s, .int .i64 f]) ∧ w = w' := by
 have Herr : Hid ((fixB a && fixB b && fixB (a + b)) = false → s = 0 ∧ f = 14) := by
  intro h
  have := HS.out
  rw [sumOr, h] at this
  simp at this
  exact ⟨this.1.symm, this.2.symm⟩
 have Hok : Hid ((fixB a && fixB b && fixB (a + b)) = true → s = a + b ∧ f = 0) := by
  intro h
  have := HS.out
  rw [sumOr, h] at this
  simp at this
  exact ⟨this.1.symm, this.2.symm⟩
 cases ha : fixB a
 ·have HA := Lib.hid ha
  clear ha
  go_enter Tryz.func60, Tryz.ntmps60
  go_wp2_with fail
  refine (fix_any a _).mono ?_
  rintro e w1 ⟨rfl, rfl⟩
  rw [HA.out]
  go_wp2_with fail
  go_ret2
  have := Herr.out (by rw [HA.out]; rfl)
  rw [this.1, this.2]
  exact ⟨rfl, rfl⟩
 ·have HA := Lib.hid ha
  have ⟨a1, a2⟩ := fixB_true ha
  clear ha
  cases hb : fixB b
  ·have HB := Lib.hid hb
   clear hb
   go_enter Tryz.func60, Tryz.ntmps60
   go_wp2_with fail
   refine (fix_any a _).mono ?_
   rintro e w1 ⟨rfl, rfl⟩
   rw [HA.out]
   go_wp2_with fail
   refine (fix_any b _).mono ?_
   rintro e w1 ⟨rfl, rfl⟩
   rw [HB.out]
   go_wp2_with fail
   go_ret2
   have := Herr.out (by rw [HA.out, HB.out]; rfl)
   rw [this.1, this.2]
   exact ⟨rfl, rfl⟩
  ·have HB := Lib.hid hb
   have ⟨b1, b2⟩ := fixB_true hb
   clear hb
   go_enter Tryz.func60, Tryz.ntmps60
   go_wp2_with fail
   refine (fix_any a _).mono ?_
   rintro e w1 ⟨rfl, rfl⟩
   rw [HA.out]
   go_wp2_with fail
   refine (fix_any b _).mono ?_
   rintro e w1 ⟨rfl, rfl⟩
   rw [HB.out]
   go_wp2_with fail
   refine (fix_any (a + b) _).mono ?_
   rintro e w1 ⟨rfl, rfl⟩
   cases hc : fixB (a + b)
   ·have HC := Lib.hid hc
    clear hc
    go_wp2_with fail
    go_ret2
    have := Herr.out (by rw [HA.out, HB.out, HC.out]; rfl)
    rw [this.1, this.2]
    exact ⟨rfl, rfl⟩
   ·have HC := Lib.hid hc
    clear hc
    go_wp2_with fail
    go_ret2
    have := Hok.out (by rw [HA.out, HB.out, HC.out]; rfl)
    rw [this.1, this.2]
    exact ⟨rfl, rfl⟩
theorem sumOr_ex (a b : Int) : ∃ s f, Hid (sumOr a b = (s, f)) := ⟨_, _, rfl⟩
set_option maxRecDepth 20000 in
set_option maxHeartbeats 1000000 in
theorem total_d (l : List Int) (a : Option Addr) (c : Nat) (w : World) (ho : Opds w l a) (hn : l.length ≤ 1000) (hl : l.length ≤ c) :
 Calls Tryz.prog 63 #[.slice a l.length c] w fun e w' => e = .returned (.tuple #[.int .i64 (totalD l 0).1, .int .i64 (totalD l 0).2]) ∧ Below w.heap.size w w' := by
 obtain ⟨n, HN⟩ : ∃ n, Hid (l.length = n) := ⟨_, rfl⟩
 have HO := Lib.hid ho
 have HNB : Hid (n ≤ 1000) := by have := HN.out; unfold Hid; omega
 rw [HN.out]
 obtain ⟨u, HU⟩ : ∃ u, Hid (totalD l 0 = u) := ⟨_, rfl⟩
 rw [HU.out]
 have HT0 : Hid (totalD (l.drop 0) 0 = u) := HU.out
 clear ho hn hl HU
 go_enter Tryz.func63, Tryz.ntmps63
 go_wp2_with fail
 go_loopw [4, 11] (fun tv iv wr => ∃ (j : Nat) (t : Int), j ≤ n ∧ iv = .int .i64 (j : Int) ∧ tv = .int .i64 t ∧ Hid (totalD (l.drop j) t = u) ∧ Hid (Below w.heap.size w wr)) (fun _ iv _ => n - (intOf iv).toNat)
 case atStart => exact ⟨0, 0, Nat.zero_le _, rfl, rfl, HT0, Below.refl _ _⟩
 case round =>
  clear HT0
  obtain ⟨j, t, hj, rfl, rfl, HT, HB⟩ := hrel
  by_cases hlt : j < n
  ·have hlt' : (j : Int) < (n : Int) := by omega
   have hj0 : (0 : Int) ≤ (j : Int) := by omega
   have HLT := Lib.hid hlt
   obtain ⟨x, hx⟩ := get_of (show j < l.length by rw [HN.out]; exact hlt)
   have hd : l.drop j = x :: l.drop (j + 1) := by
    have hjl : j < l.length := by rw [HN.out]; exact hlt
    rw [List.drop_eq_getElem_cons hjl]
    congr 1
    rw [List.getElem?_eq_getElem hjl] at hx
    exact Option.some.inj hx
   obtain ⟨s, f, HS⟩ := sumOr_ex t x
   have HX : Hid (if f ≠ 0 then u = (0, 84) else totalD (l.drop (j + 1)) s = u) := by
    have h := HT.out
    rw [hd, totalD, HS.out] at h
    unfold Hid
    by_cases hf : f ≠ 0
    ·rw [if_pos hf] at h ⊢; exact h.symm
    ·rw [if_neg hf] at h ⊢; exact h
   have hw1 : wrap64 ((j : Int) + 1) = ((j + 1 : Nat) : Int) := by have := HNB.out; unfold wrap64; omega
   obtain ⟨g, off, rfl, hat⟩ := HO.out.at (by rw [HN.out]; omega)
   have k0 := keepC HB.out (hat j x hx)
   have HSU := Lib.hid (refsum_d t x s f wr HS)
   clear hj hlt hx hd hat
   by_cases hf : f = 0
   ·have hx2 := HX.out
    rw [if_neg (by simp [hf])] at hx2
    have HX2 := Lib.hid hx2
    subst hf
    clear hx2 HX
    go_wp2_with fail
    refine HSU.out.mono ?_
    rintro e w2 ⟨rfl, rfl⟩
    go_wp2_with fail
    refine ⟨⟨j + 1, s, HLT.out, by first | rw [hw1] | go_num, rfl, HX2, HB⟩, ?_⟩
    (try rw [hw1]); have := HLT.out; simp only [intOf]; omega
   ·have hx2 := HX.out
    rw [if_pos hf] at hx2
    have hfb : (f != 0) = true := by simpa using hf
    subst hx2
    clear HX hf
    go_wp2_with fail
    refine HSU.out.mono ?_
    rintro e w2 ⟨rfl, rfl⟩
    go_wp2_with fail
    go_ret2
    exact ⟨rfl, HB.out⟩
  ·obtain rfl : j = n := by omega
   have h1 : ¬ (j : Int) < (j : Int) := by omega
   have hu : u = (t, 0) := by have := HT.out; rw [← HN.out, List.drop_length, totalD] at this; exact this.symm
   subst hu
   go_wp2_with fail
   go_ret2
   exact ⟨rfl, HB.out⟩
def routineD (Ps : List ByteArray) (st : List Int) : Option ByteArray :=
 if st.length = 0 then none
 else if st.getLast?.getD 0 / 65536 + biasN Ps.length < 0 ∨ (Ps.length : Int) ≤ st.getLast?.getD 0 / 65536 + biasN Ps.length then none
 else some (Ps.getD (st.getLast?.getD 0 / 65536 + biasN Ps.length).toNat ByteArray.empty)
end Go.Proofs.YtklenppldblbdaaGreat
