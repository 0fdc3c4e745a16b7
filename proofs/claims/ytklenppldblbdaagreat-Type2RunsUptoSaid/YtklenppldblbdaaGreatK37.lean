import Derived.Test.YtklenppldblbdaaGreatK26
import Derived.Test.YtklenppldblbdaaGreatK36
set_option linter.unusedSimpArgs false
set_option linter.unusedVariables false
namespace Go.Proofs.YtklenppldblbdaaGreat
open Go.RowKit Go.PlainAid
structure FLay where
 pa : Option Addr
 pn : Nat
 pc : Nat
 pd : Option Addr
 ga : Option Addr
 gn : Nat
 gc : Nat
 gd : Option Addr
 la : Option Addr
 ln : Nat
 lc : Nat
 ld : Option Addr
structure FontAt (w : World) (F : Nat) (fl : FLay) (f : FS) : Prop where
 mem : w.heap[F]? = some (.cells #[.slice fl.pa fl.pn fl.pc, .pointer fl.pd, .slice fl.ga fl.gn fl.gc, .pointer fl.gd, .slice fl.la fl.ln fl.lc, .pointer fl.ld, .int .i64 f.w0, .int .i64 f.w1] 59 (0, 0))
 progs : IdxIs w fl.pa fl.pn fl.pc fl.pd f.glyphs ∧ fl.pn ≤ 100000 ∧ fl.pn ≤ fl.pc
 globs : IdxIs w fl.ga fl.gn fl.gc fl.gd f.globals ∧ fl.gn ≤ 100000 ∧ fl.gn ≤ fl.gc
 locs : IdxIs w fl.la fl.ln fl.lc fl.ld f.locals ∧ fl.ln ≤ 100000 ∧ fl.ln ≤ fl.lc
 bound : -4294967296 ≤ f.w1 ∧ f.w1 ≤ 4294967296
 fit : FSFit f
theorem FontAt.below {w w' : World} {F : Nat} {fl : FLay} {f : FS} (h : FontAt w F fl f) (hb : Below w.heap.size w w') : FontAt w' F fl f :=
 ⟨blk_below h.mem hb, ⟨h.progs.1.below hb, h.progs.2⟩, ⟨h.globs.1.below hb, h.globs.2⟩, ⟨h.locs.1.below hb, h.locs.2⟩, h.bound, h.fit⟩
structure RunAt (w0 w : World) (M F : Nat) (fl : FLay) (f : FS) (L : Lay) (s : MS) : Prop where
 mach : Mach w w0.heap.size M F L s
 font : FontAt w0 F fl f
 bel : Below w0.heap.size w0 w
 fit : StepFit s
theorem RunAt.fcell {w0 w : World} {M F : Nat} {fl : FLay} {f : FS} {L : Lay} {s : MS} (h : RunAt w0 w M F fl f L s) : FCell w F w0.heap.size f.w1 :=
 FCell.below ⟨blk_cell h.font.mem 7 _ rfl, blk_lt h.font.mem, h.font.bound⟩ h.bel
theorem RunAt.opds {w0 w : World} {M F : Nat} {fl : FLay} {f : FS} {L : Lay} {s : MS} (h : RunAt w0 w M F fl f L s) : OpdsOk w s.stack L.sa L.sc := by
 refine ⟨?_, ?_, by have := h.fit.few; omega, h.fit.small⟩
 ·by_cases h0 : s.stack.length = 0
  ·exact .inl (List.eq_nil_of_length_eq_zero h0)
  ·obtain ⟨g, hg, _⟩ := own_some h.mach.stack (by omega)
   have h1 := h.mach.stack
   rw [hg] at h1
   rcases h1.2 with ⟨hx, _⟩ | ⟨g', cap, cur, hx, hb, hgg, hnc, hcm, hcs, htk⟩
   ·cases hx
   ·cases hx
    refine .inr ⟨g, 0, cur, (0, 0), hg, hgg, fun i v hv => ?_⟩
    rw [Nat.zero_add, ← Array.getElem?_toList]
    have h2 : (s.stack.map (Value.int .i64))[i]? = some (.int .i64 v) := by rw [List.getElem?_map, hv]; rfl
    rw [← htk] at h2
    have hil := (List.getElem?_eq_some_iff.1 hv).1
    rwa [List.getElem?_take_of_lt (by omega)] at h2
 ·by_cases h0 : s.stack.length = 0
  ·omega
  ·obtain ⟨g, hg, _, _, hnc⟩ := own_some h.mach.stack (by omega)
   exact hnc
theorem RunAt.take {w0 w : World} {M F : Nat} {fl : FLay} {f : FS} {L : Lay} {s : MS} (h : RunAt w0 w M F fl f L s) (h0 : s.fault = 0) : TakeOk w w0.heap.size M F L s s.stack L.sa L.sc f.w1 := by
 refine ⟨h.mach, h.fit.pen, h.opds, h.fcell, ?_, by have := h.fit.open'; omega, by have := h.fit.stems; omega, by have := h.fit.few; omega⟩
 have ho := h.fit.open'
 cases hr : s.rows with
 | nil => rw [hr] at ho; simp at ho
 | cons r rest =>
   have h1 := h.fit.rows0 h0 r (by rw [hr]; simp)
   have h2 := h.fit.size r (by rw [hr]; simp)
   exact ⟨r, rest, rfl, h2, by omega⟩
theorem call_k (B M F : Nat) (L : Lay) (s : MS) (a : Option Addr) (n c : Nat) (d : Option Addr) (Ps : List ByteArray) (w : World) (h : Mach w B M F L s) (hi : IdxIs w a n c d Ps) (hn : n ≤ 100000) (hc : n ≤ c) (hf : StepFit s) :
 Calls Tryz.prog 68 #[.pointer (some ⟨M, 0, none⟩), .agg #[.slice a n c, .pointer d]] w (MPost B M F (s.call Ps) (.tuple #[]) w) := by
 by_cases h0 : s.stack.length = 0
 ·exact call_none B M F L s a n c d Ps w h h0
 ·obtain ⟨m, hm⟩ : ∃ m, s.stack.length = m + 1 := ⟨s.stack.length - 1, by omega⟩
  obtain ⟨v, hv⟩ := get_of (show m < s.stack.length by omega)
  obtain ⟨g, hg, hgB, hgl, hgc⟩ := own_some h.stack (by omega)
  have hst := h.stack
  rw [hg] at hst
  have k0 := own_lies hst m (.int .i64 v) (by rw [List.getElem?_map, hv]; rfl)
  rw [Nat.zero_add] at k0
  have hl := hf.few
  have k : CallAt w B M F L s a n c d Ps g m v Ps.length (v / 65536 + biasN Ps.length) := ⟨h, hi, hn, hc, hg, hm, by omega, by omega, k0, hf.small v (List.mem_of_getElem? hv), rfl, hi.count, rfl, ⟨hf.open'.2, hf.open'.1⟩⟩
  have hlast : s.stack.getLast?.getD 0 = v := by rw [List.getLast?_eq_getElem?, hm, Nat.add_sub_cancel, hv]; rfl
  have hE : s.call Ps = if v / 65536 + biasN Ps.length < 0 ∨ (Ps.length : Int) ≤ v / 65536 + biasN Ps.length then ({ s with stack := s.stack.take m } : MS).refuse 81 else if 10 < s.rows.length then ({ s with stack := s.stack.take m } : MS).refuse 83 else { s with stack := s.stack.take m, rows := ⟨Ps.getD (v / 65536 + biasN Ps.length).toNat ByteArray.empty, 0, false⟩ :: s.rows } := by
   unfold MS.call
   rw [if_neg h0, hlast]
   have : s.stack.dropLast = s.stack.take m := by rw [List.dropLast_eq_take, hm, Nat.add_sub_cancel]
   simp only [this]
  rw [hE]
  by_cases h1 : v / 65536 + biasN Ps.length < 0
  ·rw [if_pos (.inl h1)]
   exact call_neg B M F L s a n c d Ps g m v _ _ w k h1
  ·by_cases h2 : (Ps.length : Int) ≤ v / 65536 + biasN Ps.length
   ·rw [if_pos (.inr h2)]
    exact call_big B M F L s a n c d Ps g m v _ _ w k (by omega) h2
   ·rw [if_neg (by omega)]
    by_cases h3 : 10 < s.rows.length
    ·rw [if_pos h3]
     exact call_deep B M F L s a n c d Ps g m v _ _ w k (by omega) (by omega) h3
    ·rw [if_neg h3]
     exact call_open B M F L s a n c d Ps g m v _ _ w k (by omega) (by omega) h3
theorem take_stack (s : MS) (w1 op : Int) (l : List Int) : (s.take w1 op l).stack = s.stack := by
 unfold MS.take
 split
 ·exact (addStems_keeps s w1 l).2.2.2.2.1
 split
 ·have hk := (addStems_keeps s w1 l).2.2.2.2.1
  unfold MS.passMask
  split
  ·exact hk
  ·simp only
   split
   ·rw [(Rest.refuse _ _).stack]; exact hk
   ·exact hk
 split
 ·unfold MS.begin
  simp only
  have hq := (behind_stems s w1 l (decide (l.length = (if op = 21 then 2 else 1) + 1))).2.2.2.2.1
  generalize s.behind w1 l (decide (l.length = (if op = 21 then 2 else 1) + 1)) = q at *
  repeat' split
  all_goals first
   | (rw [(Rest.refuse _ _).stack]; exact hq)
   | (rw [(Rest.move _ _ _).stack]; exact hq)
   | exact hq
 split
 ·unfold MS.finish
  simp only
  have hq := (behind_stems s w1 l (decide (l.length = 1) || decide (l.length = 5))).2.2.2.2.1
  generalize s.behind w1 l (decide (l.length = 1) || decide (l.length = 5)) = q at *
  repeat' split
  all_goals first
   | (rw [(Rest.refuse _ _).stack]; exact hq)
   | exact hq
 ·exact (Rest.draw _ _ _).stack
theorem RunAt.fc {w0 w : World} {M F : Nat} {fl : FLay} {f : FS} {L : Lay} {s : MS} (h : RunAt w0 w M F fl f L s) (i : Nat) (v : Value) (hv : (#[.slice fl.pa fl.pn fl.pc, .pointer fl.pd, .slice fl.ga fl.gn fl.gc, .pointer fl.gd, .slice fl.la fl.ln fl.lc, .pointer fl.ld, .int .i64 f.w0, .int .i64 f.w1] : Array Value)[i]? = some v) : w.cell? ⟨F, i, none⟩ = some v :=
 keepC h.bel (blk_cell h.font.mem i v hv)
set_option maxRecDepth 20000 in
set_option maxHeartbeats 1000000 in
theorem operate_10 (w0 w : World) (M F : Nat) (fl : FLay) (f : FS) (L : Lay) (s : MS) (h : RunAt w0 w M F fl f L s) :
 Calls Tryz.prog 51 #[.pointer (some ⟨M, 0, none⟩), .int .i64 10] w (MPost w0.heap.size M F (s.operate f 10) (.tuple #[]) w) := by
 have c5 := h.mach.c5
 have k0 := h.fc 4 (.slice fl.la fl.ln fl.lc) rfl
 have k1 := h.fc 5 (.pointer fl.ld) rfl
 have HC := Lib.hid (call_k w0.heap.size M F L s fl.la fl.ln fl.lc fl.ld f.locals w h.mach (h.font.locs.1.below h.bel) h.font.locs.2.1 h.font.locs.2.2 h.fit)
 have HE : Hid (s.operate f 10 = s.call f.locals) := rfl
 rw [HE.out]
 generalize s.call f.locals = s9 at *
 clear h HE
 go_enter Tryz.func51, Tryz.ntmps51
 go_wp2_with fail
 refine HC.out.mono ?_
 rintro e w1 ⟨rfl, hx⟩
 have HX := Lib.hid hx
 clear hx
 go_wp2_with fail
 go_end0
 exact ⟨rfl, HX.out⟩
set_option maxRecDepth 20000 in
set_option maxHeartbeats 1000000 in
theorem operate_29 (w0 w : World) (M F : Nat) (fl : FLay) (f : FS) (L : Lay) (s : MS) (h : RunAt w0 w M F fl f L s) :
 Calls Tryz.prog 51 #[.pointer (some ⟨M, 0, none⟩), .int .i64 29] w (MPost w0.heap.size M F (s.operate f 29) (.tuple #[]) w) := by
 have c5 := h.mach.c5
 have k0 := h.fc 2 (.slice fl.ga fl.gn fl.gc) rfl
 have k1 := h.fc 3 (.pointer fl.gd) rfl
 have HC := Lib.hid (call_k w0.heap.size M F L s fl.ga fl.gn fl.gc fl.gd f.globals w h.mach (h.font.globs.1.below h.bel) h.font.globs.2.1 h.font.globs.2.2 h.fit)
 have HE : Hid (s.operate f 29 = s.call f.globals) := rfl
 rw [HE.out]
 generalize s.call f.globals = s9 at *
 clear h HE
 go_enter Tryz.func51, Tryz.ntmps51
 go_wp2_with fail
 refine HC.out.mono ?_
 rintro e w1 ⟨rfl, hx⟩
 have HX := Lib.hid hx
 clear hx
 go_wp2_with fail
 go_end0
 exact ⟨rfl, HX.out⟩
set_option maxRecDepth 20000 in
set_option maxHeartbeats 1000000 in
theorem operate_11 (w0 w : World) (M F : Nat) (fl : FLay) (f : FS) (L : Lay) (s : MS) (h : RunAt w0 w M F fl f L s) :
 Calls Tryz.prog 51 #[.pointer (some ⟨M, 0, none⟩), .int .i64 11] w (MPost w0.heap.size M F (s.operate f 11) (.tuple #[]) w) := by
 obtain ⟨r, rest, hr⟩ : ∃ r rest, s.rows = r :: rest := by
  have ho := h.fit.open'
  cases hr : s.rows with
  | nil => rw [hr] at ho; simp at ho
  | cons r rest => exact ⟨r, rest, rfl⟩
 have HC := Lib.hid (leave_c w0.heap.size M F L s r rest w h.mach hr (by have := h.fit.open'; omega))
 have HE : Hid (s.operate f 11 = s.leave) := rfl
 rw [HE.out]
 generalize s.leave = s9 at *
 clear h HE hr
 go_enter Tryz.func51, Tryz.ntmps51
 go_wp2_with fail
 refine HC.out.mono ?_
 rintro e w1 ⟨rfl, hx⟩
 have HX := Lib.hid hx
 clear hx
 go_wp2_with fail
 go_end0
 exact ⟨rfl, HX.out⟩
set_option maxRecDepth 20000 in
set_option maxHeartbeats 1000000 in
theorem operate_take (w0 w : World) (M F : Nat) (fl : FLay) (f : FS) (L : Lay) (s : MS) (op : Int) (h : RunAt w0 w M F fl f L s) (h0 : s.fault = 0) (n10 : op ≠ 10) (n29 : op ≠ 29) (n11 : op ≠ 11) :
 Calls Tryz.prog 51 #[.pointer (some ⟨M, 0, none⟩), .int .i64 op] w (MPost w0.heap.size M F (s.operate f op) (.tuple #[]) w) := by
 have HC := Lib.hid (take_c w0.heap.size M F L s op s.stack L.sa L.sc f.w1 w (h.take h0))
 have HE : Hid (s.operate f op = { s.take f.w1 op s.stack with stack := [] }) := by unfold Hid MS.operate; rw [if_neg n10, if_neg n29, if_neg n11]
 rw [HE.out]
 have hts := take_stack s f.w1 op s.stack
 generalize s.take f.w1 op s.stack = s9 at *
 have c7 := h.mach.c7
 obtain ⟨n, HN⟩ : ∃ n, Hid (s.stack.length = n) := ⟨_, rfl⟩
 have HTS := Lib.hid hts
 have hnc := h.opds.le
 have HMB := Lib.hid h.mach.mB
 rw [HN.out] at c7 HC hnc
 have hn : n ≤ 48 := by have := h.fit.few; have := HN.out; omega
 have z0 : (0 : Int) ≤ (n : Int) := by omega
 have z1 : (n : Int) ≤ (L.sc : Int) := by omega
 have hown := h.mach.stack
 rw [HN.out] at hown
 rcases hown.2 with ⟨hv, hn0⟩ | ⟨g, cap, cur, hv, _⟩
 ·have hsa : L.sa = none ∧ L.sc = 0 := by simp only [Value.slice.injEq] at hv; exact ⟨hv.1, hv.2.2⟩
  subst hn0
  obtain ⟨sa, hsa'⟩ : ∃ sa, Hid (L.sa = sa) := ⟨_, rfl⟩
  have HSA := Lib.hid hsa
  rw [hsa.1, hsa.2] at c7 HC
  clear h HE hts hown hv hsa hnc z1
  go_enter Tryz.func51, Tryz.ntmps51
  go_wp2_with fail
  refine HC.out.mono ?_
  rintro e w1 ⟨rfl, ⟨oa, oc, vs, hm⟩, hb, hk⟩
  have d7 := hm.c7
  have f7 := hm.f 7
  simp only at d7
  rw [HTS.out, HN.out, HSA.out.1, HSA.out.2] at d7
  have HX := Lib.hid (hm.cutStack 0 (Nat.zero_le _))
  simp only at HX
  rw [HSA.out.1, HSA.out.2] at HX
  have HB := Lib.hid (bel_set (b := M) (o := 7) hb HMB.out (.slice none 0 0))
  clear hm hb hk c7
  go_wp2_with fail
  go_end0
  exact ⟨rfl, ⟨_, HX.out⟩, HB.out⟩
 ·have hsa : L.sa = some ⟨g, 0, none⟩ := by simp only [Value.slice.injEq] at hv; exact hv.1
  have HSA := Lib.hid hsa
  rw [hsa] at c7 HC
  clear h HE hts hown hv hsa
  go_enter Tryz.func51, Tryz.ntmps51
  go_wp2_with fail
  refine HC.out.mono ?_
  rintro e w1 ⟨rfl, ⟨oa, oc, vs, hm⟩, hb, hk⟩
  have d7 := hm.c7
  have f7 := hm.f 7
  simp only at d7
  rw [HTS.out, HN.out, HSA.out] at d7
  have HX := Lib.hid (hm.cutStack 0 (Nat.zero_le _))
  simp only at HX
  rw [HSA.out] at HX
  have HB := Lib.hid (bel_set (b := M) (o := 7) hb HMB.out (.slice (some ⟨g, 0, none⟩) 0 L.sc))
  clear hm hb hk c7
  go_wp2_with fail
  go_end0
  exact ⟨rfl, ⟨_, HX.out⟩, HB.out⟩
theorem operate_c (w0 w : World) (M F : Nat) (fl : FLay) (f : FS) (L : Lay) (s : MS) (op : Int) (h : RunAt w0 w M F fl f L s) (h0 : s.fault = 0) :
 Calls Tryz.prog 51 #[.pointer (some ⟨M, 0, none⟩), .int .i64 op] w (MPost w0.heap.size M F (s.operate f op) (.tuple #[]) w) := by
 by_cases n10 : op = 10
 ·subst n10; exact operate_10 w0 w M F fl f L s h
 by_cases n29 : op = 29
 ·subst n29; exact operate_29 w0 w M F fl f L s h
 by_cases n11 : op = 11
 ·subst n11; exact operate_11 w0 w M F fl f L s h
 exact operate_take w0 w M F fl f L s op h h0 n10 n29 n11
end Go.Proofs.YtklenppldblbdaaGreat
namespace Go.Proofs.YtklenppldblbdaaGreat
open Go.RowKit Go.PlainAid
theorem bel_row {B : Nat} {w w' : World} {R : Nat} (hg : w.grownBy w' (some R)) (hB : B ≤ w.heap.size) (hR : B ≤ R) : Below B w w' :=
 ⟨hg.os, hg.tape, hg.output, hg.size, fun j hj => hg.block j (Nat.lt_of_lt_of_le hj hB) (fun e => by cases e; omega)⟩
structure StepAt (w0 w : World) (M F : Nat) (fl : FLay) (f : FS) (L : Lay) (s : MS) (r : Rw) (rest : List Rw) (m t : Nat) (R V : Nat) (rb : List (Nat × Nat)) : Prop where
 run : RunAt w0 w M F fl f L s
 rows : s.rows = r :: rest
 rb : L.rb = (R, V) :: rb
 cell : w.cell? ⟨L.pg, m, none⟩ = some (.pointer (some ⟨R, 0, none⟩))
 row : RowAt w R V r
 base : w0.heap.size ≤ R
 len : rest.length = m
 m10 : m ≤ 10
 fuel : s.fuel = t
 ok : s.fault = 0
set_option maxRecDepth 20000 in
set_option maxHeartbeats 4000000 in
theorem step_end (w0 w : World) (M F : Nat) (fl : FLay) (f : FS) (L : Lay) (s : MS) (r : Rw) (rest : List Rw) (m t : Nat) (R V : Nat) (rb : List (Nat × Nat)) (k : StepAt w0 w M F fl f L s r rest m t R V rb) (hp : r.s.size ≤ r.p) :
 Calls Tryz.prog 30 #[.pointer (some ⟨M, 0, none⟩)] w (MPost w0.heap.size M F (s.refuse 81) (.tuple #[]) w) := by
 have hd : decide (r.p < r.s.size) = false := by simp; omega
 have HD := Lib.hid hd
 clear hd hp
 have HK := Lib.hid k
 have H := Lib.hid k.run.mach
 have c6 := k.run.mach.c6
 rw [k.rows, List.length_cons, k.len] at c6
 have k0 := k.cell
 have HR := Lib.hid k.row
 have hm10 := k.m10
 have b0 : (0 : Int) ≤ (m : Int) := by omega
 have b1 : (m : Int) < (m : Int) + 1 := by omega
 clear k
 go_enter Tryz.func30, Tryz.ntmps30
 go_wp2_with fail
 go_quiet (fail)
 have H1 := Lib.hid (H.out.below (bel_drewN0 w nq))
 have HR1 := Lib.hid (HR.out.below (bel_drewN0 w nq))
 have HB1 : Hid (Below w0.heap.size w (w.drewN nq)) := bel_drewN (Below.refl _ _) nq
 clear c6 k0 b0 b1
 go_wp2_with fail
 refine (left_c R V r _ HR1.out).mono ?_
 rintro e w2 ⟨rfl, hb2⟩
 have H2 := Lib.hid (H1.out.below hb2)
 have HR2 := Lib.hid (HR1.out.below hb2)
 have HB2 := Lib.hid (HB1.out.trans (hb2.mono H1.out.le))
 clear hb2
 rw [HD.out]
 go_wp2_with fail
 refine (refuse_c _ M F L s 81 _ H2.out).mono ?_
 rintro e w9 ⟨rfl, h9, hb9, hk9⟩
 have H9 := Lib.hid h9
 have HB9 := Lib.hid (HB2.out.trans hb9)
 clear h9 hb9 hk9
 go_wp2_with fail
 go_end0
 exact ⟨rfl, ⟨_, H9.out⟩, HB9.out⟩
set_option maxRecDepth 20000 in
set_option maxHeartbeats 4000000 in
theorem step_fuel' (w0 w : World) (M F : Nat) (fl : FLay) (f : FS) (L : Lay) (s : MS) (r : Rw) (rest : List Rw) (m t : Nat) (R V : Nat) (rb : List (Nat × Nat)) (k : StepAt w0 w M F fl f L s r rest m t R V rb) (hp : r.p < r.s.size) (ht : t = 20000) :
 Calls Tryz.prog 30 #[.pointer (some ⟨M, 0, none⟩)] w (MPost w0.heap.size M F (s.refuse 83) (.tuple #[]) w) := by
 have hd : decide (r.p < r.s.size) = true := by simp; omega
 have HD := Lib.hid hd
 have HP := Lib.hid hp
 clear hd hp
 have HK := Lib.hid k
 have H := Lib.hid k.run.mach
 have c6 := k.run.mach.c6
 rw [k.rows, List.length_cons, k.len] at c6
 have k0 := k.cell
 have HR := Lib.hid k.row
 have hm10 := k.m10
 have b0 : (0 : Int) ≤ (m : Int) := by omega
 have b1 : (m : Int) < (m : Int) + 1 := by omega
 clear k
 go_enter Tryz.func30, Tryz.ntmps30
 go_wp2_with fail
 go_quiet (fail)
 have H1 := Lib.hid (H.out.below (bel_drewN0 w nq))
 have HR1 := Lib.hid (HR.out.below (bel_drewN0 w nq))
 have HB1 : Hid (Below w0.heap.size w (w.drewN nq)) := bel_drewN (Below.refl _ _) nq
 clear c6 k0 b0 b1
 go_wp2_with fail
 refine (left_c R V r _ HR1.out).mono ?_
 rintro e w2 ⟨rfl, hb2⟩
 have H2 := Lib.hid (H1.out.below hb2)
 have HR2 := Lib.hid (HR1.out.below hb2)
 have HB2 := Lib.hid (HB1.out.trans (hb2.mono H1.out.le))
 clear hb2
 rw [HD.out]
 have c8 := H2.out.c8
 rw [HK.out.fuel] at c8
 rw [ht] at c8
 go_wp2_with fail
 refine (refuse_c _ M F L s 83 _ H2.out).mono ?_
 rintro e w9 ⟨rfl, h9, hb9, hk9⟩
 have H9 := Lib.hid h9
 have HB9 := Lib.hid (HB2.out.trans hb9)
 clear h9 hb9 hk9
 go_wp2_with fail
 go_end0
 exact ⟨rfl, ⟨_, H9.out⟩, HB9.out⟩
set_option maxRecDepth 20000 in
set_option maxHeartbeats 4000000 in
theorem step_cut (w0 w : World) (M F : Nat) (fl : FLay) (f : FS) (L : Lay) (s : MS) (r : Rw) (rest : List Rw) (m t : Nat) (R V : Nat) (rb : List (Nat × Nat)) (k : StepAt w0 w M F fl f L s r rest m t R V rb) (hp : r.p < r.s.size) (ht : t ≠ 20000) (hok : ((r.next 1).2.prog (r.next 1).1).1.2 = true) (hc : r.item.2.c = true) :
 Calls Tryz.prog 30 #[.pointer (some ⟨M, 0, none⟩)] w (MPost w0.heap.size M F (({ s with fuel := t + 1, rows := r.item.2 :: rest } : MS).refuse 81) (.tuple #[]) w) := by
 have hi : r.item = ((r.next 1).2.prog (r.next 1).1) := by unfold Rw.item; simp only; rw [if_pos hok]
 rw [hi] at hc ⊢
 have HI := Lib.hid hi
 have HC := Lib.hid hc
 have HOK := Lib.hid hok
 clear hi hc hok
 have hd : decide (r.p < r.s.size) = true := by simp; omega
 have HD := Lib.hid hd
 have HP := Lib.hid hp
 clear hd hp
 have HK := Lib.hid k
 have H := Lib.hid k.run.mach
 have c6 := k.run.mach.c6
 rw [k.rows, List.length_cons, k.len] at c6
 have k0 := k.cell
 have HR := Lib.hid k.row
 have hm10 := k.m10
 have b0 : (0 : Int) ≤ (m : Int) := by omega
 have b1 : (m : Int) < (m : Int) + 1 := by omega
 clear k
 go_enter Tryz.func30, Tryz.ntmps30
 go_wp2_with fail
 go_quiet (fail)
 have H1 := Lib.hid (H.out.below (bel_drewN0 w nq))
 have HR1 := Lib.hid (HR.out.below (bel_drewN0 w nq))
 have HB1 : Hid (Below w0.heap.size w (w.drewN nq)) := bel_drewN (Below.refl _ _) nq
 clear c6 k0 b0 b1
 go_wp2_with fail
 refine (left_c R V r _ HR1.out).mono ?_
 rintro e w2 ⟨rfl, hb2⟩
 have H2 := Lib.hid (H1.out.below hb2)
 have HR2 := Lib.hid (HR1.out.below hb2)
 have HB2 := Lib.hid (HB1.out.trans (hb2.mono H1.out.le))
 clear hb2
 rw [HD.out]
 have c8 := H2.out.c8
 rw [HK.out.fuel] at c8
 have f8 := H2.out.f 8
 have ht1 : t ≤ 20000 := by rw [← HK.out.fuel]; exact HK.out.run.fit.fuel
 have z1 : ((t : Int) == 20000) = false := by simp; omega
 have HFT : Hid ((t : Int) + 1 = ((t + 1 : Nat) : Int)) := by unfold Hid; omega
 have HF0 : Hid (RwFit r) := by have h1 := HK.out.run.fit.size r (by rw [HK.out.rows]; simp); have h2 := HP.out; unfold Hid RwFit; omega
 have H3 : Hid (Mach (w2.setCell ⟨M, 8, none⟩ (.int .i64 ((t : Int) + 1))) w0.heap.size M F L { s with fuel := t + 1 }) := by rw [HFT.out]; exact H2.out.setFuel (t + 1)
 have HR3 : Hid (RowAt (w2.setCell ⟨M, 8, none⟩ (.int .i64 ((t : Int) + 1))) R V r) := HR2.out.chg (grown_set w2 M 8 _) H2.out.typ (by decide) (by decide)
 have HB3 : Hid (Below w0.heap.size w (w2.setCell ⟨M, 8, none⟩ (.int .i64 ((t : Int) + 1)))) := bel_set HB2.out H.out.mB _
 go_wp2_with fail
 generalize w2.setCell ⟨M, 8, none⟩ (.int .i64 ((t : Int) + 1)) = w3 at *
 clear c8 f8 z1
 refine (rbyte_c R V r w3 HR3.out HF0.out).mono ?_
 rintro e w4 ⟨rfl, hr4, hg4⟩
 have HB4 := Lib.hid (HB3.out.trans (bel_row hg4 H3.out.le HK.out.base))
 have H4 := Lib.hid (H3.out.rowed HK.out.rows HK.out.rb hr4 hg4)
 have HR4 := Lib.hid hr4
 have HF4 : Hid (RwFit (r.next 1).2) := by have h1 := HF0.out; have h2 := HP.out; unfold RwFit at h1; unfold Hid RwFit; refine ⟨h1.1, ?_⟩; show r.p + 1 ≤ 1000100; omega
 have HBY := Lib.hid (next_bound r).1
 clear hr4 hg4
 go_wp2_with fail
 refine (rprog_c R V (r.next 1).2 (r.next 1).1 w4 HR4.out HF4.out HBY.out.1 HBY.out.2).mono ?_
 rintro e w5 ⟨rfl, hr5, hg5⟩
 have HB5 := Lib.hid (HB4.out.trans (bel_row hg5 H4.out.le HK.out.base))
 have H5 := Lib.hid (H4.out.rowed (r := (r.next 1).2) (rest := rest) rfl HK.out.rb hr5 hg5)
 have HR5 := Lib.hid hr5
 clear hr5 hg5
 obtain ⟨q, HQ⟩ : ∃ q, Hid ((r.next 1).2.prog (r.next 1).1 = q) := ⟨_, rfl⟩
 rw [HQ.out] at H5 HR5 HOK HC ⊢
 have hx : ∃ x y z, q = ((x, y), z) := ⟨q.1.1, q.1.2, q.2, rfl⟩
 obtain ⟨x, y, z, rfl⟩ := hx
 have hy : y = true := HOK.out
 subst hy
 have hzc := HC.out
 simp only at hzc
 have d2 := HR5.out.c2
 simp only at d2
 rw [hzc] at d2
 have HZC := Lib.hid hzc
 clear hzc HI
 go_wp2_with fail
 refine (refuse_c _ M F L _ 81 _ H5.out).mono ?_
 rintro e w9 ⟨rfl, h9, hb9, hk9⟩
 have H9 := Lib.hid h9
 have HB9 := Lib.hid (HB5.out.trans hb9)
 clear h9 hb9 hk9
 go_wp2_with fail
 go_end0
 rw [HQ.out]
 exact ⟨rfl, ⟨_, H9.out⟩, HB9.out⟩
set_option maxRecDepth 20000 in
set_option maxHeartbeats 4000000 in
theorem step_push (w0 w : World) (M F : Nat) (fl : FLay) (f : FS) (L : Lay) (s : MS) (r : Rw) (rest : List Rw) (m t : Nat) (R V : Nat) (rb : List (Nat × Nat)) (k : StepAt w0 w M F fl f L s r rest m t R V rb) (hp : r.p < r.s.size) (ht : t ≠ 20000) (hok : ((r.next 1).2.prog (r.next 1).1).1.2 = true) (hc : r.item.2.c = false) :
 Calls Tryz.prog 30 #[.pointer (some ⟨M, 0, none⟩)] w (MPost w0.heap.size M F (({ s with fuel := t + 1, rows := r.item.2 :: rest } : MS).push r.item.1.1) (.tuple #[]) w) := by
 have hi : r.item = ((r.next 1).2.prog (r.next 1).1) := by unfold Rw.item; simp only; rw [if_pos hok]
 rw [hi] at hc ⊢
 have HI := Lib.hid hi
 have HC := Lib.hid hc
 have HOK := Lib.hid hok
 clear hi hc hok
 have hd : decide (r.p < r.s.size) = true := by simp; omega
 have HD := Lib.hid hd
 have HP := Lib.hid hp
 clear hd hp
 have HK := Lib.hid k
 have H := Lib.hid k.run.mach
 have c6 := k.run.mach.c6
 rw [k.rows, List.length_cons, k.len] at c6
 have k0 := k.cell
 have HR := Lib.hid k.row
 have hm10 := k.m10
 have b0 : (0 : Int) ≤ (m : Int) := by omega
 have b1 : (m : Int) < (m : Int) + 1 := by omega
 clear k
 go_enter Tryz.func30, Tryz.ntmps30
 go_wp2_with fail
 go_quiet (fail)
 have H1 := Lib.hid (H.out.below (bel_drewN0 w nq))
 have HR1 := Lib.hid (HR.out.below (bel_drewN0 w nq))
 have HB1 : Hid (Below w0.heap.size w (w.drewN nq)) := bel_drewN (Below.refl _ _) nq
 clear c6 k0 b0 b1
 go_wp2_with fail
 refine (left_c R V r _ HR1.out).mono ?_
 rintro e w2 ⟨rfl, hb2⟩
 have H2 := Lib.hid (H1.out.below hb2)
 have HR2 := Lib.hid (HR1.out.below hb2)
 have HB2 := Lib.hid (HB1.out.trans (hb2.mono H1.out.le))
 clear hb2
 rw [HD.out]
 have c8 := H2.out.c8
 rw [HK.out.fuel] at c8
 have f8 := H2.out.f 8
 have ht1 : t ≤ 20000 := by rw [← HK.out.fuel]; exact HK.out.run.fit.fuel
 have z1 : ((t : Int) == 20000) = false := by simp; omega
 have HFT : Hid ((t : Int) + 1 = ((t + 1 : Nat) : Int)) := by unfold Hid; omega
 have HF0 : Hid (RwFit r) := by have h1 := HK.out.run.fit.size r (by rw [HK.out.rows]; simp); have h2 := HP.out; unfold Hid RwFit; omega
 have H3 : Hid (Mach (w2.setCell ⟨M, 8, none⟩ (.int .i64 ((t : Int) + 1))) w0.heap.size M F L { s with fuel := t + 1 }) := by rw [HFT.out]; exact H2.out.setFuel (t + 1)
 have HR3 : Hid (RowAt (w2.setCell ⟨M, 8, none⟩ (.int .i64 ((t : Int) + 1))) R V r) := HR2.out.chg (grown_set w2 M 8 _) H2.out.typ (by decide) (by decide)
 have HB3 : Hid (Below w0.heap.size w (w2.setCell ⟨M, 8, none⟩ (.int .i64 ((t : Int) + 1)))) := bel_set HB2.out H.out.mB _
 go_wp2_with fail
 generalize w2.setCell ⟨M, 8, none⟩ (.int .i64 ((t : Int) + 1)) = w3 at *
 clear c8 f8 z1
 refine (rbyte_c R V r w3 HR3.out HF0.out).mono ?_
 rintro e w4 ⟨rfl, hr4, hg4⟩
 have HB4 := Lib.hid (HB3.out.trans (bel_row hg4 H3.out.le HK.out.base))
 have H4 := Lib.hid (H3.out.rowed HK.out.rows HK.out.rb hr4 hg4)
 have HR4 := Lib.hid hr4
 have HF4 : Hid (RwFit (r.next 1).2) := by have h1 := HF0.out; have h2 := HP.out; unfold RwFit at h1; unfold Hid RwFit; refine ⟨h1.1, ?_⟩; show r.p + 1 ≤ 1000100; omega
 have HBY := Lib.hid (next_bound r).1
 clear hr4 hg4
 go_wp2_with fail
 refine (rprog_c R V (r.next 1).2 (r.next 1).1 w4 HR4.out HF4.out HBY.out.1 HBY.out.2).mono ?_
 rintro e w5 ⟨rfl, hr5, hg5⟩
 have HB5 := Lib.hid (HB4.out.trans (bel_row hg5 H4.out.le HK.out.base))
 have H5 := Lib.hid (H4.out.rowed (r := (r.next 1).2) (rest := rest) rfl HK.out.rb hr5 hg5)
 have HR5 := Lib.hid hr5
 clear hr5 hg5
 obtain ⟨q, HQ⟩ : ∃ q, Hid ((r.next 1).2.prog (r.next 1).1 = q) := ⟨_, rfl⟩
 rw [HQ.out] at H5 HR5 HOK HC ⊢
 have hx : ∃ x y z, q = ((x, y), z) := ⟨q.1.1, q.1.2, q.2, rfl⟩
 obtain ⟨x, y, z, rfl⟩ := hx
 have hy : y = true := HOK.out
 subst hy
 have hzc := HC.out
 simp only at hzc
 have d2 := HR5.out.c2
 simp only at d2
 rw [hzc] at d2
 have HZC := Lib.hid hzc
 clear hzc HI
 go_wp2_with fail
 refine (push_c _ M F L _ x _ H5.out HK.out.run.fit.few).mono ?_
 rintro e w9 ⟨rfl, ⟨L9, h9⟩, hb9⟩
 have H9 := Lib.hid h9
 have HB9 := Lib.hid (HB5.out.trans hb9)
 clear h9 hb9
 go_wp2_with fail
 go_end0
 rw [HQ.out]
 exact ⟨rfl, ⟨_, H9.out⟩, HB9.out⟩
set_option maxRecDepth 20000 in
set_option maxHeartbeats 4000000 in
theorem step_ocut (w0 w : World) (M F : Nat) (fl : FLay) (f : FS) (L : Lay) (s : MS) (r : Rw) (rest : List Rw) (m t : Nat) (R V : Nat) (rb : List (Nat × Nat)) (k : StepAt w0 w M F fl f L s r rest m t R V rb) (hp : r.p < r.s.size) (ht : t ≠ 20000) (hok : ((r.next 1).2.prog (r.next 1).1).1.2 = false) (hc : r.item.2.c = true) :
 Calls Tryz.prog 30 #[.pointer (some ⟨M, 0, none⟩)] w (MPost w0.heap.size M F (({ s with fuel := t + 1, rows := r.item.2 :: rest } : MS).refuse 81) (.tuple #[]) w) := by
 have hi : r.item = (((((r.next 1).2.prog (r.next 1).1).2.oper (r.next 1).1).1, false), (((r.next 1).2.prog (r.next 1).1).2.oper (r.next 1).1).2) := by unfold Rw.item; simp only; rw [if_neg (by rw [hok]; simp)]
 rw [hi] at hc ⊢
 have HI := Lib.hid hi
 have HC := Lib.hid hc
 have HOK := Lib.hid hok
 clear hi hc hok
 have hd : decide (r.p < r.s.size) = true := by simp; omega
 have HD := Lib.hid hd
 have HP := Lib.hid hp
 clear hd hp
 have HK := Lib.hid k
 have H := Lib.hid k.run.mach
 have c6 := k.run.mach.c6
 rw [k.rows, List.length_cons, k.len] at c6
 have k0 := k.cell
 have HR := Lib.hid k.row
 have hm10 := k.m10
 have b0 : (0 : Int) ≤ (m : Int) := by omega
 have b1 : (m : Int) < (m : Int) + 1 := by omega
 clear k
 go_enter Tryz.func30, Tryz.ntmps30
 go_wp2_with fail
 go_quiet (fail)
 have H1 := Lib.hid (H.out.below (bel_drewN0 w nq))
 have HR1 := Lib.hid (HR.out.below (bel_drewN0 w nq))
 have HB1 : Hid (Below w0.heap.size w (w.drewN nq)) := bel_drewN (Below.refl _ _) nq
 clear c6 k0 b0 b1
 go_wp2_with fail
 refine (left_c R V r _ HR1.out).mono ?_
 rintro e w2 ⟨rfl, hb2⟩
 have H2 := Lib.hid (H1.out.below hb2)
 have HR2 := Lib.hid (HR1.out.below hb2)
 have HB2 := Lib.hid (HB1.out.trans (hb2.mono H1.out.le))
 clear hb2
 rw [HD.out]
 have c8 := H2.out.c8
 rw [HK.out.fuel] at c8
 have f8 := H2.out.f 8
 have ht1 : t ≤ 20000 := by rw [← HK.out.fuel]; exact HK.out.run.fit.fuel
 have z1 : ((t : Int) == 20000) = false := by simp; omega
 have HFT : Hid ((t : Int) + 1 = ((t + 1 : Nat) : Int)) := by unfold Hid; omega
 have HF0 : Hid (RwFit r) := by have h1 := HK.out.run.fit.size r (by rw [HK.out.rows]; simp); have h2 := HP.out; unfold Hid RwFit; omega
 have H3 : Hid (Mach (w2.setCell ⟨M, 8, none⟩ (.int .i64 ((t : Int) + 1))) w0.heap.size M F L { s with fuel := t + 1 }) := by rw [HFT.out]; exact H2.out.setFuel (t + 1)
 have HR3 : Hid (RowAt (w2.setCell ⟨M, 8, none⟩ (.int .i64 ((t : Int) + 1))) R V r) := HR2.out.chg (grown_set w2 M 8 _) H2.out.typ (by decide) (by decide)
 have HB3 : Hid (Below w0.heap.size w (w2.setCell ⟨M, 8, none⟩ (.int .i64 ((t : Int) + 1)))) := bel_set HB2.out H.out.mB _
 go_wp2_with fail
 generalize w2.setCell ⟨M, 8, none⟩ (.int .i64 ((t : Int) + 1)) = w3 at *
 clear c8 f8 z1
 refine (rbyte_c R V r w3 HR3.out HF0.out).mono ?_
 rintro e w4 ⟨rfl, hr4, hg4⟩
 have HB4 := Lib.hid (HB3.out.trans (bel_row hg4 H3.out.le HK.out.base))
 have H4 := Lib.hid (H3.out.rowed HK.out.rows HK.out.rb hr4 hg4)
 have HR4 := Lib.hid hr4
 have HF4 : Hid (RwFit (r.next 1).2) := by have h1 := HF0.out; have h2 := HP.out; unfold RwFit at h1; unfold Hid RwFit; refine ⟨h1.1, ?_⟩; show r.p + 1 ≤ 1000100; omega
 have HBY := Lib.hid (next_bound r).1
 clear hr4 hg4
 go_wp2_with fail
 refine (rprog_c R V (r.next 1).2 (r.next 1).1 w4 HR4.out HF4.out HBY.out.1 HBY.out.2).mono ?_
 rintro e w5 ⟨rfl, hr5, hg5⟩
 have HB5 := Lib.hid (HB4.out.trans (bel_row hg5 H4.out.le HK.out.base))
 have H5 := Lib.hid (H4.out.rowed (r := (r.next 1).2) (rest := rest) rfl HK.out.rb hr5 hg5)
 have HR5 := Lib.hid hr5
 clear hr5 hg5
 have HF5 : Hid (RwFit ((r.next 1).2.prog (r.next 1).1).2) := by
  have h0 := goes_prog (r.next 1).2 (r.next 1).1
  have h1 := HF0.out
  have h2 := HP.out
  unfold RwFit at h1
  unfold Hid RwFit
  rw [h0.1]
  refine ⟨h1.1, ?_⟩
  have h3 := h0.2.2.1
  have h4 : (r.next 1).2.p = r.p + 1 := rfl
  omega
 obtain ⟨q, HQ⟩ : ∃ q, Hid ((r.next 1).2.prog (r.next 1).1 = q) := ⟨_, rfl⟩
 rw [HQ.out] at H5 HR5 HOK HC HF5 ⊢
 have hx : ∃ x y z, q = ((x, y), z) := ⟨q.1.1, q.1.2, q.2, rfl⟩
 obtain ⟨x, y, z, rfl⟩ := hx
 have hy : y = false := HOK.out
 subst hy
 go_wp2_with fail
 refine (roper_c R V z (r.next 1).1 w5 HR5.out HF5.out).mono ?_
 rintro e w6 ⟨rfl, hr6, hg6⟩
 have HB6 := Lib.hid (HB5.out.trans (bel_row hg6 H5.out.le HK.out.base))
 have H6 := Lib.hid (H5.out.rowed (r := z) (rest := rest) rfl HK.out.rb hr6 hg6)
 have d2 := hr6.c2
 have hzc := HC.out
 rw [hzc] at d2
 clear hr6 hg6 hzc HI
 go_wp2_with fail
 refine (refuse_c _ M F L _ 81 _ H6.out).mono ?_
 rintro e w9 ⟨rfl, h9, hb9, hk9⟩
 have H9 := Lib.hid h9
 have HB9 := Lib.hid (HB6.out.trans hb9)
 clear h9 hb9 hk9
 go_wp2_with fail
 go_end0
 rw [HQ.out]
 exact ⟨rfl, ⟨_, H9.out⟩, HB9.out⟩
set_option maxRecDepth 20000 in
set_option maxHeartbeats 4000000 in
theorem step_oper (w0 w : World) (M F : Nat) (fl : FLay) (f : FS) (L : Lay) (s : MS) (r : Rw) (rest : List Rw) (m t : Nat) (R V : Nat) (rb : List (Nat × Nat)) (k : StepAt w0 w M F fl f L s r rest m t R V rb) (hp : r.p < r.s.size) (ht : t ≠ 20000) (hok : ((r.next 1).2.prog (r.next 1).1).1.2 = false) (hc : r.item.2.c = false) (hfit : StepFit ({ s with fuel := t + 1, rows := r.item.2 :: rest })) :
 Calls Tryz.prog 30 #[.pointer (some ⟨M, 0, none⟩)] w (MPost w0.heap.size M F (({ s with fuel := t + 1, rows := r.item.2 :: rest } : MS).operate f r.item.1.1) (.tuple #[]) w) := by
 have hi : r.item = (((((r.next 1).2.prog (r.next 1).1).2.oper (r.next 1).1).1, false), (((r.next 1).2.prog (r.next 1).1).2.oper (r.next 1).1).2) := by unfold Rw.item; simp only; rw [if_neg (by rw [hok]; simp)]
 rw [hi] at hc hfit ⊢
 have HI := Lib.hid hi
 have HC := Lib.hid hc
 have HOK := Lib.hid hok
 clear hi hc hok
 have HFIT := Lib.hid hfit
 clear hfit
 have hd : decide (r.p < r.s.size) = true := by simp; omega
 have HD := Lib.hid hd
 have HP := Lib.hid hp
 clear hd hp
 have HK := Lib.hid k
 have H := Lib.hid k.run.mach
 have c6 := k.run.mach.c6
 rw [k.rows, List.length_cons, k.len] at c6
 have k0 := k.cell
 have HR := Lib.hid k.row
 have hm10 := k.m10
 have b0 : (0 : Int) ≤ (m : Int) := by omega
 have b1 : (m : Int) < (m : Int) + 1 := by omega
 clear k
 go_enter Tryz.func30, Tryz.ntmps30
 go_wp2_with fail
 go_quiet (fail)
 have H1 := Lib.hid (H.out.below (bel_drewN0 w nq))
 have HR1 := Lib.hid (HR.out.below (bel_drewN0 w nq))
 have HB1 : Hid (Below w0.heap.size w (w.drewN nq)) := bel_drewN (Below.refl _ _) nq
 clear c6 k0 b0 b1
 go_wp2_with fail
 refine (left_c R V r _ HR1.out).mono ?_
 rintro e w2 ⟨rfl, hb2⟩
 have H2 := Lib.hid (H1.out.below hb2)
 have HR2 := Lib.hid (HR1.out.below hb2)
 have HB2 := Lib.hid (HB1.out.trans (hb2.mono H1.out.le))
 clear hb2
 rw [HD.out]
 have c8 := H2.out.c8
 rw [HK.out.fuel] at c8
 have f8 := H2.out.f 8
 have ht1 : t ≤ 20000 := by rw [← HK.out.fuel]; exact HK.out.run.fit.fuel
 have z1 : ((t : Int) == 20000) = false := by simp; omega
 have HFT : Hid ((t : Int) + 1 = ((t + 1 : Nat) : Int)) := by unfold Hid; omega
 have HF0 : Hid (RwFit r) := by have h1 := HK.out.run.fit.size r (by rw [HK.out.rows]; simp); have h2 := HP.out; unfold Hid RwFit; omega
 have H3 : Hid (Mach (w2.setCell ⟨M, 8, none⟩ (.int .i64 ((t : Int) + 1))) w0.heap.size M F L { s with fuel := t + 1 }) := by rw [HFT.out]; exact H2.out.setFuel (t + 1)
 have HR3 : Hid (RowAt (w2.setCell ⟨M, 8, none⟩ (.int .i64 ((t : Int) + 1))) R V r) := HR2.out.chg (grown_set w2 M 8 _) H2.out.typ (by decide) (by decide)
 have HB3 : Hid (Below w0.heap.size w (w2.setCell ⟨M, 8, none⟩ (.int .i64 ((t : Int) + 1)))) := bel_set HB2.out H.out.mB _
 go_wp2_with fail
 generalize w2.setCell ⟨M, 8, none⟩ (.int .i64 ((t : Int) + 1)) = w3 at *
 clear c8 f8 z1
 refine (rbyte_c R V r w3 HR3.out HF0.out).mono ?_
 rintro e w4 ⟨rfl, hr4, hg4⟩
 have HB4 := Lib.hid (HB3.out.trans (bel_row hg4 H3.out.le HK.out.base))
 have H4 := Lib.hid (H3.out.rowed HK.out.rows HK.out.rb hr4 hg4)
 have HR4 := Lib.hid hr4
 have HF4 : Hid (RwFit (r.next 1).2) := by have h1 := HF0.out; have h2 := HP.out; unfold RwFit at h1; unfold Hid RwFit; refine ⟨h1.1, ?_⟩; show r.p + 1 ≤ 1000100; omega
 have HBY := Lib.hid (next_bound r).1
 clear hr4 hg4
 go_wp2_with fail
 refine (rprog_c R V (r.next 1).2 (r.next 1).1 w4 HR4.out HF4.out HBY.out.1 HBY.out.2).mono ?_
 rintro e w5 ⟨rfl, hr5, hg5⟩
 have HB5 := Lib.hid (HB4.out.trans (bel_row hg5 H4.out.le HK.out.base))
 have H5 := Lib.hid (H4.out.rowed (r := (r.next 1).2) (rest := rest) rfl HK.out.rb hr5 hg5)
 have HR5 := Lib.hid hr5
 clear hr5 hg5
 have HF5 : Hid (RwFit ((r.next 1).2.prog (r.next 1).1).2) := by
  have h0 := goes_prog (r.next 1).2 (r.next 1).1
  have h1 := HF0.out
  have h2 := HP.out
  unfold RwFit at h1
  unfold Hid RwFit
  rw [h0.1]
  refine ⟨h1.1, ?_⟩
  have h3 := h0.2.2.1
  have h4 : (r.next 1).2.p = r.p + 1 := rfl
  omega
 obtain ⟨q, HQ⟩ : ∃ q, Hid ((r.next 1).2.prog (r.next 1).1 = q) := ⟨_, rfl⟩
 rw [HQ.out] at H5 HR5 HOK HC HF5 HFIT ⊢
 have hx : ∃ x y z, q = ((x, y), z) := ⟨q.1.1, q.1.2, q.2, rfl⟩
 obtain ⟨x, y, z, rfl⟩ := hx
 have hy : y = false := HOK.out
 subst hy
 go_wp2_with fail
 refine (roper_c R V z (r.next 1).1 w5 HR5.out HF5.out).mono ?_
 rintro e w6 ⟨rfl, hr6, hg6⟩
 have HB6 := Lib.hid (HB5.out.trans (bel_row hg6 H5.out.le HK.out.base))
 have H6 := Lib.hid (H5.out.rowed (r := z) (rest := rest) rfl HK.out.rb hr6 hg6)
 have d2 := hr6.c2
 have hzc := HC.out
 rw [hzc] at d2
 clear hr6 hg6 hzc HI
 have HRA : Hid (RunAt w0 w6 M F fl f L { s with fuel := t + 1, rows := (z.oper (r.next 1).1).2 :: rest }) := ⟨H6.out, HK.out.run.font, HK.out.run.bel.trans HB6.out, HFIT.out⟩
 go_wp2_with fail
 refine (operate_c w0 w6 M F fl f L _ (z.oper (r.next 1).1).1 HRA.out HK.out.ok).mono ?_
 rintro e w9 ⟨rfl, ⟨L9, h9⟩, hb9⟩
 have H9 := Lib.hid h9
 have HB9 := Lib.hid (HB6.out.trans hb9)
 clear h9 hb9
 go_wp2_with fail
 go_end0
 rw [HQ.out]
 exact ⟨rfl, ⟨_, H9.out⟩, HB9.out⟩
theorem step_c (w0 w : World) (M F : Nat) (fl : FLay) (f : FS) (L : Lay) (s : MS) (h : RunAt w0 w M F fl f L s) (h0 : s.fault = 0) :
 Calls Tryz.prog 30 #[.pointer (some ⟨M, 0, none⟩)] w (MPost w0.heap.size M F (s.step f) (.tuple #[]) w) := by
 have ho := h.fit.open'
 cases hr : s.rows with
 | nil => rw [hr] at ho; simp at ho
 | cons r rest =>
   obtain ⟨R, V, rb, hb, hcur, hrow, hBR⟩ := h.mach.cur hr
   have k : StepAt w0 w M F fl f L s r rest rest.length s.fuel R V rb := ⟨h, hr, hb, hcur, hrow, hBR, rfl, by rw [hr] at ho; simp at ho; omega, rfl, h0⟩
   unfold MS.step
   rw [hr]
   simp only
   by_cases hp : r.s.size ≤ r.p
   ·rw [if_pos hp]
    exact step_end w0 w M F fl f L s r rest _ _ R V rb k hp
   ·rw [if_neg hp]
    by_cases ht : s.fuel = 20000
    ·rw [if_pos ht]
     exact step_fuel' w0 w M F fl f L s r rest _ _ R V rb k (by omega) ht
    ·rw [if_neg ht]
     have hi := item_row r
     have hsz := h.fit.size
     have h00 := h.fit.rows0 h0
     have hfl := h.fit.fuel
     rw [hr] at hsz h00
     cases hok : ((r.next 1).2.prog (r.next 1).1).1.2
     ·have hi2 : r.item.1.2 = false := by unfold Rw.item; simp only; rw [if_neg (by rw [hok]; simp)]
      cases hc : r.item.2.c
      ·rw [if_neg (by simp), if_neg (by rw [hi2]; simp)]
       refine step_oper w0 w M F fl f L s r rest _ _ R V rb k (by omega) ht hok hc ⟨h.fit.pen, h.fit.few, h.fit.small, by simp only; omega, h.fit.stems, h.fit.stems0, by rw [hr] at ho; exact ho, fun r' h' => ?_, fun _ r' h' => ?_⟩
       ·rcases List.mem_cons.1 h' with rfl | h'
        ·rw [hi.1]; exact hsz r (by simp)
        ·exact hsz r' (by simp [h'])
       ·rcases List.mem_cons.1 h' with rfl | h'
        ·exact ⟨hc, by rw [hi.1]; exact (hi.2.2 hc).2 (h00 r (by simp)).2⟩
        ·exact h00 r' (by simp [h'])
      ·rw [if_pos rfl]
       exact step_ocut w0 w M F fl f L s r rest _ _ R V rb k (by omega) ht hok hc
     ·have hi2 : r.item.1.2 = true := by unfold Rw.item; simp only; rw [if_pos hok]; exact hok
      cases hc : r.item.2.c
      ·rw [if_neg (by simp), if_pos hi2]
       exact step_push w0 w M F fl f L s r rest _ _ R V rb k (by omega) ht hok hc
      ·rw [if_pos rfl]
       exact step_cut w0 w M F fl f L s r rest _ _ R V rb k (by omega) ht hok hc
end Go.Proofs.YtklenppldblbdaaGreat
