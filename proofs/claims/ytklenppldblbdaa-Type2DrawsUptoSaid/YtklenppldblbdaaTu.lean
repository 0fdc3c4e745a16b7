/-
  A font in memory; what operate of the machine answers.
-/
import Derived.Test.YtklenppldblbdaaTv
import Derived.Test.YtklenppldblbdaaTt
namespace Go.Proofs.Ytklenppldblbdaa
open Go.RowKit Go.PlainAid
set_option linter.unusedSimpArgs false
set_option linter.unusedVariables false

/-- Where a font's lists lie. -/
structure FLay where
  pa : Option Addr
  pn : Nat
  pc : Nat
  pd : Option Addr
  ga : Option Addr
  gn : Nat
  gc : Nat
  gd : Option Addr
  la : Option Addr
  ln : Nat
  lc : Nat
  ld : Option Addr

/-- The font F lies there. -/
structure FontAt (w : World) (F : Nat) (fl : FLay) (f : FS) : Prop where
  mem : w.heap[F]? = some (.cells #[.slice fl.pa fl.pn fl.pc, .pointer fl.pd, .slice fl.ga fl.gn fl.gc, .pointer fl.gd, .slice fl.la fl.ln fl.lc, .pointer fl.ld, .int .i64 f.w0, .int .i64 f.w1] 54 (0, 0))
  progs : IdxIs w fl.pa fl.pn fl.pc fl.pd f.glyphs ∧ fl.pn ≤ 100000 ∧ fl.pn ≤ fl.pc
  globs : IdxIs w fl.ga fl.gn fl.gc fl.gd f.globals ∧ fl.gn ≤ 100000 ∧ fl.gn ≤ fl.gc
  locs : IdxIs w fl.la fl.ln fl.lc fl.ld f.locals ∧ fl.ln ≤ 100000 ∧ fl.ln ≤ fl.lc
  bound : -4294967296 ≤ f.w1 ∧ f.w1 ≤ 4294967296
  fit : FSFit f

theorem FontAt.below {w w' : World} {F : Nat} {fl : FLay} {f : FS} (h : FontAt w F fl f) (hb : Below w.heap.size w w') : FontAt w' F fl f :=
  ⟨blk_below h.mem hb, ⟨h.progs.1.below hb, h.progs.2⟩, ⟨h.globs.1.below hb, h.globs.2⟩, ⟨h.locs.1.below hb, h.locs.2⟩, h.bound, h.fit⟩

/-- The machine runs over a font that lay there when the world was w0. -/
structure RunAt (w0 w : World) (M F : Nat) (fl : FLay) (f : FS) (L : Lay) (s : MS) : Prop where
  mach : Mach w w0.heap.size M F L s
  font : FontAt w0 F fl f
  bel : Below w0.heap.size w0 w
  fit : StepFit s

theorem RunAt.fcell {w0 w : World} {M F : Nat} {fl : FLay} {f : FS} {L : Lay} {s : MS} (h : RunAt w0 w M F fl f L s) : FCell w F w0.heap.size f.w1 :=
  FCell.below ⟨blk_cell h.font.mem 7 _ rfl, blk_lt h.font.mem, h.font.bound⟩ h.bel

theorem RunAt.opds {w0 w : World} {M F : Nat} {fl : FLay} {f : FS} {L : Lay} {s : MS} (h : RunAt w0 w M F fl f L s) : OpdsOk w s.stack L.sa L.sc := by
  refine ⟨?_, ?_, by have := h.fit.few; omega, h.fit.small⟩
  · by_cases h0 : s.stack.length = 0
    · exact .inl (List.eq_nil_of_length_eq_zero h0)
    · obtain ⟨g, hg, _⟩ := own_some h.mach.stack (by omega)
      have h1 := h.mach.stack
      rw [hg] at h1
      rcases h1.2 with ⟨hx, _⟩ | ⟨g', cap, cur, hx, hb, hgg, hnc, hcm, hcs, htk⟩
      · cases hx
      · cases hx
        refine .inr ⟨g, 0, cur, (0, 0), hg, hgg, fun i v hv => ?_⟩
        rw [Nat.zero_add, ← Array.getElem?_toList]
        have h2 : (s.stack.map (Value.int .i64))[i]? = some (.int .i64 v) := by rw [List.getElem?_map, hv]; rfl
        rw [← htk] at h2
        have hil := (List.getElem?_eq_some_iff.1 hv).1
        rwa [List.getElem?_take_of_lt (by omega)] at h2
  · by_cases h0 : s.stack.length = 0
    · omega
    · obtain ⟨g, hg, _, _, hnc⟩ := own_some h.mach.stack (by omega)
      exact hnc

theorem RunAt.take {w0 w : World} {M F : Nat} {fl : FLay} {f : FS} {L : Lay} {s : MS} (h : RunAt w0 w M F fl f L s) (h0 : s.fault = 0) : TakeOk w w0.heap.size M F L s s.stack L.sa L.sc f.w1 := by
  refine ⟨h.mach, h.fit.pen, h.opds, h.fcell, ?_, by have := h.fit.open'; omega, by have := h.fit.stems; omega, by have := h.fit.few; omega⟩
  have ho := h.fit.open'
  cases hr : s.rows with
  | nil => rw [hr] at ho; simp at ho
  | cons r rest =>
    have h1 := h.fit.rows0 h0 r (by rw [hr]; simp)
    have h2 := h.fit.size r (by rw [hr]; simp)
    exact ⟨r, rest, rfl, h2, by omega⟩

theorem call_k (B M F : Nat) (L : Lay) (s : MS) (a : Option Addr) (n c : Nat) (d : Option Addr) (Ps : List ByteArray) (w : World) (h : Mach w B M F L s) (hi : IdxIs w a n c d Ps) (hn : n ≤ 100000) (hc : n ≤ c) (hf : StepFit s) :
    Calls Try.prog 53 #[.pointer (some ⟨M, 0, none⟩), .agg #[.slice a n c, .pointer d]] w (MPost B M F (s.call Ps) (.tuple #[]) w) := by
  by_cases h0 : s.stack.length = 0
  · exact call_none B M F L s a n c d Ps w h h0
  · obtain ⟨m, hm⟩ : ∃ m, s.stack.length = m + 1 := ⟨s.stack.length - 1, by omega⟩
    obtain ⟨v, hv⟩ := get_of (show m < s.stack.length by omega)
    obtain ⟨g, hg, hgB, hgl, hgc⟩ := own_some h.stack (by omega)
    have hst := h.stack
    rw [hg] at hst
    have k0 := own_lies hst m (.int .i64 v) (by rw [List.getElem?_map, hv]; rfl)
    rw [Nat.zero_add] at k0
    have hl := hf.few
    have k : CallAt w B M F L s a n c d Ps g m v Ps.length (v / 65536 + biasN Ps.length) := ⟨h, hi, hn, hc, hg, hm, by omega, by omega, k0, hf.small v (List.mem_of_getElem? hv), rfl, hi.count, rfl, ⟨hf.open'.2, hf.open'.1⟩⟩
    have hlast : s.stack.getLast?.getD 0 = v := by rw [List.getLast?_eq_getElem?, hm, Nat.add_sub_cancel, hv]; rfl
    have hE : s.call Ps = if v / 65536 + biasN Ps.length < 0 ∨ (Ps.length : Int) ≤ v / 65536 + biasN Ps.length then ({ s with stack := s.stack.take m } : MS).refuse 81 else if 10 < s.rows.length then ({ s with stack := s.stack.take m } : MS).refuse 83 else { s with stack := s.stack.take m, rows := ⟨Ps.getD (v / 65536 + biasN Ps.length).toNat ByteArray.empty, 0, false⟩ :: s.rows } := by
      unfold MS.call
      rw [if_neg h0, hlast]
      have : s.stack.dropLast = s.stack.take m := by rw [List.dropLast_eq_take, hm, Nat.add_sub_cancel]
      simp only [this]
    rw [hE]
    by_cases h1 : v / 65536 + biasN Ps.length < 0
    · rw [if_pos (.inl h1)]
      exact call_neg B M F L s a n c d Ps g m v _ _ w k h1
    · by_cases h2 : (Ps.length : Int) ≤ v / 65536 + biasN Ps.length
      · rw [if_pos (.inr h2)]
        exact call_big B M F L s a n c d Ps g m v _ _ w k (by omega) h2
      · rw [if_neg (by omega)]
        by_cases h3 : 10 < s.rows.length
        · rw [if_pos h3]
          exact call_deep B M F L s a n c d Ps g m v _ _ w k (by omega) (by omega) h3
        · rw [if_neg h3]
          exact call_open B M F L s a n c d Ps g m v _ _ w k (by omega) (by omega) h3

theorem take_stack (s : MS) (w1 op : Int) (l : List Int) : (s.take w1 op l).stack = s.stack := by
  unfold MS.take
  split
  · exact (addStems_keeps s w1 l).2.2.2.2.1
  split
  · have hk := (addStems_keeps s w1 l).2.2.2.2.1
    unfold MS.passMask
    split
    · exact hk
    · simp only
      split
      · rw [(Rest.refuse _ _).stack]; exact hk
      · exact hk
  split
  · unfold MS.begin
    simp only
    have hq := (behind_stems s w1 l (decide (l.length = (if op = 21 then 2 else 1) + 1))).2.2.2.2.1
    generalize s.behind w1 l (decide (l.length = (if op = 21 then 2 else 1) + 1)) = q at *
    repeat' split
    all_goals first
      | (rw [(Rest.refuse _ _).stack]; exact hq)
      | (rw [(Rest.move _ _ _).stack]; exact hq)
      | exact hq
  split
  · unfold MS.finish
    simp only
    have hq := (behind_stems s w1 l (decide (l.length = 1) || decide (l.length = 5))).2.2.2.2.1
    generalize s.behind w1 l (decide (l.length = 1) || decide (l.length = 5)) = q at *
    repeat' split
    all_goals first
      | (rw [(Rest.refuse _ _).stack]; exact hq)
      | exact hq
  · exact (Rest.draw _ _ _).stack

/-- The font's cells in a later world. -/
theorem RunAt.fc {w0 w : World} {M F : Nat} {fl : FLay} {f : FS} {L : Lay} {s : MS} (h : RunAt w0 w M F fl f L s) (i : Nat) (v : Value) (hv : (#[.slice fl.pa fl.pn fl.pc, .pointer fl.pd, .slice fl.ga fl.gn fl.gc, .pointer fl.gd, .slice fl.la fl.ln fl.lc, .pointer fl.ld, .int .i64 f.w0, .int .i64 f.w1] : Array Value)[i]? = some v) : w.cell? ⟨F, i, none⟩ = some v :=
  keepC h.bel (blk_cell h.font.mem i v hv)

set_option maxRecDepth 20000 in
set_option maxHeartbeats 1000000 in
theorem operate_10 (w0 w : World) (M F : Nat) (fl : FLay) (f : FS) (L : Lay) (s : MS) (h : RunAt w0 w M F fl f L s) :
    Calls Try.prog 42 #[.pointer (some ⟨M, 0, none⟩), .int .i64 10] w (MPost w0.heap.size M F (s.operate f 10) (.tuple #[]) w) := by
  have c5 := h.mach.c5
  have k0 := h.fc 4 (.slice fl.la fl.ln fl.lc) rfl
  have k1 := h.fc 5 (.pointer fl.ld) rfl
  have HC := Lib.hid (call_k w0.heap.size M F L s fl.la fl.ln fl.lc fl.ld f.locals w h.mach (h.font.locs.1.below h.bel) h.font.locs.2.1 h.font.locs.2.2 h.fit)
  have HE : Hid (s.operate f 10 = s.call f.locals) := rfl
  rw [HE.out]
  generalize s.call f.locals = s9 at *
  clear h HE
  go_enter Try.func42, Try.ntmps42
  go_wp2_with fail
  refine HC.out.mono ?_
  rintro e w1 ⟨rfl, hx⟩
  have HX := Lib.hid hx
  clear hx
  go_wp2_with fail
  go_end0
  exact ⟨rfl, HX.out⟩

set_option maxRecDepth 20000 in
set_option maxHeartbeats 1000000 in
theorem operate_29 (w0 w : World) (M F : Nat) (fl : FLay) (f : FS) (L : Lay) (s : MS) (h : RunAt w0 w M F fl f L s) :
    Calls Try.prog 42 #[.pointer (some ⟨M, 0, none⟩), .int .i64 29] w (MPost w0.heap.size M F (s.operate f 29) (.tuple #[]) w) := by
  have c5 := h.mach.c5
  have k0 := h.fc 2 (.slice fl.ga fl.gn fl.gc) rfl
  have k1 := h.fc 3 (.pointer fl.gd) rfl
  have HC := Lib.hid (call_k w0.heap.size M F L s fl.ga fl.gn fl.gc fl.gd f.globals w h.mach (h.font.globs.1.below h.bel) h.font.globs.2.1 h.font.globs.2.2 h.fit)
  have HE : Hid (s.operate f 29 = s.call f.globals) := rfl
  rw [HE.out]
  generalize s.call f.globals = s9 at *
  clear h HE
  go_enter Try.func42, Try.ntmps42
  go_wp2_with fail
  refine HC.out.mono ?_
  rintro e w1 ⟨rfl, hx⟩
  have HX := Lib.hid hx
  clear hx
  go_wp2_with fail
  go_end0
  exact ⟨rfl, HX.out⟩

set_option maxRecDepth 20000 in
set_option maxHeartbeats 1000000 in
theorem operate_11 (w0 w : World) (M F : Nat) (fl : FLay) (f : FS) (L : Lay) (s : MS) (h : RunAt w0 w M F fl f L s) :
    Calls Try.prog 42 #[.pointer (some ⟨M, 0, none⟩), .int .i64 11] w (MPost w0.heap.size M F (s.operate f 11) (.tuple #[]) w) := by
  obtain ⟨r, rest, hr⟩ : ∃ r rest, s.rows = r :: rest := by
    have ho := h.fit.open'
    cases hr : s.rows with
    | nil => rw [hr] at ho; simp at ho
    | cons r rest => exact ⟨r, rest, rfl⟩
  have HC := Lib.hid (leave_c w0.heap.size M F L s r rest w h.mach hr (by have := h.fit.open'; omega))
  have HE : Hid (s.operate f 11 = s.leave) := rfl
  rw [HE.out]
  generalize s.leave = s9 at *
  clear h HE hr
  go_enter Try.func42, Try.ntmps42
  go_wp2_with fail
  refine HC.out.mono ?_
  rintro e w1 ⟨rfl, hx⟩
  have HX := Lib.hid hx
  clear hx
  go_wp2_with fail
  go_end0
  exact ⟨rfl, HX.out⟩

set_option maxRecDepth 20000 in
set_option maxHeartbeats 1000000 in
theorem operate_take (w0 w : World) (M F : Nat) (fl : FLay) (f : FS) (L : Lay) (s : MS) (op : Int) (h : RunAt w0 w M F fl f L s) (h0 : s.fault = 0) (n10 : op ≠ 10) (n29 : op ≠ 29) (n11 : op ≠ 11) :
    Calls Try.prog 42 #[.pointer (some ⟨M, 0, none⟩), .int .i64 op] w (MPost w0.heap.size M F (s.operate f op) (.tuple #[]) w) := by
  have HC := Lib.hid (take_c w0.heap.size M F L s op s.stack L.sa L.sc f.w1 w (h.take h0))
  have HE : Hid (s.operate f op = { s.take f.w1 op s.stack with stack := [] }) := by unfold Hid MS.operate; rw [if_neg n10, if_neg n29, if_neg n11]
  rw [HE.out]
  have hts := take_stack s f.w1 op s.stack
  generalize s.take f.w1 op s.stack = s9 at *
  have c7 := h.mach.c7
  obtain ⟨n, HN⟩ : ∃ n, Hid (s.stack.length = n) := ⟨_, rfl⟩
  have HTS := Lib.hid hts
  have hnc := h.opds.le
  have HMB := Lib.hid h.mach.mB
  rw [HN.out] at c7 HC hnc
  have hn : n ≤ 48 := by have := h.fit.few; have := HN.out; omega
  have z0 : (0 : Int) ≤ (n : Int) := by omega
  have z1 : (n : Int) ≤ (L.sc : Int) := by omega
  have hown := h.mach.stack
  rw [HN.out] at hown
  rcases hown.2 with ⟨hv, hn0⟩ | ⟨g, cap, cur, hv, _⟩
  · have hsa : L.sa = none ∧ L.sc = 0 := by simp only [Value.slice.injEq] at hv; exact ⟨hv.1, hv.2.2⟩
    subst hn0
    obtain ⟨sa, hsa'⟩ : ∃ sa, Hid (L.sa = sa) := ⟨_, rfl⟩
    have HSA := Lib.hid hsa
    rw [hsa.1, hsa.2] at c7 HC
    clear h HE hts hown hv hsa hnc z1
    go_enter Try.func42, Try.ntmps42
    go_wp2_with fail
    refine HC.out.mono ?_
    rintro e w1 ⟨rfl, ⟨oa, oc, vs, hm⟩, hb, hk⟩
    have d7 := hm.c7
    have f7 := hm.f 7
    simp only at d7
    rw [HTS.out, HN.out, HSA.out.1, HSA.out.2] at d7
    have HX := Lib.hid (hm.cutStack 0 (Nat.zero_le _))
    simp only at HX
    rw [HSA.out.1, HSA.out.2] at HX
    have HB := Lib.hid (bel_set (b := M) (o := 7) hb HMB.out (.slice none 0 0))
    clear hm hb hk c7
    go_wp2_with fail
    go_end0
    exact ⟨rfl, ⟨_, HX.out⟩, HB.out⟩
  · have hsa : L.sa = some ⟨g, 0, none⟩ := by simp only [Value.slice.injEq] at hv; exact hv.1
    have HSA := Lib.hid hsa
    rw [hsa] at c7 HC
    clear h HE hts hown hv hsa
    go_enter Try.func42, Try.ntmps42
    go_wp2_with fail
    refine HC.out.mono ?_
    rintro e w1 ⟨rfl, ⟨oa, oc, vs, hm⟩, hb, hk⟩
    have d7 := hm.c7
    have f7 := hm.f 7
    simp only at d7
    rw [HTS.out, HN.out, HSA.out] at d7
    have HX := Lib.hid (hm.cutStack 0 (Nat.zero_le _))
    simp only at HX
    rw [HSA.out] at HX
    have HB := Lib.hid (bel_set (b := M) (o := 7) hb HMB.out (.slice (some ⟨g, 0, none⟩) 0 L.sc))
    clear hm hb hk c7
    go_wp2_with fail
    go_end0
    exact ⟨rfl, ⟨_, HX.out⟩, HB.out⟩

theorem operate_c (w0 w : World) (M F : Nat) (fl : FLay) (f : FS) (L : Lay) (s : MS) (op : Int) (h : RunAt w0 w M F fl f L s) (h0 : s.fault = 0) :
    Calls Try.prog 42 #[.pointer (some ⟨M, 0, none⟩), .int .i64 op] w (MPost w0.heap.size M F (s.operate f op) (.tuple #[]) w) := by
  by_cases n10 : op = 10
  · subst n10; exact operate_10 w0 w M F fl f L s h
  by_cases n29 : op = 29
  · subst n29; exact operate_29 w0 w M F fl f L s h
  by_cases n11 : op = 11
  · subst n11; exact operate_11 w0 w M F fl f L s h
  exact operate_take w0 w M F fl f L s op h h0 n10 n29 n11

end Go.Proofs.Ytklenppldblbdaa
