/-
  The reader of package metric in memory, and what its head, maxp and hhea answer, or give up with.
-/
import Derived.Test.YtbcjicmledckbaaMtB
namespace Go.Proofs.Ytbcjicmledckbaa
open Go.RowKit Go.PlainAid
set_option linter.unusedSimpArgs false
set_option linter.unusedVariables false

theorem wrap_i16 (n : Int) : IntKind.i16.wrap n = (n + 32768) % 65536 - 32768 := by
  have h : IntKind.i16.wrap n = if n % 65536 ≥ 32768 then n % 65536 - 65536 else n % 65536 := by simp [IntKind.wrap, IntKind.bits, IntKind.signed]
  rw [h]
  split <;> omega
set_option maxHeartbeats 400000 in
theorem i16_c (g : Nat) (at' x f : Int) (s : ByteArray) (w : World) (hc : w.cell? ⟨g, 0, none⟩ = some (.string s)) (hs : (s.size : Int) ≤ 140737488355328) (ha : at' ≤ 9223372036854775807) (HX : Hid (numOr s at' 2 = (x, f))) :
    Calls Try.prog 56 #[.pointer (some ⟨g, 0, none⟩), .int .i64 at'] w fun e w' => e = .returned (.tuple #[.int .i64 (sign16 x), .int .i64 f]) ∧ w = w' := by
  have HN := Lib.hid (number_c g at' 2 x f s w hc hs ha (by decide) HX)
  have HB := Lib.hid (num16_bound HX.out)
  clear hs ha
  go_enter Try.func56, Try.ntmps56
  go_wp2_with fail
  refine HN.out.mono ?_
  rintro e w1 ⟨rfl, rfl⟩
  go_wp2_with fail
  go_ret2
  have HW : wrap64 (IntKind.i16.wrap x) = sign16 x := by
    have := HB.out
    rw [wrap_i16]
    unfold wrap64 sign16
    split <;> omega
  rw [HW]
  exact ⟨rfl, rfl⟩


/-- A reader: its font, and the nine cells of what was found. -/
structure Rd (w : World) (gr gf : Nat) (vs : List Value) : Prop where
  p : w.cell? ⟨gr, 0, none⟩ = some (.pointer (some ⟨gf, 0, none⟩))
  len : vs.length = 9
  c : ∀ i, i < 9 → w.cell? ⟨gr, i + 1, none⟩ = vs[i]?
  f : ∀ i, i < 10 → w.frozen? ⟨gr, i, none⟩ = false

theorem Rd.lt {w : World} {gr gf : Nat} {vs : List Value} (h : Rd w gr gf vs) : gr < w.heap.size := World.block_lt_of_cell? w _ h.p
theorem Rd.kept {w w' : World} {gr gf B : Nat} {vs : List Value} (h : Rd w gr gf vs) (hb : Below B w w') (hB : gr < B) : Rd w' gr gf vs :=
  ⟨by rw [hb.cell (by exact hB), h.p], h.len, fun i hi => by rw [hb.cell (by exact hB), h.c i hi], fun i hi => by rw [hb.frozen (by exact hB), h.f i hi]⟩
theorem Rd.at {w : World} {gr gf : Nat} {vs : List Value} (h : Rd w gr gf vs) (i : Nat) (hi : i < 9) : ∃ u, w.cell? ⟨gr, i + 1, none⟩ = some u :=
  ⟨vs[i]'(by rw [h.len]; exact hi), by rw [h.c i hi]; simp [h.len, hi]⟩
theorem Rd.set {w : World} {gr gf : Nat} {vs : List Value} (h : Rd w gr gf vs) (i : Nat) (hi : i < 9) (u : Value) : Rd (w.setCell ⟨gr, i + 1, none⟩ u) gr gf (vs.set i u) := by
  refine ⟨?_, by simp [h.len], ?_, ?_⟩
  · rw [World.cell?_setCell_other _ _ _ _ (by simp)]; exact h.p
  · intro j hj
    by_cases e : i = j
    · subst e
      obtain ⟨z, hz⟩ := h.at i hi
      rw [World.cell?_setCell_same _ _ _ hz]
      simp [h.len, hi]
    · rw [World.cell?_setCell_other _ _ _ _ (by simp [e]), h.c j hj]
      simp [e]
  · intro j hj
    simp [h.f j hj]

theorem tab_small {l : List Row} {s b : ByteArray} {T : List UInt8} {n : Int} (h : tabN l s T n = some b) (hs : (s.size : Int) ≤ 1048576) : (b.size : Int) ≤ 1048576 ∧ n ≤ (b.size : Int) := by
  unfold tabN at h
  split at h
  · cases h
  · rename_i c hc
    split at h
    · cases h
    · rename_i hn
      cases h
      unfold tabOf at hc
      split at hc
      · cases hc
      · cases hc
        refine ⟨?_, by omega⟩
        rw [ByteArray.size_extract]
        omega
theorem num_in {b : ByteArray} {a n : Int} (h0 : 0 ≤ a) (h1 : 0 ≤ n) (h : a + n ≤ (b.size : Int)) : Hid (numOr b a n = ((numOr b a n).1, 0)) := by
  have e : hasB b a n = true := by unfold hasB; simp; omega
  unfold Hid numOr
  simp [e]

/-- How the reading of head ends. -/
def HeadPost (gr gf : Nat) (w : World) (vs : List Value) (v : Option ByteArray) (e : Ending) (w' : World) : Prop :=
  match v with
  | none => e = gave 41 ∧ Below gr w w'
  | some b => ((rHead b).1 ≠ 0 ∧ e = gave (rHead b).1 ∧ Below gr w w') ∨ ((rHead b).1 = 0 ∧ e = .returned (.int .i64 (rHead b).2.2) ∧ Rd w' gr gf (vs.set 1 (.int .i64 (rHead b).2.1)) ∧ Below gr w w')
theorem headPost_no {gr gf : Nat} {w w' : World} {vs : List Value} {v : Option ByteArray} (hv : v = none) (hb : Below gr w w') : HeadPost gr gf w vs v (gave 41) w' := by subst hv; exact ⟨rfl, hb⟩
theorem headPost_give {gr gf : Nat} {w w' : World} {vs : List Value} {v : Option ByteArray} {b : ByteArray} {n : Int} (hv : v = some b) (h : (rHead b).1 = n) (hn : n ≠ 0) (hb : Below gr w w') : HeadPost gr gf w vs v (gave n) w' := by
  subst hv; subst h; exact .inl ⟨hn, rfl, hb⟩
theorem headPost_yes {gr gf : Nat} {w w' : World} {vs : List Value} {v : Option ByteArray} {b : ByteArray} {u f : Int} (hv : v = some b) (h : rHead b = (0, u, f)) (hr : Rd w' gr gf (vs.set 1 (.int .i64 u))) (hb : Below gr w w') : HeadPost gr gf w vs v (.returned (.int .i64 f)) w' := by
  subst hv; exact .inr ⟨by rw [h], by rw [h], by rw [h]; exact hr, hb⟩

set_option maxHeartbeats 2000000 in
theorem head_c (gr gf : Nat) (kd : Int) (l : List Row) (s : ByteArray) (w : World) (vs : List Value) (hR : Rd w gr gf vs) (hF : FontIn gr w gf kd l s) :
    Calls Try.prog 35 #[.pointer (some ⟨gr, 0, none⟩)] w (HeadPost gr gf w vs (tabN l s headTg 54)) := by
  have HR := Lib.hid hR
  have HF := Lib.hid hF
  have HG := Lib.hid hR.lt
  have HS := Lib.hid hF.size
  clear hR hF
  obtain ⟨v, HV⟩ : ∃ v, Hid (tabN l s headTg 54 = v) := ⟨_, rfl⟩
  go_enter Try.func35, Try.ntmps35
  go_wp2_with fail
  refine (need_c w.heap.size gr gf kd 54 l s _ w HR.out.p (HF.out.mono (Nat.le_of_lt HG.out)) (Nat.le_refl _)).mono ?_
  rw [show (ByteArray.toList ⟨#[104, 101, 97, 100]⟩) = headTg from tl_headTg, HV.out]
  cases v with
  | none =>
    rintro e w1 ⟨rfl, hb1⟩
    unfold gave
    go_wp2_with fail
    exact ⟨rfl, headPost_no (by first | exact HV.out | rfl) (hb1.mono (Nat.le_of_lt HG.out))⟩
  | some b =>
    have HZ := Lib.hid (tab_small HV.out HS.out)
    rintro e w1 ⟨gv, rfl, hc1, hs1, hb1⟩
    have HB1 := Lib.hid (hb1.mono (Nat.le_of_lt HG.out))
    have HR1 := Lib.hid (HR.out.kept hb1 HG.out)
    have HNE : Hid (gr ≠ gv) := by have := HG.out; unfold Hid; omega
    clear hb1 hs1
    have X1 := num_in (b := b) (a := 12) (n := 4) (by omega) (by omega) (by have := HZ.out; omega)
    have X2 := num_in (b := b) (a := 18) (n := 2) (by omega) (by omega) (by have := HZ.out; omega)
    have X3 := num_in (b := b) (a := 50) (n := 2) (by omega) (by omega) (by have := HZ.out; omega)
    have X4 := num_in (b := b) (a := 52) (n := 2) (by omega) (by omega) (by have := HZ.out; omega)
    have HD : Hid (rHead b = if (numOr b 12 4).1 ≠ 1594834165 then (41, 0, 0) else if (numOr b 18 2).1 < 16 then (41, 0, 0) else if 16384 < (numOr b 18 2).1 then (41, 0, 0) else if 1 < (numOr b 50 2).1 then (41, 0, 0) else if (numOr b 52 2).1 ≠ 0 then (42, 0, 0) else (0, (numOr b 18 2).1, (numOr b 50 2).1)) := rfl
    have B3 := Lib.hid (num16_bound X3.out)
    generalize (numOr b 12 4).1 = x1 at *
    generalize (numOr b 18 2).1 = x2 at *
    generalize (numOr b 50 2).1 = x3 at *
    generalize (numOr b 52 2).1 = x4 at *
    go_wp2_with fail
    refine (u32_c gv 12 x1 0 b w1 hc1 (by have := HZ.out; omega) (by omega) X1).mono ?_
    rintro e wq ⟨rfl, rfl⟩
    go_wp2_with fail
    refine (number_yes _ _).mono ?_
    rintro e wq ⟨rfl, rfl⟩
    go_wp2_with fail
    by_cases h1 : x1 = 1594834165
    rotate_left
    · refine (ask_f (by simpa using h1) _ _).mono ?_
      rintro e wq ⟨rfl, rfl⟩
      unfold gave
      go_wp2_with fail
      exact ⟨rfl, headPost_give HV.out (by rw [HD.out]; simp [h1]) (by decide) HB1.out⟩
    refine (ask_t (by simpa using h1) _ _).mono ?_
    rintro e wq ⟨rfl, rfl⟩
    go_wp2_with fail
    refine (u16_c gv 18 x2 0 b w1 hc1 (by have := HZ.out; omega) (by omega) X2).mono ?_
    rintro e wq ⟨rfl, rfl⟩
    go_wp2_with fail
    refine (number_yes _ _).mono ?_
    rintro e wq ⟨rfl, rfl⟩
    obtain ⟨z, hz⟩ := HR1.out.at 1 (by omega)
    have hfz := HR1.out.f 2 (by omega)
    go_wp2_with fail
    have HB2 := Lib.hid (HB1.out.setCell (p := ⟨gr, 2, none⟩) (Nat.le_refl _) (.int .i64 x2))
    have HR2 := Lib.hid (HR1.out.set 1 (by omega) (.int .i64 x2))
    have hc2 : (w1.setCell ⟨gr, 2, none⟩ (.int .i64 x2)).cell? ⟨gv, 0, none⟩ = some (.string b) := by rw [World.cell?_setCell_other _ _ _ _ (by simp)]; exact hc1
    clear hz hfz HB1 HR1 hc1
    generalize (w1.setCell ⟨gr, 2, none⟩ (.int .i64 x2)) = w2 at *
    refine (unitsRight_c _ _).mono ?_
    rintro e wq ⟨rfl, rfl⟩
    go_wp2_with fail
    by_cases h2 : 16 ≤ x2 ∧ x2 ≤ 16384
    rotate_left
    · refine (ask_f (by simp; omega) _ _).mono ?_
      rintro e wq ⟨rfl, rfl⟩
      unfold gave
      go_wp2_with fail
      exact ⟨rfl, headPost_give HV.out (by rw [HD.out]; by_cases h6 : x2 < 16 <;> first | (have h7 : 16384 < x2 := (by omega); simp [h1, h6, h7]; done) | (simp [h1, h6]; done)) (by decide) HB2.out⟩
    refine (ask_t (by simp; omega) _ _).mono ?_
    rintro e wq ⟨rfl, rfl⟩
    go_wp2_with fail
    refine (u16_c gv 50 x3 0 b w2 hc2 (by have := HZ.out; omega) (by omega) X3).mono ?_
    rintro e wq ⟨rfl, rfl⟩
    go_wp2_with fail
    refine (number_yes _ _).mono ?_
    rintro e wq ⟨rfl, rfl⟩
    by_cases h3 : x3 = 0
    · subst h3
      go_wp2_with fail
      refine (ask_t (by simp) _ _).mono ?_
      rintro e wq ⟨rfl, rfl⟩
      go_wp2_with fail
      refine (u16_c gv 52 x4 0 b w2 hc2 (by have := HZ.out; omega) (by omega) X4).mono ?_
      rintro e wq ⟨rfl, rfl⟩
      go_wp2_with fail
      refine (number_yes _ _).mono ?_
      rintro e wq ⟨rfl, rfl⟩
      go_wp2_with fail
      by_cases h4 : x4 = 0
      rotate_left
      · refine (ask_f (by simpa using h4) _ _).mono ?_
        rintro e wq ⟨rfl, rfl⟩
        unfold gave
        go_wp2_with fail
        exact ⟨rfl, headPost_give HV.out (by rw [HD.out]; simp [h1, h2.1, h2.2, h4, Int.not_lt.2 h2.1, Int.not_lt.2 h2.2]) (by decide) HB2.out⟩
      refine (ask_t (by simpa using h4) _ _).mono ?_
      rintro e wq ⟨rfl, rfl⟩
      go_wp2_with fail
      go_ret
      exact headPost_yes HV.out (by rw [HD.out]; simp [h1, h2.1, h2.2, h4, Int.not_lt.2 h2.1, Int.not_lt.2 h2.2]) HR2.out HB2.out
    by_cases h3' : x3 = 1
    · subst h3'
      go_wp2_with fail
      refine (ask_t (by simp) _ _).mono ?_
      rintro e wq ⟨rfl, rfl⟩
      go_wp2_with fail
      refine (u16_c gv 52 x4 0 b w2 hc2 (by have := HZ.out; omega) (by omega) X4).mono ?_
      rintro e wq ⟨rfl, rfl⟩
      go_wp2_with fail
      refine (number_yes _ _).mono ?_
      rintro e wq ⟨rfl, rfl⟩
      go_wp2_with fail
      by_cases h4 : x4 = 0
      rotate_left
      · refine (ask_f (by simpa using h4) _ _).mono ?_
        rintro e wq ⟨rfl, rfl⟩
        unfold gave
        go_wp2_with fail
        exact ⟨rfl, headPost_give HV.out (by rw [HD.out]; simp [h1, h2.1, h2.2, h4, Int.not_lt.2 h2.1, Int.not_lt.2 h2.2]) (by decide) HB2.out⟩
      refine (ask_t (by simpa using h4) _ _).mono ?_
      rintro e wq ⟨rfl, rfl⟩
      go_wp2_with fail
      go_ret
      exact headPost_yes HV.out (by rw [HD.out]; simp [h1, h2.1, h2.2, h4, Int.not_lt.2 h2.1, Int.not_lt.2 h2.2]) HR2.out HB2.out
    go_wp2_with fail
    refine (ask_f (by simp; omega) _ _).mono ?_
    rintro e wq ⟨rfl, rfl⟩
    unfold gave
    go_wp2_with fail
    have h5 : 1 < x3 := by have := B3.out; omega
    exact ⟨rfl, headPost_give HV.out (by rw [HD.out]; simp [h1, h2.1, h2.2, h5, Int.not_lt.2 h2.1, Int.not_lt.2 h2.2]) (by decide) HB2.out⟩

/-- How the reading of maxp ends. -/
def MaxpPost (gr gf : Nat) (w : World) (vs : List Value) (v : Option ByteArray) (e : Ending) (w' : World) : Prop :=
  match v with
  | none => e = gave 41 ∧ Below gr w w'
  | some b => ((rMaxp b).1 ≠ 0 ∧ e = gave (rMaxp b).1 ∧ Below gr w w') ∨ ((rMaxp b).1 = 0 ∧ e = .returned (.tuple #[]) ∧ Rd w' gr gf (vs.set 2 (.int .i64 (rMaxp b).2)) ∧ Below gr w w')
theorem maxpPost_no {gr gf : Nat} {w w' : World} {vs : List Value} {v : Option ByteArray} (hv : v = none) (hb : Below gr w w') : MaxpPost gr gf w vs v (gave 41) w' := by subst hv; exact ⟨rfl, hb⟩
theorem maxpPost_give {gr gf : Nat} {w w' : World} {vs : List Value} {v : Option ByteArray} {b : ByteArray} {n : Int} (hv : v = some b) (h : (rMaxp b).1 = n) (hn : n ≠ 0) (hb : Below gr w w') : MaxpPost gr gf w vs v (gave n) w' := by
  subst hv; subst h; exact .inl ⟨hn, rfl, hb⟩
theorem maxpPost_yes {gr gf : Nat} {w w' : World} {vs : List Value} {v : Option ByteArray} {b : ByteArray} {u : Int} (hv : v = some b) (h : rMaxp b = (0, u)) (hr : Rd w' gr gf (vs.set 2 (.int .i64 u))) (hb : Below gr w w') : MaxpPost gr gf w vs v (.returned (.tuple #[])) w' := by
  subst hv; exact .inr ⟨by rw [h], rfl, by rw [h]; exact hr, hb⟩

set_option maxHeartbeats 2000000 in
theorem maxp_c (gr gf : Nat) (kd : Int) (l : List Row) (s : ByteArray) (w : World) (vs : List Value) (hR : Rd w gr gf vs) (hF : FontIn gr w gf kd l s) :
    Calls Try.prog 36 #[.pointer (some ⟨gr, 0, none⟩)] w (MaxpPost gr gf w vs (tabN l s maxpTg 6)) := by
  have HR := Lib.hid hR
  have HF := Lib.hid hF
  have HG := Lib.hid hR.lt
  have HS := Lib.hid hF.size
  clear hR hF
  obtain ⟨v, HV⟩ : ∃ v, Hid (tabN l s maxpTg 6 = v) := ⟨_, rfl⟩
  go_enter Try.func36, Try.ntmps36
  go_wp2_with fail
  refine (need_c w.heap.size gr gf kd 6 l s _ w HR.out.p (HF.out.mono (Nat.le_of_lt HG.out)) (Nat.le_refl _)).mono ?_
  rw [show (ByteArray.toList ⟨#[109, 97, 120, 112]⟩) = maxpTg from tl_maxpTg, HV.out]
  cases v with
  | none =>
    rintro e w1 ⟨rfl, hb1⟩
    unfold gave
    go_wp2_with fail
    exact ⟨rfl, maxpPost_no (by first | exact HV.out | rfl) (hb1.mono (Nat.le_of_lt HG.out))⟩
  | some b =>
    have HZ := Lib.hid (tab_small HV.out HS.out)
    rintro e w1 ⟨gv, rfl, hc1, hs1, hb1⟩
    have HB1 := Lib.hid (hb1.mono (Nat.le_of_lt HG.out))
    have HR1 := Lib.hid (HR.out.kept hb1 HG.out)
    have HNE : Hid (gr ≠ gv) := by have := HG.out; unfold Hid; omega
    clear hb1 hs1
    have X1 := num_in (b := b) (a := 0) (n := 4) (by omega) (by omega) (by have := HZ.out; omega)
    have X2 := num_in (b := b) (a := 4) (n := 2) (by omega) (by omega) (by have := HZ.out; omega)
    have HD : Hid (rMaxp b = if (numOr b 0 4).1 ≠ 20480 ∧ (numOr b 0 4).1 ≠ 65536 then (42, 0) else if (numOr b 4 2).1 = 0 then (41, 0) else if 4096 < (numOr b 4 2).1 then (43, 0) else (0, (numOr b 4 2).1)) := rfl
    have B2 := Lib.hid (num16_bound X2.out)
    generalize (numOr b 0 4).1 = x1 at *
    generalize (numOr b 4 2).1 = x2 at *
    go_wp2_with fail
    refine (u32_c gv 0 x1 0 b w1 hc1 (by have := HZ.out; omega) (by omega) X1).mono ?_
    rintro e wq ⟨rfl, rfl⟩
    go_wp2_with fail
    refine (number_yes _ _).mono ?_
    rintro e wq ⟨rfl, rfl⟩
    by_cases h1 : x1 = 20480
    · subst h1
      go_wp2_with fail
      refine (ask_t (by simp) _ _).mono ?_
      rintro e wq ⟨rfl, rfl⟩
      go_wp2_with fail
      refine (u16_c gv 4 x2 0 b w1 hc1 (by have := HZ.out; omega) (by omega) X2).mono ?_
      rintro e wq ⟨rfl, rfl⟩
      go_wp2_with fail
      refine (number_yes _ _).mono ?_
      rintro e wq ⟨rfl, rfl⟩
      obtain ⟨z, hz⟩ := HR1.out.at 2 (by omega)
      have hfz := HR1.out.f 3 (by omega)
      by_cases h2 : 1 ≤ x2
      rotate_left
      · go_wp2_with fail
        refine (ask_f (by simpa using h2) _ _).mono ?_
        rintro e wq ⟨rfl, rfl⟩
        unfold gave
        go_wp2_with fail
        have h5 : x2 = 0 := by have := B2.out; omega
        exact ⟨rfl, maxpPost_give HV.out (by rw [HD.out]; simp [h5]) (by decide) (HB1.out.setCell (p := ⟨gr, 3, none⟩) (Nat.le_refl _) (.int .i64 x2))⟩
      have h2' : ¬ x2 = 0 := by omega
      go_wp2_with fail
      have HB2 := Lib.hid (HB1.out.setCell (p := ⟨gr, 3, none⟩) (Nat.le_refl _) (.int .i64 x2))
      have HR2 := Lib.hid (HR1.out.set 2 (by omega) (.int .i64 x2))
      have hg2 : (w1.setCell ⟨gr, 3, none⟩ (.int .i64 x2)).cell? ⟨gr, 3, none⟩ = some (.int .i64 x2) := by rw [World.cell?_setCell_same _ _ _ hz]
      clear hz hfz HB1 HR1 hc1
      generalize (w1.setCell ⟨gr, 3, none⟩ (.int .i64 x2)) = w2 at *
      refine (ask_t (by first | rfl | exact decide_eq_true (by omega)) _ _).mono ?_
      rintro e wq ⟨rfl, rfl⟩
      go_wp2_with fail
      by_cases h3 : x2 ≤ 4096
      rotate_left
      · refine (ask_f (by exact decide_eq_false (by omega)) _ _).mono ?_
        rintro e wq ⟨rfl, rfl⟩
        unfold gave
        go_wp2_with fail
        exact ⟨rfl, maxpPost_give HV.out (by rw [HD.out]; simp [h2', (by omega : 4096 < x2)]) (by decide) HB2.out⟩
      refine (ask_t (by exact decide_eq_true (by omega)) _ _).mono ?_
      rintro e wq ⟨rfl, rfl⟩
      go_wp2_with fail
      go_end0
      exact maxpPost_yes HV.out (by rw [HD.out]; simp [h2', Int.not_lt.2 h3]) HR2.out HB2.out
    by_cases h1' : x1 = 65536
    · subst h1'
      go_wp2_with fail
      refine (ask_t (by simp) _ _).mono ?_
      rintro e wq ⟨rfl, rfl⟩
      go_wp2_with fail
      refine (u16_c gv 4 x2 0 b w1 hc1 (by have := HZ.out; omega) (by omega) X2).mono ?_
      rintro e wq ⟨rfl, rfl⟩
      go_wp2_with fail
      refine (number_yes _ _).mono ?_
      rintro e wq ⟨rfl, rfl⟩
      obtain ⟨z, hz⟩ := HR1.out.at 2 (by omega)
      have hfz := HR1.out.f 3 (by omega)
      by_cases h2 : 1 ≤ x2
      rotate_left
      · go_wp2_with fail
        refine (ask_f (by simpa using h2) _ _).mono ?_
        rintro e wq ⟨rfl, rfl⟩
        unfold gave
        go_wp2_with fail
        have h5 : x2 = 0 := by have := B2.out; omega
        exact ⟨rfl, maxpPost_give HV.out (by rw [HD.out]; simp [h5]) (by decide) (HB1.out.setCell (p := ⟨gr, 3, none⟩) (Nat.le_refl _) (.int .i64 x2))⟩
      have h2' : ¬ x2 = 0 := by omega
      go_wp2_with fail
      have HB2 := Lib.hid (HB1.out.setCell (p := ⟨gr, 3, none⟩) (Nat.le_refl _) (.int .i64 x2))
      have HR2 := Lib.hid (HR1.out.set 2 (by omega) (.int .i64 x2))
      have hg2 : (w1.setCell ⟨gr, 3, none⟩ (.int .i64 x2)).cell? ⟨gr, 3, none⟩ = some (.int .i64 x2) := by rw [World.cell?_setCell_same _ _ _ hz]
      clear hz hfz HB1 HR1 hc1
      generalize (w1.setCell ⟨gr, 3, none⟩ (.int .i64 x2)) = w2 at *
      refine (ask_t (by first | rfl | exact decide_eq_true (by omega)) _ _).mono ?_
      rintro e wq ⟨rfl, rfl⟩
      go_wp2_with fail
      by_cases h3 : x2 ≤ 4096
      rotate_left
      · refine (ask_f (by exact decide_eq_false (by omega)) _ _).mono ?_
        rintro e wq ⟨rfl, rfl⟩
        unfold gave
        go_wp2_with fail
        exact ⟨rfl, maxpPost_give HV.out (by rw [HD.out]; simp [h2', (by omega : 4096 < x2)]) (by decide) HB2.out⟩
      refine (ask_t (by exact decide_eq_true (by omega)) _ _).mono ?_
      rintro e wq ⟨rfl, rfl⟩
      go_wp2_with fail
      go_end0
      exact maxpPost_yes HV.out (by rw [HD.out]; simp [h2', Int.not_lt.2 h3]) HR2.out HB2.out
    go_wp2_with fail
    refine (ask_f (by simp [h1, h1']) _ _).mono ?_
    rintro e wq ⟨rfl, rfl⟩
    unfold gave
    go_wp2_with fail
    exact ⟨rfl, maxpPost_give HV.out (by rw [HD.out]; simp [h1, h1']) (by decide) HB1.out⟩

/-- What was found, with hhea's numbers. -/
def hheaSet (vs : List Value) (b : ByteArray) : List Value := ((vs.set 3 (.int .i64 (sign16 (numOr b 4 2).1))).set 4 (.int .i64 (sign16 (numOr b 6 2).1))).set 5 (.int .i64 (sign16 (numOr b 8 2).1))
/-- How the reading of hhea ends. -/
def HheaPost (gr gf : Nat) (w : World) (vs : List Value) (glyphs : Int) (v : Option ByteArray) (e : Ending) (w' : World) : Prop :=
  match v with
  | none => e = gave 41 ∧ Below gr w w'
  | some b => ((rHhea b glyphs).1 ≠ 0 ∧ e = gave (rHhea b glyphs).1 ∧ Below gr w w') ∨ ((rHhea b glyphs).1 = 0 ∧ e = .returned (.int .i64 (rHhea b glyphs).2) ∧ Rd w' gr gf (hheaSet vs b) ∧ Below gr w w')
theorem hheaPost_no {gr gf : Nat} {w w' : World} {vs : List Value} {n : Int} {v : Option ByteArray} (hv : v = none) (hb : Below gr w w') : HheaPost gr gf w vs n v (gave 41) w' := by subst hv; exact ⟨rfl, hb⟩
theorem hheaPost_give {gr gf : Nat} {w w' : World} {vs : List Value} {v : Option ByteArray} {b : ByteArray} {m n : Int} (hv : v = some b) (h : (rHhea b m).1 = n) (hn : n ≠ 0) (hb : Below gr w w') : HheaPost gr gf w vs m v (gave n) w' := by
  subst hv; subst h; exact .inl ⟨hn, rfl, hb⟩
theorem hheaPost_yes {gr gf : Nat} {w w' : World} {vs : List Value} {v : Option ByteArray} {b : ByteArray} {m u : Int} (hv : v = some b) (h : rHhea b m = (0, u)) (hr : Rd w' gr gf (hheaSet vs b)) (hb : Below gr w w') : HheaPost gr gf w vs m v (.returned (.int .i64 u)) w' := by
  subst hv; exact .inr ⟨by rw [h], by rw [h], hr, hb⟩

set_option maxHeartbeats 2000000 in
theorem hhea_c (gr gf : Nat) (kd n : Int) (l : List Row) (s : ByteArray) (w : World) (vs : List Value) (hR : Rd w gr gf vs) (hn : vs[2]? = some (.int .i64 n)) (hF : FontIn gr w gf kd l s) :
    Calls Try.prog 38 #[.pointer (some ⟨gr, 0, none⟩)] w (HheaPost gr gf w vs n (tabN l s hheaTg 36)) := by
  have HNN := Lib.hid hn
  clear hn
  have HR := Lib.hid hR
  have HF := Lib.hid hF
  have HG := Lib.hid hR.lt
  have HS := Lib.hid hF.size
  clear hR hF
  obtain ⟨v, HV⟩ : ∃ v, Hid (tabN l s hheaTg 36 = v) := ⟨_, rfl⟩
  go_enter Try.func38, Try.ntmps38
  go_wp2_with fail
  refine (need_c w.heap.size gr gf kd 36 l s _ w HR.out.p (HF.out.mono (Nat.le_of_lt HG.out)) (Nat.le_refl _)).mono ?_
  rw [show (ByteArray.toList ⟨#[104, 104, 101, 97]⟩) = hheaTg from tl_hheaTg, HV.out]
  cases v with
  | none =>
    rintro e w1 ⟨rfl, hb1⟩
    unfold gave
    go_wp2_with fail
    exact ⟨rfl, hheaPost_no (by first | exact HV.out | rfl) (hb1.mono (Nat.le_of_lt HG.out))⟩
  | some b =>
    have HZ := Lib.hid (tab_small HV.out HS.out)
    rintro e w1 ⟨gv, rfl, hc1, hs1, hb1⟩
    have HB1 := Lib.hid (hb1.mono (Nat.le_of_lt HG.out))
    have HR1 := Lib.hid (HR.out.kept hb1 HG.out)
    have HNE : Hid (gr ≠ gv) := by have := HG.out; unfold Hid; omega
    clear hb1 hs1
    have X1 := num_in (b := b) (a := 4) (n := 2) (by omega) (by omega) (by have := HZ.out; omega)
    have X2 := num_in (b := b) (a := 6) (n := 2) (by omega) (by omega) (by have := HZ.out; omega)
    have X3 := num_in (b := b) (a := 8) (n := 2) (by omega) (by omega) (by have := HZ.out; omega)
    have X4 := num_in (b := b) (a := 34) (n := 2) (by omega) (by omega) (by have := HZ.out; omega)
    have HD : Hid (rHhea b n = if (numOr b 34 2).1 < 1 then (41, 0) else if n < (numOr b 34 2).1 then (41, 0) else (0, (numOr b 34 2).1)) := rfl
    have HSET : Hid (hheaSet vs b = ((vs.set 3 (.int .i64 (sign16 (numOr b 4 2).1))).set 4 (.int .i64 (sign16 (numOr b 6 2).1))).set 5 (.int .i64 (sign16 (numOr b 8 2).1))) := rfl
    have B4 := Lib.hid (num16_bound X4.out)
    generalize (numOr b 4 2).1 = x1 at *
    generalize (numOr b 6 2).1 = x2 at *
    generalize (numOr b 8 2).1 = x3 at *
    generalize (numOr b 34 2).1 = x4 at *
    go_wp2_with fail
    refine (i16_c gv 4 x1 0 b w1 hc1 (by have := HZ.out; omega) (by omega) X1).mono ?_
    rintro e wq ⟨rfl, rfl⟩
    go_wp2_with fail
    refine (number_yes _ _).mono ?_
    rintro e wq ⟨rfl, rfl⟩
    generalize sign16 x1 = y1 at *
    obtain ⟨z, hz⟩ := HR1.out.at 3 (by omega)
    have hfz := HR1.out.f 4 (by omega)
    have HB2 := Lib.hid (HB1.out.setCell (p := ⟨gr, 4, none⟩) (Nat.le_refl _) (.int .i64 y1))
    have HR2 := Lib.hid (HR1.out.set 3 (by omega) (.int .i64 y1))
    have hc2 : (w1.setCell ⟨gr, 4, none⟩ (.int .i64 y1)).cell? ⟨gv, 0, none⟩ = some (.string b) := by rw [World.cell?_setCell_other _ _ _ _ (by simp)]; exact hc1
    go_wp2_with fail
    clear hz hfz HB1 HR1 hc1
    generalize (w1.setCell ⟨gr, 4, none⟩ (.int .i64 y1)) = w2 at *
    go_wp2_with fail
    refine (i16_c gv 6 x2 0 b w2 hc2 (by have := HZ.out; omega) (by omega) X2).mono ?_
    rintro e wq ⟨rfl, rfl⟩
    go_wp2_with fail
    refine (number_yes _ _).mono ?_
    rintro e wq ⟨rfl, rfl⟩
    generalize sign16 x2 = y2 at *
    obtain ⟨z, hz⟩ := HR2.out.at 4 (by omega)
    have hfz := HR2.out.f 5 (by omega)
    have HB3 := Lib.hid (HB2.out.setCell (p := ⟨gr, 5, none⟩) (Nat.le_refl _) (.int .i64 y2))
    have HR3 := Lib.hid (HR2.out.set 4 (by omega) (.int .i64 y2))
    have hc3 : (w2.setCell ⟨gr, 5, none⟩ (.int .i64 y2)).cell? ⟨gv, 0, none⟩ = some (.string b) := by rw [World.cell?_setCell_other _ _ _ _ (by simp)]; exact hc2
    go_wp2_with fail
    clear hz hfz HB2 HR2 hc2
    generalize (w2.setCell ⟨gr, 5, none⟩ (.int .i64 y2)) = w3 at *
    go_wp2_with fail
    refine (i16_c gv 8 x3 0 b w3 hc3 (by have := HZ.out; omega) (by omega) X3).mono ?_
    rintro e wq ⟨rfl, rfl⟩
    go_wp2_with fail
    refine (number_yes _ _).mono ?_
    rintro e wq ⟨rfl, rfl⟩
    generalize sign16 x3 = y3 at *
    obtain ⟨z, hz⟩ := HR3.out.at 5 (by omega)
    have hfz := HR3.out.f 6 (by omega)
    have HB4 := Lib.hid (HB3.out.setCell (p := ⟨gr, 6, none⟩) (Nat.le_refl _) (.int .i64 y3))
    have HR4 := Lib.hid (HR3.out.set 5 (by omega) (.int .i64 y3))
    have hc4 : (w3.setCell ⟨gr, 6, none⟩ (.int .i64 y3)).cell? ⟨gv, 0, none⟩ = some (.string b) := by rw [World.cell?_setCell_other _ _ _ _ (by simp)]; exact hc3
    go_wp2_with fail
    clear hz hfz HB3 HR3 hc3
    generalize (w3.setCell ⟨gr, 6, none⟩ (.int .i64 y3)) = w4 at *
    refine (u16_c gv 34 x4 0 b w4 hc4 (by have := HZ.out; omega) (by omega) X4).mono ?_
    rintro e wq ⟨rfl, rfl⟩
    go_wp2_with fail
    refine (number_yes _ _).mono ?_
    rintro e wq ⟨rfl, rfl⟩
    have hg4 := (HR4.out.c 2 (by omega)).trans (by simpa using HNN.out)
    by_cases h1 : 1 ≤ x4
    rotate_left
    · go_wp2_with fail
      refine (ask_f (by simp) _ _).mono ?_
      rintro e wq ⟨rfl, rfl⟩
      unfold gave
      go_wp2_with fail
      have h5 : x4 < 1 := by omega
      exact ⟨rfl, hheaPost_give HV.out (by rw [HD.out]; simp [h5]) (by decide) HB4.out⟩
    go_wp2_with fail
    by_cases h2 : x4 ≤ n
    rotate_left
    · refine (ask_f (by simpa using h2) _ _).mono ?_
      rintro e wq ⟨rfl, rfl⟩
      unfold gave
      go_wp2_with fail
      exact ⟨rfl, hheaPost_give HV.out (by rw [HD.out]; simp [Int.not_lt.2 h1, (by omega : n < x4)]) (by decide) HB4.out⟩
    refine (ask_t (by simpa using h2) _ _).mono ?_
    rintro e wq ⟨rfl, rfl⟩
    go_wp2_with fail
    go_ret
    exact hheaPost_yes HV.out (by rw [HD.out]; simp [Int.not_lt.2 h1, Int.not_lt.2 h2]) (by rw [HSET.out]; exact HR4.out) HB4.out

end Go.Proofs.Ytbcjicmledckbaa
