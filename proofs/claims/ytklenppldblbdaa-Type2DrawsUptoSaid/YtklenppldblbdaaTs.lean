/-
  What take of the machine answers.
-/
import Derived.Test.YtklenppldblbdaaTr
namespace Go.Proofs.Ytklenppldblbdaa
open Go.RowKit Go.PlainAid
set_option linter.unusedSimpArgs false
set_option linter.unusedVariables false

theorem addStems_keeps (s : MS) (w1 : Int) (l : List Int) : (s.addStems w1 l).rows = s.rows ∧ (s.addStems w1 l).stems ≤ s.stems + l.length ∧ (s.addStems w1 l).out = s.out ∧ (s.addStems w1 l).knots = s.knots ∧ (s.addStems w1 l).stack = s.stack ∧ (s.addStems w1 l).fuel = s.fuel := by
  unfold MS.addStems
  have h1 := behind_stems s w1 l (decide (l.length % 2 = 1))
  have h2 := (behind_list s w1 l (decide (l.length % 2 = 1))).1
  generalize s.behind w1 l (decide (l.length % 2 = 1)) = q at *
  obtain ⟨a1, a2, a3, a4, a5, a6, a7, a8⟩ := h1
  simp only
  split
  · have h3 := refuse_out q.2 81
    rw [h3.1, h3.2.1, h3.2.2.1, h3.2.2.2.1, h3.2.2.2.2.1, h3.2.2.2.2.2, a1, a2, a3, a4, a5, a6]
    exact ⟨rfl, by omega, rfl, rfl, rfl, rfl⟩
  · split
    · have h3 := refuse_out { q.2 with stems := q.2.stems + q.1.length / 2 } 83
      rw [h3.1, h3.2.1, h3.2.2.1, h3.2.2.2.1, h3.2.2.2.2.1, h3.2.2.2.2.2]
      simp only
      rw [a1, a2, a3, a4, a5, a6]
      exact ⟨rfl, by omega, rfl, rfl, rfl, rfl⟩
    · simp only
      rw [a1, a2, a3, a4, a5, a6]
      exact ⟨rfl, by omega, rfl, rfl, rfl, rfl⟩

/-- What take's callers lay ahead. -/
structure TakeOk (w : World) (B M F : Nat) (L : Lay) (s : MS) (l : List Int) (a : Option Addr) (c : Nat) (w1 : Int) : Prop where
  mach : Mach w B M F L s
  pen : PenFit s
  opds : OpdsOk w l a c
  font : FCell w F B w1
  rows : ∃ r rest, s.rows = r :: rest ∧ RwFit r
  few : s.rows.length ≤ 100
  stems : s.stems ≤ 400
  short : l.length ≤ 100

set_option maxHeartbeats 2000000 in
theorem take_stems1 (B M F : Nat) (L : Lay) (s : MS) (op : Int) (l : List Int) (a : Option Addr) (c : Nat) (w1 : Int) (w : World) (k : TakeOk w B M F L s l a c w1) (hop : op = 1) :
    Calls Try.prog 55 #[.pointer (some ⟨M, 0, none⟩), .int .i64 op, .slice a l.length c] w (PenPost B M F L (s.take w1 op l) (.tuple #[]) w) := by
  subst hop
  have HK := Lib.hid (addStems_c B M F L s l a c w1 w k.mach k.opds k.font (by have := k.stems; omega))
  have HE : Hid (s.take w1 1 l = s.addStems w1 l) := by unfold Hid MS.take; simp
  rw [HE.out]
  generalize s.addStems w1 l = s9 at *
  obtain ⟨n, HN⟩ : ∃ n, Hid (l.length = n) := ⟨_, rfl⟩
  rw [HN.out] at HK ⊢
  clear k HE
  go_enter Try.func55, Try.ntmps55
  go_wp2_with fail
  refine HK.out.mono ?_
  rintro e w1' ⟨rfl, hx⟩
  have HX := Lib.hid hx
  clear hx
  go_wp2_with fail
  go_end0
  exact ⟨rfl, ⟨_, _, _, HX.out.1⟩, HX.out.2⟩

set_option maxHeartbeats 2000000 in
theorem take_stems3 (B M F : Nat) (L : Lay) (s : MS) (op : Int) (l : List Int) (a : Option Addr) (c : Nat) (w1 : Int) (w : World) (k : TakeOk w B M F L s l a c w1) (hop : op = 3) :
    Calls Try.prog 55 #[.pointer (some ⟨M, 0, none⟩), .int .i64 op, .slice a l.length c] w (PenPost B M F L (s.take w1 op l) (.tuple #[]) w) := by
  subst hop
  have HK := Lib.hid (addStems_c B M F L s l a c w1 w k.mach k.opds k.font (by have := k.stems; omega))
  have HE : Hid (s.take w1 3 l = s.addStems w1 l) := by unfold Hid MS.take; simp
  rw [HE.out]
  generalize s.addStems w1 l = s9 at *
  obtain ⟨n, HN⟩ : ∃ n, Hid (l.length = n) := ⟨_, rfl⟩
  rw [HN.out] at HK ⊢
  clear k HE
  go_enter Try.func55, Try.ntmps55
  go_wp2_with fail
  refine HK.out.mono ?_
  rintro e w1' ⟨rfl, hx⟩
  have HX := Lib.hid hx
  clear hx
  go_wp2_with fail
  go_end0
  exact ⟨rfl, ⟨_, _, _, HX.out.1⟩, HX.out.2⟩

set_option maxHeartbeats 2000000 in
theorem take_stems18 (B M F : Nat) (L : Lay) (s : MS) (op : Int) (l : List Int) (a : Option Addr) (c : Nat) (w1 : Int) (w : World) (k : TakeOk w B M F L s l a c w1) (hop : op = 18) :
    Calls Try.prog 55 #[.pointer (some ⟨M, 0, none⟩), .int .i64 op, .slice a l.length c] w (PenPost B M F L (s.take w1 op l) (.tuple #[]) w) := by
  subst hop
  have HK := Lib.hid (addStems_c B M F L s l a c w1 w k.mach k.opds k.font (by have := k.stems; omega))
  have HE : Hid (s.take w1 18 l = s.addStems w1 l) := by unfold Hid MS.take; simp
  rw [HE.out]
  generalize s.addStems w1 l = s9 at *
  obtain ⟨n, HN⟩ : ∃ n, Hid (l.length = n) := ⟨_, rfl⟩
  rw [HN.out] at HK ⊢
  clear k HE
  go_enter Try.func55, Try.ntmps55
  go_wp2_with fail
  refine HK.out.mono ?_
  rintro e w1' ⟨rfl, hx⟩
  have HX := Lib.hid hx
  clear hx
  go_wp2_with fail
  go_end0
  exact ⟨rfl, ⟨_, _, _, HX.out.1⟩, HX.out.2⟩

set_option maxHeartbeats 2000000 in
theorem take_stems23 (B M F : Nat) (L : Lay) (s : MS) (op : Int) (l : List Int) (a : Option Addr) (c : Nat) (w1 : Int) (w : World) (k : TakeOk w B M F L s l a c w1) (hop : op = 23) :
    Calls Try.prog 55 #[.pointer (some ⟨M, 0, none⟩), .int .i64 op, .slice a l.length c] w (PenPost B M F L (s.take w1 op l) (.tuple #[]) w) := by
  subst hop
  have HK := Lib.hid (addStems_c B M F L s l a c w1 w k.mach k.opds k.font (by have := k.stems; omega))
  have HE : Hid (s.take w1 23 l = s.addStems w1 l) := by unfold Hid MS.take; simp
  rw [HE.out]
  generalize s.addStems w1 l = s9 at *
  obtain ⟨n, HN⟩ : ∃ n, Hid (l.length = n) := ⟨_, rfl⟩
  rw [HN.out] at HK ⊢
  clear k HE
  go_enter Try.func55, Try.ntmps55
  go_wp2_with fail
  refine HK.out.mono ?_
  rintro e w1' ⟨rfl, hx⟩
  have HX := Lib.hid hx
  clear hx
  go_wp2_with fail
  go_end0
  exact ⟨rfl, ⟨_, _, _, HX.out.1⟩, HX.out.2⟩

set_option maxHeartbeats 2000000 in
theorem take_mask19 (B M F : Nat) (L : Lay) (s : MS) (op : Int) (l : List Int) (a : Option Addr) (c : Nat) (w1 : Int) (w : World) (k : TakeOk w B M F L s l a c w1) (hop : op = 19) :
    Calls Try.prog 55 #[.pointer (some ⟨M, 0, none⟩), .int .i64 op, .slice a l.length c] w (PenPost B M F L (s.take w1 op l) (.tuple #[]) w) := by
  subst hop
  have HK := Lib.hid (addStems_c B M F L s l a c w1 w k.mach k.opds k.font (by have := k.stems; omega))
  have HE : Hid (s.take w1 19 l = (s.addStems w1 l).passMask) := by unfold Hid MS.take; simp
  rw [HE.out]
  have hk := addStems_keeps s w1 l
  obtain ⟨r, rest, hr, hf⟩ := k.rows
  have HR : Hid ((s.addStems w1 l).rows = r :: rest ∧ RwFit r ∧ (s.addStems w1 l).stems ≤ 1000 ∧ (s.addStems w1 l).rows.length ≤ 100) := ⟨by rw [hk.1]; exact hr, hf, by have h1 := k.stems; have h2 := k.short; have h3 := hk.2.1; omega, by rw [hk.1]; exact k.few⟩
  generalize s.addStems w1 l = s9 at *
  obtain ⟨n, HN⟩ : ∃ n, Hid (l.length = n) := ⟨_, rfl⟩
  rw [HN.out] at HK ⊢
  clear k HE hk hr hf
  go_enter Try.func55, Try.ntmps55
  go_wp2_with fail
  refine HK.out.mono ?_
  rintro e w2 ⟨rfl, h2, hb2, hk2⟩
  have H2 := Lib.hid h2
  have HB2 := Lib.hid hb2
  have HK2 := Lib.hid hk2
  clear h2 hb2 hk2
  go_wp2_with fail
  refine (passMask_c B M F L s9 r rest w2 H2.out HR.out.1 HR.out.2.1 HR.out.2.2.1 HR.out.2.2.2).mono ?_
  rintro e w3 ⟨rfl, h3, hb3, hk3⟩
  have H3 := Lib.hid h3
  have HB3 := Lib.hid (HB2.out.trans hb3)
  have HK3 := Lib.hid (HK2.out.trans hk3)
  clear h3 hb3 hk3
  go_wp2_with fail
  go_end0
  exact ⟨rfl, ⟨_, _, _, H3.out⟩, HB3.out, HK3.out⟩

set_option maxHeartbeats 2000000 in
theorem take_mask20 (B M F : Nat) (L : Lay) (s : MS) (op : Int) (l : List Int) (a : Option Addr) (c : Nat) (w1 : Int) (w : World) (k : TakeOk w B M F L s l a c w1) (hop : op = 20) :
    Calls Try.prog 55 #[.pointer (some ⟨M, 0, none⟩), .int .i64 op, .slice a l.length c] w (PenPost B M F L (s.take w1 op l) (.tuple #[]) w) := by
  subst hop
  have HK := Lib.hid (addStems_c B M F L s l a c w1 w k.mach k.opds k.font (by have := k.stems; omega))
  have HE : Hid (s.take w1 20 l = (s.addStems w1 l).passMask) := by unfold Hid MS.take; simp
  rw [HE.out]
  have hk := addStems_keeps s w1 l
  obtain ⟨r, rest, hr, hf⟩ := k.rows
  have HR : Hid ((s.addStems w1 l).rows = r :: rest ∧ RwFit r ∧ (s.addStems w1 l).stems ≤ 1000 ∧ (s.addStems w1 l).rows.length ≤ 100) := ⟨by rw [hk.1]; exact hr, hf, by have h1 := k.stems; have h2 := k.short; have h3 := hk.2.1; omega, by rw [hk.1]; exact k.few⟩
  generalize s.addStems w1 l = s9 at *
  obtain ⟨n, HN⟩ : ∃ n, Hid (l.length = n) := ⟨_, rfl⟩
  rw [HN.out] at HK ⊢
  clear k HE hk hr hf
  go_enter Try.func55, Try.ntmps55
  go_wp2_with fail
  refine HK.out.mono ?_
  rintro e w2 ⟨rfl, h2, hb2, hk2⟩
  have H2 := Lib.hid h2
  have HB2 := Lib.hid hb2
  have HK2 := Lib.hid hk2
  clear h2 hb2 hk2
  go_wp2_with fail
  refine (passMask_c B M F L s9 r rest w2 H2.out HR.out.1 HR.out.2.1 HR.out.2.2.1 HR.out.2.2.2).mono ?_
  rintro e w3 ⟨rfl, h3, hb3, hk3⟩
  have H3 := Lib.hid h3
  have HB3 := Lib.hid (HB2.out.trans hb3)
  have HK3 := Lib.hid (HK2.out.trans hk3)
  clear h3 hb3 hk3
  go_wp2_with fail
  go_end0
  exact ⟨rfl, ⟨_, _, _, H3.out⟩, HB3.out, HK3.out⟩

set_option maxHeartbeats 2000000 in
theorem take_begin21 (B M F : Nat) (L : Lay) (s : MS) (op : Int) (l : List Int) (a : Option Addr) (c : Nat) (w1 : Int) (w : World) (k : TakeOk w B M F L s l a c w1) (hop : op = 21) :
    Calls Try.prog 55 #[.pointer (some ⟨M, 0, none⟩), .int .i64 op, .slice a l.length c] w (PenPost B M F L (s.take w1 op l) (.tuple #[]) w) := by
  subst hop
  have HK := Lib.hid (begin_21 B M F L s l a c w1 w k.mach k.pen k.opds k.font)
  have HE : Hid (s.take w1 21 l = s.begin w1 21 l) := by unfold Hid MS.take; simp
  rw [HE.out]
  generalize s.begin w1 21 l = s9 at *
  obtain ⟨n, HN⟩ : ∃ n, Hid (l.length = n) := ⟨_, rfl⟩
  rw [HN.out] at HK ⊢
  clear k HE
  go_enter Try.func55, Try.ntmps55
  go_wp2_with fail
  refine HK.out.mono ?_
  rintro e w1' ⟨rfl, hx⟩
  have HX := Lib.hid hx
  clear hx
  go_wp2_with fail
  go_end0
  exact ⟨rfl, HX.out⟩

set_option maxHeartbeats 2000000 in
theorem take_begin22 (B M F : Nat) (L : Lay) (s : MS) (op : Int) (l : List Int) (a : Option Addr) (c : Nat) (w1 : Int) (w : World) (k : TakeOk w B M F L s l a c w1) (hop : op = 22) :
    Calls Try.prog 55 #[.pointer (some ⟨M, 0, none⟩), .int .i64 op, .slice a l.length c] w (PenPost B M F L (s.take w1 op l) (.tuple #[]) w) := by
  subst hop
  have HK := Lib.hid (begin_22 B M F L s l a c w1 w k.mach k.pen k.opds k.font)
  have HE : Hid (s.take w1 22 l = s.begin w1 22 l) := by unfold Hid MS.take; simp
  rw [HE.out]
  generalize s.begin w1 22 l = s9 at *
  obtain ⟨n, HN⟩ : ∃ n, Hid (l.length = n) := ⟨_, rfl⟩
  rw [HN.out] at HK ⊢
  clear k HE
  go_enter Try.func55, Try.ntmps55
  go_wp2_with fail
  refine HK.out.mono ?_
  rintro e w1' ⟨rfl, hx⟩
  have HX := Lib.hid hx
  clear hx
  go_wp2_with fail
  go_end0
  exact ⟨rfl, HX.out⟩

set_option maxHeartbeats 2000000 in
theorem take_begin4 (B M F : Nat) (L : Lay) (s : MS) (op : Int) (l : List Int) (a : Option Addr) (c : Nat) (w1 : Int) (w : World) (k : TakeOk w B M F L s l a c w1) (hop : op = 4) :
    Calls Try.prog 55 #[.pointer (some ⟨M, 0, none⟩), .int .i64 op, .slice a l.length c] w (PenPost B M F L (s.take w1 op l) (.tuple #[]) w) := by
  subst hop
  have HK := Lib.hid (begin_4 B M F L s l a c w1 w k.mach k.pen k.opds k.font)
  have HE : Hid (s.take w1 4 l = s.begin w1 4 l) := by unfold Hid MS.take; simp
  rw [HE.out]
  generalize s.begin w1 4 l = s9 at *
  obtain ⟨n, HN⟩ : ∃ n, Hid (l.length = n) := ⟨_, rfl⟩
  rw [HN.out] at HK ⊢
  clear k HE
  go_enter Try.func55, Try.ntmps55
  go_wp2_with fail
  refine HK.out.mono ?_
  rintro e w1' ⟨rfl, hx⟩
  have HX := Lib.hid hx
  clear hx
  go_wp2_with fail
  go_end0
  exact ⟨rfl, HX.out⟩

set_option maxHeartbeats 2000000 in
theorem take_end (B M F : Nat) (L : Lay) (s : MS) (op : Int) (l : List Int) (a : Option Addr) (c : Nat) (w1 : Int) (w : World) (k : TakeOk w B M F L s l a c w1) (hop : op = 14) :
    Calls Try.prog 55 #[.pointer (some ⟨M, 0, none⟩), .int .i64 op, .slice a l.length c] w (PenPost B M F L (s.take w1 op l) (.tuple #[]) w) := by
  subst hop
  have HK := Lib.hid (finish_c B M F L s l a c w1 w k.mach k.opds k.font)
  have HE : Hid (s.take w1 14 l = s.finish w1 l) := by unfold Hid MS.take; simp
  rw [HE.out]
  generalize s.finish w1 l = s9 at *
  obtain ⟨n, HN⟩ : ∃ n, Hid (l.length = n) := ⟨_, rfl⟩
  rw [HN.out] at HK ⊢
  clear k HE
  go_enter Try.func55, Try.ntmps55
  go_wp2_with fail
  refine HK.out.mono ?_
  rintro e w1' ⟨rfl, hx⟩
  have HX := Lib.hid hx
  clear hx
  go_wp2_with fail
  go_end0
  exact ⟨rfl, ⟨_, _, _, HX.out.1⟩, HX.out.2⟩

set_option maxHeartbeats 2000000 in
theorem take_draw (B M F : Nat) (L : Lay) (s : MS) (op : Int) (l : List Int) (a : Option Addr) (c : Nat) (w1 : Int) (w : World) (k : TakeOk w B M F L s l a c w1) (hop : op ≠ 1 ∧ op ≠ 3 ∧ op ≠ 18 ∧ op ≠ 23 ∧ op ≠ 19 ∧ op ≠ 20 ∧ op ≠ 21 ∧ op ≠ 22 ∧ op ≠ 4 ∧ op ≠ 14) :
    Calls Try.prog 55 #[.pointer (some ⟨M, 0, none⟩), .int .i64 op, .slice a l.length c] w (PenPost B M F L (s.take w1 op l) (.tuple #[]) w) := by
  obtain ⟨n1, n3, n18, n23, n19, n20, n21, n22, n4, n14⟩ := hop
  have HK := Lib.hid (draw_c B M F L s op l a c w k.mach k.pen k.opds.at' k.opds.le k.opds.few k.opds.small)
  have HE : Hid (s.take w1 op l = s.draw op l) := by unfold Hid MS.take; simp [n1, n3, n18, n23, n19, n20, n21, n22, n4, n14]
  rw [HE.out]
  generalize s.draw op l = s9 at *
  obtain ⟨n, HN⟩ : ∃ n, Hid (l.length = n) := ⟨_, rfl⟩
  rw [HN.out] at HK ⊢
  clear k HE
  go_enter Try.func55, Try.ntmps55
  go_wp2_with fail
  refine HK.out.mono ?_
  rintro e w1' ⟨rfl, hx⟩
  have HX := Lib.hid hx
  clear hx
  go_wp2_with fail
  go_end0
  exact ⟨rfl, HX.out⟩

theorem take_c (B M F : Nat) (L : Lay) (s : MS) (op : Int) (l : List Int) (a : Option Addr) (c : Nat) (w1 : Int) (w : World) (k : TakeOk w B M F L s l a c w1) :
    Calls Try.prog 55 #[.pointer (some ⟨M, 0, none⟩), .int .i64 op, .slice a l.length c] w (PenPost B M F L (s.take w1 op l) (.tuple #[]) w) := by
  by_cases n1 : op = 1
  · exact take_stems1 B M F L s op l a c w1 w k n1
  by_cases n3 : op = 3
  · exact take_stems3 B M F L s op l a c w1 w k n3
  by_cases n18 : op = 18
  · exact take_stems18 B M F L s op l a c w1 w k n18
  by_cases n23 : op = 23
  · exact take_stems23 B M F L s op l a c w1 w k n23
  by_cases n19 : op = 19
  · exact take_mask19 B M F L s op l a c w1 w k n19
  by_cases n20 : op = 20
  · exact take_mask20 B M F L s op l a c w1 w k n20
  by_cases n21 : op = 21
  · exact take_begin21 B M F L s op l a c w1 w k n21
  by_cases n22 : op = 22
  · exact take_begin22 B M F L s op l a c w1 w k n22
  by_cases n4 : op = 4
  · exact take_begin4 B M F L s op l a c w1 w k n4
  by_cases n14 : op = 14
  · exact take_end B M F L s op l a c w1 w k n14
  exact take_draw B M F L s op l a c w1 w k ⟨n1, n3, n18, n23, n19, n20, n21, n22, n4, n14⟩

end Go.Proofs.Ytklenppldblbdaa
