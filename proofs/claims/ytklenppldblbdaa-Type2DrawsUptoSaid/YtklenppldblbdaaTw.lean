/-
  What step of the machine answers.
-/
import Derived.Test.YtklenppldblbdaaTu
namespace Go.Proofs.Ytklenppldblbdaa
open Go.RowKit Go.PlainAid
set_option linter.unusedSimpArgs false
set_option linter.unusedVariables false

theorem bel_row {B : Nat} {w w' : World} {R : Nat} (hg : w.grownBy w' (some R)) (hB : B ≤ w.heap.size) (hR : B ≤ R) : Below B w w' :=
  ⟨hg.os, hg.tape, hg.output, hg.size, fun j hj => hg.block j (Nat.lt_of_lt_of_le hj hB) (fun e => by cases e; omega)⟩

/-- What is known ahead of a step. -/
structure StepAt (w0 w : World) (M F : Nat) (fl : FLay) (f : FS) (L : Lay) (s : MS) (r : Rw) (rest : List Rw) (m t : Nat) (R V : Nat) (rb : List (Nat × Nat)) : Prop where
  run : RunAt w0 w M F fl f L s
  rows : s.rows = r :: rest
  rb : L.rb = (R, V) :: rb
  cell : w.cell? ⟨L.pg, m, none⟩ = some (.pointer (some ⟨R, 0, none⟩))
  row : RowAt w R V r
  base : w0.heap.size ≤ R
  len : rest.length = m
  m10 : m ≤ 10
  fuel : s.fuel = t
  ok : s.fault = 0

set_option maxRecDepth 20000 in
set_option maxHeartbeats 4000000 in
theorem step_end (w0 w : World) (M F : Nat) (fl : FLay) (f : FS) (L : Lay) (s : MS) (r : Rw) (rest : List Rw) (m t : Nat) (R V : Nat) (rb : List (Nat × Nat)) (k : StepAt w0 w M F fl f L s r rest m t R V rb) (hp : r.s.size ≤ r.p) :
    Calls Try.prog 27 #[.pointer (some ⟨M, 0, none⟩)] w (MPost w0.heap.size M F (s.refuse 81) (.tuple #[]) w) := by
  have hd : decide (r.p < r.s.size) = false := by simp; omega
  have HD := Lib.hid hd
  clear hd hp
  have HK := Lib.hid k
  have H := Lib.hid k.run.mach
  have c6 := k.run.mach.c6
  rw [k.rows, List.length_cons, k.len] at c6
  have k0 := k.cell
  have HR := Lib.hid k.row
  have hm10 := k.m10
  have b0 : (0 : Int) ≤ (m : Int) := by omega
  have b1 : (m : Int) < (m : Int) + 1 := by omega
  clear k
  go_enter Try.func27, Try.ntmps27
  go_wp2_with fail
  go_quiet (fail)
  have H1 := Lib.hid (H.out.below (bel_drewN0 w nq))
  have HR1 := Lib.hid (HR.out.below (bel_drewN0 w nq))
  have HB1 : Hid (Below w0.heap.size w (w.drewN nq)) := bel_drewN (Below.refl _ _) nq
  clear c6 k0 b0 b1
  go_wp2_with fail
  refine (left_c R V r _ HR1.out).mono ?_
  rintro e w2 ⟨rfl, hb2⟩
  have H2 := Lib.hid (H1.out.below hb2)
  have HR2 := Lib.hid (HR1.out.below hb2)
  have HB2 := Lib.hid (HB1.out.trans (hb2.mono H1.out.le))
  clear hb2
  rw [HD.out]
  go_wp2_with fail
  refine (refuse_c _ M F L s 81 _ H2.out).mono ?_
  rintro e w9 ⟨rfl, h9, hb9, hk9⟩
  have H9 := Lib.hid h9
  have HB9 := Lib.hid (HB2.out.trans hb9)
  clear h9 hb9 hk9
  go_wp2_with fail
  go_end0
  exact ⟨rfl, ⟨_, H9.out⟩, HB9.out⟩

set_option maxRecDepth 20000 in
set_option maxHeartbeats 4000000 in
theorem step_fuel' (w0 w : World) (M F : Nat) (fl : FLay) (f : FS) (L : Lay) (s : MS) (r : Rw) (rest : List Rw) (m t : Nat) (R V : Nat) (rb : List (Nat × Nat)) (k : StepAt w0 w M F fl f L s r rest m t R V rb) (hp : r.p < r.s.size) (ht : t = 20000) :
    Calls Try.prog 27 #[.pointer (some ⟨M, 0, none⟩)] w (MPost w0.heap.size M F (s.refuse 83) (.tuple #[]) w) := by
  have hd : decide (r.p < r.s.size) = true := by simp; omega
  have HD := Lib.hid hd
  have HP := Lib.hid hp
  clear hd hp
  have HK := Lib.hid k
  have H := Lib.hid k.run.mach
  have c6 := k.run.mach.c6
  rw [k.rows, List.length_cons, k.len] at c6
  have k0 := k.cell
  have HR := Lib.hid k.row
  have hm10 := k.m10
  have b0 : (0 : Int) ≤ (m : Int) := by omega
  have b1 : (m : Int) < (m : Int) + 1 := by omega
  clear k
  go_enter Try.func27, Try.ntmps27
  go_wp2_with fail
  go_quiet (fail)
  have H1 := Lib.hid (H.out.below (bel_drewN0 w nq))
  have HR1 := Lib.hid (HR.out.below (bel_drewN0 w nq))
  have HB1 : Hid (Below w0.heap.size w (w.drewN nq)) := bel_drewN (Below.refl _ _) nq
  clear c6 k0 b0 b1
  go_wp2_with fail
  refine (left_c R V r _ HR1.out).mono ?_
  rintro e w2 ⟨rfl, hb2⟩
  have H2 := Lib.hid (H1.out.below hb2)
  have HR2 := Lib.hid (HR1.out.below hb2)
  have HB2 := Lib.hid (HB1.out.trans (hb2.mono H1.out.le))
  clear hb2
  rw [HD.out]
  have c8 := H2.out.c8
  rw [HK.out.fuel] at c8
  rw [ht] at c8
  go_wp2_with fail
  refine (refuse_c _ M F L s 83 _ H2.out).mono ?_
  rintro e w9 ⟨rfl, h9, hb9, hk9⟩
  have H9 := Lib.hid h9
  have HB9 := Lib.hid (HB2.out.trans hb9)
  clear h9 hb9 hk9
  go_wp2_with fail
  go_end0
  exact ⟨rfl, ⟨_, H9.out⟩, HB9.out⟩

set_option maxRecDepth 20000 in
set_option maxHeartbeats 4000000 in
theorem step_cut (w0 w : World) (M F : Nat) (fl : FLay) (f : FS) (L : Lay) (s : MS) (r : Rw) (rest : List Rw) (m t : Nat) (R V : Nat) (rb : List (Nat × Nat)) (k : StepAt w0 w M F fl f L s r rest m t R V rb) (hp : r.p < r.s.size) (ht : t ≠ 20000) (hok : ((r.next 1).2.prog (r.next 1).1).1.2 = true) (hc : r.item.2.c = true) :
    Calls Try.prog 27 #[.pointer (some ⟨M, 0, none⟩)] w (MPost w0.heap.size M F (({ s with fuel := t + 1, rows := r.item.2 :: rest } : MS).refuse 81) (.tuple #[]) w) := by
  have hi : r.item = ((r.next 1).2.prog (r.next 1).1) := by unfold Rw.item; simp only; rw [if_pos hok]
  rw [hi] at hc ⊢
  have HI := Lib.hid hi
  have HC := Lib.hid hc
  have HOK := Lib.hid hok
  clear hi hc hok
  have hd : decide (r.p < r.s.size) = true := by simp; omega
  have HD := Lib.hid hd
  have HP := Lib.hid hp
  clear hd hp
  have HK := Lib.hid k
  have H := Lib.hid k.run.mach
  have c6 := k.run.mach.c6
  rw [k.rows, List.length_cons, k.len] at c6
  have k0 := k.cell
  have HR := Lib.hid k.row
  have hm10 := k.m10
  have b0 : (0 : Int) ≤ (m : Int) := by omega
  have b1 : (m : Int) < (m : Int) + 1 := by omega
  clear k
  go_enter Try.func27, Try.ntmps27
  go_wp2_with fail
  go_quiet (fail)
  have H1 := Lib.hid (H.out.below (bel_drewN0 w nq))
  have HR1 := Lib.hid (HR.out.below (bel_drewN0 w nq))
  have HB1 : Hid (Below w0.heap.size w (w.drewN nq)) := bel_drewN (Below.refl _ _) nq
  clear c6 k0 b0 b1
  go_wp2_with fail
  refine (left_c R V r _ HR1.out).mono ?_
  rintro e w2 ⟨rfl, hb2⟩
  have H2 := Lib.hid (H1.out.below hb2)
  have HR2 := Lib.hid (HR1.out.below hb2)
  have HB2 := Lib.hid (HB1.out.trans (hb2.mono H1.out.le))
  clear hb2
  rw [HD.out]
  have c8 := H2.out.c8
  rw [HK.out.fuel] at c8
  have f8 := H2.out.f 8
  have ht1 : t ≤ 20000 := by rw [← HK.out.fuel]; exact HK.out.run.fit.fuel
  have z1 : ((t : Int) == 20000) = false := by simp; omega
  have HFT : Hid ((t : Int) + 1 = ((t + 1 : Nat) : Int)) := by unfold Hid; omega
  have HF0 : Hid (RwFit r) := by have h1 := HK.out.run.fit.size r (by rw [HK.out.rows]; simp); have h2 := HP.out; unfold Hid RwFit; omega
  have H3 : Hid (Mach (w2.setCell ⟨M, 8, none⟩ (.int .i64 ((t : Int) + 1))) w0.heap.size M F L { s with fuel := t + 1 }) := by rw [HFT.out]; exact H2.out.setFuel (t + 1)
  have HR3 : Hid (RowAt (w2.setCell ⟨M, 8, none⟩ (.int .i64 ((t : Int) + 1))) R V r) := HR2.out.chg (grown_set w2 M 8 _) H2.out.typ (by decide) (by decide)
  have HB3 : Hid (Below w0.heap.size w (w2.setCell ⟨M, 8, none⟩ (.int .i64 ((t : Int) + 1)))) := bel_set HB2.out H.out.mB _
  go_wp2_with fail
  generalize w2.setCell ⟨M, 8, none⟩ (.int .i64 ((t : Int) + 1)) = w3 at *
  clear c8 f8 z1
  refine (rbyte_c R V r w3 HR3.out HF0.out).mono ?_
  rintro e w4 ⟨rfl, hr4, hg4⟩
  have HB4 := Lib.hid (HB3.out.trans (bel_row hg4 H3.out.le HK.out.base))
  have H4 := Lib.hid (H3.out.rowed HK.out.rows HK.out.rb hr4 hg4)
  have HR4 := Lib.hid hr4
  have HF4 : Hid (RwFit (r.next 1).2) := by have h1 := HF0.out; have h2 := HP.out; unfold RwFit at h1; unfold Hid RwFit; refine ⟨h1.1, ?_⟩; show r.p + 1 ≤ 1000100; omega
  have HBY := Lib.hid (next_bound r).1
  clear hr4 hg4
  go_wp2_with fail
  refine (rprog_c R V (r.next 1).2 (r.next 1).1 w4 HR4.out HF4.out HBY.out.1 HBY.out.2).mono ?_
  rintro e w5 ⟨rfl, hr5, hg5⟩
  have HB5 := Lib.hid (HB4.out.trans (bel_row hg5 H4.out.le HK.out.base))
  have H5 := Lib.hid (H4.out.rowed (r := (r.next 1).2) (rest := rest) rfl HK.out.rb hr5 hg5)
  have HR5 := Lib.hid hr5
  clear hr5 hg5
  obtain ⟨q, HQ⟩ : ∃ q, Hid ((r.next 1).2.prog (r.next 1).1 = q) := ⟨_, rfl⟩
  rw [HQ.out] at H5 HR5 HOK HC ⊢
  have hx : ∃ x y z, q = ((x, y), z) := ⟨q.1.1, q.1.2, q.2, rfl⟩
  obtain ⟨x, y, z, rfl⟩ := hx
  have hy : y = true := HOK.out
  subst hy
  have hzc := HC.out
  simp only at hzc
  have d2 := HR5.out.c2
  simp only at d2
  rw [hzc] at d2
  have HZC := Lib.hid hzc
  clear hzc HI
  go_wp2_with fail
  refine (refuse_c _ M F L _ 81 _ H5.out).mono ?_
  rintro e w9 ⟨rfl, h9, hb9, hk9⟩
  have H9 := Lib.hid h9
  have HB9 := Lib.hid (HB5.out.trans hb9)
  clear h9 hb9 hk9
  go_wp2_with fail
  go_end0
  rw [HQ.out]
  exact ⟨rfl, ⟨_, H9.out⟩, HB9.out⟩

set_option maxRecDepth 20000 in
set_option maxHeartbeats 4000000 in
theorem step_push (w0 w : World) (M F : Nat) (fl : FLay) (f : FS) (L : Lay) (s : MS) (r : Rw) (rest : List Rw) (m t : Nat) (R V : Nat) (rb : List (Nat × Nat)) (k : StepAt w0 w M F fl f L s r rest m t R V rb) (hp : r.p < r.s.size) (ht : t ≠ 20000) (hok : ((r.next 1).2.prog (r.next 1).1).1.2 = true) (hc : r.item.2.c = false) :
    Calls Try.prog 27 #[.pointer (some ⟨M, 0, none⟩)] w (MPost w0.heap.size M F (({ s with fuel := t + 1, rows := r.item.2 :: rest } : MS).push r.item.1.1) (.tuple #[]) w) := by
  have hi : r.item = ((r.next 1).2.prog (r.next 1).1) := by unfold Rw.item; simp only; rw [if_pos hok]
  rw [hi] at hc ⊢
  have HI := Lib.hid hi
  have HC := Lib.hid hc
  have HOK := Lib.hid hok
  clear hi hc hok
  have hd : decide (r.p < r.s.size) = true := by simp; omega
  have HD := Lib.hid hd
  have HP := Lib.hid hp
  clear hd hp
  have HK := Lib.hid k
  have H := Lib.hid k.run.mach
  have c6 := k.run.mach.c6
  rw [k.rows, List.length_cons, k.len] at c6
  have k0 := k.cell
  have HR := Lib.hid k.row
  have hm10 := k.m10
  have b0 : (0 : Int) ≤ (m : Int) := by omega
  have b1 : (m : Int) < (m : Int) + 1 := by omega
  clear k
  go_enter Try.func27, Try.ntmps27
  go_wp2_with fail
  go_quiet (fail)
  have H1 := Lib.hid (H.out.below (bel_drewN0 w nq))
  have HR1 := Lib.hid (HR.out.below (bel_drewN0 w nq))
  have HB1 : Hid (Below w0.heap.size w (w.drewN nq)) := bel_drewN (Below.refl _ _) nq
  clear c6 k0 b0 b1
  go_wp2_with fail
  refine (left_c R V r _ HR1.out).mono ?_
  rintro e w2 ⟨rfl, hb2⟩
  have H2 := Lib.hid (H1.out.below hb2)
  have HR2 := Lib.hid (HR1.out.below hb2)
  have HB2 := Lib.hid (HB1.out.trans (hb2.mono H1.out.le))
  clear hb2
  rw [HD.out]
  have c8 := H2.out.c8
  rw [HK.out.fuel] at c8
  have f8 := H2.out.f 8
  have ht1 : t ≤ 20000 := by rw [← HK.out.fuel]; exact HK.out.run.fit.fuel
  have z1 : ((t : Int) == 20000) = false := by simp; omega
  have HFT : Hid ((t : Int) + 1 = ((t + 1 : Nat) : Int)) := by unfold Hid; omega
  have HF0 : Hid (RwFit r) := by have h1 := HK.out.run.fit.size r (by rw [HK.out.rows]; simp); have h2 := HP.out; unfold Hid RwFit; omega
  have H3 : Hid (Mach (w2.setCell ⟨M, 8, none⟩ (.int .i64 ((t : Int) + 1))) w0.heap.size M F L { s with fuel := t + 1 }) := by rw [HFT.out]; exact H2.out.setFuel (t + 1)
  have HR3 : Hid (RowAt (w2.setCell ⟨M, 8, none⟩ (.int .i64 ((t : Int) + 1))) R V r) := HR2.out.chg (grown_set w2 M 8 _) H2.out.typ (by decide) (by decide)
  have HB3 : Hid (Below w0.heap.size w (w2.setCell ⟨M, 8, none⟩ (.int .i64 ((t : Int) + 1)))) := bel_set HB2.out H.out.mB _
  go_wp2_with fail
  generalize w2.setCell ⟨M, 8, none⟩ (.int .i64 ((t : Int) + 1)) = w3 at *
  clear c8 f8 z1
  refine (rbyte_c R V r w3 HR3.out HF0.out).mono ?_
  rintro e w4 ⟨rfl, hr4, hg4⟩
  have HB4 := Lib.hid (HB3.out.trans (bel_row hg4 H3.out.le HK.out.base))
  have H4 := Lib.hid (H3.out.rowed HK.out.rows HK.out.rb hr4 hg4)
  have HR4 := Lib.hid hr4
  have HF4 : Hid (RwFit (r.next 1).2) := by have h1 := HF0.out; have h2 := HP.out; unfold RwFit at h1; unfold Hid RwFit; refine ⟨h1.1, ?_⟩; show r.p + 1 ≤ 1000100; omega
  have HBY := Lib.hid (next_bound r).1
  clear hr4 hg4
  go_wp2_with fail
  refine (rprog_c R V (r.next 1).2 (r.next 1).1 w4 HR4.out HF4.out HBY.out.1 HBY.out.2).mono ?_
  rintro e w5 ⟨rfl, hr5, hg5⟩
  have HB5 := Lib.hid (HB4.out.trans (bel_row hg5 H4.out.le HK.out.base))
  have H5 := Lib.hid (H4.out.rowed (r := (r.next 1).2) (rest := rest) rfl HK.out.rb hr5 hg5)
  have HR5 := Lib.hid hr5
  clear hr5 hg5
  obtain ⟨q, HQ⟩ : ∃ q, Hid ((r.next 1).2.prog (r.next 1).1 = q) := ⟨_, rfl⟩
  rw [HQ.out] at H5 HR5 HOK HC ⊢
  have hx : ∃ x y z, q = ((x, y), z) := ⟨q.1.1, q.1.2, q.2, rfl⟩
  obtain ⟨x, y, z, rfl⟩ := hx
  have hy : y = true := HOK.out
  subst hy
  have hzc := HC.out
  simp only at hzc
  have d2 := HR5.out.c2
  simp only at d2
  rw [hzc] at d2
  have HZC := Lib.hid hzc
  clear hzc HI
  go_wp2_with fail
  refine (push_c _ M F L _ x _ H5.out HK.out.run.fit.few).mono ?_
  rintro e w9 ⟨rfl, ⟨L9, h9⟩, hb9⟩
  have H9 := Lib.hid h9
  have HB9 := Lib.hid (HB5.out.trans hb9)
  clear h9 hb9
  go_wp2_with fail
  go_end0
  rw [HQ.out]
  exact ⟨rfl, ⟨_, H9.out⟩, HB9.out⟩

set_option maxRecDepth 20000 in
set_option maxHeartbeats 4000000 in
theorem step_ocut (w0 w : World) (M F : Nat) (fl : FLay) (f : FS) (L : Lay) (s : MS) (r : Rw) (rest : List Rw) (m t : Nat) (R V : Nat) (rb : List (Nat × Nat)) (k : StepAt w0 w M F fl f L s r rest m t R V rb) (hp : r.p < r.s.size) (ht : t ≠ 20000) (hok : ((r.next 1).2.prog (r.next 1).1).1.2 = false) (hc : r.item.2.c = true) :
    Calls Try.prog 27 #[.pointer (some ⟨M, 0, none⟩)] w (MPost w0.heap.size M F (({ s with fuel := t + 1, rows := r.item.2 :: rest } : MS).refuse 81) (.tuple #[]) w) := by
  have hi : r.item = (((((r.next 1).2.prog (r.next 1).1).2.oper (r.next 1).1).1, false), (((r.next 1).2.prog (r.next 1).1).2.oper (r.next 1).1).2) := by unfold Rw.item; simp only; rw [if_neg (by rw [hok]; simp)]
  rw [hi] at hc ⊢
  have HI := Lib.hid hi
  have HC := Lib.hid hc
  have HOK := Lib.hid hok
  clear hi hc hok
  have hd : decide (r.p < r.s.size) = true := by simp; omega
  have HD := Lib.hid hd
  have HP := Lib.hid hp
  clear hd hp
  have HK := Lib.hid k
  have H := Lib.hid k.run.mach
  have c6 := k.run.mach.c6
  rw [k.rows, List.length_cons, k.len] at c6
  have k0 := k.cell
  have HR := Lib.hid k.row
  have hm10 := k.m10
  have b0 : (0 : Int) ≤ (m : Int) := by omega
  have b1 : (m : Int) < (m : Int) + 1 := by omega
  clear k
  go_enter Try.func27, Try.ntmps27
  go_wp2_with fail
  go_quiet (fail)
  have H1 := Lib.hid (H.out.below (bel_drewN0 w nq))
  have HR1 := Lib.hid (HR.out.below (bel_drewN0 w nq))
  have HB1 : Hid (Below w0.heap.size w (w.drewN nq)) := bel_drewN (Below.refl _ _) nq
  clear c6 k0 b0 b1
  go_wp2_with fail
  refine (left_c R V r _ HR1.out).mono ?_
  rintro e w2 ⟨rfl, hb2⟩
  have H2 := Lib.hid (H1.out.below hb2)
  have HR2 := Lib.hid (HR1.out.below hb2)
  have HB2 := Lib.hid (HB1.out.trans (hb2.mono H1.out.le))
  clear hb2
  rw [HD.out]
  have c8 := H2.out.c8
  rw [HK.out.fuel] at c8
  have f8 := H2.out.f 8
  have ht1 : t ≤ 20000 := by rw [← HK.out.fuel]; exact HK.out.run.fit.fuel
  have z1 : ((t : Int) == 20000) = false := by simp; omega
  have HFT : Hid ((t : Int) + 1 = ((t + 1 : Nat) : Int)) := by unfold Hid; omega
  have HF0 : Hid (RwFit r) := by have h1 := HK.out.run.fit.size r (by rw [HK.out.rows]; simp); have h2 := HP.out; unfold Hid RwFit; omega
  have H3 : Hid (Mach (w2.setCell ⟨M, 8, none⟩ (.int .i64 ((t : Int) + 1))) w0.heap.size M F L { s with fuel := t + 1 }) := by rw [HFT.out]; exact H2.out.setFuel (t + 1)
  have HR3 : Hid (RowAt (w2.setCell ⟨M, 8, none⟩ (.int .i64 ((t : Int) + 1))) R V r) := HR2.out.chg (grown_set w2 M 8 _) H2.out.typ (by decide) (by decide)
  have HB3 : Hid (Below w0.heap.size w (w2.setCell ⟨M, 8, none⟩ (.int .i64 ((t : Int) + 1)))) := bel_set HB2.out H.out.mB _
  go_wp2_with fail
  generalize w2.setCell ⟨M, 8, none⟩ (.int .i64 ((t : Int) + 1)) = w3 at *
  clear c8 f8 z1
  refine (rbyte_c R V r w3 HR3.out HF0.out).mono ?_
  rintro e w4 ⟨rfl, hr4, hg4⟩
  have HB4 := Lib.hid (HB3.out.trans (bel_row hg4 H3.out.le HK.out.base))
  have H4 := Lib.hid (H3.out.rowed HK.out.rows HK.out.rb hr4 hg4)
  have HR4 := Lib.hid hr4
  have HF4 : Hid (RwFit (r.next 1).2) := by have h1 := HF0.out; have h2 := HP.out; unfold RwFit at h1; unfold Hid RwFit; refine ⟨h1.1, ?_⟩; show r.p + 1 ≤ 1000100; omega
  have HBY := Lib.hid (next_bound r).1
  clear hr4 hg4
  go_wp2_with fail
  refine (rprog_c R V (r.next 1).2 (r.next 1).1 w4 HR4.out HF4.out HBY.out.1 HBY.out.2).mono ?_
  rintro e w5 ⟨rfl, hr5, hg5⟩
  have HB5 := Lib.hid (HB4.out.trans (bel_row hg5 H4.out.le HK.out.base))
  have H5 := Lib.hid (H4.out.rowed (r := (r.next 1).2) (rest := rest) rfl HK.out.rb hr5 hg5)
  have HR5 := Lib.hid hr5
  clear hr5 hg5
  have HF5 : Hid (RwFit ((r.next 1).2.prog (r.next 1).1).2) := by
    have h0 := goes_prog (r.next 1).2 (r.next 1).1
    have h1 := HF0.out
    have h2 := HP.out
    unfold RwFit at h1
    unfold Hid RwFit
    rw [h0.1]
    refine ⟨h1.1, ?_⟩
    have h3 := h0.2.2.1
    have h4 : (r.next 1).2.p = r.p + 1 := rfl
    omega
  obtain ⟨q, HQ⟩ : ∃ q, Hid ((r.next 1).2.prog (r.next 1).1 = q) := ⟨_, rfl⟩
  rw [HQ.out] at H5 HR5 HOK HC HF5 ⊢
  have hx : ∃ x y z, q = ((x, y), z) := ⟨q.1.1, q.1.2, q.2, rfl⟩
  obtain ⟨x, y, z, rfl⟩ := hx
  have hy : y = false := HOK.out
  subst hy
  go_wp2_with fail
  refine (roper_c R V z (r.next 1).1 w5 HR5.out HF5.out).mono ?_
  rintro e w6 ⟨rfl, hr6, hg6⟩
  have HB6 := Lib.hid (HB5.out.trans (bel_row hg6 H5.out.le HK.out.base))
  have H6 := Lib.hid (H5.out.rowed (r := z) (rest := rest) rfl HK.out.rb hr6 hg6)
  have d2 := hr6.c2
  have hzc := HC.out
  rw [hzc] at d2
  clear hr6 hg6 hzc HI
  go_wp2_with fail
  refine (refuse_c _ M F L _ 81 _ H6.out).mono ?_
  rintro e w9 ⟨rfl, h9, hb9, hk9⟩
  have H9 := Lib.hid h9
  have HB9 := Lib.hid (HB6.out.trans hb9)
  clear h9 hb9 hk9
  go_wp2_with fail
  go_end0
  rw [HQ.out]
  exact ⟨rfl, ⟨_, H9.out⟩, HB9.out⟩

set_option maxRecDepth 20000 in
set_option maxHeartbeats 4000000 in
theorem step_oper (w0 w : World) (M F : Nat) (fl : FLay) (f : FS) (L : Lay) (s : MS) (r : Rw) (rest : List Rw) (m t : Nat) (R V : Nat) (rb : List (Nat × Nat)) (k : StepAt w0 w M F fl f L s r rest m t R V rb) (hp : r.p < r.s.size) (ht : t ≠ 20000) (hok : ((r.next 1).2.prog (r.next 1).1).1.2 = false) (hc : r.item.2.c = false) (hfit : StepFit ({ s with fuel := t + 1, rows := r.item.2 :: rest })) :
    Calls Try.prog 27 #[.pointer (some ⟨M, 0, none⟩)] w (MPost w0.heap.size M F (({ s with fuel := t + 1, rows := r.item.2 :: rest } : MS).operate f r.item.1.1) (.tuple #[]) w) := by
  have hi : r.item = (((((r.next 1).2.prog (r.next 1).1).2.oper (r.next 1).1).1, false), (((r.next 1).2.prog (r.next 1).1).2.oper (r.next 1).1).2) := by unfold Rw.item; simp only; rw [if_neg (by rw [hok]; simp)]
  rw [hi] at hc hfit ⊢
  have HI := Lib.hid hi
  have HC := Lib.hid hc
  have HOK := Lib.hid hok
  clear hi hc hok
  have HFIT := Lib.hid hfit
  clear hfit
  have hd : decide (r.p < r.s.size) = true := by simp; omega
  have HD := Lib.hid hd
  have HP := Lib.hid hp
  clear hd hp
  have HK := Lib.hid k
  have H := Lib.hid k.run.mach
  have c6 := k.run.mach.c6
  rw [k.rows, List.length_cons, k.len] at c6
  have k0 := k.cell
  have HR := Lib.hid k.row
  have hm10 := k.m10
  have b0 : (0 : Int) ≤ (m : Int) := by omega
  have b1 : (m : Int) < (m : Int) + 1 := by omega
  clear k
  go_enter Try.func27, Try.ntmps27
  go_wp2_with fail
  go_quiet (fail)
  have H1 := Lib.hid (H.out.below (bel_drewN0 w nq))
  have HR1 := Lib.hid (HR.out.below (bel_drewN0 w nq))
  have HB1 : Hid (Below w0.heap.size w (w.drewN nq)) := bel_drewN (Below.refl _ _) nq
  clear c6 k0 b0 b1
  go_wp2_with fail
  refine (left_c R V r _ HR1.out).mono ?_
  rintro e w2 ⟨rfl, hb2⟩
  have H2 := Lib.hid (H1.out.below hb2)
  have HR2 := Lib.hid (HR1.out.below hb2)
  have HB2 := Lib.hid (HB1.out.trans (hb2.mono H1.out.le))
  clear hb2
  rw [HD.out]
  have c8 := H2.out.c8
  rw [HK.out.fuel] at c8
  have f8 := H2.out.f 8
  have ht1 : t ≤ 20000 := by rw [← HK.out.fuel]; exact HK.out.run.fit.fuel
  have z1 : ((t : Int) == 20000) = false := by simp; omega
  have HFT : Hid ((t : Int) + 1 = ((t + 1 : Nat) : Int)) := by unfold Hid; omega
  have HF0 : Hid (RwFit r) := by have h1 := HK.out.run.fit.size r (by rw [HK.out.rows]; simp); have h2 := HP.out; unfold Hid RwFit; omega
  have H3 : Hid (Mach (w2.setCell ⟨M, 8, none⟩ (.int .i64 ((t : Int) + 1))) w0.heap.size M F L { s with fuel := t + 1 }) := by rw [HFT.out]; exact H2.out.setFuel (t + 1)
  have HR3 : Hid (RowAt (w2.setCell ⟨M, 8, none⟩ (.int .i64 ((t : Int) + 1))) R V r) := HR2.out.chg (grown_set w2 M 8 _) H2.out.typ (by decide) (by decide)
  have HB3 : Hid (Below w0.heap.size w (w2.setCell ⟨M, 8, none⟩ (.int .i64 ((t : Int) + 1)))) := bel_set HB2.out H.out.mB _
  go_wp2_with fail
  generalize w2.setCell ⟨M, 8, none⟩ (.int .i64 ((t : Int) + 1)) = w3 at *
  clear c8 f8 z1
  refine (rbyte_c R V r w3 HR3.out HF0.out).mono ?_
  rintro e w4 ⟨rfl, hr4, hg4⟩
  have HB4 := Lib.hid (HB3.out.trans (bel_row hg4 H3.out.le HK.out.base))
  have H4 := Lib.hid (H3.out.rowed HK.out.rows HK.out.rb hr4 hg4)
  have HR4 := Lib.hid hr4
  have HF4 : Hid (RwFit (r.next 1).2) := by have h1 := HF0.out; have h2 := HP.out; unfold RwFit at h1; unfold Hid RwFit; refine ⟨h1.1, ?_⟩; show r.p + 1 ≤ 1000100; omega
  have HBY := Lib.hid (next_bound r).1
  clear hr4 hg4
  go_wp2_with fail
  refine (rprog_c R V (r.next 1).2 (r.next 1).1 w4 HR4.out HF4.out HBY.out.1 HBY.out.2).mono ?_
  rintro e w5 ⟨rfl, hr5, hg5⟩
  have HB5 := Lib.hid (HB4.out.trans (bel_row hg5 H4.out.le HK.out.base))
  have H5 := Lib.hid (H4.out.rowed (r := (r.next 1).2) (rest := rest) rfl HK.out.rb hr5 hg5)
  have HR5 := Lib.hid hr5
  clear hr5 hg5
  have HF5 : Hid (RwFit ((r.next 1).2.prog (r.next 1).1).2) := by
    have h0 := goes_prog (r.next 1).2 (r.next 1).1
    have h1 := HF0.out
    have h2 := HP.out
    unfold RwFit at h1
    unfold Hid RwFit
    rw [h0.1]
    refine ⟨h1.1, ?_⟩
    have h3 := h0.2.2.1
    have h4 : (r.next 1).2.p = r.p + 1 := rfl
    omega
  obtain ⟨q, HQ⟩ : ∃ q, Hid ((r.next 1).2.prog (r.next 1).1 = q) := ⟨_, rfl⟩
  rw [HQ.out] at H5 HR5 HOK HC HF5 HFIT ⊢
  have hx : ∃ x y z, q = ((x, y), z) := ⟨q.1.1, q.1.2, q.2, rfl⟩
  obtain ⟨x, y, z, rfl⟩ := hx
  have hy : y = false := HOK.out
  subst hy
  go_wp2_with fail
  refine (roper_c R V z (r.next 1).1 w5 HR5.out HF5.out).mono ?_
  rintro e w6 ⟨rfl, hr6, hg6⟩
  have HB6 := Lib.hid (HB5.out.trans (bel_row hg6 H5.out.le HK.out.base))
  have H6 := Lib.hid (H5.out.rowed (r := z) (rest := rest) rfl HK.out.rb hr6 hg6)
  have d2 := hr6.c2
  have hzc := HC.out
  rw [hzc] at d2
  clear hr6 hg6 hzc HI
  have HRA : Hid (RunAt w0 w6 M F fl f L { s with fuel := t + 1, rows := (z.oper (r.next 1).1).2 :: rest }) := ⟨H6.out, HK.out.run.font, HK.out.run.bel.trans HB6.out, HFIT.out⟩
  go_wp2_with fail
  refine (operate_c w0 w6 M F fl f L _ (z.oper (r.next 1).1).1 HRA.out HK.out.ok).mono ?_
  rintro e w9 ⟨rfl, ⟨L9, h9⟩, hb9⟩
  have H9 := Lib.hid h9
  have HB9 := Lib.hid (HB6.out.trans hb9)
  clear h9 hb9
  go_wp2_with fail
  go_end0
  rw [HQ.out]
  exact ⟨rfl, ⟨_, H9.out⟩, HB9.out⟩

theorem step_c (w0 w : World) (M F : Nat) (fl : FLay) (f : FS) (L : Lay) (s : MS) (h : RunAt w0 w M F fl f L s) (h0 : s.fault = 0) :
    Calls Try.prog 27 #[.pointer (some ⟨M, 0, none⟩)] w (MPost w0.heap.size M F (s.step f) (.tuple #[]) w) := by
  have ho := h.fit.open'
  cases hr : s.rows with
  | nil => rw [hr] at ho; simp at ho
  | cons r rest =>
    obtain ⟨R, V, rb, hb, hcur, hrow, hBR⟩ := h.mach.cur hr
    have k : StepAt w0 w M F fl f L s r rest rest.length s.fuel R V rb := ⟨h, hr, hb, hcur, hrow, hBR, rfl, by rw [hr] at ho; simp at ho; omega, rfl, h0⟩
    unfold MS.step
    rw [hr]
    simp only
    by_cases hp : r.s.size ≤ r.p
    · rw [if_pos hp]
      exact step_end w0 w M F fl f L s r rest _ _ R V rb k hp
    · rw [if_neg hp]
      by_cases ht : s.fuel = 20000
      · rw [if_pos ht]
        exact step_fuel' w0 w M F fl f L s r rest _ _ R V rb k (by omega) ht
      · rw [if_neg ht]
        have hi := item_row r
        have hsz := h.fit.size
        have h00 := h.fit.rows0 h0
        have hfl := h.fit.fuel
        rw [hr] at hsz h00
        cases hok : ((r.next 1).2.prog (r.next 1).1).1.2
        · have hi2 : r.item.1.2 = false := by unfold Rw.item; simp only; rw [if_neg (by rw [hok]; simp)]
          cases hc : r.item.2.c
          · rw [if_neg (by simp), if_neg (by rw [hi2]; simp)]
            refine step_oper w0 w M F fl f L s r rest _ _ R V rb k (by omega) ht hok hc ⟨h.fit.pen, h.fit.few, h.fit.small, by simp only; omega, h.fit.stems, h.fit.stems0, by rw [hr] at ho; exact ho, fun r' h' => ?_, fun _ r' h' => ?_⟩
            · rcases List.mem_cons.1 h' with rfl | h'
              · rw [hi.1]; exact hsz r (by simp)
              · exact hsz r' (by simp [h'])
            · rcases List.mem_cons.1 h' with rfl | h'
              · exact ⟨hc, by rw [hi.1]; exact (hi.2.2 hc).2 (h00 r (by simp)).2⟩
              · exact h00 r' (by simp [h'])
          · rw [if_pos rfl]
            exact step_ocut w0 w M F fl f L s r rest _ _ R V rb k (by omega) ht hok hc
        · have hi2 : r.item.1.2 = true := by unfold Rw.item; simp only; rw [if_pos hok]; exact hok
          cases hc : r.item.2.c
          · rw [if_neg (by simp), if_pos hi2]
            exact step_push w0 w M F fl f L s r rest _ _ R V rb k (by omega) ht hok hc
          · rw [if_pos rfl]
            exact step_cut w0 w M F fl f L s r rest _ _ R V rb k (by omega) ht hok hc

end Go.Proofs.Ytklenppldblbdaa
