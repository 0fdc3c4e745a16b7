/-
  What the reader's flags, difference and coordinates answer at the triangle's bytes.
-/
import Derived.Test.YtllbegmgknlaiaaDeA
namespace Go.Proofs.Ytllbegmgknlaiaa
open Go.RowKit Go.PlainAid
set_option linter.unusedSimpArgs false
set_option linter.unusedVariables false

theorem grown_new {w a b : World} {r : Option Nat} {g : Nat} (h : w.grownBy a r) (k : a.grownBy b (some g)) (hg : w.heap.size ≤ g) : w.grownBy b r :=
  ⟨k.os.trans h.os, k.tape.trans h.tape, k.output.trans h.output, Nat.le_trans h.size k.size, fun i hi hne => (k.block i (Nat.lt_of_lt_of_le hi h.size) (fun e => by cases e; omega)).trans (h.block i hi hne)⟩
theorem mk03 (w : World) : (Instr.makeSlice 24 (.int .i64 0) (.int .i64 3)).run Try.prog w = .ok (.slice (some ⟨w.heap.size, 0, none⟩) 0 3) (w.alloc (.cells #[.int .i64 0, .int .i64 0, .int .i64 0] 3)) := by
  obtain ⟨i0, hi, hz0, hz1, hz2⟩ := info_parts infoInt
  have h := run_make (P := Try.prog) w 24 3 i0 (.int .i64 0) Try.underlying24 hi hz0 .i64 .i64 0 3 (by omega) (by omega) (by rw [hz2]; omega) (by omega)
  have e := made_zero 3
  simp [hz1, Value.cells, e] at h
  simpa using h
theorem own_room (w : World) : (w.alloc (.cells #[.int .i64 0, .int .i64 0, .int .i64 0] 3)).ownsRow w.heap.size 3 1 (.slice (some ⟨w.heap.size, 0, none⟩) 0 3) 0 [] := World.ownsRow_made w #[.int .i64 0, .int .i64 0, .int .i64 0] 3 (Nat.le_refl _) (by decide) rfl

set_option maxRecDepth 20000 in
set_option maxHeartbeats 2000000 in
theorem flags_c (R V : Nat) (s : ByteArray) (p q : Int) (w : World) (hr : Rdr w R V s p) (hs : (s.size : Int) ≤ 1000000) (X0 : Hid (numOr s p 1 = (1, 0))) (X1 : Hid (numOr s (p + 1) 1 = (0, 0))) (X2 : Hid (numOr s (p + 2) 1 = (1, 0))) (hq : q = p + 3) :
    Calls Try.prog 43 #[.pointer (some ⟨R, 0, none⟩), .int .i64 3] w fun e w' => ∃ g c, e = .returned (.slice (some ⟨g, 0, none⟩) 3 c) ∧ OwnI w.heap.size w' g c [1, 0, 1] ∧ Rdr w' R V s q ∧ w.grownBy w' (some R) := by
  have HS := Lib.hid hs
  have HQ := Lib.hid hq
  have HLT := Lib.hid hr.lt
  have hmk := mk03 w
  have b18 : bits .and .i64 1 8 = 0 := by decide
  have b08 : bits .and .i64 0 8 = 0 := by decide
  have HR0 := Lib.hid (hr.alloc (.cells #[.int .i64 0, .int .i64 0, .int .i64 0] 3))
  have HO0 := Lib.hid (own_room w)
  have HG0 := Lib.hid (grown_alloc w (.cells #[.int .i64 0, .int .i64 0, .int .i64 0] 3) (some R))
  clear hr hs hq
  go_enter Try.func43, Try.ntmps43
  go_wp2_with fail
  refine wp_loop_rounds 4 ?_
  rw [rounds_succ]
  go_wp2_with fail
  refine (byte_r R V s p 1 (p + 1) _ HR0.out HS.out X0 rfl).mono ?_
  rintro e v1 ⟨rfl, h1, kg⟩
  have HP1 : Hid (v1.ownsRow w.heap.size 3 1 (.slice (some ⟨w.heap.size, 0, none⟩) 0 3) 0 []) := own_keep HO0.out (fun x hx => kg.block x (HO0.out.lt x hx).2 (fun e => by have := (HO0.out.lt x hx).1; have := HLT.out; cases e; omega))
  have HGV1 := Lib.hid (grown_trans HG0.out kg)
  have HRV1 := Lib.hid (h1.alloc (.cells #[.int .i64 1] 3))
  have HL1 := Lib.hid (lies_new (w := v1) (cs := #[.int .i64 1]) (T := 3))
  clear h1 kg
  go_wp2_with fail
  refine wp_loop_rounds 2 ?_
  rw [rounds_succ]
  go_wp2_with (at_builtin; refine wpList_app elI rfl _ _ rfl (v1.alloc (.cells #[.int .i64 1] 3)) w.heap.size w.heap.size 3 0 [] (some ⟨v1.heap.size, 0, none⟩) 1 1 [.int .i64 1] rfl rfl (HP1.out.alloc _) rfl (.inr ⟨_, 0, rfl, HL1.out⟩) (by simp [Value.oneCell']) (by decide) (by decide) (by have := HGV1.out.size; simp; omega) ?_; intro g1 c1 w1 o1 k1 hat1)
  have HO1 : Hid (w1.ownsRow w.heap.size 3 1 (.slice (some ⟨g1, 0, none⟩) 1 c1) 1 [.int .i64 1]) := o1
  have HG1 := Lib.hid (grown_new (grown_trans HGV1.out (grown_alloc _ _ _)) k1 (ownsRow_cap HP1.out).2.1)
  have HR1 := Lib.hid (HRV1.out.grown k1 (by have := (ownsRow_cap HP1.out).2.1; have := HLT.out; omega) (by have := (ownsRow_cap HP1.out).2.1; have := HLT.out; omega))
  clear o1 k1 hat1
  rw [rounds_succ]
  go_wp2_with fail
  rw [rounds_succ]
  go_wp2_with fail
  refine (byte_r R V s (p + 1) 0 (p + 2) _ HR1.out HS.out X1 (by omega)).mono ?_
  rintro e v2 ⟨rfl, h1, kg⟩
  have HP2 : Hid (v2.ownsRow w.heap.size 3 1 (.slice (some ⟨g1, 0, none⟩) 1 c1) 1 [.int .i64 1]) := own_keep HO1.out (fun x hx => kg.block x (HO1.out.lt x hx).2 (fun e => by have := (HO1.out.lt x hx).1; have := HLT.out; cases e; omega))
  have HGV2 := Lib.hid (grown_trans HG1.out kg)
  have HRV2 := Lib.hid (h1.alloc (.cells #[.int .i64 0] 3))
  have HL2 := Lib.hid (lies_new (w := v2) (cs := #[.int .i64 0]) (T := 3))
  clear h1 kg
  go_wp2_with fail
  refine wp_loop_rounds 2 ?_
  rw [rounds_succ]
  go_wp2_with (at_builtin; refine wpList_app elI rfl _ _ rfl (v2.alloc (.cells #[.int .i64 0] 3)) w.heap.size g1 c1 1 [.int .i64 1] (some ⟨v2.heap.size, 0, none⟩) 1 1 [.int .i64 0] rfl rfl (HP2.out.alloc _) rfl (.inr ⟨_, 0, rfl, HL2.out⟩) (by simp [Value.oneCell']) (by decide) (by decide) (by have := HGV2.out.size; simp; omega) ?_; intro g2 c2 w2 o1 k1 hat1)
  have HO2 : Hid (w2.ownsRow w.heap.size 3 1 (.slice (some ⟨g2, 0, none⟩) 2 c2) 2 [.int .i64 1, .int .i64 0]) := o1
  have HG2 := Lib.hid (grown_new (grown_trans HGV2.out (grown_alloc _ _ _)) k1 (ownsRow_cap HP2.out).2.1)
  have HR2 := Lib.hid (HRV2.out.grown k1 (by have := (ownsRow_cap HP2.out).2.1; have := HLT.out; omega) (by have := (ownsRow_cap HP2.out).2.1; have := HLT.out; omega))
  clear o1 k1 hat1
  rw [rounds_succ]
  go_wp2_with fail
  rw [rounds_succ]
  go_wp2_with fail
  refine (byte_r R V s (p + 2) 1 q _ HR2.out HS.out X2 (by have := HQ.out; omega)).mono ?_
  rintro e v3 ⟨rfl, h1, kg⟩
  have HP3 : Hid (v3.ownsRow w.heap.size 3 1 (.slice (some ⟨g2, 0, none⟩) 2 c2) 2 [.int .i64 1, .int .i64 0]) := own_keep HO2.out (fun x hx => kg.block x (HO2.out.lt x hx).2 (fun e => by have := (HO2.out.lt x hx).1; have := HLT.out; cases e; omega))
  have HGV3 := Lib.hid (grown_trans HG2.out kg)
  have HRV3 := Lib.hid (h1.alloc (.cells #[.int .i64 1] 3))
  have HL3 := Lib.hid (lies_new (w := v3) (cs := #[.int .i64 1]) (T := 3))
  clear h1 kg
  go_wp2_with fail
  refine wp_loop_rounds 2 ?_
  rw [rounds_succ]
  go_wp2_with (at_builtin; refine wpList_app elI rfl _ _ rfl (v3.alloc (.cells #[.int .i64 1] 3)) w.heap.size g2 c2 2 [.int .i64 1, .int .i64 0] (some ⟨v3.heap.size, 0, none⟩) 1 1 [.int .i64 1] rfl rfl (HP3.out.alloc _) rfl (.inr ⟨_, 0, rfl, HL3.out⟩) (by simp [Value.oneCell']) (by decide) (by decide) (by have := HGV3.out.size; simp; omega) ?_; intro g3 c3 w3 o1 k1 hat1)
  have HO3 : Hid (w3.ownsRow w.heap.size 3 1 (.slice (some ⟨g3, 0, none⟩) 3 c3) 3 [.int .i64 1, .int .i64 0, .int .i64 1]) := o1
  have HG3 := Lib.hid (grown_new (grown_trans HGV3.out (grown_alloc _ _ _)) k1 (ownsRow_cap HP3.out).2.1)
  have HR3 := Lib.hid (HRV3.out.grown k1 (by have := (ownsRow_cap HP3.out).2.1; have := HLT.out; omega) (by have := (ownsRow_cap HP3.out).2.1; have := HLT.out; omega))
  clear o1 k1 hat1
  rw [rounds_succ]
  go_wp2_with fail
  rw [rounds_succ]
  go_wp2_with fail
  go_ret
  exact ⟨g3, c3, rfl, HO3.out, HR3.out, HG3.out⟩

set_option maxHeartbeats 1000000 in
theorem difference_c (R V : Nat) (s : ByteArray) (p x q : Int) (w : World) (hr : Rdr w R V s p) (hs : (s.size : Int) ≤ 1000000) (X : Hid (numOr s p 2 = (x, 0))) (hq : q = p + 2) :
    Calls Try.prog 51 #[.pointer (some ⟨R, 0, none⟩), .bool false, .bool false] w fun e w' => e = .returned (.int .i64 (sign16 x)) ∧ Rdr w' R V s q ∧ w.grownBy w' (some R) := by
  have HC := Lib.hid (signed_r R V s p x q w hr hs X hq)
  clear hr hs hq
  go_enter Try.func51, Try.ntmps51
  go_wp2_with fail
  refine HC.out.mono ?_
  rintro e w1 ⟨rfl, h1, g1⟩
  have H1 := Lib.hid h1
  have H2 := Lib.hid g1
  clear h1 g1
  go_wp2_with fail
  go_ret
  exact ⟨rfl, H1.out, H2.out⟩

set_option maxRecDepth 20000 in
set_option maxHeartbeats 2000000 in
theorem coordX_c (R V gf cf : Nat) (s : ByteArray) (p q : Int) (w : World) (hr : Rdr w R V s p) (hs : (s.size : Int) ≤ 1000000) (hf : IntsIn w gf [1, 0, 1]) (hfR : gf ≠ R) (X0 : Hid (numOr s p 2 = (1, 0))) (X1 : Hid (numOr s (p + 2) 2 = (8, 0))) (X2 : Hid (numOr s (p + 4) 2 = (65527, 0))) (hq : q = p + 6) :
    Calls Try.prog 44 #[.pointer (some ⟨R, 0, none⟩), .slice (some ⟨gf, 0, none⟩) 3 cf, .int .i64 2, .int .i64 16] w fun e w' => e = .returned (.slice (some ⟨w.heap.size, 0, none⟩) 3 3) ∧ IntsAt w' w.heap.size [1, 9, 0] ∧ Rdr w' R V s q ∧ w.grownBy w' (some R) := by
  have HS := Lib.hid hs
  have HQ := Lib.hid hq
  have HLT := Lib.hid hr.lt
  have hmk := mk3 w
  have s1 : bits .and .i64 1 2 = 0 := by decide
  have s0 : bits .and .i64 0 2 = 0 := by decide
  have p1 : bits .and .i64 1 16 = 0 := by decide
  have p0 : bits .and .i64 0 16 = 0 := by decide
  have HR0 := Lib.hid (hr.alloc (.cells #[.int .i64 0, .int .i64 0, .int .i64 0] 3))
  have HA0 : Hid ((w.alloc (.cells #[.int .i64 0, .int .i64 0, .int .i64 0] 3)).heap[w.heap.size]? = some (.cells #[.int .i64 0, .int .i64 0, .int .i64 0] 3 (0, 0))) := heap_alloc_new w _
  have HG0 := Lib.hid (grown_alloc w (.cells #[.int .i64 0, .int .i64 0, .int .i64 0] 3) (some R))
  have HF := Lib.hid hf
  have HFR := Lib.hid hfR
  have hfl := World.block_lt_of_cell? w _ (hf 0 1 rfl)
  have a0 : (w.alloc (.cells #[.int .i64 0, .int .i64 0, .int .i64 0] 3)).cell? ⟨gf, 0, none⟩ = some (.int .i64 1) := keepC ((Below.refl _ _).alloc (Nat.le_refl _) _) (hf 0 1 rfl)
  have HGL := Lib.hid hfl
  clear hr hs hq hf hfR hfl
  go_enter Try.func44, Try.ntmps44
  go_wp2_with fail
  refine wp_loop_rounds 4 ?_
  rw [rounds_succ]
  go_wp2_with fail
  refine (difference_c R V s p 1 (p + 2) _ HR0.out HS.out X0 rfl).mono ?_
  rintro e u1 ⟨rfl, h1, g1⟩
  rw [show sign16 1 = 1 from rfl]
  have hx : u1.heap[w.heap.size]? = some (.cells #[.int .i64 0, .int .i64 0, .int .i64 0] 3 (0, 0)) := grown_blk g1 (by have := HLT.out; omega) HA0.out
  have d0 := blk_cell hx 0 (.int .i64 0) rfl
  have d1 := blk_free hx
  have HG1u := Lib.hid (grown_trans HG0.out g1)
  have HR1 := Lib.hid (h1.other (A := w.heap.size) (o := 0) (.int .i64 1) (by have := HLT.out; omega) (by have := HLT.out; omega))
  have HG1 := Lib.hid (grown_setA (A := w.heap.size) (o := 0) (u := .int .i64 1) HG1u.out (Nat.le_refl _))
  have HA1 : Hid ((u1.setCell ⟨w.heap.size, 0, none⟩ (.int .i64 1)).heap[w.heap.size]? = some (.cells #[.int .i64 1, .int .i64 0, .int .i64 0] 3 (0, 0))) := blk_set hx 0 (.int .i64 1)
  clear h1 g1 hx a0
  have a0 : (u1.setCell ⟨w.heap.size, 0, none⟩ (.int .i64 1)).cell? ⟨gf, 1, none⟩ = some (.int .i64 0) := (keepS (by have := HGL.out; omega)).trans (grown_cell HG1u.out HFR.out (HF.out 1 0 rfl))
  go_wp2_with fail
  clear d0 d1
  generalize (u1.setCell ⟨w.heap.size, 0, none⟩ (.int .i64 1)) = w1 at *
  rw [rounds_succ]
  go_wp2_with fail
  refine (difference_c R V s (p + 2) 8 (p + 4) _ HR1.out HS.out X1 (by omega)).mono ?_
  rintro e u2 ⟨rfl, h1, g1⟩
  rw [show sign16 8 = 8 from rfl]
  have hx : u2.heap[w.heap.size]? = some (.cells #[.int .i64 1, .int .i64 0, .int .i64 0] 3 (0, 0)) := grown_blk g1 (by have := HLT.out; omega) HA1.out
  have d0 := blk_cell hx 1 (.int .i64 0) rfl
  have d1 := blk_free hx
  have HG2u := Lib.hid (grown_trans HG1.out g1)
  have HR2 := Lib.hid (h1.other (A := w.heap.size) (o := 1) (.int .i64 9) (by have := HLT.out; omega) (by have := HLT.out; omega))
  have HG2 := Lib.hid (grown_setA (A := w.heap.size) (o := 1) (u := .int .i64 9) HG2u.out (Nat.le_refl _))
  have HA2 : Hid ((u2.setCell ⟨w.heap.size, 1, none⟩ (.int .i64 9)).heap[w.heap.size]? = some (.cells #[.int .i64 1, .int .i64 9, .int .i64 0] 3 (0, 0))) := blk_set hx 1 (.int .i64 9)
  clear h1 g1 hx a0
  have a0 : (u2.setCell ⟨w.heap.size, 1, none⟩ (.int .i64 9)).cell? ⟨gf, 2, none⟩ = some (.int .i64 1) := (keepS (by have := HGL.out; omega)).trans (grown_cell HG2u.out HFR.out (HF.out 2 1 rfl))
  go_wp2_with fail
  clear d0 d1
  generalize (u2.setCell ⟨w.heap.size, 1, none⟩ (.int .i64 9)) = w2 at *
  rw [rounds_succ]
  go_wp2_with fail
  refine (difference_c R V s (p + 4) 65527 q _ HR2.out HS.out X2 (by have := HQ.out; omega)).mono ?_
  rintro e u3 ⟨rfl, h1, g1⟩
  rw [show sign16 65527 = -9 from rfl]
  have hx : u3.heap[w.heap.size]? = some (.cells #[.int .i64 1, .int .i64 9, .int .i64 0] 3 (0, 0)) := grown_blk g1 (by have := HLT.out; omega) HA2.out
  have d0 := blk_cell hx 2 (.int .i64 0) rfl
  have d1 := blk_free hx
  have HG3u := Lib.hid (grown_trans HG2.out g1)
  have HR3 := Lib.hid (h1.other (A := w.heap.size) (o := 2) (.int .i64 0) (by have := HLT.out; omega) (by have := HLT.out; omega))
  have HG3 := Lib.hid (grown_setA (A := w.heap.size) (o := 2) (u := .int .i64 0) HG3u.out (Nat.le_refl _))
  have HA3 : Hid ((u3.setCell ⟨w.heap.size, 2, none⟩ (.int .i64 0)).heap[w.heap.size]? = some (.cells #[.int .i64 1, .int .i64 9, .int .i64 0] 3 (0, 0))) := blk_set hx 2 (.int .i64 0)
  clear h1 g1 hx a0
  go_wp2_with fail
  clear d0 d1
  generalize (u3.setCell ⟨w.heap.size, 2, none⟩ (.int .i64 0)) = w3 at *
  rw [rounds_succ]
  go_wp2_with fail
  go_ret
  exact ⟨rfl, HA3.out, HR3.out, HG3.out⟩

set_option maxRecDepth 20000 in
set_option maxHeartbeats 2000000 in
theorem coordY_c (R V gf cf : Nat) (s : ByteArray) (p q : Int) (w : World) (hr : Rdr w R V s p) (hs : (s.size : Int) ≤ 1000000) (hf : IntsIn w gf [1, 0, 1]) (hfR : gf ≠ R) (X0 : Hid (numOr s p 2 = (2, 0))) (X1 : Hid (numOr s (p + 2) 2 = (65530, 0))) (X2 : Hid (numOr s (p + 4) 2 = (11, 0))) (hq : q = p + 6) :
    Calls Try.prog 44 #[.pointer (some ⟨R, 0, none⟩), .slice (some ⟨gf, 0, none⟩) 3 cf, .int .i64 4, .int .i64 32] w fun e w' => e = .returned (.slice (some ⟨w.heap.size, 0, none⟩) 3 3) ∧ IntsAt w' w.heap.size [2, -4, 7] ∧ Rdr w' R V s q ∧ w.grownBy w' (some R) := by
  have HS := Lib.hid hs
  have HQ := Lib.hid hq
  have HLT := Lib.hid hr.lt
  have hmk := mk3 w
  have s1 : bits .and .i64 1 4 = 0 := by decide
  have s0 : bits .and .i64 0 4 = 0 := by decide
  have p1 : bits .and .i64 1 32 = 0 := by decide
  have p0 : bits .and .i64 0 32 = 0 := by decide
  have HR0 := Lib.hid (hr.alloc (.cells #[.int .i64 0, .int .i64 0, .int .i64 0] 3))
  have HA0 : Hid ((w.alloc (.cells #[.int .i64 0, .int .i64 0, .int .i64 0] 3)).heap[w.heap.size]? = some (.cells #[.int .i64 0, .int .i64 0, .int .i64 0] 3 (0, 0))) := heap_alloc_new w _
  have HG0 := Lib.hid (grown_alloc w (.cells #[.int .i64 0, .int .i64 0, .int .i64 0] 3) (some R))
  have HF := Lib.hid hf
  have HFR := Lib.hid hfR
  have hfl := World.block_lt_of_cell? w _ (hf 0 1 rfl)
  have a0 : (w.alloc (.cells #[.int .i64 0, .int .i64 0, .int .i64 0] 3)).cell? ⟨gf, 0, none⟩ = some (.int .i64 1) := keepC ((Below.refl _ _).alloc (Nat.le_refl _) _) (hf 0 1 rfl)
  have HGL := Lib.hid hfl
  clear hr hs hq hf hfR hfl
  go_enter Try.func44, Try.ntmps44
  go_wp2_with fail
  refine wp_loop_rounds 4 ?_
  rw [rounds_succ]
  go_wp2_with fail
  refine (difference_c R V s p 2 (p + 2) _ HR0.out HS.out X0 rfl).mono ?_
  rintro e u1 ⟨rfl, h1, g1⟩
  rw [show sign16 2 = 2 from rfl]
  have hx : u1.heap[w.heap.size]? = some (.cells #[.int .i64 0, .int .i64 0, .int .i64 0] 3 (0, 0)) := grown_blk g1 (by have := HLT.out; omega) HA0.out
  have d0 := blk_cell hx 0 (.int .i64 0) rfl
  have d1 := blk_free hx
  have HG1u := Lib.hid (grown_trans HG0.out g1)
  have HR1 := Lib.hid (h1.other (A := w.heap.size) (o := 0) (.int .i64 2) (by have := HLT.out; omega) (by have := HLT.out; omega))
  have HG1 := Lib.hid (grown_setA (A := w.heap.size) (o := 0) (u := .int .i64 2) HG1u.out (Nat.le_refl _))
  have HA1 : Hid ((u1.setCell ⟨w.heap.size, 0, none⟩ (.int .i64 2)).heap[w.heap.size]? = some (.cells #[.int .i64 2, .int .i64 0, .int .i64 0] 3 (0, 0))) := blk_set hx 0 (.int .i64 2)
  clear h1 g1 hx a0
  have a0 : (u1.setCell ⟨w.heap.size, 0, none⟩ (.int .i64 2)).cell? ⟨gf, 1, none⟩ = some (.int .i64 0) := (keepS (by have := HGL.out; omega)).trans (grown_cell HG1u.out HFR.out (HF.out 1 0 rfl))
  go_wp2_with fail
  clear d0 d1
  generalize (u1.setCell ⟨w.heap.size, 0, none⟩ (.int .i64 2)) = w1 at *
  rw [rounds_succ]
  go_wp2_with fail
  refine (difference_c R V s (p + 2) 65530 (p + 4) _ HR1.out HS.out X1 (by omega)).mono ?_
  rintro e u2 ⟨rfl, h1, g1⟩
  rw [show sign16 65530 = -6 from rfl]
  have hx : u2.heap[w.heap.size]? = some (.cells #[.int .i64 2, .int .i64 0, .int .i64 0] 3 (0, 0)) := grown_blk g1 (by have := HLT.out; omega) HA1.out
  have d0 := blk_cell hx 1 (.int .i64 0) rfl
  have d1 := blk_free hx
  have HG2u := Lib.hid (grown_trans HG1.out g1)
  have HR2 := Lib.hid (h1.other (A := w.heap.size) (o := 1) (.int .i64 (-4)) (by have := HLT.out; omega) (by have := HLT.out; omega))
  have HG2 := Lib.hid (grown_setA (A := w.heap.size) (o := 1) (u := .int .i64 (-4)) HG2u.out (Nat.le_refl _))
  have HA2 : Hid ((u2.setCell ⟨w.heap.size, 1, none⟩ (.int .i64 (-4))).heap[w.heap.size]? = some (.cells #[.int .i64 2, .int .i64 (-4), .int .i64 0] 3 (0, 0))) := blk_set hx 1 (.int .i64 (-4))
  clear h1 g1 hx a0
  have a0 : (u2.setCell ⟨w.heap.size, 1, none⟩ (.int .i64 (-4))).cell? ⟨gf, 2, none⟩ = some (.int .i64 1) := (keepS (by have := HGL.out; omega)).trans (grown_cell HG2u.out HFR.out (HF.out 2 1 rfl))
  go_wp2_with fail
  clear d0 d1
  generalize (u2.setCell ⟨w.heap.size, 1, none⟩ (.int .i64 (-4))) = w2 at *
  rw [rounds_succ]
  go_wp2_with fail
  refine (difference_c R V s (p + 4) 11 q _ HR2.out HS.out X2 (by have := HQ.out; omega)).mono ?_
  rintro e u3 ⟨rfl, h1, g1⟩
  rw [show sign16 11 = 11 from rfl]
  have hx : u3.heap[w.heap.size]? = some (.cells #[.int .i64 2, .int .i64 (-4), .int .i64 0] 3 (0, 0)) := grown_blk g1 (by have := HLT.out; omega) HA2.out
  have d0 := blk_cell hx 2 (.int .i64 0) rfl
  have d1 := blk_free hx
  have HG3u := Lib.hid (grown_trans HG2.out g1)
  have HR3 := Lib.hid (h1.other (A := w.heap.size) (o := 2) (.int .i64 7) (by have := HLT.out; omega) (by have := HLT.out; omega))
  have HG3 := Lib.hid (grown_setA (A := w.heap.size) (o := 2) (u := .int .i64 7) HG3u.out (Nat.le_refl _))
  have HA3 : Hid ((u3.setCell ⟨w.heap.size, 2, none⟩ (.int .i64 7)).heap[w.heap.size]? = some (.cells #[.int .i64 2, .int .i64 (-4), .int .i64 7] 3 (0, 0))) := blk_set hx 2 (.int .i64 7)
  clear h1 g1 hx a0
  go_wp2_with fail
  clear d0 d1
  generalize (u3.setCell ⟨w.heap.size, 2, none⟩ (.int .i64 7)) = w3 at *
  rw [rounds_succ]
  go_wp2_with fail
  go_ret
  exact ⟨rfl, HA3.out, HR3.out, HG3.out⟩

end Go.Proofs.Ytllbegmgknlaiaa
