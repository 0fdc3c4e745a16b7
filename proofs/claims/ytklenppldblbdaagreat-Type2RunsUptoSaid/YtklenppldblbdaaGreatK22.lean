import Derived.Test.YtklenppldblbdaaGreatK21
set_option linter.unusedSimpArgs false
set_option linter.unusedVariables false
namespace Go.Proofs.YtklenppldblbdaaGreat
open Go.RowKit Go.PlainAid
def Fit32 (l : List Int) : Prop := ∀ v ∈ l, -2147483648 ≤ v ∧ v ≤ 2147483648
theorem flex_d (op : Int) (l : List Int) (a : Option Addr) (c m : Nat) (w : World) (hop : flexN op = some m) (hf : Fit32 l) (ho : Opds w l a) (hn : l.length ≤ 1000) (hl : l.length ≤ c) :
 Calls Tryz.prog 44 #[.int .i64 op, .slice a l.length c] w (FlexPost (if l.length = m then flexD op l else ([], 81)) w) := by
 by_cases hm : l.length = m
 ·rw [if_pos hm]
  have hcase : (op = 1234 ∧ m = 7) ∨ (op = 1235 ∧ m = 13) ∨ (op = 1236 ∧ m = 9) ∨ (op = 1237 ∧ m = 11) := by
   unfold flexN at hop
   split at hop
   ·simp at hop; omega
   split at hop
   ·simp at hop; omega
   split at hop
   ·simp at hop; omega
   split at hop
   ·simp at hop; omega
   ·cases hop
  rcases hcase with ⟨rfl, rfl⟩ | ⟨rfl, rfl⟩ | ⟨rfl, rfl⟩ | ⟨rfl, rfl⟩
  ·match l, hm with
   | [x0, x1, x2, x3, x4, x5, x6], _ => exact flex1234_d x0 x1 x2 x3 x4 x5 x6 a c w ho hl (hf x2 (by simp))
  ·match l, hm with
   | [x0, x1, x2, x3, x4, x5, x6, x7, x8, x9, x10, x11, x12], _ => exact flex1235_d x0 x1 x2 x3 x4 x5 x6 x7 x8 x9 x10 x11 x12 a c w ho hl
  ·match l, hm with
   | [x0, x1, x2, x3, x4, x5, x6, x7, x8], _ => exact flex1236_d x0 x1 x2 x3 x4 x5 x6 x7 x8 a c w ho hl
  ·match l, hm with
   | [x0, x1, x2, x3, x4, x5, x6, x7, x8, x9, x10], _ => exact flex1237_d x0 x1 x2 x3 x4 x5 x6 x7 x8 x9 x10 a c w ho hl
 ·rw [if_neg hm]
  exact flex_no op l a c m w hop hm hn
theorem blk9 {w : World} {A : Nat} {T : TypeId} {fr : Nat × Nat} {c0 c1 c2 c3 c4 c5 c6 c7 c8 : Value} (h : w.heap[A]? = some (.cells #[c0, c1, c2, c3, c4, c5, c6, c7, c8] T fr)) :
 w.cell? ⟨A, 0, none⟩ = some c0 ∧ w.cell? ⟨A, 1, none⟩ = some c1 ∧ w.cell? ⟨A, 2, none⟩ = some c2 ∧ w.cell? ⟨A, 3, none⟩ = some c3 ∧ w.cell? ⟨A, 4, none⟩ = some c4 ∧ w.cell? ⟨A, 5, none⟩ = some c5 ∧ w.cell? ⟨A, 6, none⟩ = some c6 ∧ w.cell? ⟨A, 7, none⟩ = some c7 ∧ w.cell? ⟨A, 8, none⟩ = some c8 :=
 ⟨blk_cell h 0 _ rfl, blk_cell h 1 _ rfl, blk_cell h 2 _ rfl, blk_cell h 3 _ rfl, blk_cell h 4 _ rfl, blk_cell h 5 _ rfl, blk_cell h 6 _ rfl, blk_cell h 7 _ rfl, blk_cell h 8 _ rfl⟩
theorem free9 {w : World} {A : Nat} {T : TypeId} {cs : Array Value} (h : w.heap[A]? = some (.cells cs T (0, 0))) :
 w.frozen? ⟨A, 0, none⟩ = false ∧ w.frozen? ⟨A, 1, none⟩ = false ∧ w.frozen? ⟨A, 2, none⟩ = false ∧ w.frozen? ⟨A, 3, none⟩ = false ∧ w.frozen? ⟨A, 4, none⟩ = false ∧ w.frozen? ⟨A, 5, none⟩ = false ∧ w.frozen? ⟨A, 6, none⟩ = false ∧ w.frozen? ⟨A, 7, none⟩ = false ∧ w.frozen? ⟨A, 8, none⟩ = false :=
 ⟨blk_free h 0, blk_free h 1, blk_free h 2, blk_free h 3, blk_free h 4, blk_free h 5, blk_free h 6, blk_free h 7, blk_free h 8⟩
def set9 (w : World) (D : Nat) (c0 c1 c2 c3 c4 c5 c6 c7 c8 : Value) : World :=
 ((((((((w.setCell ⟨D, 0, none⟩ c0).setCell ⟨D, 1, none⟩ c1).setCell ⟨D, 2, none⟩ c2).setCell ⟨D, 3, none⟩ c3).setCell ⟨D, 4, none⟩ c4).setCell ⟨D, 5, none⟩ c5).setCell ⟨D, 6, none⟩ c6).setCell ⟨D, 7, none⟩ c7).setCell ⟨D, 8, none⟩ c8
theorem set9_grown (w : World) (D : Nat) (c0 c1 c2 c3 c4 c5 c6 c7 c8 : Value) : w.grownBy (set9 w D c0 c1 c2 c3 c4 c5 c6 c7 c8) (some D) :=
 grown_trans (grown_trans (grown_trans (grown_trans (grown_trans (grown_trans (grown_trans (grown_trans (grown_set _ D 0 _) (grown_set _ D 1 _)) (grown_set _ D 2 _)) (grown_set _ D 3 _)) (grown_set _ D 4 _)) (grown_set _ D 5 _)) (grown_set _ D 6 _)) (grown_set _ D 7 _)) (grown_set _ D 8 _)
theorem set9_blk {w : World} {D : Nat} {T : TypeId} {a0 a1 a2 a3 a4 a5 a6 a7 a8 : Value} (h : w.heap[D]? = some (.cells #[a0, a1, a2, a3, a4, a5, a6, a7, a8] T (0, 0))) (c0 c1 c2 c3 c4 c5 c6 c7 c8 : Value) :
 (set9 w D c0 c1 c2 c3 c4 c5 c6 c7 c8).heap[D]? = some (.cells #[c0, c1, c2, c3, c4, c5, c6, c7, c8] T (0, 0)) := by
 have := blk_set (blk_set (blk_set (blk_set (blk_set (blk_set (blk_set (blk_set (blk_set h 0 c0) 1 c1) 2 c2) 3 c3) 4 c4) 5 c5) 6 c6) 7 c7) 8 c8
 simp at this
 exact this
theorem set9_below {B D : Nat} {w0 w : World} {c0 c1 c2 c3 c4 c5 c6 c7 c8 : Value} (h : Below B w0 w) (hD : B ≤ D) (hB : B ≤ w.heap.size) : Below B w0 (set9 w D c0 c1 c2 c3 c4 c5 c6 c7 c8) :=
 h.grown (set9_grown w D c0 c1 c2 c3 c4 c5 c6 c7 c8) hB (fun k hk => by cases hk; exact hD)
def OperD (B : Nat) (s' : MS) (w : World) (e : Ending) (w' : World) : Prop :=
 (s'.fault = 0 → ∃ sa sc oa oc vs, e = .returned (.tuple #[.agg (stV sa sc oa oc s'), .int .i64 0]) ∧ OutW w' B oa oc vs s'.out ∧ Opds w' s'.stack sa ∧ s'.stack.length ≤ sc) ∧
 (s'.fault ≠ 0 → ∃ sa sc oa oc s2, e = .returned (.tuple #[.agg (stV sa sc oa oc s2), .int .i64 s'.fault])) ∧ Below B w w' ∧ KeepD w.heap.size w w'
end Go.Proofs.YtklenppldblbdaaGreat
namespace Go.Proofs.YtklenppldblbdaaGreat
open Go.RowKit Go.PlainAid
theorem alt_len : ∀ (l : List Int) (ax : Bool), (altD l ax).length ≤ l.length
 | d :: r, ax => by have := alt_len r (!ax); simp only [altD, List.length_cons]; omega
 | [], ax => Nat.le_refl _
theorem wav_len : ∀ (l : List Int) (o : Int) (ax : Bool), (wavD o l ax).length ≤ l.length
 | a :: b :: c :: d :: r, o, ax => by have := wav_len r 0 ax; cases ax <;> simp [wavD] <;> omega
 | [], _, _ => by simp [wavD]
 | [_], _, _ => by simp [wavD]
 | [_, _], _, _ => by simp [wavD]
 | [_, _, _], _, _ => by simp [wavD]
theorem turn_len : ∀ (l : List Int) (ax : Bool), (turnD l ax).length ≤ l.length
 | a :: b :: c :: d :: r, ax => by have := turn_len r (!ax); cases ax <;> simp [turnD] at this ⊢ <;> omega
 | [], _ => by simp [turnD]
 | [_], _ => by simp [turnD]
 | [_, _], _ => by simp [turnD]
 | [_, _, _], _ => by simp [turnD]
theorem waves_len (l : List Int) (ax : Bool) : (wavesD l ax).length ≤ l.length := by
 unfold wavesD
 split
 ·exact Nat.le_trans (wav_len _ _ _) (by simp)
 ·exact wav_len _ _ _
theorem steps_len (op : Int) (l : List Int) : (stepsD op l).1.length ≤ l.length := by
 unfold stepsD
 split; exact lines_len l
 split; exact alt_len l _
 split; exact curv_len l
 split
 ·split
  ·exact Nat.zero_le _
  ·have h1 := curv_len (l.take (l.length - 2)); have h2 := lines_len (l.drop (l.length - 2)); simp at h1 h2 ⊢; omega
 split
 ·split
  ·exact Nat.zero_le _
  ·have h1 := lines_len (l.take (l.length - 6)); have h2 := curv_len (l.drop (l.length - 6)); simp at h1 h2 ⊢; omega
 split
 ·exact Nat.zero_le _
 split
 ·exact waves_len l _
 ·exact turn_len l _
theorem flex_len (op : Int) (l : List Int) (hl : l.length ≤ 48) : (flexD op l).1.length ≤ 48 := by
 unfold flexD
 dsimp only
 split
 ·split; exact Nat.zero_le _; exact Nat.le_trans (curv_len _) (by simp)
 split
 ·split; exact Nat.zero_le _; exact Nat.le_trans (curv_len _) (by simp; omega)
 split
 ·split; exact Nat.zero_le _
  split; exact Nat.zero_le _; exact Nat.le_trans (curv_len _) (by simp)
 split; exact Nat.zero_le _
 split; exact Nat.zero_le _
 refine Nat.le_trans (curv_len _) ?_
 split <;> simp
theorem draw_len (op : Int) (l : List Int) (hl : l.length ≤ 48) : (drawD op l).1.length ≤ 48 := by
 unfold drawD
 split
 ·split
  ·exact Nat.le_trans (steps_len op l) hl
  ·exact Nat.zero_le _
 ·split
  ·split
   ·exact flex_len op l hl
   ·exact Nat.zero_le _
  ·exact Nat.zero_le _
theorem knot_bare (s : MS) (a b k : Int) : ({ s with stack := [] } : MS).knot a b k = { s.knot a b k with stack := [] } := by
 unfold MS.knot
 split
 ·rfl
 split
 ·unfold MS.refuse; split <;> rfl
 split
 ·unfold MS.refuse; split <;> rfl
 ·rfl
theorem pen_bare : ∀ (p : List Stp) (s : MS), penL { s with stack := [] } p = { penL s p with stack := [] }
 | [], s => rfl
 | d :: p, s => by rw [penL_cons, penL_cons, knot_bare]; exact pen_bare p _
theorem knot_stack (s : MS) (a b k : Int) : (s.knot a b k).stack = s.stack := by
 unfold MS.knot
 split
 ·rfl
 split
 ·unfold MS.refuse; split <;> rfl
 split
 ·unfold MS.refuse; split <;> rfl
 ·rfl
theorem path_cell {w : World} {B g cc : Nat} {p : List Stp} {i : Nat} {d : Stp} (h : w.ownsRow B 112 3 (.slice (some ⟨g, 0, none⟩) p.length cc) p.length (p.flatMap clS)) (hd : p[i]? = some d) :
 w.cell? ⟨g, i * 3, none⟩ = some (.int .i64 d.1) ∧ w.cell? ⟨g, i * 3 + 1, none⟩ = some (.int .i64 d.2.1) ∧ w.cell? ⟨g, i * 3 + 2, none⟩ = some (.int .i64 d.2.2) := by
 have hl := own_lies h
 have hx : ∀ j, j < 3 → (p.flatMap clS)[i * 3 + j]? = (clS d)[j]? := fun j hj => flat_at clS_length p i d hd j hj
 have k0 := hl (i * 3 + 0) (.int .i64 d.1) (by rw [hx 0 (by decide)]; rfl)
 have k1 := hl (i * 3 + 1) (.int .i64 d.2.1) (by rw [hx 1 (by decide)]; rfl)
 have k2 := hl (i * 3 + 2) (.int .i64 d.2.2) (by rw [hx 2 (by decide)]; rfl)
 simp only [Nat.zero_add, Nat.add_zero] at k0 k1 k2
 exact ⟨k0, k1, k2⟩
theorem take_next {p : List Stp} {i : Nat} {d : Stp} (hd : p[i]? = some d) (s : MS) : penL s (p.take (i + 1)) = (penL s (p.take i)).knot d.1 d.2.1 d.2.2 := by
 rw [List.take_add_one, hd, penL_app]; rfl
theorem pen_stop {p : List Stp} {i : Nat} (s : MS) (h : (penL s (p.take i)).fault ≠ 0) : penL s p = penL s (p.take i) := by
 conv => lhs; rw [← List.take_append_drop i p]
 rw [penL_app, penL_fault _ _ h]
theorem flexN_ops {op : Int} {m : Nat} (h : flexN op = some m) : op = 1234 ∨ op = 1235 ∨ op = 1236 ∨ op = 1237 := by
 unfold flexN at h
 split at h
 ·omega
 split at h
 ·omega
 split at h
 ·omega
 split at h
 ·omega
 ·cases h
theorem flexN_none {op : Int} (h : flexN op = none) : ¬ op = 1234 ∧ ¬ op = 1235 ∧ ¬ op = 1236 ∧ ¬ op = 1237 := by
 refine ⟨?_, ?_, ?_, ?_⟩ <;> (intro e; subst e; simp [flexN] at h)
theorem post_gen {P : Program} {f : Func} {R : Ending → World → Prop} {e : Exit} {a : Act} (W : World) (h : ∀ w1, w1 = W → bodyPost P f R e a w1) : bodyPost P f R e a W := h W rfl
theorem drawD_stroke {op : Int} {l : List Int} (h : strokeOp op) : drawD op l = if (stepsD op l).2 = true then ((stepsD op l).1, 0) else ([], 81) := by unfold drawD; rw [if_pos h]
theorem drawD_flex {op : Int} {l : List Int} {m : Nat} (h : ¬ strokeOp op) (hm : flexN op = some m) : drawD op l = if l.length = m then flexD op l else ([], 81) := by unfold drawD; rw [if_neg h, hm]
theorem drawD_none {op : Int} {l : List Int} (h : ¬ strokeOp op) (hm : flexN op = none) : drawD op l = ([], 82) := by unfold drawD; rw [if_neg h, hm]
structure DrawW (B A E g cc : Nat) (oa : Option Addr) (oc : Nat) (w : World) (p : List Stp) (s0 : MS) (i : Nat) (vs : List Value) (wr : World) : Prop where
 dD : wr.heap[A]? = some (.cells (stV none 0 oa oc (penL s0 (p.take i))) 52 (0, 0))
 dE : wr.heap[E]? = some (.cells #[.slice none 0 0, .slice none 0 0, .int .i64 0, .int .i64 0, .int .i64 0, .int .i64 0, .int .i64 0, .int .i64 0, .bool false] 52 (0, 0))
 path : wr.ownsRow A 112 3 (.slice (some ⟨g, 0, none⟩) p.length cc) p.length (p.flatMap clS)
 outw : OutW wr B oa oc vs (penL s0 (p.take i)).out
 bel : Below B w wr
 keep : KeepD A w wr
 le : A ≤ wr.heap.size
 pf : PenFit (penL s0 (p.take i))
 f0 : (penL s0 (p.take i)).fault = 0
 st : (penL s0 (p.take i)).stack = []
theorem DrawW.up {B A E g cc : Nat} {oa : Option Addr} {oc : Nat} {w : World} {p : List Stp} {s0 : MS} {i : Nat} {vs : List Value} {wr wx : World} (h : DrawW B A E g cc oa oc w p s0 i vs wr) (hB : B ≤ A) (hb : Below wr.heap.size wr wx) : DrawW B A E g cc oa oc w p s0 i vs wx :=
 ⟨blk_below h.dD hb, blk_below h.dE hb, own_below h.path hb, h.outw.below hb, h.bel.trans (hb.mono (Nat.le_trans hB h.le)), h.keep.trans (keepD_bel h.le hb), Nat.le_trans h.le hb.size, h.pf, h.f0, h.st⟩
theorem oper_err {B : Nat} {s' : MS} {w w' : World} {er : Int} {sa : Option Addr} {sc : Nat} {oa : Option Addr} {oc : Nat} {s2 : MS} (hB : B ≤ w.heap.size) (hf : s'.fault = er) (he : er ≠ 0) (hb : Below w.heap.size w w') : OperD B s' w (.returned (.tuple #[.agg (stV sa sc oa oc s2), .int .i64 er])) w' := by
 subst hf
 exact ⟨fun h => absurd h he, fun _ => ⟨sa, sc, oa, oc, s2, rfl⟩, hb.mono hB, keepD_bel (Nat.le_refl _) hb⟩
theorem oper_err2 {B : Nat} {s' : MS} {w w' : World} {er : Int} {sa : Option Addr} {sc : Nat} {oa : Option Addr} {oc : Nat} {s2 : MS} {cs : Array Value} (hf : s'.fault = er) (he : er ≠ 0) (hb : Below B w w') (hk : KeepD w.heap.size w w') (hs : stV sa sc oa oc s2 = cs) : OperD B s' w (.returned (.tuple #[.agg cs, .int .i64 er])) w' := by
 subst hf
 subst hs
 exact ⟨fun h => absurd h he, fun _ => ⟨sa, sc, oa, oc, s2, rfl⟩, hb, hk⟩
theorem oper_ok {B : Nat} {s' sI : MS} {w w' : World} {oa : Option Addr} {oc : Nat} {vs : List Value} {cs : Array Value} (he : s' = sI) (hs : stV none 0 oa oc sI = cs) (hz : OutW w' B oa oc vs sI.out) (hf : sI.fault = 0) (h0 : sI.stack = []) (hb : Below B w w') (hk : KeepD w.heap.size w w') : OperD B s' w (.returned (.tuple #[.agg cs, .int .i64 0])) w' := by
 subst he
 subst hs
 exact ⟨fun _ => ⟨none, 0, oa, oc, vs, rfl, hz, by rw [h0]; exact Opds.nil _ _, by rw [h0]; exact Nat.le_refl _⟩, fun h => absurd hf h, hb, hk⟩
theorem own_keepD {w w' : World} {B : Nat} {g c n : Nat} {xs : List Value} (h : w.ownsRow B 112 3 (.slice (some ⟨g, 0, none⟩) n c) n xs) (hk : KeepD w.heap.size w w') : w'.ownsRow B 112 3 (.slice (some ⟨g, 0, none⟩) n c) n xs := by
 refine ⟨h.1, ?_⟩
 rcases h.2 with h2 | ⟨g', cap, cur, hv, hb, hh, rest⟩
 ·exact .inl h2
 ·exact .inr ⟨g', cap, cur, hv, hb, hk _ _ _ _ (blk_lt hh) (by decide) (by decide) hh, rest⟩
set_option maxRecDepth 20000 in
set_option maxHeartbeats 4000000 in
theorem draw_d (B : Nat) (sa : Option Addr) (sc : Nat) (oa : Option Addr) (oc : Nat) (vs : List Value) (s : MS) (op : Int) (w : World) (hz : OutW w B oa oc vs s.out) (hB : B ≤ w.heap.size) (hp : PenFit s) (h0 : s.fault = 0) (hf : Fit32 s.stack) (ho : Opds w s.stack sa) (hl : s.stack.length ≤ 48) (hc : s.stack.length ≤ sc) :
 Calls Tryz.prog 29 #[.agg (stV sa sc oa oc s), .int .i64 op] w (OperD B { s.draw op s.stack with stack := [] } w) := by
 have HZ := Lib.hid hz
 have HPF := Lib.hid hp
 have HB := Lib.hid hB
 have H0 := Lib.hid h0
 obtain ⟨A, HAA⟩ : ∃ A, Hid (w.heap.size = A) := ⟨_, rfl⟩
 generalize HQ : OperD B { s.draw op s.stack with stack := [] } w = QQ
 have HQQ := Lib.hid HQ
 have h3 := Lib.hid (alloc3 w (.cells #[.slice none 0 0, .slice oa s.out.length oc, .int .i64 s.x, .int .i64 s.y, .int .i64 (s.knots : Int), .int .i64 (s.stems : Int), .int .i64 (s.fuel : Int), .int .i64 s.width, .bool s.asked] 52) (.cells #[.slice none 0 0, .slice none 0 0, .int .i64 0, .int .i64 0, .int .i64 0, .int .i64 0, .int .i64 0, .int .i64 0, .bool false] 52) (.cells #[] 112))
 have HST : Hid (strokeOp op → ∀ W, Below w.heap.size w W → Calls Tryz.prog 43 #[.int .i64 op, .slice sa s.stack.length sc] W (StepsPost (stepsD op s.stack) W)) := fun h W hW => steps_d op s.stack sa sc W h (ho.keep (keep_bel hW)) (by omega) hc
 have HFL : Hid (∀ m, flexN op = some m → ∀ W, Below w.heap.size w W → Calls Tryz.prog 44 #[.int .i64 op, .slice sa s.stack.length sc] W (FlexPost (if s.stack.length = m then flexD op s.stack else ([], 81)) W)) := fun m h W hW => flex_d op s.stack sa sc m W h hf (ho.keep (keep_bel hW)) (by omega) hc
 have HPL : Hid ((drawD op s.stack).1.length ≤ 48) := draw_len op s.stack hl
 have HDP := Lib.hid (draw_pen op s.stack s h0)
 have HDP2 : Hid ((drawD op s.stack).2 ≠ 0 → ({ s.draw op s.stack with stack := [] } : MS).fault = (drawD op s.stack).2) := HDP.out.2
 clear HQ hz hp hf hB hl hc h0 ho
 unfold stV
 go_enter Tryz.func29, Tryz.ntmps29
 go_upto_block 0 with fail
 refine wp_gen _ fun w0 hw0 => ?_
 have h3' := h3.out
 rw [← hw0] at h3'
 obtain ⟨e1, e2, e3, hb0⟩ := h3'
 have HB0 := Lib.hid hb0
 have HAE : Hid (w.heap.size ≤ w.heap.size + 1 ∧ w.heap.size + 1 ≠ w.heap.size) := by unfold Hid; omega
 have HD1 := Lib.hid e1
 have HE1 := Lib.hid e2
 clear hw0 h3 hb0 e1 e2 e3
 generalize hE : w.heap.size + 1 = E at *
 go_cut [7] (fun pv wx => ∃ g cc : Nat, pv = .slice (some ⟨g, 0, none⟩) (drawD op s.stack).1.length cc ∧ Hid (wx.ownsRow w.heap.size 112 3 (.slice (some ⟨g, 0, none⟩) (drawD op s.stack).1.length cc) (drawD op s.stack).1.length ((drawD op s.stack).1.flatMap clS)) ∧ Hid (Below w0.heap.size w0 wx) ∧ Hid ((drawD op s.stack).2 = 0))
 case first =>
  by_cases hs : strokeOp op
  ·have HSO := Lib.hid (HST.out hs w0 HB0.out)
   have HDS := Lib.hid (drawD_stroke (l := s.stack) hs)
   clear HST HFL
   unfold strokeOp at hs
   rcases hs with rfl | rfl | rfl | rfl | rfl | rfl | rfl | rfl | rfl | rfl
   all_goals
    go_wp2_with fail
    refine HSO.out.mono ?_
    rintro e w1 ⟨hy, hn⟩
    cases hr : (stepsD _ s.stack).2
    ·obtain ⟨⟨a1, n1, c1, rfl⟩, hb1⟩ := hn hr
     have HB1 := Lib.hid hb1
     have hdd := HDS.out
     rw [hr, if_neg (by decide)] at hdd
     have HFA := Lib.hid (HDP2.out (by rw [hdd]; decide))
     rw [hdd] at HFA
     have DC := blk_below HD1.out hb1
     have EC := blk_below HE1.out hb1
     have HE9 := Lib.hid EC
     obtain ⟨dc0, dc1, dc2, dc3, dc4, dc5, dc6, dc7, dc8⟩ := blk9 DC
     obtain ⟨ec0, ec1, ec2, ec3, ec4, ec5, ec6, ec7, ec8⟩ := blk9 EC
     obtain ⟨ef0, ef1, ef2, ef3, ef4, ef5, ef6, ef7, ef8⟩ := free9 EC
     clear hy hn hr hb1 hdd DC EC
     go_wp2_with fail
     refine post_gen _ fun w9 hw9 => ?_
     have hE9 : w9.heap[E]? = some (.cells #[.slice none 0 0, .slice oa s.out.length oc, .int .i64 s.x, .int .i64 s.y, .int .i64 (s.knots : Int), .int .i64 (s.stems : Int), .int .i64 (s.fuel : Int), .int .i64 s.width, .bool s.asked] 52 (0, 0)) := by rw [hw9]; exact set9_blk HE9.out _ _ _ _ _ _ _ _ _
     have hB9 : Below w.heap.size w w9 := by rw [hw9]; exact set9_below (bel_next HB0.out HB1.out) (HAE.out.1) (bel_next HB0.out HB1.out).size
     clear hw9
     obtain ⟨d0, d1, d2, d3, d4, d5, d6, d7, d8⟩ := blk9 hE9
     refine bodyPost_ret (v := .tuple #[.agg #[.slice none 0 0, .slice oa s.out.length oc, .int .i64 s.x, .int .i64 s.y, .int .i64 (s.knots : Int), .int .i64 (s.stems : Int), .int .i64 (s.fuel : Int), .int .i64 s.width, .bool s.asked], .int .i64 81]) ?_ rfl ?_
     ·simp [results, Tryz.results29, go_sem, d0, d1, d2, d3, d4, d5, d6, d7, d8]
     ·rw [← HQQ.out]; exact oper_err (s2 := { s with stack := [] }) (sa := none) (sc := 0) (oa := oa) (oc := oc) HB.out HFA.out (by decide) hB9
    ·obtain ⟨g1, c1, rfl, hp1, hb1⟩ := hy hr
     have hdd := HDS.out
     rw [hr, if_pos rfl] at hdd
     have HDD := Lib.hid hdd
     have HB1 := Lib.hid hb1
     have hp2 := Lib.hid (own_base hp1 HB0.out.size)
     clear hy hn hr hb1 hdd hp1
     go_wp2_with fail
     go_meet
     exact ⟨g1, c1, by rw [HDD.out], by rw [HDD.out]; exact hp2.out, HB1.out, by rw [HDD.out]; exact rfl⟩
  ·cases hm : flexN op with
   | some m =>
     have HFO := Lib.hid (HFL.out m hm w0 HB0.out)
     have HDS := Lib.hid (drawD_flex (l := s.stack) hs hm)
     obtain ⟨fr, hfr⟩ : ∃ fr, (if s.stack.length = m then flexD op s.stack else ([], 81)) = fr := ⟨_, rfl⟩
     rw [hfr] at HFO HDS
     have hop := flexN_ops hm
     clear HST HFL hs hm hfr
     rcases hop with rfl | rfl | rfl | rfl
     all_goals
      go_wp2_with fail
      refine HFO.out.mono ?_
      rintro e w1 ⟨hy, hn⟩
      by_cases hr : fr.2 = 0
      ·obtain ⟨⟨g1, c1, rfl, hp1⟩, hb1⟩ := hy hr
       have HB1 := Lib.hid hb1
       have HR := Lib.hid hr
       have hp2 := Lib.hid (own_base hp1 HB0.out.size)
       clear hy hn hr hb1 hp1
       go_wp2_with fail
       go_meet
       exact ⟨g1, c1, by rw [HDS.out], by rw [HDS.out]; exact hp2.out, HB1.out, by rw [HDS.out]; exact HR.out⟩
      ·obtain ⟨⟨a1, n1, c1, rfl⟩, hb1⟩ := hn hr
       have HB1 := Lib.hid hb1
       have HFA := Lib.hid (HDP2.out (by rw [HDS.out]; exact hr))
       rw [HDS.out] at HFA
       have HR := Lib.hid hr
       have DC := blk_below HD1.out hb1
       have EC := blk_below HE1.out hb1
       have HE9 := Lib.hid EC
       obtain ⟨dc0, dc1, dc2, dc3, dc4, dc5, dc6, dc7, dc8⟩ := blk9 DC
       obtain ⟨ec0, ec1, ec2, ec3, ec4, ec5, ec6, ec7, ec8⟩ := blk9 EC
       obtain ⟨ef0, ef1, ef2, ef3, ef4, ef5, ef6, ef7, ef8⟩ := free9 EC
       clear hy hn hb1 DC EC HDS HFO HDP
       generalize fr.2 = er at *
       have hz : (er == 0) = false := by simpa using hr
       clear hr
       go_wp2_with fail
       refine post_gen _ fun w9 hw9 => ?_
       have hE9 : w9.heap[E]? = some (.cells #[.slice none 0 0, .slice oa s.out.length oc, .int .i64 s.x, .int .i64 s.y, .int .i64 (s.knots : Int), .int .i64 (s.stems : Int), .int .i64 (s.fuel : Int), .int .i64 s.width, .bool s.asked] 52 (0, 0)) := by rw [hw9]; exact set9_blk HE9.out _ _ _ _ _ _ _ _ _
       have hB9 : Below w.heap.size w w9 := by rw [hw9]; exact set9_below (bel_next HB0.out HB1.out) (HAE.out.1) (bel_next HB0.out HB1.out).size
       clear hw9
       obtain ⟨d0, d1, d2, d3, d4, d5, d6, d7, d8⟩ := blk9 hE9
       refine bodyPost_ret (v := .tuple #[.agg #[.slice none 0 0, .slice oa s.out.length oc, .int .i64 s.x, .int .i64 s.y, .int .i64 (s.knots : Int), .int .i64 (s.stems : Int), .int .i64 (s.fuel : Int), .int .i64 s.width, .bool s.asked], .int .i64 er]) ?_ rfl ?_
       ·simp [results, Tryz.results29, go_sem, d0, d1, d2, d3, d4, d5, d6, d7, d8]
       ·rw [← HQQ.out]; exact oper_err (s2 := { s with stack := [] }) (sa := none) (sc := 0) (oa := oa) (oc := oc) HB.out HFA.out HR.out hB9
   | none =>
     have HFA := Lib.hid (HDP2.out (by rw [drawD_none hs hm]; decide))
     rw [drawD_none hs hm] at HFA
     unfold strokeOp at hs
     have nn := flexN_none hm
     obtain ⟨m1, m2, m3, m4⟩ := nn
     have n5 : ¬ op = 5 := fun e => hs (.inl e)
     have n6 : ¬ op = 6 := by omega
     have n7 : ¬ op = 7 := by omega
     have n8 : ¬ op = 8 := by omega
     have n24 : ¬ op = 24 := by omega
     have n25 : ¬ op = 25 := by omega
     have n26 : ¬ op = 26 := by omega
     have n27 : ¬ op = 27 := by omega
     have n30 : ¬ op = 30 := by omega
     have n31 : ¬ op = 31 := by omega
     have DC := HD1.out
     have EC := HE1.out
     have HE9 := Lib.hid EC
     obtain ⟨dc0, dc1, dc2, dc3, dc4, dc5, dc6, dc7, dc8⟩ := blk9 DC
     obtain ⟨ec0, ec1, ec2, ec3, ec4, ec5, ec6, ec7, ec8⟩ := blk9 EC
     obtain ⟨ef0, ef1, ef2, ef3, ef4, ef5, ef6, ef7, ef8⟩ := free9 EC
     clear HST HFL hs hm DC EC
     go_wp2_with fail
     refine post_gen _ fun w9 hw9 => ?_
     have hE9 : w9.heap[E]? = some (.cells #[.slice none 0 0, .slice oa s.out.length oc, .int .i64 s.x, .int .i64 s.y, .int .i64 (s.knots : Int), .int .i64 (s.stems : Int), .int .i64 (s.fuel : Int), .int .i64 s.width, .bool s.asked] 52 (0, 0)) := by rw [hw9]; exact set9_blk HE9.out _ _ _ _ _ _ _ _ _
     have hB9 : Below w.heap.size w w9 := by rw [hw9]; exact set9_below HB0.out (HAE.out.1) HB0.out.size
     clear hw9
     obtain ⟨d0, d1, d2, d3, d4, d5, d6, d7, d8⟩ := blk9 hE9
     refine bodyPost_ret (v := .tuple #[.agg #[.slice none 0 0, .slice oa s.out.length oc, .int .i64 s.x, .int .i64 s.y, .int .i64 (s.knots : Int), .int .i64 (s.stems : Int), .int .i64 (s.fuel : Int), .int .i64 s.width, .bool s.asked], .int .i64 82]) ?_ rfl ?_
     ·simp [results, Tryz.results29, go_sem, d0, d1, d2, d3, d4, d5, d6, d7, d8]
     ·rw [← HQQ.out]; exact oper_err (s2 := { s with stack := [] }) (sa := none) (sc := 0) (oa := oa) (oc := oc) HB.out HFA.out (by decide) hB9
 obtain ⟨g, cc, rfl, HPA, HBX, HDZ⟩ := hcut
 have HPEN : Hid ({ s.draw op s.stack with stack := [] } = penL { s with stack := [] } (drawD op s.stack).1) := by
  unfold Hid; rw [pen_bare, ← HDP.out.1 HDZ.out]
 rw [HPEN.out] at HQQ
 generalize (drawD op s.stack).1 = p at *
 have hb1 := bel_next HB0.out HBX.out
 have hst : DrawW B w.heap.size E g cc oa oc w p { s with stack := [] } 0 vs wc :=
  ⟨blk_below HD1.out HBX.out, blk_below HE1.out HBX.out, HPA.out, HZ.out.below hb1, hb1.mono HB.out, keepD_bel (Nat.le_refl _) hb1, hb1.size, HPF.out, H0.out, rfl⟩
 have HS0 := Lib.hid hst
 clear hst hb1 HPEN HPA HBX HDZ HD1 HE1 HB0 HST HFL HDP HDP2 HZ HPF H0
 generalize ({ s with stack := [] } : MS) = s0 at *
 generalize s.stack.length = sn at *
 generalize s.out.length = on at *
 generalize s.x = sx at *
 generalize s.y = sy at *
 generalize s.knots = skn at *
 generalize s.stems = sst at *
 generalize s.fuel = sfu at *
 generalize s.width = swd at *
 generalize s.asked = sas at *
 go_wp2_with fail
 go_loopw [61] (fun iv wr => ∃ (i : Nat) (vsI : List Value), iv = .int .i64 (i : Int) ∧ Hid (i ≤ p.length) ∧ Hid (DrawW B w.heap.size E g cc oa oc w p s0 i vsI wr)) (fun iv _ => p.length - (intOf iv).toNat)
 case atStart => exact ⟨0, vs, rfl, Nat.zero_le _, HS0.out⟩
 case round =>
  clear HS0
  obtain ⟨i, vsI, rfl, HI, HW⟩ := hrel
  obtain ⟨sI, hsI⟩ : ∃ sI, penL s0 (p.take i) = sI := ⟨_, rfl⟩
  have hst : stV none 0 oa oc sI = #[.slice none 0 0, .slice oa sI.out.length oc, .int .i64 sI.x, .int .i64 sI.y, .int .i64 (sI.knots : Int), .int .i64 (sI.stems : Int), .int .i64 (sI.fuel : Int), .int .i64 sI.width, .bool sI.asked] := by
   have := HW.out.st
   rw [hsI] at this
   unfold stV; rw [this]; rfl
  have HST := Lib.hid hst
  have HD2 : Hid (wr.heap[w.heap.size]? = some (.cells #[.slice none 0 0, .slice oa sI.out.length oc, .int .i64 sI.x, .int .i64 sI.y, .int .i64 (sI.knots : Int), .int .i64 (sI.stems : Int), .int .i64 (sI.fuel : Int), .int .i64 sI.width, .bool sI.asked] 52 (0, 0))) := by
   have h := HW.out.dD
   rw [hsI, hst] at h
   exact h
  by_cases hlt : i < p.length
  ·have hlt' : (i : Int) < (p.length : Int) := by omega
   have hj0 : (0 : Int) ≤ (i : Int) := by omega
   have HLT := Lib.hid hlt
   obtain ⟨d, hd⟩ := get_of hlt
   have HNX : Hid (penL s0 (p.take (i + 1)) = sI.knot d.1 d.2.1 d.2.2) := by unfold Hid; rw [take_next hd, hsI]
   obtain ⟨k0, k1, k2⟩ := path_cell HW.out.path hd
   have hw1 : wrap64 ((i : Int) + 1) = ((i + 1 : Nat) : Int) := by have := HPL.out; unfold wrap64; omega
   have hba : Below wr.heap.size wr (wr.alloc (.cells #[.int .i64 d.1, .int .i64 d.2.1, .int .i64 d.2.2] 112)) := bel_al _ _
   have DC := blk_below HD2.out hba
   have HDA := Lib.hid DC
   obtain ⟨dc0, dc1, dc2, dc3, dc4, dc5, dc6, dc7, dc8⟩ := blk9 DC
   have HSP := step_dK B none 0 oa oc vsI sI d.1 d.2.1 d.2.2 (wr.alloc (.cells #[.int .i64 d.1, .int .i64 d.2.1, .int .i64 d.2.2] 112)) (by have h := HW.out.outw; rw [hsI] at h; exact h.below hba) (Nat.le_trans HB.out (Nat.le_trans HW.out.le hba.size)) (by have h := HW.out.pf; rw [hsI] at h; exact h) (by have h := HW.out.f0; rw [hsI] at h; exact h)
   have HPK : Hid (PenFit (sI.knot d.1 d.2.1 d.2.2)) := by have h := HW.out.pf; rw [hsI] at h; exact h.knot _ _ _
   have HSK : Hid ((sI.knot d.1 d.2.1 d.2.2).stack = []) := by have h := HW.out.st; rw [hsI] at h; exact (knot_stack _ _ _ _).trans h
   rw [hst] at HSP
   have HS := Lib.hid HSP
   have HBA := Lib.hid hba
   have HDX := Lib.hid (blk_below HW.out.dE hba)
   have HPX := Lib.hid (own_below HW.out.path hba)
   have HXA : Hid (w.heap.size < (wr.alloc (.cells #[.int .i64 d.1, .int .i64 d.2.1, .int .i64 d.2.2] 112)).heap.size) := blk_lt DC
   have HXE : Hid (E < (wr.alloc (.cells #[.int .i64 d.1, .int .i64 d.2.1, .int .i64 d.2.2] 112)).heap.size) := blk_lt HDX.out
   clear hlt hd DC hba hst hsI HSP HD2
   go_wp2_with fail
   clear k0 k1 k2
   refine HS.out.mono ?_
   clear HS dc0 dc1 dc2 dc3 dc4 dc5 dc6 dc7 dc8
   generalize (wr.alloc (.cells #[.int .i64 d.1, .int .i64 d.2.1, .int .i64 d.2.2] 112)) = wa at *
   rintro e w1 ⟨hy, hn⟩
   by_cases hf : (sI.knot d.1 d.2.1 d.2.2).fault = 0
   ·obtain ⟨vs1, he, hz1, hb1, hk1⟩ := hy hf
    generalize sI.knot d.1 d.2.1 d.2.2 = s1 at *
    have hst1 : stV none 0 oa oc s1 = #[.slice none 0 0, .slice oa s1.out.length oc, .int .i64 s1.x, .int .i64 s1.y, .int .i64 (s1.knots : Int), .int .i64 (s1.stems : Int), .int .i64 (s1.fuel : Int), .int .i64 s1.width, .bool s1.asked] := by unfold stV; rw [HSK.out]; rfl
    rw [hst1] at he
    subst he
    have HST1 := Lib.hid hst1
    have HZ1 := Lib.hid hz1
    have HB1 := Lib.hid ((HW.out.bel.trans (HBA.out.mono (Nat.le_trans HB.out HW.out.le))).trans hb1)
    have HK1 := Lib.hid hk1
    have DC : w1.heap[w.heap.size]? = _ := HK1.out _ _ _ _ HXA.out (by decide) (by decide) HDA.out
    have EC : w1.heap[E]? = _ := HK1.out _ _ _ _ HXE.out (by decide) (by decide) HDX.out
    have HDC := Lib.hid DC
    have HEC := Lib.hid EC
    have HLE : Hid (w.heap.size ≤ w1.heap.size) := Nat.le_trans (Nat.le_of_lt HXA.out) hb1.size
    have HPY : Hid (w1.ownsRow w.heap.size 112 3 (.slice (some ⟨g, 0, none⟩) p.length cc) p.length (p.flatMap clS)) := own_keepD HPX.out HK1.out
    have hw1l : w.heap.size < w1.heap.size := Nat.lt_of_lt_of_le HXA.out hb1.size
    have HF1 := Lib.hid hf
    have HKEY0 : Hid (∀ w9, w9 = set9 w1 w.heap.size (.slice none 0 0) (.slice oa s1.out.length oc) (.int .i64 s1.x) (.int .i64 s1.y) (.int .i64 (s1.knots : Int)) (.int .i64 (s1.stems : Int)) (.int .i64 (s1.fuel : Int)) (.int .i64 s1.width) (.bool s1.asked) → DrawW B w.heap.size E g cc oa oc w p s0 (i + 1) vs1 w9) := by
     intro w9 hw9
     have hgr : w1.grownBy w9 (some w.heap.size) := by rw [hw9]; exact set9_grown _ _ _ _ _ _ _ _ _ _ _
     have hbk : w9.heap[w.heap.size]? = some (.cells #[.slice none 0 0, .slice oa s1.out.length oc, .int .i64 s1.x, .int .i64 s1.y, .int .i64 (s1.knots : Int), .int .i64 (s1.stems : Int), .int .i64 (s1.fuel : Int), .int .i64 s1.width, .bool s1.asked] 52 (0, 0)) := by rw [hw9]; exact set9_blk HDC.out _ _ _ _ _ _ _ _ _
     have hek := grown_other hgr (blk_lt HEC.out) (fun e => HAE.out.2 (Option.some.inj e).symm)
     have hty := typ_blk HDC.out
     clear hw9
     refine ⟨by rw [HNX.out, HST1.out]; exact hbk, hek.trans HEC.out, own_chg HPY.out hgr hty (by decide), by rw [HNX.out]; exact HZ1.out.chg hgr hty (by decide) (by decide), ?_, ?_, Nat.le_trans HLE.out hgr.size, by rw [HNX.out]; exact HPK.out, by rw [HNX.out]; exact HF1.out, by rw [HNX.out]; exact HSK.out⟩
     ·exact HB1.out.grown hgr (Nat.le_trans HB.out HLE.out) (fun k hk => by cases hk; exact HB.out)
     ·exact ((HW.out.keep.trans (keepD_bel HW.out.le HBA.out)).trans (HK1.out.mono (Nat.le_of_lt HXA.out))).trans (keepD_new hgr (Nat.le_refl _))
    have HKEY : Hid (∀ w9, w9 = (set9 w1 w.heap.size (.slice none 0 0) (.slice oa s1.out.length oc) (.int .i64 s1.x) (.int .i64 s1.y) (.int .i64 (s1.knots : Int)) (.int .i64 (s1.stems : Int)) (.int .i64 (s1.fuel : Int)) (.int .i64 s1.width) (.bool s1.asked)).alloc (.cells #[.slice none 0 0, .slice oa s1.out.length oc, .int .i64 s1.x, .int .i64 s1.y, .int .i64 (s1.knots : Int), .int .i64 (s1.stems : Int), .int .i64 (s1.fuel : Int), .int .i64 s1.width, .bool s1.asked] 52) → DrawW B w.heap.size E g cc oa oc w p s0 (i + 1) vs1 w9) := fun w9 hw9 => by rw [hw9]; exact (HKEY0.out _ rfl).up HB.out (bel_al _ _)
    obtain ⟨dc0, dc1, dc2, dc3, dc4, dc5, dc6, dc7, dc8⟩ := blk9 DC
    obtain ⟨df0, df1, df2, df3, df4, df5, df6, df7, df8⟩ := free9 DC
    clear hy hn hf hz1 hb1 hk1 DC EC hst1
    go_wp2_with fail
    exact ⟨⟨i + 1, vs1, by first | rw [hw1] | go_num, by have := HLT.out; unfold Hid; omega, HKEY.out _ rfl⟩, by (try rw [hw1]); have := HLT.out; simp only [intOf]; omega⟩
   ·obtain ⟨he, hb1⟩ := hn hf
    rw [HST.out] at he
    subst he
    have HFA : Hid ((penL s0 p).fault = (sI.knot d.1 d.2.1 d.2.2).fault) := by
     unfold Hid; rw [pen_stop (i := i + 1) s0 (by rw [HNX.out]; exact hf), HNX.out]
    have hb2 := bel_next hb1 (bel_al w1 (.cells #[.slice none 0 0, .slice oa sI.out.length oc, .int .i64 sI.x, .int .i64 sI.y, .int .i64 (sI.knots : Int), .int .i64 (sI.stems : Int), .int .i64 (sI.fuel : Int), .int .i64 sI.width, .bool sI.asked] 52))
    have DC := blk_below HDA.out hb2
    have EC := blk_below HDX.out hb2
    have HE9 := Lib.hid EC
    have HB2 := Lib.hid hb2
    have HB1 := Lib.hid hb1
    generalize (sI.knot d.1 d.2.1 d.2.2).fault = er at *
    have hz : (er == 0) = false := by simpa using hf
    obtain ⟨dc0, dc1, dc2, dc3, dc4, dc5, dc6, dc7, dc8⟩ := blk9 DC
    obtain ⟨ec0, ec1, ec2, ec3, ec4, ec5, ec6, ec7, ec8⟩ := blk9 EC
    obtain ⟨ef0, ef1, ef2, ef3, ef4, ef5, ef6, ef7, ef8⟩ := free9 EC
    have HNZ := Lib.hid hf
    clear hy hn hb1 hb2 DC EC hf
    go_wp2_with fail
    refine post_gen _ fun w9 hw9 => ?_
    have hgg := set9_grown (w1.alloc (.cells #[.slice none 0 0, .slice oa sI.out.length oc, .int .i64 sI.x, .int .i64 sI.y, .int .i64 (sI.knots : Int), .int .i64 (sI.stems : Int), .int .i64 (sI.fuel : Int), .int .i64 sI.width, .bool sI.asked] 52)) E (.slice none 0 0) (.slice oa sI.out.length oc) (.int .i64 sI.x) (.int .i64 sI.y) (.int .i64 (sI.knots : Int)) (.int .i64 (sI.stems : Int)) (.int .i64 (sI.fuel : Int)) (.int .i64 sI.width) (.bool sI.asked)
    rw [show set9 (w1.alloc (.cells #[.slice none 0 0, .slice oa sI.out.length oc, .int .i64 sI.x, .int .i64 sI.y, .int .i64 (sI.knots : Int), .int .i64 (sI.stems : Int), .int .i64 (sI.fuel : Int), .int .i64 sI.width, .bool sI.asked] 52)) E (.slice none 0 0) (.slice oa sI.out.length oc) (.int .i64 sI.x) (.int .i64 sI.y) (.int .i64 (sI.knots : Int)) (.int .i64 (sI.stems : Int)) (.int .i64 (sI.fuel : Int)) (.int .i64 sI.width) (.bool sI.asked) = w9 from hw9.symm] at hgg
    have hE9 : w9.heap[E]? = some (.cells #[.slice none 0 0, .slice oa sI.out.length oc, .int .i64 sI.x, .int .i64 sI.y, .int .i64 (sI.knots : Int), .int .i64 (sI.stems : Int), .int .i64 (sI.fuel : Int), .int .i64 sI.width, .bool sI.asked] 52 (0, 0)) := by rw [hw9]; exact set9_blk HE9.out _ _ _ _ _ _ _ _ _
    clear hw9
    obtain ⟨d0, d1, d2, d3, d4, d5, d6, d7, d8⟩ := blk9 hE9
    refine bodyPost_ret (v := .tuple #[.agg #[.slice none 0 0, .slice oa sI.out.length oc, .int .i64 sI.x, .int .i64 sI.y, .int .i64 (sI.knots : Int), .int .i64 (sI.stems : Int), .int .i64 (sI.fuel : Int), .int .i64 sI.width, .bool sI.asked], .int .i64 er]) ?_ rfl ?_
    ·simp [results, Tryz.results29, go_sem, d0, d1, d2, d3, d4, d5, d6, d7, d8]
    ·have hgb : Below B (w1.alloc (.cells #[.slice none 0 0, .slice oa sI.out.length oc, .int .i64 sI.x, .int .i64 sI.y, .int .i64 (sI.knots : Int), .int .i64 (sI.stems : Int), .int .i64 (sI.fuel : Int), .int .i64 sI.width, .bool sI.asked] 52)) w9 := (Below.refl B _).grown hgg (Nat.le_trans HB.out (Nat.le_trans (Nat.le_of_lt HXA.out) HB2.out.size)) (fun k hk => by cases hk; exact Nat.le_trans HB.out HAE.out.1)
     have hgk : KeepD w.heap.size (w1.alloc (.cells #[.slice none 0 0, .slice oa sI.out.length oc, .int .i64 sI.x, .int .i64 sI.y, .int .i64 (sI.knots : Int), .int .i64 (sI.stems : Int), .int .i64 (sI.fuel : Int), .int .i64 sI.width, .bool sI.asked] 52)) w9 := keepD_new hgg HAE.out.1
     rw [← HQQ.out]; exact oper_err2 (s2 := sI) (sa := none) (sc := 0) (oa := oa) (oc := oc) HFA.out HNZ.out ((HW.out.bel.trans (HBA.out.mono (Nat.le_trans HB.out HW.out.le))).trans ((HB2.out.mono (Nat.le_trans HB.out (Nat.le_of_lt HXA.out))).trans hgb)) (((HW.out.keep.trans (keepD_bel HW.out.le HBA.out)).trans (keepD_bel (Nat.le_of_lt HXA.out) HB2.out)).trans hgk) HST.out
  ·have hie : i = p.length := by have := HI.out; omega
   subst hie
   rw [List.take_length] at hsI
   have DC := HD2.out
   have EC := HW.out.dE
   have HSI := Lib.hid hsI
   have EC0 := Lib.hid EC
   clear hlt hsI
   obtain ⟨dc0, dc1, dc2, dc3, dc4, dc5, dc6, dc7, dc8⟩ := blk9 DC
   obtain ⟨ec0, ec1, ec2, ec3, ec4, ec5, ec6, ec7, ec8⟩ := blk9 EC
   obtain ⟨ef0, ef1, ef2, ef3, ef4, ef5, ef6, ef7, ef8⟩ := free9 EC
   clear DC EC
   go_wp2_with fail
   refine post_gen _ fun w9 hw9 => ?_
   have hgg := set9_grown wr E (.slice none 0 0) (.slice oa sI.out.length oc) (.int .i64 sI.x) (.int .i64 sI.y) (.int .i64 (sI.knots : Int)) (.int .i64 (sI.stems : Int)) (.int .i64 (sI.fuel : Int)) (.int .i64 sI.width) (.bool sI.asked)
   rw [show set9 wr E (.slice none 0 0) (.slice oa sI.out.length oc) (.int .i64 sI.x) (.int .i64 sI.y) (.int .i64 (sI.knots : Int)) (.int .i64 (sI.stems : Int)) (.int .i64 (sI.fuel : Int)) (.int .i64 sI.width) (.bool sI.asked) = w9 from hw9.symm] at hgg
   have hE9 : w9.heap[E]? = some (.cells #[.slice none 0 0, .slice oa sI.out.length oc, .int .i64 sI.x, .int .i64 sI.y, .int .i64 (sI.knots : Int), .int .i64 (sI.stems : Int), .int .i64 (sI.fuel : Int), .int .i64 sI.width, .bool sI.asked] 52 (0, 0)) := by rw [hw9]; exact set9_blk EC0.out _ _ _ _ _ _ _ _ _
   clear hw9
   obtain ⟨d0, d1, d2, d3, d4, d5, d6, d7, d8⟩ := blk9 hE9
   refine bodyPost_ret (v := .tuple #[.agg #[.slice none 0 0, .slice oa sI.out.length oc, .int .i64 sI.x, .int .i64 sI.y, .int .i64 (sI.knots : Int), .int .i64 (sI.stems : Int), .int .i64 (sI.fuel : Int), .int .i64 sI.width, .bool sI.asked], .int .i64 0]) ?_ rfl ?_
   ·simp [results, Tryz.results29, go_sem, d0, d1, d2, d3, d4, d5, d6, d7, d8]
   ·have hgb : Below B wr w9 := (Below.refl B _).grown hgg (Nat.le_trans HB.out HW.out.le) (fun k hk => by cases hk; exact Nat.le_trans HB.out HAE.out.1)
    have hgk : KeepD w.heap.size wr w9 := keepD_new hgg HAE.out.1
    rw [← HQQ.out]; exact oper_ok (by rw [HSI.out]) HST.out (by have h := HW.out.outw; rw [List.take_length, HSI.out] at h; exact h.chg hgg (typ_blk EC0.out) (by decide) (by decide)) (by have h := HW.out.f0; rw [List.take_length, HSI.out] at h; exact h) (by have h := HW.out.st; rw [List.take_length, HSI.out] at h; exact h) (HW.out.bel.trans hgb) (HW.out.keep.trans hgk)
end Go.Proofs.YtklenppldblbdaaGreat
