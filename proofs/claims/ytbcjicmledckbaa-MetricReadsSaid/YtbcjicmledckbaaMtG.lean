/-
  The deferred function of metric's Read: it takes a panic back and lays the error, or finds none.
-/
import Derived.Test.YtbcjicmledckbaaMtF
import Derived.Defers
import Derived.Recover
import Derived.Laws.Pointers
namespace Go.Proofs.Ytbcjicmledckbaa
open Go.RowKit Go.PlainAid
set_option linter.unusedSimpArgs false
set_option linter.unusedVariables false

/-- The cells of metrics that are none. -/
def noneCells : List Value := [.int .i64 0, .int .i64 0, .int .i64 0, .int .i64 0, .int .i64 0, .int .i64 0, .slice none 0 0, .slice none 0 0, .slice none 0 0]
/-- Where Read's results lie: what they hold, and that they may be written. -/
structure ResAt (w : World) (gm : Nat) (vs : List Value) (ev : Value) : Prop where
  len : vs.length = 9
  c : ∀ i, i < 9 → w.cell? ⟨gm, i, none⟩ = vs[i]?
  f : ∀ i, i < 9 → w.frozen? ⟨gm, i, none⟩ = false
  e : w.cell? ⟨gm + 1, 0, none⟩ = some ev
  ef : w.frozen? ⟨gm + 1, 0, none⟩ = false
theorem ResAt.kept {w w' : World} {gm B : Nat} {vs : List Value} {ev : Value} (h : ResAt w gm vs ev) (hb : Below B w w') (hB : gm + 1 < B) : ResAt w' gm vs ev :=
  ⟨h.len, fun i hi => by rw [hb.cell (by show gm < B; omega), h.c i hi], fun i hi => by rw [hb.frozen (by show gm < B; omega), h.f i hi], by rw [hb.cell (by exact hB), h.e], by rw [hb.frozen (by exact hB), h.ef]⟩

theorem ResAt.set {w : World} {gm : Nat} {vs : List Value} {ev : Value} (h : ResAt w gm vs ev) (i : Nat) (hi : i < 9) (u : Value) : ResAt (w.setCell ⟨gm, i, none⟩ u) gm (vs.set i u) ev := by
  refine ⟨by simp [h.len], ?_, ?_, ?_, ?_⟩
  · intro j hj
    by_cases e : i = j
    · subst e
      have hz : w.cell? ⟨gm, i, none⟩ = some (vs[i]'(by rw [h.len]; exact hi)) := by rw [h.c i hi]; simp [h.len, hi]
      rw [World.cell?_setCell_same _ _ _ hz]
      simp [h.len, hi]
    · rw [World.cell?_setCell_other _ _ _ _ (by simp [e]), h.c j hj]
      simp [e]
  · intro j hj; simpa using h.f j hj
  · rw [World.cell?_setCell_other _ _ _ _ (by simp)]; exact h.e
  · simpa using h.ef
theorem ResAt.setE {w : World} {gm : Nat} {vs : List Value} {ev : Value} (h : ResAt w gm vs ev) (u : Value) : ResAt (w.setCell ⟨gm + 1, 0, none⟩ u) gm vs u := by
  refine ⟨h.len, ?_, ?_, ?_, ?_⟩
  · intro j hj; rw [World.cell?_setCell_other _ _ _ _ (by simp)]; exact h.c j hj
  · intro j hj; simpa using h.f j hj
  · exact World.cell?_setCell_same _ _ _ h.e
  · simpa using h.ef
theorem ResAt.drew {w : World} {gm : Nat} {vs : List Value} {ev : Value} (h : ResAt w gm vs ev) : ResAt w.drew gm vs ev := ⟨h.len, h.c, h.f, h.e, h.ef⟩
theorem res_put {w : World} {gm : Nat} {vs : List Value} {ev : Value} (h : ResAt w gm vs ev) (u0 u1 u2 u3 u4 u5 u6 u7 u8 un : Value) :
    ResAt ((((((((((w.setCell ⟨gm, 0, none⟩ u0).setCell ⟨gm, 1, none⟩ u1).setCell ⟨gm, 2, none⟩ u2).setCell ⟨gm, 3, none⟩ u3).setCell ⟨gm, 4, none⟩ u4).setCell ⟨gm, 5, none⟩ u5).setCell ⟨gm, 6, none⟩ u6).setCell ⟨gm, 7, none⟩ u7).setCell ⟨gm, 8, none⟩ u8).setCell ⟨gm + 1, 0, none⟩ un) gm [u0, u1, u2, u3, u4, u5, u6, u7, u8] un ∧ Below gm w ((((((((((w.setCell ⟨gm, 0, none⟩ u0).setCell ⟨gm, 1, none⟩ u1).setCell ⟨gm, 2, none⟩ u2).setCell ⟨gm, 3, none⟩ u3).setCell ⟨gm, 4, none⟩ u4).setCell ⟨gm, 5, none⟩ u5).setCell ⟨gm, 6, none⟩ u6).setCell ⟨gm, 7, none⟩ u7).setCell ⟨gm, 8, none⟩ u8).setCell ⟨gm + 1, 0, none⟩ un) := by
  constructor
  · have h9 := (((((((((h.set 0 (by omega) u0).set 1 (by omega) u1).set 2 (by omega) u2).set 3 (by omega) u3).set 4 (by omega) u4).set 5 (by omega) u5).set 6 (by omega) u6).set 7 (by omega) u7).set 8 (by omega) u8).setE un
    have hl := h.len
    match vs, hl with
    | [a0, a1, a2, a3, a4, a5, a6, a7, a8], _ => exact h9
  · have hb : ∀ (x : World) (i : Nat) (u : Value), Below gm w x → Below gm w (x.setCell ⟨gm, i, none⟩ u) := fun x i u hx => hx.setCell (p := ⟨gm, i, none⟩) (Nat.le_refl _) u
    exact (hb _ _ _ (hb _ _ _ (hb _ _ _ (hb _ _ _ (hb _ _ _ (hb _ _ _ (hb _ _ _ (hb _ _ _ (hb _ _ _ (Below.refl _ _)))))))))).setCell (p := ⟨gm + 1, 0, none⟩) (by show gm ≤ gm + 1; omega) _

theorem res_other {w : World} {gm g : Nat} (h1 : g ≠ gm) (h2 : g ≠ gm + 1) (u0 u1 u2 u3 u4 u5 u6 u7 u8 un : Value) :
    ((((((((((w.setCell ⟨gm, 0, none⟩ u0).setCell ⟨gm, 1, none⟩ u1).setCell ⟨gm, 2, none⟩ u2).setCell ⟨gm, 3, none⟩ u3).setCell ⟨gm, 4, none⟩ u4).setCell ⟨gm, 5, none⟩ u5).setCell ⟨gm, 6, none⟩ u6).setCell ⟨gm, 7, none⟩ u7).setCell ⟨gm, 8, none⟩ u8).setCell ⟨gm + 1, 0, none⟩ un).heap[g]? = w.heap[g]? := by
  have hb : ∀ (x : World) (i : Nat) (u : Value), (x.setCell ⟨gm, i, none⟩ u).heap[g]? = x.heap[g]? := fun x i u => Below.heap_setCell _ _ _ _ h1
  rw [Below.heap_setCell _ _ _ _ h2, hb, hb, hb, hb, hb, hb, hb, hb, hb]

theorem run_assert_errno (n : Int) (u : World) : (Instr.typeAssert (.iface 30 (.int .i64 n)) 20 30 false).run Try.prog u = .ok (.int .i64 n) u := by
  simp [Instr.typeAssert, run_underlying Try.underlying30, go_sem, Result.andThen]

set_option maxHeartbeats 1000000 in
theorem catch_panicking (gm : Nat) (n : Int) (older : List PanicEntry) (w : World) (ev : Value) (h : ResAt w gm noneCells ev) :
    CallsD Try.prog 34 #[.pointer (some ⟨gm, 0, none⟩), .pointer (some ⟨gm + 1, 0, none⟩)] (.panicking ({ v := .iface 30 (.int .i64 n), recovered := false } :: older)) w fun e u' w' =>
      e = .returned (.tuple #[]) ∧ u' = .panicking ({ v := .iface 30 (.int .i64 n), recovered := true } :: older) ∧ ResAt w' gm noneCells (.int .i64 n) ∧ Below gm w w' := by
  refine callsD_of_wpS Try.func34 rfl fun c₀ cs hu => ?_
  apply wpS_seq
  apply wpS_region
  simp [wpOpsS, go_sem, recoverD, hu, Try.ntmps34, Exit.thenS]
  refine wpS_of_wp ?_
  simp [Array.replicate, List.replicate]
  have h0 := h.c 0 (by omega)
  have h1 := h.c 1 (by omega)
  have h2 := h.c 2 (by omega)
  have h3 := h.c 3 (by omega)
  have h4 := h.c 4 (by omega)
  have h5 := h.c 5 (by omega)
  have h6 := h.c 6 (by omega)
  have h7 := h.c 7 (by omega)
  have h8 := h.c 8 (by omega)
  have f0 := h.f 0 (by omega)
  have f1 := h.f 1 (by omega)
  have f2 := h.f 2 (by omega)
  have f3 := h.f 3 (by omega)
  have f4 := h.f 4 (by omega)
  have f5 := h.f 5 (by omega)
  have f6 := h.f 6 (by omega)
  have f7 := h.f 7 (by omega)
  have f8 := h.f 8 (by omega)
  have he := h.e
  have hef := h.ef
  simp [noneCells] at h0 h1 h2 h3 h4 h5 h6 h7 h8
  have hta := run_assert_errno n
  go_wp2_with fail
  go_region
  go_wp2_with fail
  have HP := res_put h (.int .i64 0) (.int .i64 0) (.int .i64 0) (.int .i64 0) (.int .i64 0) (.int .i64 0) (.slice none 0 0) (.slice none 0 0) (.slice none 0 0) (.int .i64 n)
  simp [bodyPostS, results, Try.results34]
  exact ⟨HP.1.drew, HP.2.drew⟩

theorem catch_idle (gm : Nat) (w : World) :
    CallsD Try.prog 34 #[.pointer (some ⟨gm, 0, none⟩), .pointer (some ⟨gm + 1, 0, none⟩)] .returning w fun e u' w' => e = .returned (.tuple #[]) ∧ u' = .returning ∧ w' = w := by
  refine callsD_of_wpS Try.func34 rfl fun c₀ cs hu => ?_
  apply wpS_seq
  apply wpS_region
  simp [wpOpsS, go_sem, recoverD, hu, Try.ntmps34, Exit.thenS]
  refine wpS_of_wp ?_
  simp [Array.replicate, List.replicate]
  go_wp2_with fail
  cases c₀
  simp_all [bodyPostS, results, Try.results34]

end Go.Proofs.Ytbcjicmledckbaa
