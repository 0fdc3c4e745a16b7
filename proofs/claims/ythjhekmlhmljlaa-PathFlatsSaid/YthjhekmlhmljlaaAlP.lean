/-
  The chapter's example, which every statement of layer 6 asks first: pathAlive answers true, in every world; nothing that was there is changed.
-/
import Derived.Test.YthjhekmlhmljlaaFlC
import Derived.Test.YthjhekmlhmljlaaSmA
namespace Go.Proofs.Ythjhekmlhmljlaa
open Go.RowKit Go.PlainAid
set_option linter.unusedSimpArgs false
set_option linter.unusedVariables false

/-- The example's outline and its polygon. -/
def alO : List (List Kn) := [[⟨0, 0, 1⟩, ⟨8, 8, 2⟩, ⟨16, 0, 1⟩]]
def alP : List (List Sp) := [[⟨0, 0⟩, ⟨8, 4⟩, ⟨16, 0⟩]]
theorem al_check : checkE alO = 0 := by kernel_rfl
theorem al_flat : flatL alO = some alP := by kernel_rfl
theorem al_long : Long alO := ⟨by decide, fun c hc => by simp [alO] at hc; subst hc; decide⟩
theorem al_longP : LongA alP := ⟨by decide, fun c hc => by simp [alP] at hc; subst hc; decide⟩
/-- One row in new memory. -/
theorem isO_lit {α : Type} {cl : α → List Value} {s : Nat} (hcl : ∀ x, (cl x).length = s) (w : World) (L : List α) (T TS : TypeId) (cs : Array Value) (hc : cs.toList = L.flatMap cl) :
    IsO cl ((w.alloc (.cells cs T)).alloc (.cells #[.slice (some ⟨w.heap.size, 0, none⟩) L.length L.length] TS)) (some ⟨w.heap.size + 1, 0, none⟩) [L] := by
  refine .inr ⟨w.heap.size + 1, 0, rfl, fun i c h => ?_⟩
  have hi : i = 0 := by have := (List.getElem?_eq_some_iff.1 h).1; simp at this; omega
  subst hi
  have e : L = c := by simpa using h
  subst e
  refine ⟨some ⟨w.heap.size, 0, none⟩, L.length, by simp [go_sem], Nat.le_refl _, ?_⟩
  refine .inr ⟨w.heap.size, 0, rfl, ?_⟩
  rw [← hc]
  exact (lies_new (w := w) (cs := cs) (T := T)).below ((Below.refl _ _).alloc (Nat.le_refl _) _)

set_option maxRecDepth 20000 in
set_option maxHeartbeats 1000000 in
theorem pathAlive_c (w : World) : Calls Try.prog 10 #[] w fun e w' => e = .returned (.bool true) ∧ Below w.heap.size w w' := by
  have HO := Lib.hid (isO_lit clK_length w [⟨0, 0, 1⟩, ⟨8, 8, 2⟩, ⟨16, 0, 1⟩] 37 35 #[.int .i64 0, .int .i64 0, .int .i64 1, .int .i64 8, .int .i64 8, .int .i64 2, .int .i64 16, .int .i64 0, .int .i64 1] rfl)
  have HB : Hid (Below w.heap.size w ((w.alloc (.cells #[.int .i64 0, .int .i64 0, .int .i64 1, .int .i64 8, .int .i64 8, .int .i64 2, .int .i64 16, .int .i64 0, .int .i64 1] 37)).alloc (.cells #[.slice (some ⟨w.heap.size, 0, none⟩) 3 3] 35))) := bel_alloc ((Below.refl _ _).alloc (Nat.le_refl _) _) _
  go_enter Try.func10, Try.ntmps10
  go_wp2_with fail
  have HC := Lib.hid (flat_run _ 1 alO _ HO.out al_long al_check)
  rw [al_flat] at HC
  refine HC.out.mono ?_
  rintro e w5 ⟨g, vs, N, rfl, hout, hge, hb5⟩
  have HB5 := Lib.hid (bel_next HB.out hb5)
  have HP := Lib.hid (hout.isO.below (bel_alloc ((Below.refl w5.heap.size w5).alloc (Nat.le_refl _) (.cells #[.int .i64 0, .int .i64 0, .int .i64 8, .int .i64 4, .int .i64 16, .int .i64 0] 47)) (.cells #[.slice (some ⟨w5.heap.size, 0, none⟩) 3 3] 45)))
  have HQ := Lib.hid (isO_lit clS_length w5 [⟨0, 0⟩, ⟨8, 4⟩, ⟨16, 0⟩] 47 45 #[.int .i64 0, .int .i64 0, .int .i64 8, .int .i64 4, .int .i64 16, .int .i64 0] rfl)
  clear hout hge hb5 HC HO HB
  simp only [alP, List.length_cons, List.length_nil, Nat.zero_add]
  go_wp2_with fail
  refine (sameSpots_c (some ⟨g, 0, none⟩) (some ⟨w5.heap.size + 1, 0, none⟩) 1 1 alP _ HP.out HQ.out al_longP).mono ?_
  rintro e w6 ⟨rfl, hb6⟩
  have HB6 := Lib.hid (bel_next (bel_alloc (bel_alloc HB5.out _) _) hb6)
  clear hb6 HP HQ
  go_wp2_with fail
  go_ret
  exact ⟨rfl, HB6.out⟩

end Go.Proofs.Ythjhekmlhmljlaa
