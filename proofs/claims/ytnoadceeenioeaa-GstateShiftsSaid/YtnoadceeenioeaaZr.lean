/-
  What fix and moved of package gstate's reckoner answer.
-/
import Derived.Test.YtnoadceeenioeaaZq
import Derived.Test.YtnoadceeenioeaaFxLow
import Derived.Maps.RangeWalk
namespace Go.Proofs.Ytnoadceeenioeaa
open Go.RowKit Go.PlainAid
set_option linter.unusedSimpArgs false
set_option linter.unusedVariables false

/-- The reckoner's cell. -/
structure RkIn (w : World) (r : Nat) (f : Bool) : Prop where
  c : w.cell? ⟨r, 0, none⟩ = some (.bool f)
  z : w.frozen? ⟨r, 0, none⟩ = false
theorem RkIn.below {w w' : World} {r : Nat} {f : Bool} (h : RkIn w r f) (hb : Below w.heap.size w w') : RkIn w' r f := ⟨keepC hb h.c, keepF hb h.c h.z⟩
theorem RkIn.lt {w : World} {r : Nat} {f : Bool} (h : RkIn w r f) : r < w.heap.size := World.block_lt_of_cell? w ⟨r, 0, none⟩ h.c
theorem grown_refl (w : World) (r : Option Nat) : w.grownBy w r := ⟨rfl, rfl, rfl, Nat.le_refl _, fun _ _ _ => rfl⟩
theorem grown_bel {w w' : World} (h : Below w.heap.size w w') (r : Option Nat) : w.grownBy w' r := ⟨h.os, h.tape, h.output, h.size, fun i hi _ => h.block i hi⟩
theorem grown_set (w : World) (r o : Nat) (u : Value) : w.grownBy (w.setCell ⟨r, o, none⟩ u) (some r) := ⟨rfl, rfl, rfl, by simp [go_sem], fun i _ hi => Below.heap_setCell _ _ _ _ (fun e => hi (by rw [e]))⟩
theorem grown_next {w a b : World} {r : Option Nat} (h : w.grownBy a r) (k : a.grownBy b r) : w.grownBy b r := h.trans k

theorem fix_c (n e : Int) (r : Nat) (f : Bool) (w : World) (h : RkIn w r f) :
    Calls Try.prog 55 #[.pointer (some ⟨r, 0, none⟩), .int .i64 n, .int .i64 e] w fun en w' => en = .returned (.int .i64 n) ∧ RkIn w' r (f || decide (e ≠ 0)) ∧ w.grownBy w' (some r) := by
  have h1 := h.c
  have h2 := h.z
  have H := Lib.hid h
  clear h
  by_cases he : e = 0
  · subst he
    clear h1 h2
    go_enter Try.func55, Try.ntmps55
    go_wp2
    go_ret
    exact ⟨rfl, by simpa using H.out, grown_refl _ _⟩
  · go_enter Try.func55, Try.ntmps55
    go_wp2
    go_ret
    refine ⟨rfl, ⟨?_, ?_⟩, grown_set _ _ _ _⟩
    · simp [he, World.cell?_setCell_same _ _ _ (by rw [H.out.c])]
    · exact (frozen_set _ _ _ _).trans H.out.z

/-- What moved gives, and whether something was refused. -/
def mvS (g mo mc : Int) : Int × Bool := ((sumOr g (subOr mc mo).1).1, decide ((subOr mc mo).2 ≠ 0) || decide ((sumOr g (subOr mc mo).1).2 ≠ 0))
/-- What a reckoning leaves. -/
def RkPost (w : World) (r : Nat) (f : Bool) (R : Int × Bool) (en : Ending) (w' : World) : Prop := en = .returned (.int .i64 R.1) ∧ RkIn w' r (f || R.2) ∧ w.grownBy w' (some r)

set_option maxRecDepth 20000 in
set_option maxHeartbeats 1000000 in
theorem moved_c (g mo mc : Int) (t : Bool) (r : Nat) (f : Bool) (w : World) (h : RkIn w r f) :
    Calls Try.prog 54 #[.pointer (some ⟨r, 0, none⟩), .int .i64 g, .agg #[.int .i64 mo, .int .i64 mc, .bool t]] w (RkPost w r f (mvS g mo mc)) := by
  obtain ⟨R, HR⟩ : ∃ R, Hid (mvS g mo mc = R) := ⟨_, rfl⟩
  rw [HR.out]
  obtain ⟨s, e1, HS⟩ : ∃ s e, Hid (subOr mc mo = (s, e)) := ⟨_, _, rfl⟩
  obtain ⟨u, e2, HU⟩ : ∃ x e, Hid (sumOr g s = (x, e)) := ⟨_, _, rfl⟩
  have HE : Hid (R = (u, decide (e1 ≠ 0) || decide (e2 ≠ 0))) := by rw [Hid, ← HR.out, mvS, HS.out]; dsimp only; rw [HU.out]
  have hb := bel_alloc (Below.refl w.heap.size w) (.cells #[.int .i64 mo, .int .i64 mc, .bool t] 82)
  have H := Lib.hid (h.below hb)
  have HG := Lib.hid (grown_bel hb (some r))
  clear h hb
  go_enter Try.func54, Try.ntmps54
  go_wp2_with fail
  refine (sub_any mc mo s e1 _ HS).mono ?_
  rintro e w1 ⟨rfl, hb1⟩
  replace H := Lib.hid (H.out.below hb1)
  replace HG := Lib.hid (grown_next HG.out (grown_bel hb1 _))
  clear hb1
  go_wp2_with fail
  refine (fix_c s e1 r f _ H.out).mono ?_
  rintro e w2 ⟨rfl, h2, hg2⟩
  replace H := Lib.hid h2
  replace HG := Lib.hid (grown_next HG.out hg2)
  clear h2 hg2
  go_wp2_with fail
  refine (add_any g s u e2 _ HU).mono ?_
  rintro e w3 ⟨rfl, hb3⟩
  replace H := Lib.hid (H.out.below hb3)
  replace HG := Lib.hid (grown_next HG.out (grown_bel hb3 _))
  clear hb3
  go_wp2_with fail
  refine (fix_c u e2 r _ _ H.out).mono ?_
  rintro e w4 ⟨rfl, h2, hg2⟩
  replace H := Lib.hid h2
  replace HG := Lib.hid (grown_next HG.out hg2)
  clear h2 hg2
  go_wp2_with fail
  go_ret
  rw [HE.out]
  exact ⟨rfl, by have := H.out; rwa [Bool.or_assoc] at this, HG.out⟩

end Go.Proofs.Ytnoadceeenioeaa
