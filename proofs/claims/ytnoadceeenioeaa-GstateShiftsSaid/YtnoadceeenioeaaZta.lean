/-
  What follow of package gstate's reckoner answers.
-/
import Derived.Test.YtnoadceeenioeaaZr
import Derived.Deep.RegionHeld3
namespace Go.Proofs.Ytnoadceeenioeaa
open Go.RowKit Go.PlainAid
set_option linter.unusedSimpArgs false
set_option linter.unusedVariables false

/-- A point along one axis. -/
structure Mk where
  o : Int
  c : Int
  t : Bool
def lowM (a b : Mk) : Mk := if b.o < a.o then b else a
def highM (a b : Mk) : Mk := if b.o < a.o then a else b
/-- Between the two. -/
def midS (g : Int) (l h : Mk) : Int × Bool :=
  ((sumOr l.c (mulDiv (subOr g l.o).1 (subOr h.c l.c).1 (subOr h.o l.o).1).1).1,
   decide ((subOr g l.o).2 ≠ 0) || (decide ((subOr h.o l.o).2 ≠ 0) || (decide ((subOr h.c l.c).2 ≠ 0) || (decide ((mulDiv (subOr g l.o).1 (subOr h.c l.c).1 (subOr h.o l.o).1).2 ≠ 0) || decide ((sumOr l.c (mulDiv (subOr g l.o).1 (subOr h.c l.c).1 (subOr h.o l.o).1).1).2 ≠ 0)))))
def flH (g : Int) (l h : Mk) : Int × Bool := if g ≤ l.o then mvS g l.o l.c else if h.o ≤ g then mvS g h.o h.c else midS g l h
/-- Where a point goes that lies between a and b. -/
def flS (g : Int) (a b : Mk) : Int × Bool := flH g (lowM a b) (highM a b)

theorem subOr_bd (a b : Int) : -2147483647 ≤ (subOr a b).1 ∧ (subOr a b).1 ≤ 2147483647 := by
  unfold subOr
  split
  · rename_i h
    simp only [Bool.and_eq_true] at h
    exact fixB_true h.2
  · decide

/-- The two points' cells. -/
structure FoW (w V : World) (r : Nat) (f : Bool) (G9 G10 : Nat) (l h : Mk) : Prop where
  a0 : V.cell? ⟨G9, 0, none⟩ = some (.int .i64 l.o)
  a1 : V.cell? ⟨G9, 1, none⟩ = some (.int .i64 l.c)
  a2 : V.cell? ⟨G9, 2, none⟩ = some (.bool l.t)
  b0 : V.cell? ⟨G10, 0, none⟩ = some (.int .i64 h.o)
  b1 : V.cell? ⟨G10, 1, none⟩ = some (.int .i64 h.c)
  b2 : V.cell? ⟨G10, 2, none⟩ = some (.bool h.t)
  rk : RkIn V r f
  gr : w.grownBy V (some r)
  n9 : G9 ≠ r
  n10 : G10 ≠ r
theorem FoW.below {w V V' : World} {r : Nat} {f : Bool} {G9 G10 : Nat} {l h : Mk} (H : FoW w V r f G9 G10 l h) (hb : Below V.heap.size V V') : FoW w V' r f G9 G10 l h :=
  ⟨keepC hb H.a0, keepC hb H.a1, keepC hb H.a2, keepC hb H.b0, keepC hb H.b1, keepC hb H.b2, H.rk.below hb, grown_next H.gr (grown_bel hb _), H.n9, H.n10⟩
theorem keepG {w w' : World} {r : Option Nat} {p : Addr} {v : Value} (hb : w.grownBy w' r) (hc : w.cell? p = some v) (hr : r ≠ some p.block) : w'.cell? p = some v := by
  have h1 := hb.block p.block (World.block_lt_of_cell? w _ hc) (Ne.symm hr)
  unfold World.cell? at hc ⊢
  rw [h1]; exact hc
theorem FoW.fix {w V V' : World} {r : Nat} {f f' : Bool} {G9 G10 : Nat} {l h : Mk} (H : FoW w V r f G9 G10 l h) (hr : RkIn V' r f') (hg : V.grownBy V' (some r)) : FoW w V' r f' G9 G10 l h :=
  ⟨keepG hg H.a0 (fun e => H.n9 (Option.some.inj e).symm), keepG hg H.a1 (fun e => H.n9 (Option.some.inj e).symm), keepG hg H.a2 (fun e => H.n9 (Option.some.inj e).symm), keepG hg H.b0 (fun e => H.n10 (Option.some.inj e).symm), keepG hg H.b1 (fun e => H.n10 (Option.some.inj e).symm), keepG hg H.b2 (fun e => H.n10 (Option.some.inj e).symm), hr, grown_next H.gr hg, H.n9, H.n10⟩

end Go.Proofs.Ytnoadceeenioeaa
