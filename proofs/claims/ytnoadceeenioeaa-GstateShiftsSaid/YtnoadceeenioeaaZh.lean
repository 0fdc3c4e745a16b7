/-
  What set, touches, along of package gstate do.
-/
import Derived.Test.YtnoadceeenioeaaZg
namespace Go.Proofs.Ytnoadceeenioeaa
open Go.RowKit Go.PlainAid
set_option linter.unusedSimpArgs false
set_option linter.unusedVariables false

/-- The coordinate of the axis. -/
def axG (axis : Int) (p : Sp) : Int := if axis = 0 then p.x else p.y
def axS (axis : Int) (p : Sp) (v : Int) : Sp := if axis = 0 then ⟨v, p.y⟩ else ⟨p.x, v⟩
/-- Where it lies. -/
def axO (axis : Int) : Nat := if axis = 0 then 0 else 1

set_option maxRecDepth 20000 in
theorem along_c (p : Sp) (axis : Int) (w : World) : Calls Try.prog 50 #[.agg #[.int .i64 p.x, .int .i64 p.y], .int .i64 axis] w fun e w' => e = .returned (.int .i64 (axG axis p)) ∧ Below w.heap.size w w' := by
  have HB : Hid (Below w.heap.size w (w.alloc (.cells #[.int .i64 p.x, .int .i64 p.y] 38))) := bel_alloc (Below.refl _ _) _
  by_cases h : axis = 0
  · subst h
    go_enter Try.func50, Try.ntmps50
    go_wp2
    go_ret
    exact ⟨rfl, HB.out⟩
  · have HF : Hid (axG axis p = p.y) := if_neg h
    go_enter Try.func50, Try.ntmps50
    go_wp2
    go_ret
    exact ⟨by rw [HF.out]; rfl, HB.out⟩

set_option maxRecDepth 20000 in
theorem touches_c (a0 a1 a2 a3 a4 : Option Addr) (n0 n1 n2 n3 n4 c0 c1 c2 c3 c4 : Nat) (axis : Int) (w : World) (v : Value) (hv : v = if axis = 0 then .slice a2 n2 c2 else .slice a3 n3 c3) :
    Calls Try.prog 41 #[.agg #[.slice a0 n0 c0, .slice a1 n1 c1, .slice a2 n2 c2, .slice a3 n3 c3, .slice a4 n4 c4], .int .i64 axis] w fun e w' => e = .returned v ∧ Below w.heap.size w w' := by
  have HB : Hid (Below w.heap.size w (w.alloc (.cells #[.slice a0 n0 c0, .slice a1 n1 c1, .slice a2 n2 c2, .slice a3 n3 c3, .slice a4 n4 c4] 31))) := bel_alloc (Below.refl _ _) _
  subst hv
  by_cases h : axis = 0
  · subst h
    go_enter Try.func41, Try.ntmps41
    go_wp2
    go_ret
    exact ⟨rfl, HB.out⟩
  · rw [if_neg h]
    go_enter Try.func41, Try.ntmps41
    go_wp2
    go_ret
    exact ⟨rfl, HB.out⟩

set_option maxRecDepth 20000 in
set_option maxHeartbeats 1000000 in
theorem set_c (a0 a2 a3 a4 : Option Addr) (n0 n1 n2 n3 n4 c0 c1 c2 c3 c4 g p : Nat) (axis q : Int) (u : Value) (w : World) (hp : p < n1) (hc : w.cell? ⟨g, p * 2 + axO axis, none⟩ = some u) (hf : w.frozen? ⟨g, p * 2 + axO axis, none⟩ = false) :
    Calls Try.prog 40 #[.agg #[.slice a0 n0 c0, .slice (some ⟨g, 0, none⟩) n1 c1, .slice a2 n2 c2, .slice a3 n3 c3, .slice a4 n4 c4], .int .i64 axis, .int .i64 (p : Int), .int .i64 q] w fun e w' => e = .returned (.tuple #[]) ∧
      w' = (w.alloc (.cells #[.slice a0 n0 c0, .slice (some ⟨g, 0, none⟩) n1 c1, .slice a2 n2 c2, .slice a3 n3 c3, .slice a4 n4 c4] 31)).setCell ⟨g, p * 2 + axO axis, none⟩ (.int .i64 q) := by
  have hp1 : (p : Int) < (n1 : Int) := by omega
  have hp0 : (0 : Int) ≤ (p : Int) := by omega
  have hb := bel_alloc (Below.refl w.heap.size w) (.cells #[.slice a0 n0 c0, .slice (some ⟨g, 0, none⟩) n1 c1, .slice a2 n2 c2, .slice a3 n3 c3, .slice a4 n4 c4] 31)
  have hc1 := keepC hb hc
  have hf1 := keepF hb hc hf
  clear hb hc hf
  by_cases h : axis = 0
  · subst h
    simp only [axO, if_pos, Nat.add_zero] at hc1 hf1 ⊢
    go_enter Try.func40, Try.ntmps40
    go_wp2
    first
      | (refine bodyPost_ret (v := .tuple #[]) (by simp [results, Try.results40, go_sem]) rfl ?_; exact ⟨rfl, rfl⟩)
      | (go_end0; exact ⟨rfl, rfl⟩)
  · simp only [axO, if_neg h] at hc1 hf1 ⊢
    go_enter Try.func40, Try.ntmps40
    go_wp2
    first
      | (refine bodyPost_ret (v := .tuple #[]) (by simp [results, Try.results40, go_sem]) rfl ?_; exact ⟨rfl, rfl⟩)
      | (go_end0; exact ⟨rfl, rfl⟩)

end Go.Proofs.Ytnoadceeenioeaa
