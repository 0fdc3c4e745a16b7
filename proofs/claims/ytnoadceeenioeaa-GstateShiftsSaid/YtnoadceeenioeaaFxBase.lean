/-
  What a FIX is, and rows of them. No function of the program.
-/
import Derived.Test.YtnoadceeenioeaaRows
import Derived.WalkKit
import Derived.ProofKit
import Derived.Below
import Derived.WalkSmall
import Derived.IntWalk
import Derived.Lib.Hide
import Derived.Outline
namespace Go.Proofs.Ytnoadceeenioeaa
open Go.RowKit

/-- Is n a FIX? -/
def fixB (n : Int) : Bool := decide (-2147483647 ≤ n ∧ n ≤ 2147483647)
/-- Is every one of them? -/
def fixAll : List Int → Bool
  | [] => true
  | n :: r => fixB n && fixAll r
theorem fixAll_snoc (l : List Int) (n : Int) : fixAll (l ++ [n]) = (fixAll l && fixB n) := by
  induction l with
  | nil => simp [fixAll]
  | cons a l ih => simp [fixAll, ih, Bool.and_assoc]

theorem fixAll_mid (l : List Int) (n : Int) (r : List Int) (h : fixAll (l ++ n :: r) = true) : fixB n = true := by
  induction l with
  | nil => simp [fixAll] at h; exact h.1
  | cons a l ih => simp [fixAll] at h; exact ih h.2
theorem fixAll_no {zs : List Int} {n : Int} (h : fixAll zs = true → fixB n = true) (hn : fixB n = false) : fixAll zs = false := by
  cases e : fixAll zs
  · rfl
  · rw [h e] at hn; cases hn

end Go.Proofs.Ytnoadceeenioeaa
