/-
  The walk of Type2Names: it answers true in every world, and changes nothing that was there.
-/
import Derived.Test.YtklenppldblbdaaQj
namespace Go.Proofs.Ytklenppldblbdaa.type2Names
open Go.RowKit Go.PlainAid
set_option linter.unusedSimpArgs false
set_option linter.unusedVariables false

set_option maxHeartbeats 400000 in
theorem walk (w : World) : Calls Try.prog 3 #[] w fun e w' => e = .returned (.bool true) ∧ Below w.heap.size w w' := by
  go_enter Try.func3, Try.ntmps3
  go_wp2_with fail
  refine (type2Alive_c _).mono ?_
  rintro e w1 ⟨rfl, hb1⟩
  go_wp2_with fail
  go_ret
  exact ⟨rfl, hb1⟩
end Go.Proofs.Ytklenppldblbdaa.type2Names
