/-
  The walk of CmapNames: it answers true in every world whose list of kinds is laid, and changes nothing that was there.
-/
import Derived.Test.YtfbgddigedgpfaaDoorCmS
namespace Go.Proofs.YtfbgddigedgpfaaDoor.cmapNames
open Go.RowKit Go.PlainAid
set_option linter.unusedSimpArgs false
set_option linter.unusedVariables false

set_option maxHeartbeats 400000 in
theorem walk (w : World) (hg : Rk w) : Calls Tryd.prog 3 #[] w fun e w' => e = .returned (.bool true) ∧ Below w.heap.size w w' := by
  go_enter Tryd.func3, Tryd.ntmps3
  go_wp2_with fail
  refine (alive_c _ hg).mono ?_
  rintro e w1 ⟨rfl, hb1⟩
  go_wp2_with fail
  go_ret
  exact ⟨rfl, hb1⟩
end Go.Proofs.YtfbgddigedgpfaaDoor.cmapNames
