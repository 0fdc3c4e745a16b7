/-
  What later texts import of the library; how many values a reading holds. No function of the program.
-/
import Derived.Test.YtnoadceeenioeaaRows
import Derived.WalkKit
import Derived.ProofKit
import Derived.Below
import Derived.WalkSmall
import Derived.IntWalk
import Derived.Lib.Hide
import Derived.Outline
import Derived.PlainAid
import Derived.WalkSpells
import Derived.Laws.BytesArg
import Derived.Lib.ConvBytes
import Derived.Laws.AppendOwn
import Derived.OwnWalk
import Derived.OpenShut
import Derived.SizedLaws
import Derived.ArgAppend
import Derived.Laws.IdiomCopy
namespace Go.Proofs.Ytnoadceeenioeaa
open Go.RowKit Go.PlainAid
set_option linter.unusedSimpArgs false
set_option linter.unusedVariables false

theorem bulk_part {H : Type} {d : DataW H} : ∀ {l : List (DataW H)} {j : Nat}, l[j]? = some d → Rows.uptoBulk d ≤ Rows.uptoBulkAll l
  | x :: r, 0, h => by
    simp at h; subst h; simp only [Rows.uptoBulkAll]; omega
  | x :: r, j + 1, h => by
    simp at h
    have := bulk_part h
    simp only [Rows.uptoBulkAll]; omega
  | [], _, h => by simp at h

theorem bulk_one {H : Type} (d : DataW H) : 0 < Rows.uptoBulk d := by
  match d with
  | .lit l => cases l <;> exact Nat.succ_pos _
  | .nil | .held _ | .ptr _ | .agg _ | .iface _ _ | .map _ | .slice _ _ => simp [Rows.uptoBulk]

theorem bulk_length {H : Type} : ∀ (l : List (DataW H)), l.length ≤ Rows.uptoBulkAll l
  | [] => by simp [Rows.uptoBulkAll]
  | x :: r => by
    have h1 := bulk_one x
    have h2 := bulk_length r
    simp only [Rows.uptoBulkAll, List.length_cons]; omega

end Go.Proofs.Ytnoadceeenioeaa
