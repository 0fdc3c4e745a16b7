/-
  NARROWER THAN 'FOR EVERY INPUT', by the rows' own cells (each row's printed sentence says how): CmapNames: laid · CmapGroups: laid · CmapBounds: laid.
  DERIVED. THE GIVEN ROWS OF THIS SEAT. 3 by the template 'for every input the law returns true; each argument reads behind the call as it read before'; 0 by the template 'total and deterministic' (their statements: YtfbgddigedgpfaaDoorTotals.lean).
  GIVEN WITH THE SEED: the statements are not yours to turn. If you find one false, say at which input.
  Laid BY PROGRAM, IN A SANDBOX (cutbox-rows.mjs): the forced cells as the released guide's own fill.sh prints them over the translation 2e7ef7c735601c4d… (all of the seat's roots in one cut). By AI agents, Wed Nov 11 2026. No macro, syntax, notation, axiom, sorry.
-/
import Derived.Test.YtfbgddigedgpfaaDoorChecked
import GoSem.Claim
import GoSem.ClaimJoined
import GoSem.ClaimMapViews
import Derived.JoinedTies
import Derived.KernelRfl
namespace Go.Proofs.YtfbgddigedgpfaaDoor
/- THE CELL 'sum', in the pinned program and in every row, IS THE sha256 OF THE DUMP (.gsa) THAT YtfbgddigedgpfaaDoorProg.lean LOADS. Nothing in Lean hashes anything: it is a label: what it is worth is what the hold of that sum in a sandbox is worth. -/
noncomputable def Tryd.pinned : Pinned := { name := "ytfbgddigedgpfaadoor", sum := "2e7ef7c735601c4d88ba79c9ea57ab395e0966a29a2bf45ce17c6f0423aff239", checked := Tryd.checked }
namespace Rows
def none {H : Type} : Left H := { results := [], args := [] }

/- WHAT THE LISTED PACKAGE-LEVEL VARIABLES READ AS WHEN THE CALL BEGINS. Each datum BY PROGRAM (the guide's laid-datum.mjs) off the statement by which the dump's own 'gosem.cut.vars' lays the variable. In a bare row this is a premise. The card (YtfbgddigedgpfaaDoorCards.lean) ties it to the program's text. -/
def laid_serif_cmap_ranked {H : Type} : DataW H := .agg [.agg [.lit (.int .i64 3), .lit (.int .i64 10)], .agg [.lit (.int .i64 0), .lit (.int .i64 6)], .agg [.lit (.int .i64 0), .lit (.int .i64 4)], .agg [.lit (.int .i64 3), .lit (.int .i64 1)], .agg [.lit (.int .i64 0), .lit (.int .i64 3)], .agg [.lit (.int .i64 0), .lit (.int .i64 2)], .agg [.lit (.int .i64 0), .lit (.int .i64 1)], .agg [.lit (.int .i64 0), .lit (.int .i64 0)], .agg [.lit (.int .i64 1), .lit (.int .i64 0)]]

/-- 'seriflaw05.CmapNames': WHATEVER THE INPUT: true; the input reads as it did. -/
def cmapNamesSpec : ChangeSpec := { name := "cmapNames", fn := fun _ => fun
  | [] => { results := [.lit (.bool true)], args := [] }
  | _ => none }
def cmapNamesRow : OpenClaim := { program := "ytfbgddigedgpfaadoor", sum := "2e7ef7c735601c4d88ba79c9ea57ab395e0966a29a2bf45ce17c6f0423aff239", func := "serif/seriflaw05.CmapNames", spec := "cmapNames", unfollowed := true, recurses := true, named := ["serif/cmap.ranked"], apart := false, laid := [("serif/cmap.ranked", laid_serif_cmap_ranked)] }
def CmapNamesSaid : Prop := cmapNamesRow.holds Tryd.pinned (OpenSpec.ofChange cmapNamesSpec)

/-- ITS FALSE NEIGHBOUR: 'it returns false'. Refute it at one input. -/
def cmapNamesWrong : ChangeSpec := { name := "cmapNames", fn := fun _ => fun
  | [] => { results := [.lit (.bool false)], args := [] }
  | _ => none }
def CmapNamesWrongFalsely : Prop := cmapNamesRow.holds Tryd.pinned (OpenSpec.ofChange cmapNamesWrong)

/-- 'seriflaw05.CmapGroups': WHATEVER THE INPUT: true; the input reads as it did. -/
def cmapGroupsSpec : ChangeSpec := { name := "cmapGroups", fn := fun _ => fun
  | [d1, d2, d3] => { results := [.lit (.bool true)], args := [d1, d2, d3] }
  | _ => none }
def cmapGroupsRow : OpenClaim := { program := "ytfbgddigedgpfaadoor", sum := "2e7ef7c735601c4d88ba79c9ea57ab395e0966a29a2bf45ce17c6f0423aff239", func := "serif/seriflaw05.CmapGroups", spec := "cmapGroups", unfollowed := true, recurses := true, named := ["serif/cmap.ranked"], apart := false, laid := [("serif/cmap.ranked", laid_serif_cmap_ranked)] }
def CmapGroupsSaid : Prop := cmapGroupsRow.holds Tryd.pinned (OpenSpec.ofChange cmapGroupsSpec)

/-- ITS FALSE NEIGHBOUR: 'it returns false'. Refute it at one input. -/
def cmapGroupsWrong : ChangeSpec := { name := "cmapGroups", fn := fun _ => fun
  | [d1, d2, d3] => { results := [.lit (.bool false)], args := [d1, d2, d3] }
  | _ => none }
def CmapGroupsWrongFalsely : Prop := cmapGroupsRow.holds Tryd.pinned (OpenSpec.ofChange cmapGroupsWrong)

/-- 'seriflaw05.CmapBounds': WHATEVER THE INPUT: true; the input reads as it did. -/
def cmapBoundsSpec : ChangeSpec := { name := "cmapBounds", fn := fun _ => fun
  | [d1, d2, d3] => { results := [.lit (.bool true)], args := [d1, d2, d3] }
  | _ => none }
def cmapBoundsRow : OpenClaim := { program := "ytfbgddigedgpfaadoor", sum := "2e7ef7c735601c4d88ba79c9ea57ab395e0966a29a2bf45ce17c6f0423aff239", func := "serif/seriflaw05.CmapBounds", spec := "cmapBounds", unfollowed := true, recurses := true, named := ["serif/cmap.ranked"], apart := false, laid := [("serif/cmap.ranked", laid_serif_cmap_ranked)] }
def CmapBoundsSaid : Prop := cmapBoundsRow.holds Tryd.pinned (OpenSpec.ofChange cmapBoundsSpec)

/-- ITS FALSE NEIGHBOUR: 'it returns false'. Refute it at one input. -/
def cmapBoundsWrong : ChangeSpec := { name := "cmapBounds", fn := fun _ => fun
  | [d1, d2, d3] => { results := [.lit (.bool false)], args := [d1, d2, d3] }
  | _ => none }
def CmapBoundsWrongFalsely : Prop := cmapBoundsRow.holds Tryd.pinned (OpenSpec.ofChange cmapBoundsWrong)

/- THE SECOND FORM. 'bulk': how many values and letters a reading holds, each counted each time it is reached (what is shared counts as often as it is met; a slice's spare places count too). A statement '..UptoSaid' is the law's where the arguments, and the package variables that the reading takes, are together of bulk at most 1048576: NARROWER than '..Said'. Prove '..Said' where nothing that the law and all that it calls make is longer than what came in: it says more and counts as full. Else prove '..UptoSaid'. A law counts once. -/
mutual
def uptoBulk {H : Type} : DataW H → Nat
  | .lit (.string bytes) => bytes.length + 1
  | .lit _ => 1
  | .nil => 1
  | .ptr d => uptoBulk d + 1
  | .slice elems spare => uptoBulkAll elems + uptoBulkAll spare + 1
  | .agg parts => uptoBulkAll parts + 1
  | .iface _ d => uptoBulk d + 1
  | .map entries => uptoBulkEntries entries + 1
  | .held _ => 1
def uptoBulkAll {H : Type} : List (DataW H) → Nat
  | [] => 0
  | d :: r => uptoBulk d + uptoBulkAll r
def uptoBulkEntries {H : Type} : List (Lit × DataW H) → Nat
  | [] => 0
  | x :: r => uptoBulkEntry x + uptoBulkEntries r
def uptoBulkEntry {H : Type} : Lit × DataW H → Nat
  | (.string bytes, d) => bytes.length + uptoBulk d + 1
  | (_, d) => uptoBulk d + 1
 end
def uptoSmall : (H : Type) → List (DataW H) → Bool := fun _ ds => decide (uptoBulkAll ds ≤ 1048576)
def OpenSpec.upto (s : _root_.Go.ChangeSpec) : _root_.Go.OpenSpec := { _root_.Go.OpenSpec.ofChange s with cond := some uptoSmall }

/-- 'seriflaw05.CmapNames', WHERE WHAT IT READS IS OF BULK AT MOST 1048576: true; the input reads as it did. -/
def cmapNamesUptoRow : OpenClaim := { program := "ytfbgddigedgpfaadoor", sum := "2e7ef7c735601c4d88ba79c9ea57ab395e0966a29a2bf45ce17c6f0423aff239", func := "serif/seriflaw05.CmapNames", spec := "cmapNames", unfollowed := true, recurses := true, named := ["serif/cmap.ranked"], apart := false, laid := [("serif/cmap.ranked", laid_serif_cmap_ranked)], narrowed := true }
def CmapNamesUptoSaid : Prop := cmapNamesUptoRow.holds Tryd.pinned (OpenSpec.upto cmapNamesSpec)

/-- 'seriflaw05.CmapGroups', WHERE WHAT IT READS IS OF BULK AT MOST 1048576: true; the input reads as it did. -/
def cmapGroupsUptoRow : OpenClaim := { program := "ytfbgddigedgpfaadoor", sum := "2e7ef7c735601c4d88ba79c9ea57ab395e0966a29a2bf45ce17c6f0423aff239", func := "serif/seriflaw05.CmapGroups", spec := "cmapGroups", unfollowed := true, recurses := true, named := ["serif/cmap.ranked"], apart := false, laid := [("serif/cmap.ranked", laid_serif_cmap_ranked)], narrowed := true }
def CmapGroupsUptoSaid : Prop := cmapGroupsUptoRow.holds Tryd.pinned (OpenSpec.upto cmapGroupsSpec)

/-- 'seriflaw05.CmapBounds', WHERE WHAT IT READS IS OF BULK AT MOST 1048576: true; the input reads as it did. -/
def cmapBoundsUptoRow : OpenClaim := { program := "ytfbgddigedgpfaadoor", sum := "2e7ef7c735601c4d88ba79c9ea57ab395e0966a29a2bf45ce17c6f0423aff239", func := "serif/seriflaw05.CmapBounds", spec := "cmapBounds", unfollowed := true, recurses := true, named := ["serif/cmap.ranked"], apart := false, laid := [("serif/cmap.ranked", laid_serif_cmap_ranked)], narrowed := true }
def CmapBoundsUptoSaid : Prop := cmapBoundsUptoRow.holds Tryd.pinned (OpenSpec.upto cmapBoundsSpec)

end Rows
end Go.Proofs.YtfbgddigedgpfaaDoor
