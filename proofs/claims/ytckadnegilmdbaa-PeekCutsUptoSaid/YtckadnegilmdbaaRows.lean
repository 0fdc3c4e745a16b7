/-
  No cell of these rows narrows 'for every input' (looked for: loops, veiled, ifaces, maps, wideKeys, modest, calm, conditions, laid).
  DERIVED. THE GIVEN ROWS OF THIS SEAT. 3 by the template 'for every input the law returns true; each argument reads behind the call as it read before'; 0 by the template 'total and deterministic' (their statements: YtckadnegilmdbaaTotals.lean).
  GIVEN WITH THE SEED: the statements are not yours to turn. If you find one false, say at which input.
  Laid BY PROGRAM, IN A SANDBOX (cutbox-rows.mjs): the forced cells as the released guide's own fill.sh prints them over the translation 6461ca16f0ec3b88… (all of the seat's roots in one cut). By AI agents, Wed Nov 11 2026. No macro, syntax, notation, axiom, sorry.
-/
import Derived.Test.YtckadnegilmdbaaChecked
import GoSem.Claim
import GoSem.ClaimJoined
import GoSem.ClaimMapViews
import Derived.JoinedTies
import Derived.KernelRfl
namespace Go.Proofs.Ytckadnegilmdbaa
/- THE CELL 'sum', in the pinned program and in every row, IS THE sha256 OF THE DUMP (.gsa) THAT YtckadnegilmdbaaProg.lean LOADS. Nothing in Lean hashes anything: it is a label: what it is worth is what the hold of that sum in a sandbox is worth. -/
noncomputable def Try.pinned : Pinned := { name := "ytckadnegilmdbaa", sum := "6461ca16f0ec3b88a3d436c833a197126999fe4e250b75a35cf5994ccb9a1f86", checked := Try.checked }
namespace Rows
def none {H : Type} : Left H := { results := [], args := [] }

/-- 'seriflaw02.PeekNumbers': WHATEVER THE INPUT: true; the input reads as it did. -/
def peekNumbersSpec : ChangeSpec := { name := "peekNumbers", fn := fun _ => fun
  | [d1, d2] => { results := [.lit (.bool true)], args := [d1, d2] }
  | _ => none }
def peekNumbersRow : OpenClaim := { program := "ytckadnegilmdbaa", sum := "6461ca16f0ec3b88a3d436c833a197126999fe4e250b75a35cf5994ccb9a1f86", func := "serif/seriflaw02.PeekNumbers", spec := "peekNumbers", apart := false }
def PeekNumbersSaid : Prop := peekNumbersRow.holds Try.pinned (OpenSpec.ofChange peekNumbersSpec)

/-- ITS FALSE NEIGHBOUR: 'it returns false'. Refute it at one input. -/
def peekNumbersWrong : ChangeSpec := { name := "peekNumbers", fn := fun _ => fun
  | [d1, d2] => { results := [.lit (.bool false)], args := [d1, d2] }
  | _ => none }
def PeekNumbersWrongFalsely : Prop := peekNumbersRow.holds Try.pinned (OpenSpec.ofChange peekNumbersWrong)

/-- 'seriflaw02.PeekCuts': WHATEVER THE INPUT: true; the input reads as it did. -/
def peekCutsSpec : ChangeSpec := { name := "peekCuts", fn := fun _ => fun
  | [d1, d2, d3] => { results := [.lit (.bool true)], args := [d1, d2, d3] }
  | _ => none }
def peekCutsRow : OpenClaim := { program := "ytckadnegilmdbaa", sum := "6461ca16f0ec3b88a3d436c833a197126999fe4e250b75a35cf5994ccb9a1f86", func := "serif/seriflaw02.PeekCuts", spec := "peekCuts", apart := false }
def PeekCutsSaid : Prop := peekCutsRow.holds Try.pinned (OpenSpec.ofChange peekCutsSpec)

/-- ITS FALSE NEIGHBOUR: 'it returns false'. Refute it at one input. -/
def peekCutsWrong : ChangeSpec := { name := "peekCuts", fn := fun _ => fun
  | [d1, d2, d3] => { results := [.lit (.bool false)], args := [d1, d2, d3] }
  | _ => none }
def PeekCutsWrongFalsely : Prop := peekCutsRow.holds Try.pinned (OpenSpec.ofChange peekCutsWrong)

/-- 'seriflaw02.PeekKeeps': WHATEVER THE INPUT: true; the input reads as it did. -/
def peekKeepsSpec : ChangeSpec := { name := "peekKeeps", fn := fun _ => fun
  | [d] => { results := [.lit (.bool true)], args := [d] }
  | _ => none }
def peekKeepsRow : OpenClaim := { program := "ytckadnegilmdbaa", sum := "6461ca16f0ec3b88a3d436c833a197126999fe4e250b75a35cf5994ccb9a1f86", func := "serif/seriflaw02.PeekKeeps", spec := "peekKeeps", apart := false }
def PeekKeepsSaid : Prop := peekKeepsRow.holds Try.pinned (OpenSpec.ofChange peekKeepsSpec)

/-- ITS FALSE NEIGHBOUR: 'it returns false'. Refute it at one input. -/
def peekKeepsWrong : ChangeSpec := { name := "peekKeeps", fn := fun _ => fun
  | [d] => { results := [.lit (.bool false)], args := [d] }
  | _ => none }
def PeekKeepsWrongFalsely : Prop := peekKeepsRow.holds Try.pinned (OpenSpec.ofChange peekKeepsWrong)

/- THE SECOND FORM. 'bulk': how many values and letters a reading holds, each counted each time it is reached (what is shared counts as often as it is met; a slice's spare places count too). A statement '..UptoSaid' is the law's where the arguments, and the package variables that the reading takes, are together of bulk at most 1048576: NARROWER than '..Said'. Prove '..Said' where nothing that the law and all that it calls make is longer than what came in: it says more and counts as full. Else prove '..UptoSaid'. A law counts once. -/
mutual
def uptoBulk {H : Type} : DataW H → Nat
  | .lit (.string bytes) => bytes.length + 1
  | .lit _ => 1
  | .nil => 1
  | .ptr d => uptoBulk d + 1
  | .slice elems spare => uptoBulkAll elems + uptoBulkAll spare + 1
  | .agg parts => uptoBulkAll parts + 1
  | .iface _ d => uptoBulk d + 1
  | .map entries => uptoBulkEntries entries + 1
  | .held _ => 1
def uptoBulkAll {H : Type} : List (DataW H) → Nat
  | [] => 0
  | d :: r => uptoBulk d + uptoBulkAll r
def uptoBulkEntries {H : Type} : List (Lit × DataW H) → Nat
  | [] => 0
  | x :: r => uptoBulkEntry x + uptoBulkEntries r
def uptoBulkEntry {H : Type} : Lit × DataW H → Nat
  | (.string bytes, d) => bytes.length + uptoBulk d + 1
  | (_, d) => uptoBulk d + 1
 end
def uptoSmall : (H : Type) → List (DataW H) → Bool := fun _ ds => decide (uptoBulkAll ds ≤ 1048576)
def OpenSpec.upto (s : _root_.Go.ChangeSpec) : _root_.Go.OpenSpec := { _root_.Go.OpenSpec.ofChange s with cond := some uptoSmall }

/-- 'seriflaw02.PeekNumbers', WHERE WHAT IT READS IS OF BULK AT MOST 1048576: true; the input reads as it did. -/
def peekNumbersUptoRow : OpenClaim := { program := "ytckadnegilmdbaa", sum := "6461ca16f0ec3b88a3d436c833a197126999fe4e250b75a35cf5994ccb9a1f86", func := "serif/seriflaw02.PeekNumbers", spec := "peekNumbers", apart := false, narrowed := true }
def PeekNumbersUptoSaid : Prop := peekNumbersUptoRow.holds Try.pinned (OpenSpec.upto peekNumbersSpec)

/-- 'seriflaw02.PeekCuts', WHERE WHAT IT READS IS OF BULK AT MOST 1048576: true; the input reads as it did. -/
def peekCutsUptoRow : OpenClaim := { program := "ytckadnegilmdbaa", sum := "6461ca16f0ec3b88a3d436c833a197126999fe4e250b75a35cf5994ccb9a1f86", func := "serif/seriflaw02.PeekCuts", spec := "peekCuts", apart := false, narrowed := true }
def PeekCutsUptoSaid : Prop := peekCutsUptoRow.holds Try.pinned (OpenSpec.upto peekCutsSpec)

/-- 'seriflaw02.PeekKeeps', WHERE WHAT IT READS IS OF BULK AT MOST 1048576: true; the input reads as it did. -/
def peekKeepsUptoRow : OpenClaim := { program := "ytckadnegilmdbaa", sum := "6461ca16f0ec3b88a3d436c833a197126999fe4e250b75a35cf5994ccb9a1f86", func := "serif/seriflaw02.PeekKeeps", spec := "peekKeeps", apart := false, narrowed := true }
def PeekKeepsUptoSaid : Prop := peekKeepsUptoRow.holds Try.pinned (OpenSpec.upto peekKeepsSpec)

end Rows
end Go.Proofs.Ytckadnegilmdbaa
