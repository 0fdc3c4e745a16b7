/-
  DERIVED. GIVEN WITH THE SEED: THE CARDS: each row of YtfbgddigedgpfaaDoorRows.lean that lists a variable, with what it lists TIED to the program's text (the seventh form; the later family's looks); each row that meets fmt, with fmt's text TOLD by the authors' own Lean function (tested against real Go, not proved from fmt's source: count such statements apart). THE CARD IS WHAT COUNTS. Prove the row's statement (the work); the ties are given (YtfbgddigedgpfaaDoorTie.lean); close each card by the builder's one call (the guide's Derived/Test/ToyasCard.lean, 'card_holds'). Laid BY PROGRAM, IN A SANDBOX (cutbox-door.mjs). By AI agents, Wed Nov 11 2026. No macro, syntax, notation, axiom, sorry.
-/
import Derived.Test.YtfbgddigedgpfaaDoorRows
import GoSem.ClaimSeven
namespace Go.Proofs.YtfbgddigedgpfaaDoor
namespace Rows

/-- THE TIED CARD OF 'seriflaw05.CmapNames'. -/
def cmapNamesCard : Claim7 := { stood := { row := cmapNamesRow, standIns := [], harness := (true, "fd50c970c5c317f64363110ac8ca12c898f824e5ec409cd6f5d15e5641829662"), looks := false }, kinds := [], alts := [], laidByText := true, laidKinds := [.data], laidTests := true, laidLooks := .later }
def CmapNamesCardSaid : Prop := Claim7.holds Tryd.pinned (.plain (OpenSpec.ofChange cmapNamesSpec)) cmapNamesCard

/-- THE TIED CARD OF 'seriflaw05.CmapGroups'. -/
def cmapGroupsCard : Claim7 := { stood := { row := cmapGroupsRow, standIns := [], harness := (true, "fd50c970c5c317f64363110ac8ca12c898f824e5ec409cd6f5d15e5641829662"), looks := false }, kinds := [], alts := [], laidByText := true, laidKinds := [.data], laidTests := true, laidLooks := .later }
def CmapGroupsCardSaid : Prop := Claim7.holds Tryd.pinned (.plain (OpenSpec.ofChange cmapGroupsSpec)) cmapGroupsCard

/-- THE TIED CARD OF 'seriflaw05.CmapBounds'. -/
def cmapBoundsCard : Claim7 := { stood := { row := cmapBoundsRow, standIns := [], harness := (true, "fd50c970c5c317f64363110ac8ca12c898f824e5ec409cd6f5d15e5641829662"), looks := false }, kinds := [], alts := [], laidByText := true, laidKinds := [.data], laidTests := true, laidLooks := .later }
def CmapBoundsCardSaid : Prop := Claim7.holds Tryd.pinned (.plain (OpenSpec.ofChange cmapBoundsSpec)) cmapBoundsCard

/-- THE SECOND FORM's CARD OF 'seriflaw05.CmapNames'. -/
def cmapNamesUptoCard : Claim7 := { stood := { row := cmapNamesUptoRow, standIns := [], harness := (true, "fd50c970c5c317f64363110ac8ca12c898f824e5ec409cd6f5d15e5641829662"), looks := false }, kinds := [], alts := [], laidByText := true, laidKinds := [.data], laidTests := true, laidLooks := .later }
def CmapNamesUptoCardSaid : Prop := Claim7.holds Tryd.pinned (.plain (OpenSpec.upto cmapNamesSpec)) cmapNamesUptoCard

/-- THE SECOND FORM's CARD OF 'seriflaw05.CmapGroups'. -/
def cmapGroupsUptoCard : Claim7 := { stood := { row := cmapGroupsUptoRow, standIns := [], harness := (true, "fd50c970c5c317f64363110ac8ca12c898f824e5ec409cd6f5d15e5641829662"), looks := false }, kinds := [], alts := [], laidByText := true, laidKinds := [.data], laidTests := true, laidLooks := .later }
def CmapGroupsUptoCardSaid : Prop := Claim7.holds Tryd.pinned (.plain (OpenSpec.upto cmapGroupsSpec)) cmapGroupsUptoCard

/-- THE SECOND FORM's CARD OF 'seriflaw05.CmapBounds'. -/
def cmapBoundsUptoCard : Claim7 := { stood := { row := cmapBoundsUptoRow, standIns := [], harness := (true, "fd50c970c5c317f64363110ac8ca12c898f824e5ec409cd6f5d15e5641829662"), looks := false }, kinds := [], alts := [], laidByText := true, laidKinds := [.data], laidTests := true, laidLooks := .later }
def CmapBoundsUptoCardSaid : Prop := Claim7.holds Tryd.pinned (.plain (OpenSpec.upto cmapBoundsSpec)) cmapBoundsUptoCard
end Rows
end Go.Proofs.YtfbgddigedgpfaaDoor
