/-
  DERIVED. GIVEN WITH THE SEED: THE CARDS: each row of YtglcihfcnbifcaaDoorRows.lean that lists a variable, with what it lists TIED to the program's text (the seventh form; the later family's looks); each row that meets fmt, with fmt's text TOLD by the authors' own Lean function (tested against real Go, not proved from fmt's source: count such statements apart). THE CARD IS WHAT COUNTS. Prove the row's statement (the work); the ties are given (YtglcihfcnbifcaaDoorTie.lean); close each card by the builder's one call (the guide's Derived/Test/ToyasCard.lean, 'card_holds'). Laid BY PROGRAM, IN A SANDBOX (cutbox-door.mjs). By AI agents, Wed Nov 11 2026. No macro, syntax, notation, axiom, sorry.
-/
import Derived.Test.YtglcihfcnbifcaaDoorRows
import GoSem.ClaimSeven
namespace Go.Proofs.YtglcihfcnbifcaaDoor
namespace Rows

/-- THE TIED CARD OF 'copyistlaw04.WalkBytes'. -/
def walkBytesCard : Claim7 := { stood := { row := walkBytesRow, standIns := [], harness := (true, "1d0dfad86b776ac6453f0e92aa5ffb2f5d4bc06781f9fbdd64808cfb09e9b419"), looks := false }, kinds := [], alts := [], laidByText := true, laidKinds := [.data, .data, .data], laidTests := true, laidLooks := .later }
def WalkBytesCardSaid : Prop := Claim7.holds Tryd.pinned (.plain (OpenSpec.ofChange walkBytesSpec)) walkBytesCard

/-- THE SECOND FORM's CARD OF 'copyistlaw04.WalkBytes'. -/
def walkBytesUptoCard : Claim7 := { stood := { row := walkBytesUptoRow, standIns := [], harness := (true, "1d0dfad86b776ac6453f0e92aa5ffb2f5d4bc06781f9fbdd64808cfb09e9b419"), looks := false }, kinds := [], alts := [], laidByText := true, laidKinds := [.data, .data, .data], laidTests := true, laidLooks := .later }
def WalkBytesUptoCardSaid : Prop := Claim7.holds Tryd.pinned (.plain (OpenSpec.upto walkBytesSpec)) walkBytesUptoCard
end Rows
end Go.Proofs.YtglcihfcnbifcaaDoor
