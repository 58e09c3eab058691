/-
  DERIVED. GIVEN WITH THE SEED: THE CARDS: each row of YthihfigphedomaaDoorRows.lean that lists a variable, with what it lists TIED to the program's text (the seventh form; the later family's looks); each row that meets fmt, with fmt's text TOLD by the authors' own Lean function (tested against real Go, not proved from fmt's source: count such statements apart). THE CARD IS WHAT COUNTS. Prove the row's statement (the work); the ties are given (YthihfigphedomaaDoorTie.lean); close each card by the builder's one call (the guide's Derived/Test/ToyasCard.lean, 'card_holds'). Laid BY PROGRAM, IN A SANDBOX (cutbox-door.mjs). By AI agents, Wed Nov 11 2026. No macro, syntax, notation, axiom, sorry.
-/
import Derived.Test.YthihfigphedomaaDoorRows
import GoSem.ClaimSeven
namespace Go.Proofs.YthihfigphedomaaDoor
namespace Rows

/-- THE TIED CARD OF 'copyistlaw02.VectorRights'. -/
def vectorRightsCard : Claim7 := { stood := { row := vectorRightsRow, standIns := [], harness := (true, "c341ecba3e6c712254b20001fbd74e35ee1d50d1dbc60215ddec2fa6c78af0fd"), looks := false }, kinds := [], alts := [], laidByText := true, laidKinds := [.data, .data, .data], laidTests := true, laidLooks := .later }
def VectorRightsCardSaid : Prop := Claim7.holds Tryd.pinned (.plain (OpenSpec.ofChange vectorRightsSpec)) vectorRightsCard

/-- THE TIED CARD OF 'copyistlaw02.VectorJoins'. -/
def vectorJoinsCard : Claim7 := { stood := { row := vectorJoinsRow, standIns := [], harness := (true, "c341ecba3e6c712254b20001fbd74e35ee1d50d1dbc60215ddec2fa6c78af0fd"), looks := false }, kinds := [], alts := [], laidByText := true, laidKinds := [.data, .data, .data], laidTests := true, laidLooks := .later }
def VectorJoinsCardSaid : Prop := Claim7.holds Tryd.pinned (.plain (OpenSpec.ofChange vectorJoinsSpec)) vectorJoinsCard

/-- THE TIED CARD OF 'copyistlaw02.VectorStands'. -/
def vectorStandsCard : Claim7 := { stood := { row := vectorStandsRow, standIns := [], harness := (true, "c341ecba3e6c712254b20001fbd74e35ee1d50d1dbc60215ddec2fa6c78af0fd"), looks := false }, kinds := [], alts := [], laidByText := true, laidKinds := [.data, .data, .data], laidTests := true, laidLooks := .later }
def VectorStandsCardSaid : Prop := Claim7.holds Tryd.pinned (.plain (OpenSpec.ofChange vectorStandsSpec)) vectorStandsCard

/-- THE TIED CARD OF 'copyistlaw02.VectorLaws'. -/
def vectorLawsCard : Claim7 := { stood := { row := vectorLawsRow, standIns := [], harness := (true, "c341ecba3e6c712254b20001fbd74e35ee1d50d1dbc60215ddec2fa6c78af0fd"), looks := false }, kinds := [], alts := [], laidByText := true, laidKinds := [.data, .data, .data], laidTests := true, laidLooks := .later }
def VectorLawsCardSaid : Prop := Claim7.holds Tryd.pinned (.plain (OpenSpec.ofChange vectorLawsSpec)) vectorLawsCard

/-- THE SECOND FORM's CARD OF 'copyistlaw02.VectorRights'. -/
def vectorRightsUptoCard : Claim7 := { stood := { row := vectorRightsUptoRow, standIns := [], harness := (true, "c341ecba3e6c712254b20001fbd74e35ee1d50d1dbc60215ddec2fa6c78af0fd"), looks := false }, kinds := [], alts := [], laidByText := true, laidKinds := [.data, .data, .data], laidTests := true, laidLooks := .later }
def VectorRightsUptoCardSaid : Prop := Claim7.holds Tryd.pinned (.plain (OpenSpec.upto vectorRightsSpec)) vectorRightsUptoCard

/-- THE SECOND FORM's CARD OF 'copyistlaw02.VectorJoins'. -/
def vectorJoinsUptoCard : Claim7 := { stood := { row := vectorJoinsUptoRow, standIns := [], harness := (true, "c341ecba3e6c712254b20001fbd74e35ee1d50d1dbc60215ddec2fa6c78af0fd"), looks := false }, kinds := [], alts := [], laidByText := true, laidKinds := [.data, .data, .data], laidTests := true, laidLooks := .later }
def VectorJoinsUptoCardSaid : Prop := Claim7.holds Tryd.pinned (.plain (OpenSpec.upto vectorJoinsSpec)) vectorJoinsUptoCard

/-- THE SECOND FORM's CARD OF 'copyistlaw02.VectorStands'. -/
def vectorStandsUptoCard : Claim7 := { stood := { row := vectorStandsUptoRow, standIns := [], harness := (true, "c341ecba3e6c712254b20001fbd74e35ee1d50d1dbc60215ddec2fa6c78af0fd"), looks := false }, kinds := [], alts := [], laidByText := true, laidKinds := [.data, .data, .data], laidTests := true, laidLooks := .later }
def VectorStandsUptoCardSaid : Prop := Claim7.holds Tryd.pinned (.plain (OpenSpec.upto vectorStandsSpec)) vectorStandsUptoCard

/-- THE SECOND FORM's CARD OF 'copyistlaw02.VectorLaws'. -/
def vectorLawsUptoCard : Claim7 := { stood := { row := vectorLawsUptoRow, standIns := [], harness := (true, "c341ecba3e6c712254b20001fbd74e35ee1d50d1dbc60215ddec2fa6c78af0fd"), looks := false }, kinds := [], alts := [], laidByText := true, laidKinds := [.data, .data, .data], laidTests := true, laidLooks := .later }
def VectorLawsUptoCardSaid : Prop := Claim7.holds Tryd.pinned (.plain (OpenSpec.upto vectorLawsSpec)) vectorLawsUptoCard
end Rows
end Go.Proofs.YthihfigphedomaaDoor
