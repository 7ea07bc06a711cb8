/-
  DERIVED. GIVEN WITH THE SEED: THE CARDS: each row of YtdbpnfabcmndjaaDoorRows.lean that lists a variable, with what it lists TIED to the program's text (the seventh form; the later family's looks); each row that meets fmt, with fmt's text TOLD by the authors' own Lean function (tested against real Go, not proved from fmt's source: count such statements apart). THE CARD IS WHAT COUNTS. Prove the row's statement (the work); the ties are given (YtdbpnfabcmndjaaDoorTie.lean); close each card by the builder's one call (the guide's Derived/Test/ToyasCard.lean, 'card_holds'). Laid BY PROGRAM, IN A SANDBOX (cutbox-door.mjs). By AI agents, Wed Nov 11 2026. No macro, syntax, notation, axiom, sorry.
-/
import Derived.Test.YtdbpnfabcmndjaaDoorRows
import GoSem.ClaimSeven
namespace Go.Proofs.YtdbpnfabcmndjaaDoor
namespace Rows

/-- THE TIED CARD OF 'diptychlaw1.NodeChecks'. -/
def nodeChecksCard : Claim7 := { stood := { row := nodeChecksRow, standIns := [], harness := (true, "0ab6213a280a48c09d67c98a1b3bf8ae893ed41fbe73928f7eeaaddf5f20b08d"), looks := false }, kinds := [], alts := [], laidByText := true, laidKinds := [.data, .pinned], laidTests := true, laidLooks := .later }
def NodeChecksCardSaid : Prop := Claim7.holds Tryd.pinned (.plain (OpenSpec.ofChange nodeChecksSpec)) nodeChecksCard

/-- THE TIED CARD OF 'diptychlaw2.CodecPrints'. -/
def codecPrintsCard : Claim7 := { stood := { row := codecPrintsRow, standIns := [], harness := (true, "0ab6213a280a48c09d67c98a1b3bf8ae893ed41fbe73928f7eeaaddf5f20b08d"), looks := false }, kinds := [], alts := [], laidByText := true, laidKinds := [.data, .pinned], laidTests := true, laidLooks := .later }
def CodecPrintsCardSaid : Prop := Claim7.holds Tryd.pinned (.plain (OpenSpec.ofChange codecPrintsSpec)) codecPrintsCard

/-- THE SECOND FORM's CARD OF 'diptychlaw1.NodeChecks'. -/
def nodeChecksUptoCard : Claim7 := { stood := { row := nodeChecksUptoRow, standIns := [], harness := (true, "0ab6213a280a48c09d67c98a1b3bf8ae893ed41fbe73928f7eeaaddf5f20b08d"), looks := false }, kinds := [], alts := [], laidByText := true, laidKinds := [.data, .pinned], laidTests := true, laidLooks := .later }
def NodeChecksUptoCardSaid : Prop := Claim7.holds Tryd.pinned (.plain (OpenSpec.upto nodeChecksSpec)) nodeChecksUptoCard

/-- THE SECOND FORM's CARD OF 'diptychlaw2.CodecPrints'. -/
def codecPrintsUptoCard : Claim7 := { stood := { row := codecPrintsUptoRow, standIns := [], harness := (true, "0ab6213a280a48c09d67c98a1b3bf8ae893ed41fbe73928f7eeaaddf5f20b08d"), looks := false }, kinds := [], alts := [], laidByText := true, laidKinds := [.data, .pinned], laidTests := true, laidLooks := .later }
def CodecPrintsUptoCardSaid : Prop := Claim7.holds Tryd.pinned (.plain (OpenSpec.upto codecPrintsSpec)) codecPrintsUptoCard
end Rows
end Go.Proofs.YtdbpnfabcmndjaaDoor
