/-
  DERIVED. GIVEN WITH THE SEED: THE CARDS: each row of YtggoebbfgkebcaaDoorRows.lean that lists a variable, with what it lists TIED to the program's text (the seventh form; the later family's looks); each row that meets fmt, with fmt's text TOLD by the authors' own Lean function (tested against real Go, not proved from fmt's source: count such statements apart). THE CARD IS WHAT COUNTS. Prove the row's statement (the work); the ties are given (YtggoebbfgkebcaaDoorTie.lean); close each card by the builder's one call (the guide's Derived/Test/ToyasCard.lean, 'card_holds'). Laid BY PROGRAM, IN A SANDBOX (cutbox-door.mjs). By AI agents, Wed Nov 11 2026. No macro, syntax, notation, axiom, sorry.
-/
import Derived.Test.YtggoebbfgkebcaaDoorRows
import GoSem.ClaimSeven
namespace Go.Proofs.YtggoebbfgkebcaaDoor
namespace Rows

/-- THE TIED CARD OF 'diptychlaw2.CodecParses'. -/
def codecParsesCard : Claim7 := { stood := { row := codecParsesRow, standIns := [], harness := (true, "7edcba01cb5138342bbf8128dae1f9463380a5fb819e3ba2f08b82f06eae0ad9"), looks := false }, kinds := [], alts := [], laidByText := true, laidKinds := [.data, .pinned], laidTests := true, laidLooks := .later }
def CodecParsesCardSaid : Prop := Claim7.holds Tryd.pinned (.plain (OpenSpec.ofChange codecParsesSpec)) codecParsesCard

/-- THE SECOND FORM's CARD OF 'diptychlaw2.CodecParses'. -/
def codecParsesUptoCard : Claim7 := { stood := { row := codecParsesUptoRow, standIns := [], harness := (true, "7edcba01cb5138342bbf8128dae1f9463380a5fb819e3ba2f08b82f06eae0ad9"), looks := false }, kinds := [], alts := [], laidByText := true, laidKinds := [.data, .pinned], laidTests := true, laidLooks := .later }
def CodecParsesUptoCardSaid : Prop := Claim7.holds Tryd.pinned (.plain (OpenSpec.upto codecParsesSpec)) codecParsesUptoCard
end Rows
end Go.Proofs.YtggoebbfgkebcaaDoor
