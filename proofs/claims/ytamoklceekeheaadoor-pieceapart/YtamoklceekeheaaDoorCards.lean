/-
  DERIVED. GIVEN WITH THE SEED: THE CARDS: each row of YtamoklceekeheaaDoorRows.lean that lists a variable, with what it lists TIED to the program's text (the seventh form; the later family's looks); each row that meets fmt, with fmt's text TOLD by the authors' own Lean function (tested against real Go, not proved from fmt's source: count such statements apart). THE CARD IS WHAT COUNTS. Prove the row's statement (the work); the ties are given (YtamoklceekeheaaDoorTie.lean); close each card by the builder's one call (the guide's Derived/Test/ToyasCard.lean, 'card_holds'). Laid BY PROGRAM, IN A SANDBOX (cutbox-door.mjs). By AI agents, Wed Nov 11 2026. No macro, syntax, notation, axiom, sorry.
-/
import Derived.Test.YtamoklceekeheaaDoorRows
import GoSem.ClaimSeven
namespace Go.Proofs.YtamoklceekeheaaDoor
namespace Rows

/-- THE TIED CARD OF 'diptychlaw5.PieceBack'. -/
def pieceBackCard : Claim7 := { stood := { row := pieceBackRow, standIns := [], harness := (true, "973992df677a880946f8b8c963bb2dc6ccf58d499ee8cba843afa4a32b803552"), looks := false }, kinds := [], alts := [], laidByText := true, laidKinds := [.data, .pinned], laidTests := true, laidLooks := .later }
def PieceBackCardSaid : Prop := Claim7.holds Tryd.pinned (.plain (OpenSpec.ofChange pieceBackSpec)) pieceBackCard

/-- THE TIED CARD OF 'diptychlaw5.PieceIn'. -/
def pieceInCard : Claim7 := { stood := { row := pieceInRow, standIns := [], harness := (true, "973992df677a880946f8b8c963bb2dc6ccf58d499ee8cba843afa4a32b803552"), looks := false }, kinds := [], alts := [], laidByText := true, laidKinds := [.data, .pinned], laidTests := true, laidLooks := .later }
def PieceInCardSaid : Prop := Claim7.holds Tryd.pinned (.plain (OpenSpec.ofChange pieceInSpec)) pieceInCard

/-- THE TIED CARD OF 'diptychlaw5.PieceSplit'. -/
def pieceSplitCard : Claim7 := { stood := { row := pieceSplitRow, standIns := [], harness := (true, "973992df677a880946f8b8c963bb2dc6ccf58d499ee8cba843afa4a32b803552"), looks := false }, kinds := [], alts := [], laidByText := true, laidKinds := [.data, .pinned], laidTests := true, laidLooks := .later }
def PieceSplitCardSaid : Prop := Claim7.holds Tryd.pinned (.plain (OpenSpec.ofChange pieceSplitSpec)) pieceSplitCard

/-- THE TIED CARD OF 'diptychlaw5.PieceTokens'. -/
def pieceTokensCard : Claim7 := { stood := { row := pieceTokensRow, standIns := [], harness := (true, "973992df677a880946f8b8c963bb2dc6ccf58d499ee8cba843afa4a32b803552"), looks := false }, kinds := [], alts := [], laidByText := true, laidKinds := [.data, .pinned], laidTests := true, laidLooks := .later }
def PieceTokensCardSaid : Prop := Claim7.holds Tryd.pinned (.plain (OpenSpec.ofChange pieceTokensSpec)) pieceTokensCard

/-- THE TIED CARD OF 'diptychlaw5.PieceTwice'. -/
def pieceTwiceCard : Claim7 := { stood := { row := pieceTwiceRow, standIns := [], harness := (true, "973992df677a880946f8b8c963bb2dc6ccf58d499ee8cba843afa4a32b803552"), looks := false }, kinds := [], alts := [], laidByText := true, laidKinds := [.data, .pinned], laidTests := true, laidLooks := .later }
def PieceTwiceCardSaid : Prop := Claim7.holds Tryd.pinned (.plain (OpenSpec.ofChange pieceTwiceSpec)) pieceTwiceCard

/-- THE TIED CARD OF 'diptychlaw5.PieceApart'. -/
def pieceApartCard : Claim7 := { stood := { row := pieceApartRow, standIns := [], harness := (true, "973992df677a880946f8b8c963bb2dc6ccf58d499ee8cba843afa4a32b803552"), looks := false }, kinds := [], alts := [], laidByText := true, laidKinds := [.data, .pinned], laidTests := true, laidLooks := .later }
def PieceApartCardSaid : Prop := Claim7.holds Tryd.pinned (.plain (OpenSpec.ofChange pieceApartSpec)) pieceApartCard

/-- THE TIED CARD OF 'diptychlaw5.PieceSplits'. -/
def pieceSplitsCard : Claim7 := { stood := { row := pieceSplitsRow, standIns := [], harness := (true, "973992df677a880946f8b8c963bb2dc6ccf58d499ee8cba843afa4a32b803552"), looks := false }, kinds := [], alts := [], laidByText := true, laidKinds := [.data, .pinned], laidTests := true, laidLooks := .later }
def PieceSplitsCardSaid : Prop := Claim7.holds Tryd.pinned (.plain (OpenSpec.ofChange pieceSplitsSpec)) pieceSplitsCard

/-- THE SECOND FORM's CARD OF 'diptychlaw5.PieceBack'. -/
def pieceBackUptoCard : Claim7 := { stood := { row := pieceBackUptoRow, standIns := [], harness := (true, "973992df677a880946f8b8c963bb2dc6ccf58d499ee8cba843afa4a32b803552"), looks := false }, kinds := [], alts := [], laidByText := true, laidKinds := [.data, .pinned], laidTests := true, laidLooks := .later }
def PieceBackUptoCardSaid : Prop := Claim7.holds Tryd.pinned (.plain (OpenSpec.upto pieceBackSpec)) pieceBackUptoCard

/-- THE SECOND FORM's CARD OF 'diptychlaw5.PieceIn'. -/
def pieceInUptoCard : Claim7 := { stood := { row := pieceInUptoRow, standIns := [], harness := (true, "973992df677a880946f8b8c963bb2dc6ccf58d499ee8cba843afa4a32b803552"), looks := false }, kinds := [], alts := [], laidByText := true, laidKinds := [.data, .pinned], laidTests := true, laidLooks := .later }
def PieceInUptoCardSaid : Prop := Claim7.holds Tryd.pinned (.plain (OpenSpec.upto pieceInSpec)) pieceInUptoCard

/-- THE SECOND FORM's CARD OF 'diptychlaw5.PieceSplit'. -/
def pieceSplitUptoCard : Claim7 := { stood := { row := pieceSplitUptoRow, standIns := [], harness := (true, "973992df677a880946f8b8c963bb2dc6ccf58d499ee8cba843afa4a32b803552"), looks := false }, kinds := [], alts := [], laidByText := true, laidKinds := [.data, .pinned], laidTests := true, laidLooks := .later }
def PieceSplitUptoCardSaid : Prop := Claim7.holds Tryd.pinned (.plain (OpenSpec.upto pieceSplitSpec)) pieceSplitUptoCard

/-- THE SECOND FORM's CARD OF 'diptychlaw5.PieceTokens'. -/
def pieceTokensUptoCard : Claim7 := { stood := { row := pieceTokensUptoRow, standIns := [], harness := (true, "973992df677a880946f8b8c963bb2dc6ccf58d499ee8cba843afa4a32b803552"), looks := false }, kinds := [], alts := [], laidByText := true, laidKinds := [.data, .pinned], laidTests := true, laidLooks := .later }
def PieceTokensUptoCardSaid : Prop := Claim7.holds Tryd.pinned (.plain (OpenSpec.upto pieceTokensSpec)) pieceTokensUptoCard

/-- THE SECOND FORM's CARD OF 'diptychlaw5.PieceTwice'. -/
def pieceTwiceUptoCard : Claim7 := { stood := { row := pieceTwiceUptoRow, standIns := [], harness := (true, "973992df677a880946f8b8c963bb2dc6ccf58d499ee8cba843afa4a32b803552"), looks := false }, kinds := [], alts := [], laidByText := true, laidKinds := [.data, .pinned], laidTests := true, laidLooks := .later }
def PieceTwiceUptoCardSaid : Prop := Claim7.holds Tryd.pinned (.plain (OpenSpec.upto pieceTwiceSpec)) pieceTwiceUptoCard

/-- THE SECOND FORM's CARD OF 'diptychlaw5.PieceApart'. -/
def pieceApartUptoCard : Claim7 := { stood := { row := pieceApartUptoRow, standIns := [], harness := (true, "973992df677a880946f8b8c963bb2dc6ccf58d499ee8cba843afa4a32b803552"), looks := false }, kinds := [], alts := [], laidByText := true, laidKinds := [.data, .pinned], laidTests := true, laidLooks := .later }
def PieceApartUptoCardSaid : Prop := Claim7.holds Tryd.pinned (.plain (OpenSpec.upto pieceApartSpec)) pieceApartUptoCard

/-- THE SECOND FORM's CARD OF 'diptychlaw5.PieceSplits'. -/
def pieceSplitsUptoCard : Claim7 := { stood := { row := pieceSplitsUptoRow, standIns := [], harness := (true, "973992df677a880946f8b8c963bb2dc6ccf58d499ee8cba843afa4a32b803552"), looks := false }, kinds := [], alts := [], laidByText := true, laidKinds := [.data, .pinned], laidTests := true, laidLooks := .later }
def PieceSplitsUptoCardSaid : Prop := Claim7.holds Tryd.pinned (.plain (OpenSpec.upto pieceSplitsSpec)) pieceSplitsUptoCard
end Rows
end Go.Proofs.YtamoklceekeheaaDoor
