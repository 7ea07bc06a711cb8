/-
  DERIVED. GIVEN WITH THE SEED: THE CARDS: each row of YtdcgffepdgldmaaDoorRows.lean that lists a variable, with what it lists TIED to the program's text (the seventh form; the later family's looks); each row that meets fmt, with fmt's text TOLD by the authors' own Lean function (tested against real Go, not proved from fmt's source: count such statements apart). THE CARD IS WHAT COUNTS. Prove the row's statement (the work); the ties are given (YtdcgffepdgldmaaDoorTie.lean); close each card by the builder's one call (the guide's Derived/Test/ToyasCard.lean, 'card_holds'). Laid BY PROGRAM, IN A SANDBOX (cutbox-door.mjs). By AI agents, Wed Nov 11 2026. No macro, syntax, notation, axiom, sorry.
-/
import Derived.Test.YtdcgffepdgldmaaDoorRows
import GoSem.ClaimSeven
namespace Go.Proofs.YtdcgffepdgldmaaDoor
namespace Rows

/-- THE TIED CARD OF 'diptychlaw2.CodecParses'. -/
def codecParsesCard : Claim7 := { stood := { row := codecParsesRow, standIns := [], harness := (true, "f24f7e54d04f02a8d9931506e419669c89b43ab935bfecb716d79fa89d4d2891"), looks := false }, kinds := [], alts := [], laidByText := true, laidKinds := [.data, .pinned], laidTests := true, laidLooks := .later }
def CodecParsesCardSaid : Prop := Claim7.holds Tryd.pinned (.plain (OpenSpec.ofChange codecParsesSpec)) codecParsesCard

/-- THE TIED CARD OF 'diptychlaw2.CodecBack'. -/
def codecBackCard : Claim7 := { stood := { row := codecBackRow, standIns := [], harness := (true, "f24f7e54d04f02a8d9931506e419669c89b43ab935bfecb716d79fa89d4d2891"), looks := false }, kinds := [], alts := [], laidByText := true, laidKinds := [.data, .pinned], laidTests := true, laidLooks := .later }
def CodecBackCardSaid : Prop := Claim7.holds Tryd.pinned (.plain (OpenSpec.ofChange codecBackSpec)) codecBackCard

/-- THE TIED CARD OF 'diptychlaw2.CodecParts'. -/
def codecPartsCard : Claim7 := { stood := { row := codecPartsRow, standIns := [], harness := (true, "f24f7e54d04f02a8d9931506e419669c89b43ab935bfecb716d79fa89d4d2891"), looks := false }, kinds := [], alts := [], laidByText := true, laidKinds := [.data, .pinned], laidTests := true, laidLooks := .later }
def CodecPartsCardSaid : Prop := Claim7.holds Tryd.pinned (.plain (OpenSpec.ofChange codecPartsSpec)) codecPartsCard

/-- THE TIED CARD OF 'diptychlaw2.CodecQuotes'. -/
def codecQuotesCard : Claim7 := { stood := { row := codecQuotesRow, standIns := [], harness := (true, "f24f7e54d04f02a8d9931506e419669c89b43ab935bfecb716d79fa89d4d2891"), looks := false }, kinds := [], alts := [], laidByText := true, laidKinds := [.data, .pinned], laidTests := true, laidLooks := .later }
def CodecQuotesCardSaid : Prop := Claim7.holds Tryd.pinned (.plain (OpenSpec.ofChange codecQuotesSpec)) codecQuotesCard

/-- THE TIED CARD OF 'diptychlaw2.CodecDeep'. -/
def codecDeepCard : Claim7 := { stood := { row := codecDeepRow, standIns := [], harness := (true, "f24f7e54d04f02a8d9931506e419669c89b43ab935bfecb716d79fa89d4d2891"), looks := false }, kinds := [], alts := [], laidByText := true, laidKinds := [.data, .pinned], laidTests := true, laidLooks := .later }
def CodecDeepCardSaid : Prop := Claim7.holds Tryd.pinned (.plain (OpenSpec.ofChange codecDeepSpec)) codecDeepCard

/-- THE TIED CARD OF 'diptychlaw3.TokenBack'. -/
def tokenBackCard : Claim7 := { stood := { row := tokenBackRow, standIns := [], harness := (true, "f24f7e54d04f02a8d9931506e419669c89b43ab935bfecb716d79fa89d4d2891"), looks := false }, kinds := [], alts := [], laidByText := true, laidKinds := [.data, .pinned], laidTests := true, laidLooks := .later }
def TokenBackCardSaid : Prop := Claim7.holds Tryd.pinned (.plain (OpenSpec.ofChange tokenBackSpec)) tokenBackCard

/-- THE TIED CARD OF 'diptychlaw3.TokenJoins'. -/
def tokenJoinsCard : Claim7 := { stood := { row := tokenJoinsRow, standIns := [], harness := (true, "f24f7e54d04f02a8d9931506e419669c89b43ab935bfecb716d79fa89d4d2891"), looks := false }, kinds := [], alts := [], laidByText := true, laidKinds := [.data, .pinned], laidTests := true, laidLooks := .later }
def TokenJoinsCardSaid : Prop := Claim7.holds Tryd.pinned (.plain (OpenSpec.ofChange tokenJoinsSpec)) tokenJoinsCard

/-- THE TIED CARD OF 'diptychlaw3.TokenChange'. -/
def tokenChangeCard : Claim7 := { stood := { row := tokenChangeRow, standIns := [], harness := (true, "f24f7e54d04f02a8d9931506e419669c89b43ab935bfecb716d79fa89d4d2891"), looks := false }, kinds := [], alts := [], laidByText := true, laidKinds := [.data, .pinned], laidTests := true, laidLooks := .later }
def TokenChangeCardSaid : Prop := Claim7.holds Tryd.pinned (.plain (OpenSpec.ofChange tokenChangeSpec)) tokenChangeCard

/-- THE SECOND FORM's CARD OF 'diptychlaw2.CodecParses'. -/
def codecParsesUptoCard : Claim7 := { stood := { row := codecParsesUptoRow, standIns := [], harness := (true, "f24f7e54d04f02a8d9931506e419669c89b43ab935bfecb716d79fa89d4d2891"), looks := false }, kinds := [], alts := [], laidByText := true, laidKinds := [.data, .pinned], laidTests := true, laidLooks := .later }
def CodecParsesUptoCardSaid : Prop := Claim7.holds Tryd.pinned (.plain (OpenSpec.upto codecParsesSpec)) codecParsesUptoCard

/-- THE SECOND FORM's CARD OF 'diptychlaw2.CodecBack'. -/
def codecBackUptoCard : Claim7 := { stood := { row := codecBackUptoRow, standIns := [], harness := (true, "f24f7e54d04f02a8d9931506e419669c89b43ab935bfecb716d79fa89d4d2891"), looks := false }, kinds := [], alts := [], laidByText := true, laidKinds := [.data, .pinned], laidTests := true, laidLooks := .later }
def CodecBackUptoCardSaid : Prop := Claim7.holds Tryd.pinned (.plain (OpenSpec.upto codecBackSpec)) codecBackUptoCard

/-- THE SECOND FORM's CARD OF 'diptychlaw2.CodecParts'. -/
def codecPartsUptoCard : Claim7 := { stood := { row := codecPartsUptoRow, standIns := [], harness := (true, "f24f7e54d04f02a8d9931506e419669c89b43ab935bfecb716d79fa89d4d2891"), looks := false }, kinds := [], alts := [], laidByText := true, laidKinds := [.data, .pinned], laidTests := true, laidLooks := .later }
def CodecPartsUptoCardSaid : Prop := Claim7.holds Tryd.pinned (.plain (OpenSpec.upto codecPartsSpec)) codecPartsUptoCard

/-- THE SECOND FORM's CARD OF 'diptychlaw2.CodecQuotes'. -/
def codecQuotesUptoCard : Claim7 := { stood := { row := codecQuotesUptoRow, standIns := [], harness := (true, "f24f7e54d04f02a8d9931506e419669c89b43ab935bfecb716d79fa89d4d2891"), looks := false }, kinds := [], alts := [], laidByText := true, laidKinds := [.data, .pinned], laidTests := true, laidLooks := .later }
def CodecQuotesUptoCardSaid : Prop := Claim7.holds Tryd.pinned (.plain (OpenSpec.upto codecQuotesSpec)) codecQuotesUptoCard

/-- THE SECOND FORM's CARD OF 'diptychlaw2.CodecDeep'. -/
def codecDeepUptoCard : Claim7 := { stood := { row := codecDeepUptoRow, standIns := [], harness := (true, "f24f7e54d04f02a8d9931506e419669c89b43ab935bfecb716d79fa89d4d2891"), looks := false }, kinds := [], alts := [], laidByText := true, laidKinds := [.data, .pinned], laidTests := true, laidLooks := .later }
def CodecDeepUptoCardSaid : Prop := Claim7.holds Tryd.pinned (.plain (OpenSpec.upto codecDeepSpec)) codecDeepUptoCard

/-- THE SECOND FORM's CARD OF 'diptychlaw3.TokenBack'. -/
def tokenBackUptoCard : Claim7 := { stood := { row := tokenBackUptoRow, standIns := [], harness := (true, "f24f7e54d04f02a8d9931506e419669c89b43ab935bfecb716d79fa89d4d2891"), looks := false }, kinds := [], alts := [], laidByText := true, laidKinds := [.data, .pinned], laidTests := true, laidLooks := .later }
def TokenBackUptoCardSaid : Prop := Claim7.holds Tryd.pinned (.plain (OpenSpec.upto tokenBackSpec)) tokenBackUptoCard

/-- THE SECOND FORM's CARD OF 'diptychlaw3.TokenJoins'. -/
def tokenJoinsUptoCard : Claim7 := { stood := { row := tokenJoinsUptoRow, standIns := [], harness := (true, "f24f7e54d04f02a8d9931506e419669c89b43ab935bfecb716d79fa89d4d2891"), looks := false }, kinds := [], alts := [], laidByText := true, laidKinds := [.data, .pinned], laidTests := true, laidLooks := .later }
def TokenJoinsUptoCardSaid : Prop := Claim7.holds Tryd.pinned (.plain (OpenSpec.upto tokenJoinsSpec)) tokenJoinsUptoCard

/-- THE SECOND FORM's CARD OF 'diptychlaw3.TokenChange'. -/
def tokenChangeUptoCard : Claim7 := { stood := { row := tokenChangeUptoRow, standIns := [], harness := (true, "f24f7e54d04f02a8d9931506e419669c89b43ab935bfecb716d79fa89d4d2891"), looks := false }, kinds := [], alts := [], laidByText := true, laidKinds := [.data, .pinned], laidTests := true, laidLooks := .later }
def TokenChangeUptoCardSaid : Prop := Claim7.holds Tryd.pinned (.plain (OpenSpec.upto tokenChangeSpec)) tokenChangeUptoCard
end Rows
end Go.Proofs.YtdcgffepdgldmaaDoor
