/-
  DERIVED. GIVEN WITH THE SEED: THE CARDS: each row of YtaepolgmojkglaaDoorRows.lean that lists a variable, with what it lists TIED to the program's text (the seventh form; the later family's looks); each row that meets fmt, with fmt's text TOLD by the authors' own Lean function (tested against real Go, not proved from fmt's source: count such statements apart). THE CARD IS WHAT COUNTS. Prove the row's statement (the work); the ties are given (YtaepolgmojkglaaDoorTie.lean); close each card by the builder's one call (the guide's Derived/Test/ToyasCard.lean, 'card_holds'). Laid BY PROGRAM, IN A SANDBOX (cutbox-door.mjs). By AI agents, Wed Nov 11 2026. No macro, syntax, notation, axiom, sorry.
-/
import Derived.Test.YtaepolgmojkglaaDoorRows
import GoSem.ClaimSeven
namespace Go.Proofs.YtaepolgmojkglaaDoor
namespace Rows

/-- THE TIED CARD OF 'diptychlaw3.TokenBack'. -/
def tokenBackCard : Claim7 := { stood := { row := tokenBackRow, standIns := [], harness := (true, "a2001baef8e950ef42101e711208523d4b4fe7511407e340f9e3bc1275666b26"), looks := false }, kinds := [], alts := [], laidByText := true, laidKinds := [.data, .pinned], laidTests := true, laidLooks := .later }
def TokenBackCardSaid : Prop := Claim7.holds Tryd.pinned (.plain (OpenSpec.ofChange tokenBackSpec)) tokenBackCard

/-- THE TIED CARD OF 'diptychlaw3.TokenJoins'. -/
def tokenJoinsCard : Claim7 := { stood := { row := tokenJoinsRow, standIns := [], harness := (true, "a2001baef8e950ef42101e711208523d4b4fe7511407e340f9e3bc1275666b26"), looks := false }, kinds := [], alts := [], laidByText := true, laidKinds := [.data, .pinned], laidTests := true, laidLooks := .later }
def TokenJoinsCardSaid : Prop := Claim7.holds Tryd.pinned (.plain (OpenSpec.ofChange tokenJoinsSpec)) tokenJoinsCard

/-- THE TIED CARD OF 'diptychlaw3.TokenChange'. -/
def tokenChangeCard : Claim7 := { stood := { row := tokenChangeRow, standIns := [], harness := (true, "a2001baef8e950ef42101e711208523d4b4fe7511407e340f9e3bc1275666b26"), looks := false }, kinds := [], alts := [], laidByText := true, laidKinds := [.data, .pinned], laidTests := true, laidLooks := .later }
def TokenChangeCardSaid : Prop := Claim7.holds Tryd.pinned (.plain (OpenSpec.ofChange tokenChangeSpec)) tokenChangeCard

/-- THE SECOND FORM's CARD OF 'diptychlaw3.TokenBack'. -/
def tokenBackUptoCard : Claim7 := { stood := { row := tokenBackUptoRow, standIns := [], harness := (true, "a2001baef8e950ef42101e711208523d4b4fe7511407e340f9e3bc1275666b26"), looks := false }, kinds := [], alts := [], laidByText := true, laidKinds := [.data, .pinned], laidTests := true, laidLooks := .later }
def TokenBackUptoCardSaid : Prop := Claim7.holds Tryd.pinned (.plain (OpenSpec.upto tokenBackSpec)) tokenBackUptoCard

/-- THE SECOND FORM's CARD OF 'diptychlaw3.TokenJoins'. -/
def tokenJoinsUptoCard : Claim7 := { stood := { row := tokenJoinsUptoRow, standIns := [], harness := (true, "a2001baef8e950ef42101e711208523d4b4fe7511407e340f9e3bc1275666b26"), looks := false }, kinds := [], alts := [], laidByText := true, laidKinds := [.data, .pinned], laidTests := true, laidLooks := .later }
def TokenJoinsUptoCardSaid : Prop := Claim7.holds Tryd.pinned (.plain (OpenSpec.upto tokenJoinsSpec)) tokenJoinsUptoCard

/-- THE SECOND FORM's CARD OF 'diptychlaw3.TokenChange'. -/
def tokenChangeUptoCard : Claim7 := { stood := { row := tokenChangeUptoRow, standIns := [], harness := (true, "a2001baef8e950ef42101e711208523d4b4fe7511407e340f9e3bc1275666b26"), looks := false }, kinds := [], alts := [], laidByText := true, laidKinds := [.data, .pinned], laidTests := true, laidLooks := .later }
def TokenChangeUptoCardSaid : Prop := Claim7.holds Tryd.pinned (.plain (OpenSpec.upto tokenChangeSpec)) tokenChangeUptoCard
end Rows
end Go.Proofs.YtaepolgmojkglaaDoor
