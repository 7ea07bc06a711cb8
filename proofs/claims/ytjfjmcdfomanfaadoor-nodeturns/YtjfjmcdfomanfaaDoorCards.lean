/-
  DERIVED. GIVEN WITH THE SEED: THE CARDS: each row of YtjfjmcdfomanfaaDoorRows.lean that lists a variable, with what it lists TIED to the program's text (the seventh form; the later family's looks); each row that meets fmt, with fmt's text TOLD by the authors' own Lean function (tested against real Go, not proved from fmt's source: count such statements apart). THE CARD IS WHAT COUNTS. Prove the row's statement (the work); the ties are given (YtjfjmcdfomanfaaDoorTie.lean); close each card by the builder's one call (the guide's Derived/Test/ToyasCard.lean, 'card_holds'). Laid BY PROGRAM, IN A SANDBOX (cutbox-door.mjs). By AI agents, Wed Nov 11 2026. No macro, syntax, notation, axiom, sorry.
-/
import Derived.Test.YtjfjmcdfomanfaaDoorRows
import GoSem.ClaimSeven
namespace Go.Proofs.YtjfjmcdfomanfaaDoor
namespace Rows

/-- THE TIED CARD OF 'diptychlaw1.NodeChecks'. -/
def nodeChecksCard : Claim7 := { stood := { row := nodeChecksRow, standIns := [], harness := (true, "6ee2dfe099476108c55b6ccc62848e7e2f94265303b81ac39227cbbf8b734ea2"), looks := false }, kinds := [], alts := [], laidByText := true, laidKinds := [.data, .pinned], laidTests := true, laidLooks := .later }
def NodeChecksCardSaid : Prop := Claim7.holds Tryd.pinned (.plain (OpenSpec.ofChange nodeChecksSpec)) nodeChecksCard

/-- THE TIED CARD OF 'diptychlaw1.NodeTwice'. -/
def nodeTwiceCard : Claim7 := { stood := { row := nodeTwiceRow, standIns := [], harness := (true, "6ee2dfe099476108c55b6ccc62848e7e2f94265303b81ac39227cbbf8b734ea2"), looks := false }, kinds := [], alts := [], laidByText := true, laidKinds := [.data, .pinned], laidTests := true, laidLooks := .later }
def NodeTwiceCardSaid : Prop := Claim7.holds Tryd.pinned (.plain (OpenSpec.ofChange nodeTwiceSpec)) nodeTwiceCard

/-- THE TIED CARD OF 'diptychlaw1.NodeOwn'. -/
def nodeOwnCard : Claim7 := { stood := { row := nodeOwnRow, standIns := [], harness := (true, "6ee2dfe099476108c55b6ccc62848e7e2f94265303b81ac39227cbbf8b734ea2"), looks := false }, kinds := [], alts := [], laidByText := true, laidKinds := [.data, .pinned], laidTests := true, laidLooks := .later }
def NodeOwnCardSaid : Prop := Claim7.holds Tryd.pinned (.plain (OpenSpec.ofChange nodeOwnSpec)) nodeOwnCard

/-- THE TIED CARD OF 'diptychlaw1.NodeSums'. -/
def nodeSumsCard : Claim7 := { stood := { row := nodeSumsRow, standIns := [], harness := (true, "6ee2dfe099476108c55b6ccc62848e7e2f94265303b81ac39227cbbf8b734ea2"), looks := false }, kinds := [], alts := [], laidByText := true, laidKinds := [.data, .pinned], laidTests := true, laidLooks := .later }
def NodeSumsCardSaid : Prop := Claim7.holds Tryd.pinned (.plain (OpenSpec.ofChange nodeSumsSpec)) nodeSumsCard

/-- THE TIED CARD OF 'diptychlaw1.NodeWrong'. -/
def nodeWrongCard : Claim7 := { stood := { row := nodeWrongRow, standIns := [], harness := (true, "6ee2dfe099476108c55b6ccc62848e7e2f94265303b81ac39227cbbf8b734ea2"), looks := false }, kinds := [], alts := [], laidByText := true, laidKinds := [.data, .pinned], laidTests := true, laidLooks := .later }
def NodeWrongCardSaid : Prop := Claim7.holds Tryd.pinned (.plain (OpenSpec.ofChange nodeWrongSpec)) nodeWrongCard

/-- THE TIED CARD OF 'diptychlaw1.NodeTurns'. -/
def nodeTurnsCard : Claim7 := { stood := { row := nodeTurnsRow, standIns := [], harness := (true, "6ee2dfe099476108c55b6ccc62848e7e2f94265303b81ac39227cbbf8b734ea2"), looks := false }, kinds := [], alts := [], laidByText := true, laidKinds := [.data, .pinned], laidTests := true, laidLooks := .later }
def NodeTurnsCardSaid : Prop := Claim7.holds Tryd.pinned (.plain (OpenSpec.ofChange nodeTurnsSpec)) nodeTurnsCard

/-- THE SECOND FORM's CARD OF 'diptychlaw1.NodeChecks'. -/
def nodeChecksUptoCard : Claim7 := { stood := { row := nodeChecksUptoRow, standIns := [], harness := (true, "6ee2dfe099476108c55b6ccc62848e7e2f94265303b81ac39227cbbf8b734ea2"), looks := false }, kinds := [], alts := [], laidByText := true, laidKinds := [.data, .pinned], laidTests := true, laidLooks := .later }
def NodeChecksUptoCardSaid : Prop := Claim7.holds Tryd.pinned (.plain (OpenSpec.upto nodeChecksSpec)) nodeChecksUptoCard

/-- THE SECOND FORM's CARD OF 'diptychlaw1.NodeTwice'. -/
def nodeTwiceUptoCard : Claim7 := { stood := { row := nodeTwiceUptoRow, standIns := [], harness := (true, "6ee2dfe099476108c55b6ccc62848e7e2f94265303b81ac39227cbbf8b734ea2"), looks := false }, kinds := [], alts := [], laidByText := true, laidKinds := [.data, .pinned], laidTests := true, laidLooks := .later }
def NodeTwiceUptoCardSaid : Prop := Claim7.holds Tryd.pinned (.plain (OpenSpec.upto nodeTwiceSpec)) nodeTwiceUptoCard

/-- THE SECOND FORM's CARD OF 'diptychlaw1.NodeOwn'. -/
def nodeOwnUptoCard : Claim7 := { stood := { row := nodeOwnUptoRow, standIns := [], harness := (true, "6ee2dfe099476108c55b6ccc62848e7e2f94265303b81ac39227cbbf8b734ea2"), looks := false }, kinds := [], alts := [], laidByText := true, laidKinds := [.data, .pinned], laidTests := true, laidLooks := .later }
def NodeOwnUptoCardSaid : Prop := Claim7.holds Tryd.pinned (.plain (OpenSpec.upto nodeOwnSpec)) nodeOwnUptoCard

/-- THE SECOND FORM's CARD OF 'diptychlaw1.NodeSums'. -/
def nodeSumsUptoCard : Claim7 := { stood := { row := nodeSumsUptoRow, standIns := [], harness := (true, "6ee2dfe099476108c55b6ccc62848e7e2f94265303b81ac39227cbbf8b734ea2"), looks := false }, kinds := [], alts := [], laidByText := true, laidKinds := [.data, .pinned], laidTests := true, laidLooks := .later }
def NodeSumsUptoCardSaid : Prop := Claim7.holds Tryd.pinned (.plain (OpenSpec.upto nodeSumsSpec)) nodeSumsUptoCard

/-- THE SECOND FORM's CARD OF 'diptychlaw1.NodeWrong'. -/
def nodeWrongUptoCard : Claim7 := { stood := { row := nodeWrongUptoRow, standIns := [], harness := (true, "6ee2dfe099476108c55b6ccc62848e7e2f94265303b81ac39227cbbf8b734ea2"), looks := false }, kinds := [], alts := [], laidByText := true, laidKinds := [.data, .pinned], laidTests := true, laidLooks := .later }
def NodeWrongUptoCardSaid : Prop := Claim7.holds Tryd.pinned (.plain (OpenSpec.upto nodeWrongSpec)) nodeWrongUptoCard

/-- THE SECOND FORM's CARD OF 'diptychlaw1.NodeTurns'. -/
def nodeTurnsUptoCard : Claim7 := { stood := { row := nodeTurnsUptoRow, standIns := [], harness := (true, "6ee2dfe099476108c55b6ccc62848e7e2f94265303b81ac39227cbbf8b734ea2"), looks := false }, kinds := [], alts := [], laidByText := true, laidKinds := [.data, .pinned], laidTests := true, laidLooks := .later }
def NodeTurnsUptoCardSaid : Prop := Claim7.holds Tryd.pinned (.plain (OpenSpec.upto nodeTurnsSpec)) nodeTurnsUptoCard
end Rows
end Go.Proofs.YtjfjmcdfomanfaaDoor
