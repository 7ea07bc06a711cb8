/-
  NARROWER THAN 'FOR EVERY INPUT', by the rows' own cells (each row's printed sentence says how): PieceBack: laid · PieceIn: laid · PieceSplit: laid · PieceTokens: laid · PieceTwice: laid · PieceApart: laid · PieceSplits: laid.
  DERIVED. THE GIVEN ROWS OF THIS SEAT. 7 by the template 'for every input the law returns true; each argument reads behind the call as it read before'; 0 by the template 'total and deterministic' (their statements: YtamoklceekeheaaDoorTotals.lean).
  GIVEN WITH THE SEED: the statements are not yours to turn. If you find one false, say at which input.
  Laid BY PROGRAM, IN A SANDBOX (cutbox-rows.mjs): the forced cells as the released guide's own fill.sh prints them over the translation 53ef35f8a4412985… (all of the seat's roots in one cut). By AI agents, Wed Nov 11 2026. No macro, syntax, notation, axiom, sorry.
-/
import Derived.Test.YtamoklceekeheaaDoorChecked
import GoSem.PinnedTables
import GoSem.Claim
import GoSem.ClaimJoined
import GoSem.ClaimMapViews
import Derived.JoinedTies
import Derived.KernelRfl
namespace Go.Proofs.YtamoklceekeheaaDoor
/- THE CELL 'sum', in the pinned program and in every row, IS THE sha256 OF THE DUMP (.gsa) THAT YtamoklceekeheaaDoorProg.lean LOADS. Nothing in Lean hashes anything: it is a label: what it is worth is what the hold of that sum in a sandbox is worth. -/
noncomputable def Tryd.pinned : Pinned := { name := "ytamoklceekeheaadoor", sum := "53ef35f8a4412985a21e1f0a581b600be007c4a7afde1bca6c2fdaaa1257ade6", checked := Tryd.checked }
namespace Rows
def none {H : Type} : Left H := { results := [], args := [] }

/- WHAT THE LISTED PACKAGE-LEVEL VARIABLES READ AS WHEN THE CALL BEGINS. Each datum BY PROGRAM (the guide's laid-datum.mjs) off the statement by which the dump's own 'gosem.cut.vars' lays the variable. In a bare row this is a premise. The card (YtamoklceekeheaaDoorCards.lean) ties it to the program's text. -/
def laid_unicode_utf8_acceptRanges {H : Type} : DataW H := .agg [.agg [.lit (.int .u8 128), .lit (.int .u8 191)], .agg [.lit (.int .u8 160), .lit (.int .u8 191)], .agg [.lit (.int .u8 128), .lit (.int .u8 159)], .agg [.lit (.int .u8 144), .lit (.int .u8 191)], .agg [.lit (.int .u8 128), .lit (.int .u8 143)], .agg [.lit (.int .u8 0), .lit (.int .u8 0)], .agg [.lit (.int .u8 0), .lit (.int .u8 0)], .agg [.lit (.int .u8 0), .lit (.int .u8 0)], .agg [.lit (.int .u8 0), .lit (.int .u8 0)], .agg [.lit (.int .u8 0), .lit (.int .u8 0)], .agg [.lit (.int .u8 0), .lit (.int .u8 0)], .agg [.lit (.int .u8 0), .lit (.int .u8 0)], .agg [.lit (.int .u8 0), .lit (.int .u8 0)], .agg [.lit (.int .u8 0), .lit (.int .u8 0)], .agg [.lit (.int .u8 0), .lit (.int .u8 0)], .agg [.lit (.int .u8 0), .lit (.int .u8 0)]]
/-- One of Go's own tables, pinned by name: the form's constant. -/
def laid_unicode_utf8_first : DataW Unit := Go.Pinned.utf8First

/-- 'diptychlaw5.PieceBack': WHATEVER THE INPUT: true; the input reads as it did. -/
def pieceBackSpec : ChangeSpec := { name := "pieceBack", fn := fun _ => fun
  | [d1, d2, d3] => { results := [.lit (.bool true)], args := [d1, d2, d3] }
  | _ => none }
def pieceBackRow : OpenClaim := { program := "ytamoklceekeheaadoor", sum := "53ef35f8a4412985a21e1f0a581b600be007c4a7afde1bca6c2fdaaa1257ade6", func := "diptych/diptychlaw5.PieceBack", spec := "pieceBack", inPlace := ["internal/abi.NoEscape"], unfollowed := true, recurses := true, named := ["unicode/utf8.first", "unicode/utf8.acceptRanges"], apart := false, laid := [("unicode/utf8.acceptRanges", laid_unicode_utf8_acceptRanges), ("unicode/utf8.first", laid_unicode_utf8_first)] }
def PieceBackSaid : Prop := pieceBackRow.holds Tryd.pinned (OpenSpec.ofChange pieceBackSpec)

/-- ITS FALSE NEIGHBOUR: 'it returns false'. Refute it at one input. -/
def pieceBackWrong : ChangeSpec := { name := "pieceBack", fn := fun _ => fun
  | [d1, d2, d3] => { results := [.lit (.bool false)], args := [d1, d2, d3] }
  | _ => none }
def PieceBackWrongFalsely : Prop := pieceBackRow.holds Tryd.pinned (OpenSpec.ofChange pieceBackWrong)

/-- 'diptychlaw5.PieceIn': WHATEVER THE INPUT: true; the input reads as it did. -/
def pieceInSpec : ChangeSpec := { name := "pieceIn", fn := fun _ => fun
  | [d1, d2, d3, d4] => { results := [.lit (.bool true)], args := [d1, d2, d3, d4] }
  | _ => none }
def pieceInRow : OpenClaim := { program := "ytamoklceekeheaadoor", sum := "53ef35f8a4412985a21e1f0a581b600be007c4a7afde1bca6c2fdaaa1257ade6", func := "diptych/diptychlaw5.PieceIn", spec := "pieceIn", inPlace := ["internal/abi.NoEscape"], unfollowed := true, recurses := true, named := ["unicode/utf8.first", "unicode/utf8.acceptRanges"], apart := false, laid := [("unicode/utf8.acceptRanges", laid_unicode_utf8_acceptRanges), ("unicode/utf8.first", laid_unicode_utf8_first)] }
def PieceInSaid : Prop := pieceInRow.holds Tryd.pinned (OpenSpec.ofChange pieceInSpec)

/-- ITS FALSE NEIGHBOUR: 'it returns false'. Refute it at one input. -/
def pieceInWrong : ChangeSpec := { name := "pieceIn", fn := fun _ => fun
  | [d1, d2, d3, d4] => { results := [.lit (.bool false)], args := [d1, d2, d3, d4] }
  | _ => none }
def PieceInWrongFalsely : Prop := pieceInRow.holds Tryd.pinned (OpenSpec.ofChange pieceInWrong)

/-- 'diptychlaw5.PieceSplit': WHATEVER THE INPUT: true; the input reads as it did. -/
def pieceSplitSpec : ChangeSpec := { name := "pieceSplit", fn := fun _ => fun
  | [d1, d2] => { results := [.lit (.bool true)], args := [d1, d2] }
  | _ => none }
def pieceSplitRow : OpenClaim := { program := "ytamoklceekeheaadoor", sum := "53ef35f8a4412985a21e1f0a581b600be007c4a7afde1bca6c2fdaaa1257ade6", func := "diptych/diptychlaw5.PieceSplit", spec := "pieceSplit", inPlace := ["internal/abi.NoEscape"], unfollowed := true, recurses := true, named := ["unicode/utf8.first", "unicode/utf8.acceptRanges"], apart := false, laid := [("unicode/utf8.acceptRanges", laid_unicode_utf8_acceptRanges), ("unicode/utf8.first", laid_unicode_utf8_first)] }
def PieceSplitSaid : Prop := pieceSplitRow.holds Tryd.pinned (OpenSpec.ofChange pieceSplitSpec)

/-- ITS FALSE NEIGHBOUR: 'it returns false'. Refute it at one input. -/
def pieceSplitWrong : ChangeSpec := { name := "pieceSplit", fn := fun _ => fun
  | [d1, d2] => { results := [.lit (.bool false)], args := [d1, d2] }
  | _ => none }
def PieceSplitWrongFalsely : Prop := pieceSplitRow.holds Tryd.pinned (OpenSpec.ofChange pieceSplitWrong)

/-- 'diptychlaw5.PieceTokens': WHATEVER THE INPUT: true; the input reads as it did. -/
def pieceTokensSpec : ChangeSpec := { name := "pieceTokens", fn := fun _ => fun
  | [d1, d2, d3, d4] => { results := [.lit (.bool true)], args := [d1, d2, d3, d4] }
  | _ => none }
def pieceTokensRow : OpenClaim := { program := "ytamoklceekeheaadoor", sum := "53ef35f8a4412985a21e1f0a581b600be007c4a7afde1bca6c2fdaaa1257ade6", func := "diptych/diptychlaw5.PieceTokens", spec := "pieceTokens", inPlace := ["internal/abi.NoEscape"], unfollowed := true, recurses := true, named := ["unicode/utf8.first", "unicode/utf8.acceptRanges"], apart := false, laid := [("unicode/utf8.acceptRanges", laid_unicode_utf8_acceptRanges), ("unicode/utf8.first", laid_unicode_utf8_first)] }
def PieceTokensSaid : Prop := pieceTokensRow.holds Tryd.pinned (OpenSpec.ofChange pieceTokensSpec)

/-- ITS FALSE NEIGHBOUR: 'it returns false'. Refute it at one input. -/
def pieceTokensWrong : ChangeSpec := { name := "pieceTokens", fn := fun _ => fun
  | [d1, d2, d3, d4] => { results := [.lit (.bool false)], args := [d1, d2, d3, d4] }
  | _ => none }
def PieceTokensWrongFalsely : Prop := pieceTokensRow.holds Tryd.pinned (OpenSpec.ofChange pieceTokensWrong)

/-- 'diptychlaw5.PieceTwice': WHATEVER THE INPUT: true; the input reads as it did. -/
def pieceTwiceSpec : ChangeSpec := { name := "pieceTwice", fn := fun _ => fun
  | [d1, d2, d3] => { results := [.lit (.bool true)], args := [d1, d2, d3] }
  | _ => none }
def pieceTwiceRow : OpenClaim := { program := "ytamoklceekeheaadoor", sum := "53ef35f8a4412985a21e1f0a581b600be007c4a7afde1bca6c2fdaaa1257ade6", func := "diptych/diptychlaw5.PieceTwice", spec := "pieceTwice", inPlace := ["internal/abi.NoEscape"], unfollowed := true, recurses := true, named := ["unicode/utf8.first", "unicode/utf8.acceptRanges"], apart := false, laid := [("unicode/utf8.acceptRanges", laid_unicode_utf8_acceptRanges), ("unicode/utf8.first", laid_unicode_utf8_first)] }
def PieceTwiceSaid : Prop := pieceTwiceRow.holds Tryd.pinned (OpenSpec.ofChange pieceTwiceSpec)

/-- ITS FALSE NEIGHBOUR: 'it returns false'. Refute it at one input. -/
def pieceTwiceWrong : ChangeSpec := { name := "pieceTwice", fn := fun _ => fun
  | [d1, d2, d3] => { results := [.lit (.bool false)], args := [d1, d2, d3] }
  | _ => none }
def PieceTwiceWrongFalsely : Prop := pieceTwiceRow.holds Tryd.pinned (OpenSpec.ofChange pieceTwiceWrong)

/-- 'diptychlaw5.PieceApart': WHATEVER THE INPUT: true; the input reads as it did. -/
def pieceApartSpec : ChangeSpec := { name := "pieceApart", fn := fun _ => fun
  | [d1, d2, d3] => { results := [.lit (.bool true)], args := [d1, d2, d3] }
  | _ => none }
def pieceApartRow : OpenClaim := { program := "ytamoklceekeheaadoor", sum := "53ef35f8a4412985a21e1f0a581b600be007c4a7afde1bca6c2fdaaa1257ade6", func := "diptych/diptychlaw5.PieceApart", spec := "pieceApart", inPlace := ["internal/abi.NoEscape"], unfollowed := true, recurses := true, named := ["unicode/utf8.first", "unicode/utf8.acceptRanges"], apart := false, laid := [("unicode/utf8.acceptRanges", laid_unicode_utf8_acceptRanges), ("unicode/utf8.first", laid_unicode_utf8_first)] }
def PieceApartSaid : Prop := pieceApartRow.holds Tryd.pinned (OpenSpec.ofChange pieceApartSpec)

/-- ITS FALSE NEIGHBOUR: 'it returns false'. Refute it at one input. -/
def pieceApartWrong : ChangeSpec := { name := "pieceApart", fn := fun _ => fun
  | [d1, d2, d3] => { results := [.lit (.bool false)], args := [d1, d2, d3] }
  | _ => none }
def PieceApartWrongFalsely : Prop := pieceApartRow.holds Tryd.pinned (OpenSpec.ofChange pieceApartWrong)

/-- 'diptychlaw5.PieceSplits': WHATEVER THE INPUT: true; the input reads as it did. -/
def pieceSplitsSpec : ChangeSpec := { name := "pieceSplits", fn := fun _ => fun
  | [d1, d2, d3] => { results := [.lit (.bool true)], args := [d1, d2, d3] }
  | _ => none }
def pieceSplitsRow : OpenClaim := { program := "ytamoklceekeheaadoor", sum := "53ef35f8a4412985a21e1f0a581b600be007c4a7afde1bca6c2fdaaa1257ade6", func := "diptych/diptychlaw5.PieceSplits", spec := "pieceSplits", inPlace := ["internal/abi.NoEscape"], unfollowed := true, recurses := true, named := ["unicode/utf8.first", "unicode/utf8.acceptRanges"], apart := false, laid := [("unicode/utf8.acceptRanges", laid_unicode_utf8_acceptRanges), ("unicode/utf8.first", laid_unicode_utf8_first)] }
def PieceSplitsSaid : Prop := pieceSplitsRow.holds Tryd.pinned (OpenSpec.ofChange pieceSplitsSpec)

/-- ITS FALSE NEIGHBOUR: 'it returns false'. Refute it at one input. -/
def pieceSplitsWrong : ChangeSpec := { name := "pieceSplits", fn := fun _ => fun
  | [d1, d2, d3] => { results := [.lit (.bool false)], args := [d1, d2, d3] }
  | _ => none }
def PieceSplitsWrongFalsely : Prop := pieceSplitsRow.holds Tryd.pinned (OpenSpec.ofChange pieceSplitsWrong)

/- THE SECOND FORM. 'bulk': how many values and letters a reading holds, each counted each time it is reached (what is shared counts as often as it is met; a slice's spare places count too). A statement '..UptoSaid' is the law's where the arguments, and the package variables that the reading takes, are together of bulk at most 1048576: NARROWER than '..Said'. Prove '..Said' where nothing that the law and all that it calls make is longer than what came in: it says more and counts as full. Else prove '..UptoSaid'. A law counts once. -/
mutual
def uptoBulk {H : Type} : DataW H → Nat
  | .lit (.string bytes) => bytes.length + 1
  | .lit _ => 1
  | .nil => 1
  | .ptr d => uptoBulk d + 1
  | .slice elems spare => uptoBulkAll elems + uptoBulkAll spare + 1
  | .agg parts => uptoBulkAll parts + 1
  | .iface _ d => uptoBulk d + 1
  | .map entries => uptoBulkEntries entries + 1
  | .held _ => 1
def uptoBulkAll {H : Type} : List (DataW H) → Nat
  | [] => 0
  | d :: r => uptoBulk d + uptoBulkAll r
def uptoBulkEntries {H : Type} : List (Lit × DataW H) → Nat
  | [] => 0
  | x :: r => uptoBulkEntry x + uptoBulkEntries r
def uptoBulkEntry {H : Type} : Lit × DataW H → Nat
  | (.string bytes, d) => bytes.length + uptoBulk d + 1
  | (_, d) => uptoBulk d + 1
 end
def uptoSmall : (H : Type) → List (DataW H) → Bool := fun _ ds => decide (uptoBulkAll ds ≤ 1048576)
def OpenSpec.upto (s : _root_.Go.ChangeSpec) : _root_.Go.OpenSpec := { _root_.Go.OpenSpec.ofChange s with cond := some uptoSmall }

/-- 'diptychlaw5.PieceBack', WHERE WHAT IT READS IS OF BULK AT MOST 1048576: true; the input reads as it did. -/
def pieceBackUptoRow : OpenClaim := { program := "ytamoklceekeheaadoor", sum := "53ef35f8a4412985a21e1f0a581b600be007c4a7afde1bca6c2fdaaa1257ade6", func := "diptych/diptychlaw5.PieceBack", spec := "pieceBack", inPlace := ["internal/abi.NoEscape"], unfollowed := true, recurses := true, named := ["unicode/utf8.first", "unicode/utf8.acceptRanges"], apart := false, laid := [("unicode/utf8.acceptRanges", laid_unicode_utf8_acceptRanges), ("unicode/utf8.first", laid_unicode_utf8_first)], narrowed := true }
def PieceBackUptoSaid : Prop := pieceBackUptoRow.holds Tryd.pinned (OpenSpec.upto pieceBackSpec)

/-- 'diptychlaw5.PieceIn', WHERE WHAT IT READS IS OF BULK AT MOST 1048576: true; the input reads as it did. -/
def pieceInUptoRow : OpenClaim := { program := "ytamoklceekeheaadoor", sum := "53ef35f8a4412985a21e1f0a581b600be007c4a7afde1bca6c2fdaaa1257ade6", func := "diptych/diptychlaw5.PieceIn", spec := "pieceIn", inPlace := ["internal/abi.NoEscape"], unfollowed := true, recurses := true, named := ["unicode/utf8.first", "unicode/utf8.acceptRanges"], apart := false, laid := [("unicode/utf8.acceptRanges", laid_unicode_utf8_acceptRanges), ("unicode/utf8.first", laid_unicode_utf8_first)], narrowed := true }
def PieceInUptoSaid : Prop := pieceInUptoRow.holds Tryd.pinned (OpenSpec.upto pieceInSpec)

/-- 'diptychlaw5.PieceSplit', WHERE WHAT IT READS IS OF BULK AT MOST 1048576: true; the input reads as it did. -/
def pieceSplitUptoRow : OpenClaim := { program := "ytamoklceekeheaadoor", sum := "53ef35f8a4412985a21e1f0a581b600be007c4a7afde1bca6c2fdaaa1257ade6", func := "diptych/diptychlaw5.PieceSplit", spec := "pieceSplit", inPlace := ["internal/abi.NoEscape"], unfollowed := true, recurses := true, named := ["unicode/utf8.first", "unicode/utf8.acceptRanges"], apart := false, laid := [("unicode/utf8.acceptRanges", laid_unicode_utf8_acceptRanges), ("unicode/utf8.first", laid_unicode_utf8_first)], narrowed := true }
def PieceSplitUptoSaid : Prop := pieceSplitUptoRow.holds Tryd.pinned (OpenSpec.upto pieceSplitSpec)

/-- 'diptychlaw5.PieceTokens', WHERE WHAT IT READS IS OF BULK AT MOST 1048576: true; the input reads as it did. -/
def pieceTokensUptoRow : OpenClaim := { program := "ytamoklceekeheaadoor", sum := "53ef35f8a4412985a21e1f0a581b600be007c4a7afde1bca6c2fdaaa1257ade6", func := "diptych/diptychlaw5.PieceTokens", spec := "pieceTokens", inPlace := ["internal/abi.NoEscape"], unfollowed := true, recurses := true, named := ["unicode/utf8.first", "unicode/utf8.acceptRanges"], apart := false, laid := [("unicode/utf8.acceptRanges", laid_unicode_utf8_acceptRanges), ("unicode/utf8.first", laid_unicode_utf8_first)], narrowed := true }
def PieceTokensUptoSaid : Prop := pieceTokensUptoRow.holds Tryd.pinned (OpenSpec.upto pieceTokensSpec)

/-- 'diptychlaw5.PieceTwice', WHERE WHAT IT READS IS OF BULK AT MOST 1048576: true; the input reads as it did. -/
def pieceTwiceUptoRow : OpenClaim := { program := "ytamoklceekeheaadoor", sum := "53ef35f8a4412985a21e1f0a581b600be007c4a7afde1bca6c2fdaaa1257ade6", func := "diptych/diptychlaw5.PieceTwice", spec := "pieceTwice", inPlace := ["internal/abi.NoEscape"], unfollowed := true, recurses := true, named := ["unicode/utf8.first", "unicode/utf8.acceptRanges"], apart := false, laid := [("unicode/utf8.acceptRanges", laid_unicode_utf8_acceptRanges), ("unicode/utf8.first", laid_unicode_utf8_first)], narrowed := true }
def PieceTwiceUptoSaid : Prop := pieceTwiceUptoRow.holds Tryd.pinned (OpenSpec.upto pieceTwiceSpec)

/-- 'diptychlaw5.PieceApart', WHERE WHAT IT READS IS OF BULK AT MOST 1048576: true; the input reads as it did. -/
def pieceApartUptoRow : OpenClaim := { program := "ytamoklceekeheaadoor", sum := "53ef35f8a4412985a21e1f0a581b600be007c4a7afde1bca6c2fdaaa1257ade6", func := "diptych/diptychlaw5.PieceApart", spec := "pieceApart", inPlace := ["internal/abi.NoEscape"], unfollowed := true, recurses := true, named := ["unicode/utf8.first", "unicode/utf8.acceptRanges"], apart := false, laid := [("unicode/utf8.acceptRanges", laid_unicode_utf8_acceptRanges), ("unicode/utf8.first", laid_unicode_utf8_first)], narrowed := true }
def PieceApartUptoSaid : Prop := pieceApartUptoRow.holds Tryd.pinned (OpenSpec.upto pieceApartSpec)

/-- 'diptychlaw5.PieceSplits', WHERE WHAT IT READS IS OF BULK AT MOST 1048576: true; the input reads as it did. -/
def pieceSplitsUptoRow : OpenClaim := { program := "ytamoklceekeheaadoor", sum := "53ef35f8a4412985a21e1f0a581b600be007c4a7afde1bca6c2fdaaa1257ade6", func := "diptych/diptychlaw5.PieceSplits", spec := "pieceSplits", inPlace := ["internal/abi.NoEscape"], unfollowed := true, recurses := true, named := ["unicode/utf8.first", "unicode/utf8.acceptRanges"], apart := false, laid := [("unicode/utf8.acceptRanges", laid_unicode_utf8_acceptRanges), ("unicode/utf8.first", laid_unicode_utf8_first)], narrowed := true }
def PieceSplitsUptoSaid : Prop := pieceSplitsUptoRow.holds Tryd.pinned (OpenSpec.upto pieceSplitsSpec)

end Rows
end Go.Proofs.YtamoklceekeheaaDoor
