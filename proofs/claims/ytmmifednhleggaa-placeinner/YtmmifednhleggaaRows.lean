/-
  No cell of these rows narrows 'for every input' (looked for: loops, veiled, ifaces, maps, wideKeys, modest, calm, conditions, laid).
  DERIVED. THE GIVEN ROWS OF THIS SEAT. 2 by the template 'for every input the law returns true; each argument reads behind the call as it read before'; 0 by the template 'total and deterministic' (their statements: YtmmifednhleggaaTotals.lean).
  GIVEN WITH THE SEED: the statements are not yours to turn. If you find one false, say at which input.
  Laid BY PROGRAM, IN A SANDBOX (cutbox-rows.mjs): the forced cells as the released guide's own fill.sh prints them over the translation afda42583c5ffd1c… (all of the seat's roots in one cut). By AI agents, Wed Nov 11 2026. No macro, syntax, notation, axiom, sorry.
-/
import Derived.Test.YtmmifednhleggaaChecked
import GoSem.Claim
import GoSem.ClaimJoined
import GoSem.ClaimMapViews
import Derived.JoinedTies
import Derived.KernelRfl
namespace Go.Proofs.Ytmmifednhleggaa
/- THE CELL 'sum', in the pinned program and in every row, IS THE sha256 OF THE DUMP (.gsa) THAT YtmmifednhleggaaProg.lean LOADS. Nothing in Lean hashes anything: it is a label: what it is worth is what the hold of that sum in a sandbox is worth. -/
noncomputable def Try.pinned : Pinned := { name := "ytmmifednhleggaa", sum := "afda42583c5ffd1c9c2b2601450cd70b14e6eef0184ee99f24fad366a8f5d30d", checked := Try.checked }
namespace Rows
def none {H : Type} : Left H := { results := [], args := [] }

/-- 'diptychlaw4.PlaceResolves': WHATEVER THE INPUT: true; the input reads as it did. -/
def placeResolvesSpec : ChangeSpec := { name := "placeResolves", fn := fun _ => fun
  | [d1, d2, d3] => { results := [.lit (.bool true)], args := [d1, d2, d3] }
  | _ => none }
def placeResolvesRow : OpenClaim := { program := "ytmmifednhleggaa", sum := "afda42583c5ffd1c9c2b2601450cd70b14e6eef0184ee99f24fad366a8f5d30d", func := "diptych/diptychlaw4.PlaceResolves", spec := "placeResolves", unfollowed := true, recurses := true, apart := false }
def PlaceResolvesSaid : Prop := placeResolvesRow.holds Try.pinned (OpenSpec.ofChange placeResolvesSpec)

/-- ITS FALSE NEIGHBOUR: 'it returns false'. Refute it at one input. -/
def placeResolvesWrong : ChangeSpec := { name := "placeResolves", fn := fun _ => fun
  | [d1, d2, d3] => { results := [.lit (.bool false)], args := [d1, d2, d3] }
  | _ => none }
def PlaceResolvesWrongFalsely : Prop := placeResolvesRow.holds Try.pinned (OpenSpec.ofChange placeResolvesWrong)

/-- 'diptychlaw4.PlaceInner': WHATEVER THE INPUT: true; the input reads as it did. -/
def placeInnerSpec : ChangeSpec := { name := "placeInner", fn := fun _ => fun
  | [d1, d2, d3] => { results := [.lit (.bool true)], args := [d1, d2, d3] }
  | _ => none }
def placeInnerRow : OpenClaim := { program := "ytmmifednhleggaa", sum := "afda42583c5ffd1c9c2b2601450cd70b14e6eef0184ee99f24fad366a8f5d30d", func := "diptych/diptychlaw4.PlaceInner", spec := "placeInner", unfollowed := true, recurses := true, apart := false }
def PlaceInnerSaid : Prop := placeInnerRow.holds Try.pinned (OpenSpec.ofChange placeInnerSpec)

/-- ITS FALSE NEIGHBOUR: 'it returns false'. Refute it at one input. -/
def placeInnerWrong : ChangeSpec := { name := "placeInner", fn := fun _ => fun
  | [d1, d2, d3] => { results := [.lit (.bool false)], args := [d1, d2, d3] }
  | _ => none }
def PlaceInnerWrongFalsely : Prop := placeInnerRow.holds Try.pinned (OpenSpec.ofChange placeInnerWrong)

/- THE SECOND FORM. 'bulk': how many values and letters a reading holds, each counted each time it is reached (what is shared counts as often as it is met; a slice's spare places count too). A statement '..UptoSaid' is the law's where the arguments, and the package variables that the reading takes, are together of bulk at most 1048576: NARROWER than '..Said'. Prove '..Said' where nothing that the law and all that it calls make is longer than what came in: it says more and counts as full. Else prove '..UptoSaid'. A law counts once. -/
mutual
def uptoBulk {H : Type} : DataW H → Nat
  | .lit (.string bytes) => bytes.length + 1
  | .lit _ => 1
  | .nil => 1
  | .ptr d => uptoBulk d + 1
  | .slice elems spare => uptoBulkAll elems + uptoBulkAll spare + 1
  | .agg parts => uptoBulkAll parts + 1
  | .iface _ d => uptoBulk d + 1
  | .map entries => uptoBulkEntries entries + 1
  | .held _ => 1
def uptoBulkAll {H : Type} : List (DataW H) → Nat
  | [] => 0
  | d :: r => uptoBulk d + uptoBulkAll r
def uptoBulkEntries {H : Type} : List (Lit × DataW H) → Nat
  | [] => 0
  | x :: r => uptoBulkEntry x + uptoBulkEntries r
def uptoBulkEntry {H : Type} : Lit × DataW H → Nat
  | (.string bytes, d) => bytes.length + uptoBulk d + 1
  | (_, d) => uptoBulk d + 1
 end
def uptoSmall : (H : Type) → List (DataW H) → Bool := fun _ ds => decide (uptoBulkAll ds ≤ 1048576)
def OpenSpec.upto (s : _root_.Go.ChangeSpec) : _root_.Go.OpenSpec := { _root_.Go.OpenSpec.ofChange s with cond := some uptoSmall }

/-- 'diptychlaw4.PlaceResolves', WHERE WHAT IT READS IS OF BULK AT MOST 1048576: true; the input reads as it did. -/
def placeResolvesUptoRow : OpenClaim := { program := "ytmmifednhleggaa", sum := "afda42583c5ffd1c9c2b2601450cd70b14e6eef0184ee99f24fad366a8f5d30d", func := "diptych/diptychlaw4.PlaceResolves", spec := "placeResolves", unfollowed := true, recurses := true, apart := false, narrowed := true }
def PlaceResolvesUptoSaid : Prop := placeResolvesUptoRow.holds Try.pinned (OpenSpec.upto placeResolvesSpec)

/-- 'diptychlaw4.PlaceInner', WHERE WHAT IT READS IS OF BULK AT MOST 1048576: true; the input reads as it did. -/
def placeInnerUptoRow : OpenClaim := { program := "ytmmifednhleggaa", sum := "afda42583c5ffd1c9c2b2601450cd70b14e6eef0184ee99f24fad366a8f5d30d", func := "diptych/diptychlaw4.PlaceInner", spec := "placeInner", unfollowed := true, recurses := true, apart := false, narrowed := true }
def PlaceInnerUptoSaid : Prop := placeInnerUptoRow.holds Try.pinned (OpenSpec.upto placeInnerSpec)

end Rows
end Go.Proofs.Ytmmifednhleggaa
