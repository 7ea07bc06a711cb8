/-
  What the codec's writing calls answer: Quote, Head, Print.
-/
import Derived.Test.YtmmifednhleggaaW14
import Derived.Test.YtmmifednhleggaaWri
import Derived.Test.YtmmifednhleggaaW11a
namespace Go.Proofs.Ytmmifednhleggaa
open Go.RowKit Go.Sort

/-- A block of another type than bytes, kept. -/
theorem Rest.blk {b p : Nat} {w w' : World} {cs : Array Value} {T : TypeId} (h : Rest b w w') (hp : w.heap[p]? = some (.cells cs T)) (hn : p ≠ b) (hT : T ≠ 5) : w'.heap[p]? = some (.cells cs T) :=
  h p _ hp (fun e => hn (Option.some.inj e)) (fun _ _ e => by injection e with _ e _; exact hT e)

theorem take_snoc_b (s : ByteArray) (k : Nat) (h : k < s.size) : s.data.toList.take (k + 1) = s.data.toList.take k ++ [s[k]] := by
  rw [List.take_succ_eq_append_getElem (by simpa using h)]; rfl

theorem list_bytes {l : List UInt8} : ([] : List UInt8) ++ l = l := rfl

end Go.Proofs.Ytmmifednhleggaa
