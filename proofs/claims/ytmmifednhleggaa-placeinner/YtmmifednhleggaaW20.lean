/-
  What node.runLength answers.
-/
import Derived.Test.YtmmifednhleggaaW8
import Derived.Lib.QuietBelow
namespace Go.Proofs.Ytmmifednhleggaa
open Go.RowKit Go.Sort

/-- How many nodes at the beginning are to be one. -/
def runB : List Tree → Nat
  | [] => 1
  | [_] => 1
  | x :: y :: l => if alikeB x y then runB (y :: l) + 1 else 1
theorem runB_step {l : List Tree} {k : Nat} {x y : Tree} (hx : l[k]? = some x) (hy : l[k + 1]? = some y) : runB (l.drop k) = if alikeB x y then runB (l.drop (k + 1)) + 1 else 1 := by
  have h1 := (List.getElem?_eq_some_iff.1 hx).1
  have h2 := (List.getElem?_eq_some_iff.1 hy).1
  have e1 := (List.getElem?_eq_some_iff.1 hx).2
  have e2 := (List.getElem?_eq_some_iff.1 hy).2
  rw [List.drop_eq_getElem_cons h1, List.drop_eq_getElem_cons h2, e1, e2, runB]
theorem runB_last {l : List Tree} {k : Nat} (h : k + 1 = l.length) : runB (l.drop k) = 1 := by
  rw [List.drop_eq_getElem_cons (by omega), List.drop_eq_nil_of_le (by omega)]; rfl
theorem runB_pos : ∀ l : List Tree, 1 ≤ runB l
  | [] => by simp [runB]
  | [_] => by simp [runB]
  | x :: y :: l => by rw [runB]; split <;> omega
theorem runB_le : ∀ l : List Tree, l ≠ [] → runB l ≤ l.length
  | [], h => absurd rfl h
  | [_], _ => by simp [runB]
  | x :: y :: l, _ => by
    have := runB_le (y :: l) (by simp)
    rw [runB]; split <;> simp at this ⊢ <;> omega

end Go.Proofs.Ytmmifednhleggaa
