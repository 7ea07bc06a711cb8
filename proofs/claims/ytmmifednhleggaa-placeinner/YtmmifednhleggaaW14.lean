/-
  What a text that grows (strings.Builder) answers, and node.Words.
-/
import Derived.Test.YtmmifednhleggaaW6
import Derived.Shelf.Strings.BuilderK
namespace Go.Proofs.Ytmmifednhleggaa
open Go.RowKit Go.Sort

def Rest (b : Nat) (w w' : World) : Prop := Lib.OthersKept 5 (some b) w w'
theorem Rest.trans {b : Nat} {a c d : World} (h : Rest b a c) (k : Rest b c d) : Rest b a d := Lib.OthersKept.trans h k
theorem Rest.refl (b : Nat) (w : World) : Rest b w w := Lib.OthersKept.refl _ _ _
theorem Rest.of_below {b : Nat} {w w' : World} (h : Below w.heap.size w w') : Rest b w w' :=
  fun k _ hk _ _ => (h.block k (Array.getElem?_eq_some_iff.1 hk).1).trans hk
mutual
def wordsB : Tree → List UInt8
  | .mk k t _ _ l => if isTxt k then t.data.toList else wordsAll l
def wordsAll : List Tree → List UInt8
  | [] => []
  | x :: l => wordsB x ++ wordsAll l
end
theorem wordsAll_append (a b : List Tree) : wordsAll (a ++ b) = wordsAll a ++ wordsAll b := by
  induction a with
  | nil => simp [wordsAll]
  | cons x l ih => simp only [List.cons_append, wordsAll, ih, List.append_assoc]
mutual
theorem words_le_weigh : ∀ t : Tree, (wordsB t).length ≤ weigh t
  | .mk k t m a l => by
    have h1 := wordsAll_le_weigh l
    have h2 := Lib.size_eq t
    simp only [wordsB, weigh]; split <;> omega
theorem wordsAll_le_weigh : ∀ l : List Tree, (wordsAll l).length ≤ weighAll l
  | [] => by simp [wordsAll]
  | x :: l => by have h1 := words_le_weigh x; have h2 := wordsAll_le_weigh l; simp only [wordsAll, weighAll, List.length_append]; omega
end
end Go.Proofs.Ytmmifednhleggaa
