/-
  What node.Copy answers: the node, in memory of its own.
-/
import Derived.Test.YtmmifednhleggaaW18
import Derived.Test.YtmmifednhleggaaPar
namespace Go.Proofs.Ytmmifednhleggaa
open Go.RowKit Go.Sort

theorem frozen_kept {w w' : World} {g o : Nat} {v : Value} (h : w.frozen? ⟨g, o, none⟩ = false) (hc : w.cell? ⟨g, o, none⟩ = some v) (hb : Below w.heap.size w w') : w'.frozen? ⟨g, o, none⟩ = false :=
  (hb.frozen (p := ⟨g, o, none⟩) (cell_lt hc)).trans h
theorem own_form {w : World} {base : Nat} {S : Nat → Prop} {v : Value} {l : List Tree} (h : (l = [] ∧ ∃ A, v = .slice A 0 0) ∨ Own w base S v l) : ∃ A c, v = .slice A l.length c := by
  rcases h with ⟨rfl, A, rfl⟩ | h
  · exact ⟨A, 0, rfl⟩
  · obtain ⟨A, c, rfl, _⟩ := h.form
    exact ⟨A, c, rfl⟩

def CopySaid (t : Tree) : Prop := ∀ (v : Value) (w : World) (p : Nat), Node w (Under w.heap.size) v t → weigh t ≤ 1000000 → SelfAt w 39 p →
    Calls Try.prog 39 #[v, .pointer (some ⟨p, 0, none⟩)] w fun e w' => ∃ v', e = .returned v' ∧ NodeP w' t w.heap.size w'.heap.size v' ∧ Below w.heap.size w w'

end Go.Proofs.Ytmmifednhleggaa
