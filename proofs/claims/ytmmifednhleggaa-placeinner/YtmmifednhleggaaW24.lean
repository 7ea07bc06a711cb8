/-
  What node.withoutEmpty answers.
-/
import Derived.Test.YtmmifednhleggaaJoinP
namespace Go.Proofs.Ytmmifednhleggaa
open Go.RowKit Go.Sort

theorem set5_os (w : World) (g : Nat) (v0 v1 v2 v3 v4 : Value) : (((((w.setCell ⟨g, 0, none⟩ v0).setCell ⟨g, 1, none⟩ v1).setCell ⟨g, 2, none⟩ v2).setCell ⟨g, 3, none⟩ v3).setCell ⟨g, 4, none⟩ v4).os = w.os ∧
    (((((w.setCell ⟨g, 0, none⟩ v0).setCell ⟨g, 1, none⟩ v1).setCell ⟨g, 2, none⟩ v2).setCell ⟨g, 3, none⟩ v3).setCell ⟨g, 4, none⟩ v4).tape = w.tape ∧
    (((((w.setCell ⟨g, 0, none⟩ v0).setCell ⟨g, 1, none⟩ v1).setCell ⟨g, 2, none⟩ v2).setCell ⟨g, 3, none⟩ v3).setCell ⟨g, 4, none⟩ v4).output = w.output := by
  have h (W : World) (i : Nat) (v : Value) : (W.setCell ⟨g, i, none⟩ v).os = W.os ∧ (W.setCell ⟨g, i, none⟩ v).tape = W.tape ∧ (W.setCell ⟨g, i, none⟩ v).output = W.output := ⟨rfl, rfl, rfl⟩
  refine ⟨?_, ?_, ?_⟩
  · rw [(h _ _ _).1, (h _ _ _).1, (h _ _ _).1, (h _ _ _).1, (h _ _ _).1]
  · rw [(h _ _ _).2.1, (h _ _ _).2.1, (h _ _ _).2.1, (h _ _ _).2.1, (h _ _ _).2.1]
  · rw [(h _ _ _).2.2, (h _ _ _).2.2, (h _ _ _).2.2, (h _ _ _).2.2, (h _ _ _).2.2]
end Go.Proofs.Ytmmifednhleggaa
