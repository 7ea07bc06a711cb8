/-
  Lists of nothing; a row of one node.
-/
import Derived.Test.YtmmifednhleggaaW6
namespace Go.Proofs.Ytmmifednhleggaa
open Go.RowKit Go.Sort

theorem strs_none {w : World} {S : Nat → Prop} : Strs w S (.slice none 0 0) [] := ⟨none, 0, rfl, Nat.le_refl _, by unfold maxLen; omega, .inl rfl⟩
theorem pairs_none {w : World} {S : Nat → Prop} : Pairs w S (.slice none 0 0) [] := ⟨none, 0, rfl, Nat.le_refl _, by unfold maxLen; omega, .inl rfl⟩
theorem kids_none {w : World} {S : Nat → Prop} : Kids w S (.slice none 0 0) [] := ⟨none, 0, rfl, Nat.le_refl _, by unfold maxLen; omega, .inl rfl⟩
theorem kids_row1 {w : World} {S : Nat → Prop} {g : Nat} {t : Tree} {vm va vk : Value} (c0 : w.cell? ⟨g, 0, none⟩ = some (.string t.kind)) (c1 : w.cell? ⟨g, 1, none⟩ = some (.string t.text)) (c2 : w.cell? ⟨g, 2, none⟩ = some vm) (c3 : w.cell? ⟨g, 3, none⟩ = some va) (c4 : w.cell? ⟨g, 4, none⟩ = some vk)
    (hm : Strs w S vm t.marks) (ha : Pairs w S va t.attrs) (hk : Kids w S vk t.kids) (hg : S g) : Kids w S (.slice (some ⟨g, 0, none⟩) 1 1) [t] :=
  kids_one rfl (Nat.le_refl _) (by unfold maxLen; omega) hg ((nodeAt_iff t g 0).2 ⟨vm, va, vk, c0, c1, c2, c3, c4, hm, ha, hk⟩)
end Go.Proofs.Ytmmifednhleggaa
