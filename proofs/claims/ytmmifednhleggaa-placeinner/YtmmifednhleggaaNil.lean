/-
  The kind of texts; slices of nothing.
-/
import Derived.Test.YtmmifednhleggaaTree
namespace Go.Proofs.Ytmmifednhleggaa
open Go.RowKit

def TEXT : ByteArray := ⟨#[116, 101, 120, 116]⟩
theorem strs_nil {w : World} {S : Nat → Prop} : Strs w S (.slice none 0 0) [] := ⟨none, 0, rfl, Nat.le_refl _, by unfold maxLen; omega, .inl rfl⟩
theorem pairs_nil {w : World} {S : Nat → Prop} : Pairs w S (.slice none 0 0) [] := ⟨none, 0, rfl, Nat.le_refl _, by unfold maxLen; omega, .inl rfl⟩
theorem kids_nil {w : World} {S : Nat → Prop} : Kids w S (.slice none 0 0) [] := ⟨none, 0, rfl, Nat.le_refl _, by unfold maxLen; omega, .inl rfl⟩
end Go.Proofs.Ytmmifednhleggaa
