/-
  What the library's calls on texts answer: utf8.ValidString, utf8.RuneCountInString.
-/
import Derived.Test.YtmmifednhleggaaW2
import Derived.Test.YtmmifednhleggaaShelf
import Derived.Lib.LaidU8T
namespace Go.Proofs.Ytmmifednhleggaa
open Go.RowKit
theorem runes_any (s : ByteArray) (w : World) (hs : s.size ≤ 1000000) :
    Calls Try.prog 38 #[.string s] w fun e w' => e = .returned (.int .i64 (Lib.runeCount s)) ∧ Below w.heap.size w w' :=
  (Any.utf8_RuneCountInString Try.laysRunes s w (by omega)).mono fun _ _ ⟨he, p, hp⟩ => ⟨he, by subst hp; exact (Below.refl _ _).alloc (Nat.le_refl _) _⟩
end Go.Proofs.Ytmmifednhleggaa
