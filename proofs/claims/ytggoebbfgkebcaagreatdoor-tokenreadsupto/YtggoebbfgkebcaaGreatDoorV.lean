/-
  What the library's calls on texts answer: utf8.ValidString, utf8.RuneCountInString.
-/
import Derived.Test.YtggoebbfgkebcaaGreatDoorW2
import Derived.Test.YtggoebbfgkebcaaGreatDoorShelf
import Derived.Lib.LaidU8T
namespace Go.Proofs.YtggoebbfgkebcaaGreatDoor
open Go.RowKit
def Tabs (w : World) : Prop := Lib.Utf8Tabs 0 1 w
theorem valid_any (s : ByteArray) (w : World) (hs : s.size ≤ 1000000) (hT : Tabs w) :
    Calls Tryz.prog 54 #[.string s] w fun e w' => e = .returned (.bool (Lib.validD s.data.toList)) ∧ Below w.heap.size w w' :=
  Any.utf8_ValidString Tryz.laysValid s w (by omega) hT
theorem runes_any (s : ByteArray) (w : World) (hs : s.size ≤ 1000000) :
    Calls Tryz.prog 51 #[.string s] w fun e w' => e = .returned (.int .i64 (Lib.runeCount s)) ∧ Below w.heap.size w w' :=
  (Any.utf8_RuneCountInString Tryz.laysRunes s w (by omega)).mono fun _ _ ⟨he, p, hp⟩ => ⟨he, by subst hp; exact (Below.refl _ _).alloc (Nat.le_refl _) _⟩
end Go.Proofs.YtggoebbfgkebcaaGreatDoor
