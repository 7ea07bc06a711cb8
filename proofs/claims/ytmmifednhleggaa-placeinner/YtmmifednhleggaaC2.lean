/-
  What the codec's writing calls answer: writeMarks, writeAttrs, writeHead, writeAll, written, Print.
-/
import Derived.Test.YtmmifednhleggaaC1
namespace Go.Proofs.Ytmmifednhleggaa
open Go.RowKit Go.Sort

theorem marksW_cons {l : List ByteArray} (h : l ≠ []) : marksW l = 60 :: (commaM l ++ [62]) := by cases l with | nil => exact absurd rfl h | cons x l => rfl
theorem attrsW_cons {l : List (ByteArray × ByteArray)} (h : l ≠ []) : attrsW l = 40 :: (blankA l ++ [41]) := by cases l with | nil => exact absurd rfl h | cons x l => rfl
theorem commaM_take_le (l : List ByteArray) (k : Nat) : (commaM (l.take k)).length ≤ weighL l := by
  have h1 := commaM_le (l.take k)
  have h2 : weighL (l.take k) + weighL (l.drop k) = weighL l := by unfold weighL; rw [← List.sum_append, ← List.map_append, List.take_append_drop]
  omega
theorem blankA_take_le (l : List (ByteArray × ByteArray)) (k : Nat) : (blankA (l.take k)).length ≤ 4 * weighP l := by
  have h1 := blankA_le (l.take k)
  have h2 : weighP (l.take k) + weighP (l.drop k) = weighP l := by unfold weighP; rw [← List.sum_append, ← List.map_append, List.take_append_drop]
  omega

end Go.Proofs.Ytmmifednhleggaa
