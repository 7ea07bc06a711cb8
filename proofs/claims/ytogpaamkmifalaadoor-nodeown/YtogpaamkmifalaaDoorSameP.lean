/-
  Two nodes are the same just if they are equal trees: plain facts.
-/
import Derived.Test.YtogpaamkmifalaaDoorW28
import Derived.Test.YtogpaamkmifalaaDoorRightA
namespace Go.Proofs.YtogpaamkmifalaaDoor
open Go.RowKit Go.Sort

theorem bytes_eq {s t : ByteArray} (h : (s.toList == t.toList) = true) : s = t := by
  rw [beq_iff_eq, Lib.toList_data, Lib.toList_data] at h
  exact ByteArray.ext (Array.ext' h)
theorem bytes_refl (s : ByteArray) : (s.toList == s.toList) = true := by simp
theorem sameL_self (l : List ByteArray) : sameL l l = true := sameL_all rfl fun _ _ => bytes_refl _
theorem sameP_self (l : List (ByteArray × ByteArray)) : sameP l l = true := sameP_all rfl fun _ _ => by simp [pairEq]
theorem sameP_eq {a b : List (ByteArray × ByteArray)} (h : sameP a b = true) : a = b := by
  simp only [sameP, Bool.and_eq_true, decide_eq_true_eq, List.all_eq_true, List.mem_range] at h
  obtain ⟨hl, h⟩ := h
  apply List.ext_getElem hl
  intro i h1 h2
  have h3 := h i h1
  simp only [pairEq, pairAt, List.getD, List.getElem?_eq_getElem h1, List.getElem?_eq_getElem h2, Option.getD_some, Bool.and_eq_true] at h3
  exact Prod.ext (bytes_eq h3.1) (bytes_eq h3.2)
mutual
theorem sameB_self : ∀ t : Tree, sameB t t = true
  | .mk k t m a l => by rw [sameB]; simp only [Tree.kind, Tree.text, Tree.marks, Tree.attrs, Tree.kids, bytes_refl, sameL_self, sameP_self, sameAllB_self l]; rfl
theorem sameAllB_self : ∀ l : List Tree, sameAllB l l = true
  | [] => rfl
  | x :: l => by rw [sameAllB, sameB_self x, sameAllB_self l]; rfl
end
mutual
theorem sameB_eq : ∀ (a b : Tree), sameB a b = true → a = b
  | .mk k t m a l, .mk k' t' m' a' l', h => by
    rw [sameB] at h
    simp only [Tree.kind, Tree.text, Tree.marks, Tree.attrs, Tree.kids, Bool.and_eq_true] at h
    obtain ⟨h1, h2, h3, h4, h5⟩ := h
    rw [bytes_eq h1, bytes_eq h2, sameL_eq h3, sameP_eq h4, sameAllB_eq l l' h5]
theorem sameAllB_eq : ∀ (a b : List Tree), sameAllB a b = true → a = b
  | [], [], _ => rfl
  | [], _ :: _, h => by simp [sameAllB] at h
  | _ :: _, [], h => by simp [sameAllB] at h
  | x :: l, y :: l', h => by
    rw [sameAllB, Bool.and_eq_true] at h
    rw [sameB_eq x y h.1, sameAllB_eq l l' h.2]
end
theorem sameB_ne {a b : Tree} (h : a ≠ b) : sameB a b = false := by
  cases hs : sameB a b with
  | false => rfl
  | true => exact absurd (sameB_eq a b hs) h
end Go.Proofs.YtogpaamkmifalaaDoor
