/-
  What two rows begin and end with alike: plain facts; TokenEnds walked.
-/
import Derived.Test.YtkhfdoionjocgaaK4
import Derived.Test.YtkhfdoionjocgaaW13a
namespace Go.Proofs.Ytkhfdoionjocgaa
open Go.RowKit Go.Sort Go.Maps

theorem same_at : ∀ (a b : List Tok) (i : Nat), i < sameN a b → a[i]? = b[i]?
  | [], b, i, h => by cases b <;> simp [sameN] at h
  | a :: x, [], i, h => by simp [sameN] at h
  | a :: x, b :: y, i, h => by
    rw [sameN] at h
    split at h
    · rename_i he
      cases i with
      | zero => simp [he]
      | succ i => simpa using same_at x y i (by omega)
    · omega
theorem same_stop : ∀ (a b : List Tok), sameN a b < a.length → sameN a b < b.length → a[sameN a b]? ≠ b[sameN a b]?
  | [], b, h, _ => by simp at h
  | a :: x, [], _, h => by simp at h
  | a :: x, b :: y, h, h' => by
    by_cases he : a = b
    · have e : sameN (a :: x) (b :: y) = sameN x y + 1 := by rw [sameN, if_pos he]
      rw [e] at h h' ⊢
      simp only [List.length_cons, Nat.add_lt_add_iff_right] at h h'
      simpa using same_stop x y h h'
    · have e : sameN (a :: x) (b :: y) = 0 := by rw [sameN, if_neg he]
      rw [e]
      simpa using he
theorem back_sum (a b : List Tok) : sameN a b + backN a b ≤ a.length ∧ sameN a b + backN a b ≤ b.length := by
  have := sameN_le a b; unfold backN; omega
theorem back_at (a b : List Tok) (i : Nat) (h : i < backN a b) : a[a.length - 1 - i]? = b[b.length - 1 - i]? := by
  have h1 := back_sum a b
  have h2 : backN a b ≤ sameN a.reverse b.reverse := Nat.min_le_left _ _
  rw [get_rev (by omega), get_rev (by omega)]
  exact same_at _ _ i (by omega)
theorem back_stop (a b : List Tok) (h : sameN a b + backN a b < min a.length b.length) : a[a.length - 1 - backN a b]? ≠ b[b.length - 1 - backN a b]? := by
  have he : backN a b = sameN a.reverse b.reverse := by unfold backN at h ⊢; omega
  rw [get_rev (by omega), get_rev (by omega), he]
  have h1 := sameN_le a b
  exact same_stop _ _ (by rw [List.length_reverse, ← he]; omega) (by rw [List.length_reverse, ← he]; omega)

theorem tok_ne {x y : Tok} (h : x ≠ y) : ((x.kind : Int) == (y.kind : Int)) = false ∨ (((x.kind : Int) == (y.kind : Int)) = true ∧ (x.text.toList == y.text.toList) = false) ∨ (((x.kind : Int) == (y.kind : Int)) = true ∧ (x.text.toList == y.text.toList) = true ∧ (x.head.toList == y.head.toList) = false) := by
  have := tok_eq x y
  cases q0 : ((x.kind : Int) == (y.kind : Int)) with
  | false => exact .inl rfl
  | true =>
    cases q1 : (x.text.toList == y.text.toList) with
    | false => exact .inr (.inl ⟨rfl, rfl⟩)
    | true =>
      cases q2 : (x.head.toList == y.head.toList) with
      | false => exact .inr (.inr ⟨rfl, rfl, rfl⟩)
      | true => exact absurd (this.2 ⟨q0, q1, q2⟩) h
theorem toks_len_made (l : List Cel) : (toksB (madeB l)).length ≤ 760 := by
  rw [toksB_len]; exact Nat.le_trans (total_le_weigh _) (madeB_weigh l)

end Go.Proofs.Ytkhfdoionjocgaa
