/-
  Right as it counts what may still be looked at; how a right expression is written (no program is named here).
-/
import Derived.Test.YtldmimekmjmkgaaDoorFa
namespace Go.Proofs.YtldmimekmjmkgaaDoor
open Go.RowKit

mutual
/-- right's answer, and what is left behind it. -/
def goR (ok : ByteArray → Bool) : Ex → Int → Bool × Int
  | .mk o s l, n => if n - 1 < 0 then (false, n - 1) else if shapedE ok (.mk o s l) then goRs ok l (n - 1) else (false, n - 1)
def goRs (ok : ByteArray → Bool) : List Ex → Int → Bool × Int
  | [], n => (true, n)
  | x :: l, n => if (goR ok x n).1 then goRs ok l (goR ok x n).2 else (false, (goR ok x n).2)
end
mutual
theorem goR_left (ok : ByteArray → Bool) : ∀ (e : Ex) (n : Int), 0 ≤ n → -1 ≤ (goR ok e n).2 ∧ (goR ok e n).2 ≤ n ∧ ((goR ok e n).1 = true → 0 ≤ (goR ok e n).2)
  | .mk o s l, n, hn => by
    unfold goR
    split
    · exact ⟨by dsimp only; omega, by dsimp only; omega, fun h => by cases h⟩
    · split
      · have h1 := goRs_left ok l (n - 1) (by omega)
        exact ⟨h1.1, by omega, h1.2.2⟩
      · exact ⟨by dsimp only; omega, by dsimp only; omega, fun h => by cases h⟩
theorem goRs_left (ok : ByteArray → Bool) : ∀ (l : List Ex) (n : Int), 0 ≤ n → -1 ≤ (goRs ok l n).2 ∧ (goRs ok l n).2 ≤ n ∧ ((goRs ok l n).1 = true → 0 ≤ (goRs ok l n).2)
  | [], n, hn => by unfold goRs; exact ⟨by dsimp only; omega, by dsimp only; omega, fun _ => hn⟩
  | x :: l, n, hn => by
    have h1 := goR_left ok x n hn
    unfold goRs
    split
    · rename_i h
      have h2 := goRs_left ok l _ (h1.2.2 h)
      exact ⟨h2.1, by omega, h2.2.2⟩
    · exact ⟨h1.1, h1.2.1, fun h => by cases h⟩
end
mutual
theorem goR_says (ok : ByteArray → Bool) : ∀ (e : Ex) (n : Int), 0 ≤ n → (goR ok e n).1 = (allE ok e && decide ((sizeE e : Int) ≤ n)) ∧ ((goR ok e n).1 = true → (goR ok e n).2 = n - sizeE e)
  | .mk o s l, n, hn => by
    unfold goR allE sizeE
    by_cases h0 : n - 1 < 0
    · rw [if_pos h0]
      refine ⟨?_, fun h => by cases h⟩
      have : decide (((1 + sizeEs l : Nat) : Int) ≤ n) = false := decide_eq_false (by omega)
      rw [this, Bool.and_false]
    · rw [if_neg h0]
      by_cases h1 : shapedE ok (.mk o s l) = true
      · rw [if_pos h1, h1, Bool.true_and]
        have h2 := goRs_says ok l (n - 1) (by omega)
        refine ⟨?_, fun h => ?_⟩
        · rw [h2.1]
          congr 1
          by_cases h3 : ((sizeEs l : Int) ≤ n - 1)
          · rw [decide_eq_true h3, decide_eq_true (by omega)]
          · rw [decide_eq_false h3, decide_eq_false (by omega)]
        · rw [h2.2 h]; omega
      · rw [if_neg h1, Bool.eq_false_iff.2 h1]
        exact ⟨by simp, fun h => by cases h⟩
theorem goRs_says (ok : ByteArray → Bool) : ∀ (l : List Ex) (n : Int), 0 ≤ n → (goRs ok l n).1 = (allEs ok l && decide ((sizeEs l : Int) ≤ n)) ∧ ((goRs ok l n).1 = true → (goRs ok l n).2 = n - sizeEs l)
  | [], n, hn => by
    unfold goRs allEs sizeEs
    exact ⟨by rw [decide_eq_true (by omega)]; rfl, fun _ => by simp⟩
  | x :: l, n, hn => by
    have h1 := goR_says ok x n hn
    have h0 := goR_left ok x n hn
    unfold goRs allEs sizeEs
    by_cases hx : (goR ok x n).1 = true
    · rw [if_pos hx]
      have h2 := goRs_says ok l _ (h0.2.2 hx)
      have e1 := h1.2 hx
      rw [hx] at h1
      have h3 : allE ok x = true := by
        have := h1.1.symm
        rw [Bool.and_eq_true] at this
        exact this.1
      rw [e1] at h2 ⊢
      refine ⟨?_, fun h => ?_⟩
      · rw [h2.1, h3, Bool.true_and]
        congr 1
        by_cases h4 : ((sizeEs l : Int) ≤ n - sizeE x)
        · rw [decide_eq_true h4, decide_eq_true (by omega)]
        · rw [decide_eq_false h4, decide_eq_false (by omega)]
      · rw [h2.2 h]; omega
    · rw [if_neg hx]
      refine ⟨?_, fun h => by cases h⟩
      rw [Bool.eq_false_iff.2 hx] at h1
      have h3 := h1.1.symm
      rw [Bool.and_eq_false_iff] at h3
      rcases h3 with h3 | h3
      · rw [h3]; simp
      · have h4 := of_decide_eq_false h3
        rw [decide_eq_false (show ¬ (((sizeE x + sizeEs l : Nat) : Int) ≤ n) by omega), Bool.and_false]
end
theorem goR_right (ok : ByteArray → Bool) (e : Ex) : (goR ok e 24).1 = rightE ok e := by
  rw [(goR_says ok e 24 (by omega)).1]
  unfold rightE
  congr 1
  by_cases h : sizeE e ≤ 24
  · rw [decide_eq_true h, decide_eq_true (by omega)]
  · rw [decide_eq_false h, decide_eq_false (by omega)]
/-- What right says behind the first k of the kids: all of them were right as far as this tells, and so much is left. -/
def upR (ok : ByteArray → Bool) (l : List Ex) (n : Int) (k : Nat) (m : Int) : Prop := goRs ok l n = goRs ok (l.drop k) m
theorem upR_start (ok : ByteArray → Bool) (l : List Ex) (n : Int) : upR ok l n 0 n := rfl
theorem upR_next {ok : ByteArray → Bool} {l : List Ex} {n m : Int} {k : Nat} {x : Ex} (h : upR ok l n k m) (hx : l[k]? = some x) (ht : (goR ok x m).1 = true) : upR ok l n (k + 1) (goR ok x m).2 := by
  unfold upR at h ⊢
  rw [h, show l.drop k = x :: l.drop (k + 1) by rw [List.drop_eq_getElem?_toList_append, hx]; rfl, goRs, if_pos ht]
theorem upR_stop {ok : ByteArray → Bool} {l : List Ex} {n m : Int} {k : Nat} {x : Ex} (h : upR ok l n k m) (hx : l[k]? = some x) (ht : (goR ok x m).1 = false) : goRs ok l n = (false, (goR ok x m).2) := by
  unfold upR at h
  rw [h, show l.drop k = x :: l.drop (k + 1) by rw [List.drop_eq_getElem?_toList_append, hx]; rfl, goRs, if_neg (by rw [ht]; exact Bool.false_ne_true)]
theorem upR_end {ok : ByteArray → Bool} {l : List Ex} {n m : Int} {k : Nat} (h : upR ok l n k m) (hk : l.length ≤ k) : goRs ok l n = (true, m) := by
  unfold upR at h
  rw [h, List.drop_eq_nil_of_le hk, goRs]
end Go.Proofs.YtldmimekmjmkgaaDoor
