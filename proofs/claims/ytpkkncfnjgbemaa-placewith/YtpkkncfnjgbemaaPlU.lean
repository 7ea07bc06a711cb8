/-
  A tree with another node where a path leads: what leads where, sizes, and back again (no program is named here).
-/
import Derived.Test.YtpkkncfnjgbemaaPlV
namespace Go.Proofs.Ytpkkncfnjgbemaa
open Go.RowKit Go.Sort

theorem setKid_kids (t : Tree) (i : Nat) (y : Tree) : (setKid t i y).kids = t.kids.set i y := rfl
theorem setKid_kind (t : Tree) (i : Nat) (y : Tree) : (setKid t i y).kind = t.kind := rfl
theorem set_same {α : Type} {l : List α} {i : Nat} {x : α} (h : l[i]? = some x) : l.set i x = l := by
  obtain ⟨hl, he⟩ := List.getElem?_eq_some_iff.1 h
  rw [← he]; exact List.set_getElem_self hl
theorem setKid_back {t v y : Tree} {i : Nat} (h : t.kids[i]? = some v) : setKid (setKid t i y) i v = t := by
  obtain ⟨k, x, m, a, l⟩ := t
  simp only [setKid, Tree.kind, Tree.text, Tree.marks, Tree.attrs, Tree.kids, List.set_set] at *
  rw [set_same h]
theorem kidAt_set {t v y : Tree} {i : Int} (h : kidAt t i = some v) : kidAt (setKid t i.toNat y) i = some y := by
  obtain ⟨hT, h0, hv⟩ := kidAt_some h
  refine kidAt_of (by rw [setKid_kind]; exact hT) h0 ?_
  rw [setKid_kids, List.getElem?_set_self (List.getElem?_eq_some_iff.1 hv).1]
theorem goB_with : ∀ (p : List Int) (t u m : Tree), goB t p = some u → goB (withB t p m) p = some m
  | [], t, u, m, h => rfl
  | i :: p, t, u, m, h => by
    rw [goB] at h
    cases hk : kidAt t i with
    | none => rw [hk] at h; cases h
    | some v =>
      rw [hk] at h
      have hv := (kidAt_some hk).2.2
      simp only [withB, hv, goB]
      rw [kidAt_set hk]
      exact goB_with p v u m h
theorem with_with : ∀ (p : List Int) (t u m : Tree), goB t p = some u → withB (withB t p m) p u = t
  | [], t, u, m, h => by simp only [goB, Option.some.injEq] at h; subst h; rfl
  | i :: p, t, u, m, h => by
    rw [goB] at h
    cases hk : kidAt t i with
    | none => rw [hk] at h; cases h
    | some v =>
      rw [hk] at h
      have hv := (kidAt_some hk).2.2
      simp only [withB, hv]
      have hg : (setKid t i.toNat (withB v p m)).kids[i.toNat]? = some (withB v p m) := by
        rw [setKid_kids, List.getElem?_set_self (List.getElem?_eq_some_iff.1 hv).1]
      rw [hg]
      simp only
      rw [with_with p v u m h, setKid_back hv]
theorem total_set : ∀ (l : List Tree) (i : Nat) (v y : Tree), l[i]? = some v → totalB (l.set i y) + sizeB v = totalB l + sizeB y
  | [], i, v, y, h => by simp at h
  | x :: l, 0, v, y, h => by simp at h; subst h; simp only [List.set_cons_zero, totalB]; omega
  | x :: l, i + 1, v, y, h => by
    have := total_set l i v y (by simpa using h)
    simp only [List.set_cons_succ, totalB]; omega
theorem weigh_set : ∀ (l : List Tree) (i : Nat) (v y : Tree), l[i]? = some v → weighAll (l.set i y) + weigh v = weighAll l + weigh y
  | [], i, v, y, h => by simp at h
  | x :: l, 0, v, y, h => by simp at h; subst h; simp only [List.set_cons_zero, weighAll]; omega
  | x :: l, i + 1, v, y, h => by
    have := weigh_set l i v y (by simpa using h)
    simp only [List.set_cons_succ, weighAll]; omega
theorem size_with : ∀ (p : List Int) (t u m : Tree), goB t p = some u → sizeB (withB t p m) + sizeB u = sizeB t + sizeB m
  | [], t, u, m, h => by simp only [goB, Option.some.injEq] at h; subst h; simp only [withB]; omega
  | i :: p, t, u, m, h => by
    rw [goB] at h
    cases hk : kidAt t i with
    | none => rw [hk] at h; cases h
    | some v =>
      rw [hk] at h
      obtain ⟨hT, h0, hv⟩ := kidAt_some hk
      simp only [withB, hv]
      have h1 := size_with p v u m h
      have h2 := total_set t.kids i.toNat v (withB v p m) hv
      rw [sizeB_node (x := setKid t i.toNat (withB v p m)) hT, setKid_kids, sizeB_node hT]
      omega
theorem weigh_with : ∀ (p : List Int) (t u m : Tree), goB t p = some u → weigh (withB t p m) + weigh u = weigh t + weigh m
  | [], t, u, m, h => by simp only [goB, Option.some.injEq] at h; subst h; simp only [withB]; omega
  | i :: p, t, u, m, h => by
    rw [goB] at h
    cases hk : kidAt t i with
    | none => rw [hk] at h; cases h
    | some v =>
      rw [hk] at h
      obtain ⟨hT, h0, hv⟩ := kidAt_some hk
      simp only [withB, hv]
      have h1 := weigh_with p v u m h
      have h2 := weigh_set t.kids i.toNat v (withB v p m) hv
      obtain ⟨k, x, ms, a, l⟩ := t
      simp only [setKid, Tree.kind, Tree.text, Tree.marks, Tree.attrs, Tree.kids, weigh] at *
      omega
end Go.Proofs.Ytpkkncfnjgbemaa
