/-
  The token behind a position is what its spot says (no program is named here but for the type of tokens).
-/
import Derived.Test.YtpkkncfnjgbemaaPlA
import Derived.Test.YtpkkncfnjgbemaaK1
namespace Go.Proofs.Ytpkkncfnjgbemaa
open Go.RowKit Go.Sort Go.Maps

/-- The token at a kid, so many signs in. -/
def tokAt : Option Tree → Nat → Option Tok
  | none, _ => some closeT
  | some x, o => if isTxt x.kind = true then ((pts x.text.data.toList).map (signT (headT x)))[o]? else some (openT (headT x))
theorem toks_from {t : Tree} (ht : isTxt t.kind = false) (ih : ∀ x, x ∈ t.kids → isTxt x.kind = false → ∀ (k : Nat) (s : Spt), (spotsB 0 x.kids)[k]? = some s → ∃ u, goB x s.1 = some u ∧ (toksB x.kids ++ [closeT])[k]? = tokAt u.kids[s.2.1]? s.2.2) :
    ∀ (l : List Tree) (i k : Nat) (s : Spt), t.kids.drop i = l → i ≤ t.kids.length → (spotsB i l)[k]? = some s → ∃ u, goB t s.1 = some u ∧ (toksB l ++ [closeT])[k]? = tokAt u.kids[s.2.1]? s.2.2
  | [], i, k, s, hd, hi, h => by
    have hl : t.kids.length ≤ i := by rw [List.drop_eq_nil_iff] at hd; exact hd
    have he : i = t.kids.length := by omega
    subst he
    rw [spotsB] at h
    obtain ⟨rfl, rfl⟩ : k = 0 ∧ s = ([], t.kids.length, 0) := by
      cases k with
      | zero => simp at h; exact ⟨rfl, h.symm⟩
      | succ k => simp at h
    exact ⟨t, rfl, by simp [toksB, tokAt]⟩
  | x :: l, i, k, s, hd, hi, h => by
    have hx : t.kids[i]? = some x := by rw [← List.head?_drop, hd]; rfl
    have hil : i < t.kids.length := (List.getElem?_eq_some_iff.1 hx).1
    have hd' : t.kids.drop (i + 1) = l := by rw [← List.tail_drop, hd]; rfl
    rw [spotsB] at h
    rw [toksB, List.append_assoc]
    by_cases hk : k < sizeB x
    · rw [List.getElem?_append_left (by rw [spotsT_len]; exact hk)] at h
      rw [List.getElem?_append_left (by rw [tokB_len]; exact hk)]
      cases hT : isTxt x.kind with
      | true =>
        rw [spotsT_text i hT, List.getElem?_map, List.getElem?_range hk] at h
        simp only [Option.map_some, Option.some.injEq] at h
        subst h
        refine ⟨t, rfl, ?_⟩
        rw [hx, tokB_text x hT]
        simp only [tokAt, hT, if_true]
      | false =>
        rw [spotsT_node i hT] at h
        rw [tokB_node x hT]
        cases k with
        | zero =>
          simp at h
          subst h
          refine ⟨t, rfl, ?_⟩
          rw [hx]; simp [tokAt, hT]
        | succ k =>
          simp only [List.getElem?_cons_succ, List.getElem?_map] at h
          obtain ⟨s', hs', rfl⟩ := Option.map_eq_some_iff.1 h
          obtain ⟨u, hu, hk'⟩ := ih x (List.mem_of_getElem? hx) hT k s' hs'
          have hka : kidAt t (i : Int) = some x := kidAt_of ht (by omega) (by simpa using hx)
          refine ⟨u, by simp only [deeper, goB, hka]; exact hu, ?_⟩
          rw [List.getElem?_cons_succ]
          exact hk'
    · rw [List.getElem?_append_right (by rw [spotsT_len]; omega), spotsT_len] at h
      rw [List.getElem?_append_right (by rw [tokB_len]; omega), tokB_len]
      exact toks_from ht ih l (i + 1) (k - sizeB x) s hd' (by omega) h
theorem toks_ok : ∀ (t : Tree), isTxt t.kind = false → ∀ (k : Nat) (s : Spt), (spotsB 0 t.kids)[k]? = some s → ∃ u, goB t s.1 = some u ∧ (toksB t.kids ++ [closeT])[k]? = tokAt u.kids[s.2.1]? s.2.2 := by
  intro t
  induction t using Tree.induct_one with
  | h kd tx m a l ih =>
    intro ht k s h
    exact toks_from ht (fun x hx => ih x hx) (Tree.mk kd tx m a l).kids 0 k s (by simp) (by simp) h
/-- .. with where the spot leads. -/
theorem toks_at {t u : Tree} {k : Nat} {s : Spt} (ht : isTxt t.kind = false) (hs : (spotsB 0 t.kids)[k]? = some s) (hu : SpotOk t k s u) (hk : k < totalB t.kids) : (toksB t.kids)[k]? = tokAt u.kids[s.2.1]? s.2.2 := by
  obtain ⟨u', h1, h2⟩ := toks_ok t ht k s hs
  have : u' = u := by rw [hu.go] at h1; exact (Option.some.inj h1).symm
  subst this
  rw [← h2, List.getElem?_append_left (by rw [toksB_len]; exact hk)]
end Go.Proofs.Ytpkkncfnjgbemaa
