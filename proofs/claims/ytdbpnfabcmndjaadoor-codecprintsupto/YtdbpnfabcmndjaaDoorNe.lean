/-
  When attributes and rows are formed, parted as the document does.
-/
import Derived.Test.YtdbpnfabcmndjaaDoorNb
namespace Go.Proofs.YtdbpnfabcmndjaaDoor
open Go.RowKit Go.Sort

theorem all_range {n : Nat} {p : Nat → Bool} : (List.range n).all p = true ↔ ∀ i, i < n → p i = true := by
  rw [List.all_eq_true]
  exact ⟨fun h i hi => h i (List.mem_range.2 hi), fun h i hi => h i (List.mem_range.1 hi)⟩
theorem names_at {l : List (ByteArray × ByteArray)} {i : Nat} (h : i < l.length) : (l.map (·.1)).getD i ByteArray.empty = (pairAt l i).1 := by
  have h1 := getD_some (ByteArray.empty, ByteArray.empty) h
  rw [List.getD_eq_getElem?_getD, List.getElem?_map, h1]; rfl
theorem attrs_split (l : List (ByteArray × ByteArray)) : attrsB l = true ↔ (∀ i, i < l.length → valueB (pairAt l i).2 = true) ∧ marksB (l.map (·.1)) = true := by
  unfold attrsB marksB
  rw [all_range, all_range, List.length_map]
  constructor
  · intro h
    refine ⟨fun i hi => ?_, fun i hi => ?_⟩
    · have := h i hi; unfold attrOk at this; simp only [Bool.and_eq_true] at this; exact this.2.1
    · have := h i hi
      unfold attrOk at this
      simp only [Bool.and_eq_true] at this
      unfold markOk
      rw [names_at hi, names_at (i := i - 1) (by omega), this.1, this.2.2]; rfl
  · rintro ⟨h1, h2⟩ i hi
    have := h2 i hi
    unfold markOk at this
    rw [names_at hi, names_at (i := i - 1) (by omega)] at this
    simp only [Bool.and_eq_true] at this
    unfold attrOk
    rw [this.1, this.2, h1 i hi]; rfl
theorem rowB_iff : ∀ (l : List Tree) (p : Option Tree), rowB p l = true ↔ ∀ (i : Nat) (x : Tree), l[i]? = some x → formedB x = true ∧ alikeO (if i = 0 then p else l[i - 1]?) x = false
  | [], p => by simp [rowB]
  | y :: l, p => by
    rw [rowB, Bool.and_eq_true, Bool.and_eq_true, rowB_iff l (some y), Bool.not_eq_true']
    constructor
    · rintro ⟨h1, h2, h3⟩ i x hx
      cases i with
      | zero => simp only [List.getElem?_cons_zero, Option.some.injEq] at hx; subst hx; exact ⟨h2, by simpa using h1⟩
      | succ i =>
        have := h3 i x (by simpa using hx)
        refine ⟨this.1, ?_⟩
        cases i with
        | zero => simpa using this.2
        | succ i => simpa using this.2
    · intro h
      have h0 := h 0 y rfl
      refine ⟨by simpa using h0.2, h0.1, fun i x hx => ?_⟩
      have := h (i + 1) x (by simpa using hx)
      refine ⟨this.1, ?_⟩
      cases i with
      | zero => simpa using this.2
      | succ i => simpa using this.2
theorem names_weigh (l : List (ByteArray × ByteArray)) : weighL (l.map (·.1)) ≤ weighP l := by
  induction l with
  | nil => simp [weighL]
  | cons p l ih => simp only [weighL, weighP, List.map_cons, List.sum_cons] at ih ⊢; omega
theorem sameL_flip (a b : List ByteArray) : sameL a b = sameL b a := by
  cases h : sameL a b with
  | true => have := sameL_eq h; subst this; exact h.symm
  | false =>
    cases h' : sameL b a with
    | true => have := sameL_eq h'; subst this; rw [h'] at h; exact h.symm
    | false => rfl
/-- A row of texts of the call's own. -/
theorem strs_own {w : World} {base : Nat} {v : Value} {n : Nat} {l : List ByteArray} (h : w.ownsRow base 9 1 v n (l.map Value.string)) : Strs w (Under w.heap.size) v l := by
  obtain ⟨hl, h⟩ := h
  have hn : n = l.length := by simp at hl; omega
  subst hn
  rcases h with ⟨rfl, h0⟩ | ⟨g, cap, cur, rfl, hb, hg, hn, hc, hs, ht⟩
  · have : l = [] := List.eq_nil_of_length_eq_zero h0
    subst this
    exact ⟨none, 0, rfl, Nat.le_refl _, by unfold maxLen; omega, .inl rfl⟩
  · refine ⟨_, cap, rfl, hn, hc, .inr ⟨g, 0, rfl, (Array.getElem?_eq_some_iff.1 hg).1, fun i s hi => ?_⟩⟩
    have hil := (List.getElem?_eq_some_iff.1 hi).1
    have h1 : (cur.toList.take (l.length * 1))[i]? = some (.string s) := by rw [ht, List.getElem?_map, hi]; rfl
    rw [List.getElem?_take_of_lt (by omega)] at h1
    simp only [World.cell?, hg]
    simpa using h1
end Go.Proofs.YtdbpnfabcmndjaaDoor
