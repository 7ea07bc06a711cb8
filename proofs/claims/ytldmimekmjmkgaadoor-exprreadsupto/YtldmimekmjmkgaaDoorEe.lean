/-
  Going along a word with all rows at once (no program is named here).
-/
import Derived.Test.YtldmimekmjmkgaaDoorEc
namespace Go.Proofs.YtldmimekmjmkgaaDoor
open Go.RowKit

/-- Behind this word one may stand at the place x. -/
def Rch (a : Pl) (nm : Nat → ByteArray) (w : List ByteArray) (x : Nat) : Prop := ∃ p, (∃ f, p.head? = some f ∧ f ∈ a.first) ∧ p.getLast? = some x ∧ Ch a.fol p ∧ p.map nm = w
/-- The place x may come behind this word. -/
def May (a : Pl) (nm : Nat → ByteArray) (w : List ByteArray) (x : Nat) : Prop := (w = [] ∧ x ∈ a.first) ∨ ∃ q, Rch a nm w q ∧ (q, x) ∈ a.fol
theorem rch_ne {a : Pl} {nm : Nat → ByteArray} {x : Nat} (h : Rch a nm [] x) : False := by
  obtain ⟨p, ⟨f, hf, _⟩, _, _, hm⟩ := h
  rw [List.map_eq_nil_iff.1 hm] at hf
  cases hf
theorem ch_init {R : List (Nat × Nat)} : ∀ {p : List Nat} {y : Nat}, Ch R (p ++ [y]) → Ch R p ∧ ∀ q, p.getLast? = some q → (q, y) ∈ R
  | [], _, _ => ⟨trivial, fun _ h => by cases h⟩
  | [x], _, h => ⟨trivial, fun q hq => by rw [← Option.some.inj hq]; exact h.1⟩
  | x :: z :: p, _, h => ⟨⟨h.1, (ch_init (p := z :: p) h.2).1⟩, fun q hq => (ch_init (p := z :: p) h.2).2 q (by simpa using hq)⟩
theorem rch_snoc {a : Pl} {nm : Nat → ByteArray} {w : List ByteArray} {s : ByteArray} {x : Nat} : Rch a nm (w ++ [s]) x ↔ May a nm w x ∧ nm x = s := by
  constructor
  · rintro ⟨p, ⟨f, hf, hff⟩, hl, hc, hm⟩
    obtain ⟨p', z, rfl⟩ : ∃ p' z, p = p' ++ [z] := by
      rcases List.eq_nil_or_concat p with rfl | ⟨p', z, h⟩
      · cases hf
      · exact ⟨p', z, by simpa using h⟩
    rw [List.getLast?_concat] at hl
    cases hl
    rw [List.map_append] at hm
    obtain ⟨h1, h2⟩ := List.append_inj' hm rfl
    have h3 : nm x = s := by simpa using h2
    obtain ⟨c1, c2⟩ := ch_init hc
    refine ⟨?_, h3⟩
    by_cases h0 : p' = []
    · subst h0
      left
      refine ⟨by rw [← h1]; rfl, ?_⟩
      simp at hf; subst hf; exact hff
    · obtain ⟨q, hq⟩ := last_of h0
      right
      rw [head_app _ h0] at hf
      exact ⟨q, ⟨p', ⟨f, hf, hff⟩, hq, c1, h1⟩, c2 q hq⟩
  · rintro ⟨⟨rfl, hf⟩ | ⟨q, ⟨p, ⟨f, hf, hff⟩, hl, hc, hm⟩, hqx⟩, rfl⟩
    · exact ⟨[x], ⟨x, rfl, hf⟩, rfl, trivial, rfl⟩
    · refine ⟨p ++ [x], ⟨f, by rw [head_app _ (ne_of_head hf)]; exact hf, hff⟩, by rw [List.getLast?_concat], Ch.app hc trivial fun u v hu hv => ?_, by rw [List.map_append, hm]; rfl⟩
      rw [hl] at hu
      cases hu
      have : v = x := by simpa using hv.symm
      subst this; exact hqx
theorem may_cons {a : Pl} {nm : Nat → ByteArray} {w : List ByteArray} (h : w ≠ []) {x : Nat} : May a nm w x ↔ ∃ q, Rch a nm w q ∧ (q, x) ∈ a.fol :=
  ⟨fun h' => h'.elim (fun h1 => absurd h1.1 h) id, .inr⟩
theorem may_nil {a : Pl} {nm : Nat → ByteArray} {x : Nat} : May a nm [] x ↔ x ∈ a.first :=
  ⟨fun h => h.elim (·.2) fun ⟨_, h1, _⟩ => (rch_ne h1).elim, fun h => .inl ⟨rfl, h⟩⟩
/-- A word is one of the rows: nothing, where that is one, or one stands at a last place behind it. -/
theorem way_rch {a : Pl} {nm : Nat → ByteArray} {w : List ByteArray} : (∃ p, Way a p ∧ p.map nm = w) ↔ (w = [] ∧ a.none = true) ∨ ∃ q, Rch a nm w q ∧ q ∈ a.last := by
  constructor
  · rintro ⟨p, ⟨rfl, hn⟩ | ⟨h1, ⟨y, hy, hyl⟩, hc⟩, hm⟩
    · exact .inl ⟨hm.symm, hn⟩
    · exact .inr ⟨y, ⟨p, h1, hy, hc, hm⟩, hyl⟩
  · rintro (⟨rfl, hn⟩ | ⟨q, ⟨p, h1, hy, hc, hm⟩, hl⟩)
    · exact ⟨[], .inl ⟨rfl, hn⟩, rfl⟩
    · exact ⟨p, .inr ⟨h1, ⟨q, hy, hl⟩, hc⟩, hm⟩
/-- Where one stands nowhere behind the beginning of a word, one stands nowhere behind it. -/
theorem rch_take {a : Pl} {nm : Nat → ByteArray} : ∀ (v u : List ByteArray), u ≠ [] → (∀ x, ¬ Rch a nm u x) → ∀ x, ¬ Rch a nm (u ++ v) x
  | [], u, _, h => by rw [List.append_nil]; exact h
  | s :: v, u, hu, h => by
    have := rch_take v (u ++ [s]) (by simp) fun x hx => by
      obtain ⟨q, hq, _⟩ := (may_cons hu).1 (rch_snoc.1 hx).1
      exact h q hq
    rwa [List.append_assoc] at this
/-- The program's walk along a word: the places that may come next, and whether the word so far is one of the rows. -/
structure Alg (a : Pl) (nm : Nat → ByteArray) (w : List ByteArray) (may : Nat) (ended : Bool) : Prop where
  may : ∀ x, may.testBit x = true ↔ May a nm w x
  ended : ended = true ↔ ∃ p, Way a p ∧ p.map nm = w
end Go.Proofs.YtldmimekmjmkgaaDoor
