/-
  Sets of places as bits (no program is named here).
-/
import Derived.Test.YtldmimekmjmkgaaDoorEa
import Derived.Lib.TrailingZeros
namespace Go.Proofs.YtldmimekmjmkgaaDoor
open Go.RowKit

/-- These bits are just these places. -/
def Msk (m : Nat) (l : List Nat) : Prop := m < 4294967296 ∧ ∀ i, m.testBit i = true ↔ i ∈ l
theorem msk_zero : Msk 0 [] := ⟨by omega, fun i => by simp⟩
theorem msk_or {a b : Nat} {l r : List Nat} (ha : Msk a l) (hb : Msk b r) : Msk (a ||| b) (l ++ r) :=
  ⟨by have := Nat.or_lt_two_pow (n := 32) ha.1 hb.1; omega, fun i => by rw [Nat.testBit_or, Bool.or_eq_true, ha.2, hb.2, List.mem_append]⟩
theorem msk_shl {n : Nat} (h : n < 32) : Msk (2 ^ n) [n] :=
  ⟨by have := Nat.pow_lt_pow_right (a := 2) (by omega) h; omega, fun i => by rw [Nat.testBit_two_pow]; simp [eq_comm]⟩
theorem Msk.congr {m : Nat} {l r : List Nat} (h : Msk m l) (e : ∀ i, i ∈ l ↔ i ∈ r) : Msk m r := ⟨h.1, fun i => (h.2 i).trans (e i)⟩
theorem bit_lt {m i : Nat} (h : m < 4294967296) (hb : m.testBit i = true) : i < 32 := by
  rcases Nat.lt_or_ge i 32 with h1 | h1
  · exact h1
  · have h2 : m < 2 ^ i := Nat.lt_of_lt_of_le (show m < 2 ^ 32 from h) (Nat.pow_le_pow_right (by omega) h1)
    rw [Nat.testBit_lt_two_pow h2] at hb
    cases hb
theorem bit_some {m : Nat} (h : m ≠ 0) : ∃ i, m.testBit i = true := by
  apply Classical.byContradiction
  intro hn
  apply h
  apply Nat.eq_of_testBit_eq
  intro i
  rw [Nat.zero_testBit]
  cases hb : m.testBit i with
  | false => rfl
  | true => exact absurd ⟨i, hb⟩ hn
theorem msk_nil {m : Nat} {l : List Nat} (h : Msk m l) : m = 0 ↔ l = [] := by
  constructor
  · rintro rfl
    apply List.eq_nil_iff_forall_not_mem.2
    intro i hi
    have := (h.2 i).2 hi
    rw [Nat.zero_testBit] at this; cases this
  · rintro rfl
    apply Classical.byContradiction
    intro hn
    obtain ⟨i, hi⟩ := bit_some hn
    have := (h.2 i).1 hi
    cases this
/-- The lowest bit, and the bits without it. -/
theorem low_bit {m : Nat} (h0 : m ≠ 0) (h : m < 4294967296) :
    Lib.ctz 32 m < 32 ∧ m.testBit (Lib.ctz 32 m) = true ∧ (m &&& (m - 1)) < m ∧ ∀ i, (m &&& (m - 1)).testBit i = (m.testBit i && decide (i ≠ Lib.ctz 32 m)) := by
  have hc : Lib.ctz 32 m = Lib.ctzFrom 32 m := by unfold Lib.ctz; rw [if_neg h0]
  obtain ⟨q, hq, hk⟩ := Lib.ctzFrom_spec 32 m (by omega) h
  rw [hc]
  generalize Lib.ctzFrom 32 m = k at *
  have hp : 0 < 2 ^ k := Nat.pos_of_ne_zero (by simp)
  have e1 : m = 2 ^ k * (2 * q + 1) + 0 := by rw [hq]; rfl
  have e2 : m - 1 = 2 ^ k * (2 * q) + (2 ^ k - 1) := by
    rw [hq, Nat.mul_add, Nat.mul_one]; omega
  have t1 : ∀ i, m.testBit i = if i < k then false else (2 * q + 1).testBit (i - k) := by
    intro i
    conv => lhs; rw [e1]
    rw [Nat.testBit_two_pow_mul_add _ hp]
    simp
  have t2 : ∀ i, (m - 1).testBit i = if i < k then true else (2 * q).testBit (i - k) := by
    intro i
    rw [e2, Nat.testBit_two_pow_mul_add _ (by omega), Nat.testBit_two_pow_sub_one]
    split
    · rename_i hi; simp [hi]
    · rfl
  have t3 : ∀ i, (m &&& (m - 1)).testBit i = (m.testBit i && decide (i ≠ k)) := by
    intro i
    rw [Nat.testBit_and, t1, t2]
    by_cases hi : i < k
    · simp [hi]
    · simp only [if_neg hi]
      by_cases he : i = k
      · subst he
        simp [Nat.sub_self, Nat.testBit_zero]
      · obtain ⟨d, hd⟩ : ∃ d, i - k = d + 1 := ⟨i - k - 1, by omega⟩
        rw [hd, Nat.testBit_succ, Nat.testBit_succ, show (2 * q + 1) / 2 = q by omega, show 2 * q / 2 = q by omega]
        simp [he]
  refine ⟨hk, ?_, ?_, t3⟩
  · rw [t1, if_neg (by omega), Nat.sub_self, Nat.testBit_zero]; simp
  · have := Nat.and_le_right (n := m) (m := m - 1)
    omega

/-- The bits of all rows that stand at these places. -/
def Gathered (nx : List Nat) (m r : Nat) : Prop := r < 4294967296 ∧ ∀ i, r.testBit i = true ↔ ∃ q, m.testBit q = true ∧ (nx.getD q 0).testBit i = true
/-- One round of behind: what is gathered, what is left. -/
structure Beh (nx : List Nat) (m p r : Nat) : Prop where
  rlt : r < 4294967296
  plt : p < 4294967296
  sub : ∀ i, p.testBit i = true → m.testBit i = true
  bit : ∀ i, r.testBit i = true ↔ ∃ q, (m.testBit q = true ∧ p.testBit q = false) ∧ (nx.getD q 0).testBit i = true
theorem Beh.first {nx : List Nat} {m : Nat} (h : m < 4294967296) : Beh nx m m 0 :=
  ⟨by omega, h, fun _ h => h, fun i => ⟨fun h => (by rw [Nat.zero_testBit] at h; cases h), fun ⟨q, ⟨h1, h2⟩, _⟩ => by rw [h1] at h2; cases h2⟩⟩
theorem Beh.last {nx : List Nat} {m r : Nat} (h : Beh nx m 0 r) : Gathered nx m r :=
  ⟨h.rlt, fun i => (h.bit i).trans ⟨fun ⟨q, h1, h2⟩ => ⟨q, h1.1, h2⟩, fun ⟨q, h1, h2⟩ => ⟨q, ⟨h1, Nat.zero_testBit q⟩, h2⟩⟩⟩
theorem Beh.next {nx : List Nat} {m p r : Nat} (h : Beh nx m p r) (hp : p ≠ 0) (hx : nx.getD (Lib.ctz 32 p) 0 < 4294967296) : Beh nx m (p &&& (p - 1)) (r ||| nx.getD (Lib.ctz 32 p) 0) := by
  obtain ⟨_, hb, hlt, ht⟩ := low_bit hp h.plt
  refine ⟨by have := Nat.or_lt_two_pow (n := 32) h.rlt hx; omega, by have := h.plt; omega, fun i hi => ?_, fun i => ?_⟩
  · rw [ht, Bool.and_eq_true] at hi
    exact h.sub i hi.1
  · rw [Nat.testBit_or, Bool.or_eq_true, h.bit]
    constructor
    · rintro (⟨q, ⟨h1, h2⟩, h3⟩ | h3)
      · exact ⟨q, ⟨h1, by rw [ht, h2]; rfl⟩, h3⟩
      · exact ⟨_, ⟨h.sub _ hb, by rw [ht]; simp⟩, h3⟩
    · rintro ⟨q, ⟨h1, h2⟩, h3⟩
      rw [ht] at h2
      by_cases he : q = Lib.ctz 32 p
      · subst he; exact .inr h3
      · left
        refine ⟨q, ⟨h1, ?_⟩, h3⟩
        simpa [he] using h2
/-- link: the rows at these places hold the new bits too. -/
structure Lnk (nx : List Nat) (l f p : Nat) (r : List Nat) : Prop where
  len : r.length = nx.length
  plt : p < 4294967296
  small : ∀ q, r.getD q 0 < 4294967296
  sub : ∀ i, p.testBit i = true → l.testBit i = true
  bit : ∀ q i, (r.getD q 0).testBit i = true ↔ (nx.getD q 0).testBit i = true ∨ ((l.testBit q = true ∧ p.testBit q = false) ∧ f.testBit i = true)
theorem Lnk.first {nx : List Nat} {l f : Nat} (h : l < 4294967296) (hs : ∀ q, nx.getD q 0 < 4294967296) : Lnk nx l f l nx :=
  ⟨rfl, h, hs, fun _ h => h, fun q i => ⟨.inl, fun h => h.elim id fun ⟨⟨h1, h2⟩, _⟩ => by rw [h1] at h2; cases h2⟩⟩
theorem Lnk.next {nx r : List Nat} {l f p : Nat} (h : Lnk nx l f p r) (hp : p ≠ 0) (hf : f < 4294967296) (hr : Lib.ctz 32 p < r.length) :
    Lnk nx l f (p &&& (p - 1)) (r.set (Lib.ctz 32 p) (r.getD (Lib.ctz 32 p) 0 ||| f)) := by
  obtain ⟨_, hb, hlt, ht⟩ := low_bit hp h.plt
  have hg : ∀ q, (r.set (Lib.ctz 32 p) (r.getD (Lib.ctz 32 p) 0 ||| f)).getD q 0 = if q = Lib.ctz 32 p then r.getD (Lib.ctz 32 p) 0 ||| f else r.getD q 0 := by
    intro q
    simp only [List.getD_eq_getElem?_getD, List.getElem?_set]
    by_cases he : Lib.ctz 32 p = q
    · subst he; simp [hr]
    · rw [if_neg he, if_neg (fun h => he h.symm)]
  refine ⟨by rw [List.length_set]; exact h.len, by have := h.plt; omega, fun q => ?_, fun i hi => ?_, fun q i => ?_⟩
  · rw [hg]
    split
    · have := Nat.or_lt_two_pow (n := 32) (h.small (Lib.ctz 32 p)) hf; omega
    · exact h.small q
  · rw [ht, Bool.and_eq_true] at hi
    exact h.sub i hi.1
  · rw [hg, ht]
    by_cases he : q = Lib.ctz 32 p
    · rw [if_pos he, Nat.testBit_or, Bool.or_eq_true, ← he, h.bit]
      constructor
      · rintro ((h1 | ⟨⟨h1, h2⟩, h3⟩) | h3)
        · exact .inl h1
        · exact .inr ⟨⟨h1, by simp [he]⟩, h3⟩
        · exact .inr ⟨⟨by rw [he]; exact h.sub _ hb, by simp⟩, h3⟩
      · rintro (h1 | ⟨_, h3⟩)
        · exact .inl (.inl h1)
        · exact .inr h3
    · rw [if_neg he, h.bit]
      simp [he]
end Go.Proofs.YtldmimekmjmkgaaDoor
