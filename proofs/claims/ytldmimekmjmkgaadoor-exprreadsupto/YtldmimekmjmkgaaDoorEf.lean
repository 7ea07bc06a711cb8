/-
  The program's numbers and the places that they stand for (no program is named here).
-/
import Derived.Test.YtldmimekmjmkgaaDoorEd
import Derived.Test.YtldmimekmjmkgaaDoorEe
namespace Go.Proofs.YtldmimekmjmkgaaDoor
open Go.RowKit

/-- Row by row: the places that may come right behind this one. -/
def Nx (nx : List Nat) (R : List (Nat × Nat)) : Prop := (∀ q, nx.getD q 0 < 4294967296) ∧ ∀ q i, (nx.getD q 0).testBit i = true ↔ (q, i) ∈ R
theorem Nx.congr {nx : List Nat} {R T : List (Nat × Nat)} (h : Nx nx R) (e : ∀ x, x ∈ R ↔ x ∈ T) : Nx nx T := ⟨h.1, fun q i => (h.2 q i).trans (e _)⟩
theorem nx_nil : Nx [] [] := ⟨fun q => by simp, fun q i => by simp⟩
theorem getD_push (nx : List Nat) (q : Nat) : (nx ++ [0]).getD q 0 = nx.getD q 0 := by
  simp only [List.getD_eq_getElem?_getD]
  by_cases h : q < nx.length
  · rw [List.getElem?_append_left h]
  · rw [List.getElem?_append_right (by omega), List.getElem?_eq_none (l := nx) (by omega)]
    by_cases h1 : q - nx.length = 0
    · rw [h1]; rfl
    · rw [List.getElem?_eq_none (by simp; omega)]
theorem Nx.push {nx : List Nat} {R : List (Nat × Nat)} (h : Nx nx R) : Nx (nx ++ [0]) R :=
  ⟨fun q => by rw [getD_push]; exact h.1 q, fun q i => by rw [getD_push]; exact h.2 q i⟩
theorem Nx.link {nx r : List Nat} {R : List (Nat × Nat)} {l f : Nat} {L F : List Nat} (h : Nx nx R) (hl : Msk l L) (hf : Msk f F) (hr : Lnk nx l f 0 r) : Nx r (R ++ cross L F) :=
  ⟨hr.small, fun q i => by
    rw [hr.bit, h.2, List.mem_append, mem_cross, hl.2, hf.2, Nat.zero_testBit]
    simp⟩
theorem Nx.behind {nx : List Nat} {R : List (Nat × Nat)} {m r : Nat} (h : Nx nx R) (hr : Gathered nx m r) (i : Nat) : r.testBit i = true ↔ ∃ q, m.testBit q = true ∧ (q, i) ∈ R := by
  rw [hr.2]
  exact ⟨fun ⟨q, h1, h2⟩ => ⟨q, h1, (h.2 _ _).1 h2⟩, fun ⟨q, h1, h2⟩ => ⟨q, h1, (h.2 _ _).2 h2⟩⟩

/-- What add answers: the first places, the last, whether the row of nothing is one. -/
structure Ends (f l : Nat) (b : Bool) (a : Pl) : Prop where
  first : Msk f a.first
  last : Msk l a.last
  none : b = a.none
theorem ends_one {n : Nat} (s : ByteArray) (h : n < 32) : Ends (2 ^ n) (2 ^ n) false (pOne s n) := ⟨msk_shl h, msk_shl h, rfl⟩
theorem ends_eps : Ends 0 0 true pEps := ⟨msk_zero, msk_zero, rfl⟩
theorem ends_void : Ends 0 0 false pVoid := ⟨msk_zero, msk_zero, rfl⟩
theorem Ends.loop {f l : Nat} {b c : Bool} {a : Pl} (h : Ends f l b a) : Ends f l (b || c) (pLoop a c) := ⟨h.first, h.last, by rw [h.none]; rfl⟩
theorem Ends.opt {f l : Nat} {b : Bool} {a : Pl} (h : Ends f l b a) : Ends f l true (pOpt a) := ⟨h.first, h.last, rfl⟩
theorem Ends.alt {f l f' l' : Nat} {b b' : Bool} {a a' : Pl} (h : Ends f l b a) (h' : Ends f' l' b' a') : Ends (f ||| f') (l ||| l') (b || b') (pAlt a a') :=
  ⟨msk_or h.first h'.first, msk_or h.last h'.last, by rw [h.none, h'.none]; rfl⟩
theorem Ends.cat {f l f' l' : Nat} {b b' : Bool} {a a' : Pl} (h : Ends f l b a) (h' : Ends f' l' b' a') :
    Ends (if b then f ||| f' else f) (if b' then l' ||| l else l') (b && b') (pCat a a') := by
  have h1 := h.none
  have h2 := h'.none
  subst h1; subst h2
  refine ⟨?_, ?_, rfl⟩
  · unfold pCat
    cases a.none with
    | true => exact msk_or h.first h'.first
    | false => exact h.first.congr fun i => by simp
  · unfold pCat
    cases a'.none with
    | true => exact msk_or h'.last h.last
    | false => exact h'.last.congr fun i => by simp

/-! ### along a word -/
theorem may_range {a : Pl} {n : Nat} (ha : At a n) {nm : Nat → ByteArray} {w : List ByteArray} {x : Nat} (h : May a nm w x) : n ≤ x ∧ x < n + a.names.length := by
  rcases h with ⟨_, h⟩ | ⟨q, _, h⟩
  · exact ha.first x h
  · exact (ha.fol q x h).2
theorem alg_first {a : Pl} {nm : Nat → ByteArray} {f l : Nat} {b : Bool} (h : Ends f l b a) : Alg a nm [] f b :=
  ⟨fun x => (h.first.2 x).trans may_nil.symm, by
    rw [way_rch, h.none]
    exact ⟨fun h => .inl ⟨rfl, h⟩, fun h => h.elim (·.2) fun ⟨_, h1, _⟩ => (rch_ne h1).elim⟩⟩
/-- The places at which one stands behind one name more. -/
theorem alg_here {a : Pl} {n : Nat} (ha : At a n) {nm : Nat → ByteArray} {w : List ByteArray} {may : Nat} {e : Bool} (h : Alg a nm w may e) {s : ByteArray} {c : Nat}
    (hc : ∀ x, n ≤ x → x < n + a.names.length → (c.testBit x = true ↔ nm x = s)) (x : Nat) : (may &&& c).testBit x = true ↔ Rch a nm (w ++ [s]) x := by
  rw [Nat.testBit_and, Bool.and_eq_true, rch_snoc, h.may]
  constructor
  · rintro ⟨h1, h2⟩
    have := may_range ha h1
    exact ⟨h1, (hc x this.1 this.2).1 h2⟩
  · rintro ⟨h1, h2⟩
    have := may_range ha h1
    exact ⟨h1, (hc x this.1 this.2).2 h2⟩
theorem alg_none {a : Pl} {nm : Nat → ByteArray} {w : List ByteArray} {s : ByteArray} (h : ∀ x, (0 : Nat).testBit x = true ↔ Rch a nm (w ++ [s]) x) (v : List ByteArray) : ¬ ∃ p, Way a p ∧ p.map nm = w ++ s :: v := by
  have h0 : ∀ x, ¬ Rch a nm (w ++ [s]) x := fun x hx => by have := (h x).2 hx; rw [Nat.zero_testBit] at this; cases this
  have h1 := rch_take v (w ++ [s]) (by simp) h0
  rw [way_rch]
  rintro (⟨h2, _⟩ | ⟨q, hq, _⟩)
  · simp at h2
  · refine h1 q ?_
    rwa [List.append_assoc]
theorem alg_next {a : Pl} {nm : Nat → ByteArray} {w : List ByteArray} {s : ByteArray} {here r f l : Nat} {b : Bool} {nx : List Nat} {R : List (Nat × Nat)}
    (h : ∀ x, here.testBit x = true ↔ Rch a nm (w ++ [s]) x) (he : Ends f l b a) (hn : Nx nx R) (hR : ∀ x, x ∈ R ↔ x ∈ a.fol) (hr : Gathered nx here r) : Alg a nm (w ++ [s]) r (decide (here &&& l ≠ 0)) := by
  constructor
  · intro x
    rw [hn.behind hr, may_cons (by simp)]
    exact ⟨fun ⟨q, h1, h2⟩ => ⟨q, (h q).1 h1, (hR _).1 h2⟩, fun ⟨q, h1, h2⟩ => ⟨q, (h q).2 h1, (hR _).2 h2⟩⟩
  · rw [decide_eq_true_iff, way_rch]
    constructor
    · intro h0
      obtain ⟨i, hi⟩ := bit_some h0
      rw [Nat.testBit_and, Bool.and_eq_true] at hi
      exact .inr ⟨i, (h i).1 hi.1, (he.last.2 i).1 hi.2⟩
    · rintro (⟨h2, _⟩ | ⟨q, hq, hl⟩)
      · simp at h2
      · intro h0
        have h3 : (here &&& l).testBit q = true := by rw [Nat.testBit_and, (h q).2 hq, (he.last.2 q).2 hl]; rfl
        rw [h0, Nat.zero_testBit] at h3
        cases h3
end Go.Proofs.YtldmimekmjmkgaaDoor
