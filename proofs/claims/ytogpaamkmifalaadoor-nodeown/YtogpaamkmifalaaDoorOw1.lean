/-
  Strings written into a row of nodes, of names, of pairs: what stands there then.
-/
import Derived.Test.YtogpaamkmifalaaDoorPar
import Derived.Test.YtogpaamkmifalaaDoorW8
namespace Go.Proofs.YtogpaamkmifalaaDoor
open Go.RowKit Go.Sort

def kindT (y : Tree) (s : ByteArray) : Tree := .mk s y.text y.marks y.attrs y.kids
def textT (y : Tree) (s : ByteArray) : Tree := .mk y.kind s y.marks y.attrs y.kids
section
variable {w : World} {S : Nat → Prop}
theorem set_other {g o b j : Nat} {v : Value} (h : ¬ (b = g ∧ j = o)) : (w.setCell ⟨g, o, none⟩ v).cell? ⟨b, j, none⟩ = w.cell? ⟨b, j, none⟩ :=
  World.cell?_setCell_other w _ _ v (fun e => h (by injection e with e1 e2; exact ⟨e1.symm, e2.symm⟩))
theorem set_same {g o : Nat} {u v : Value} (h : w.cell? ⟨g, o, none⟩ = some u) : (w.setCell ⟨g, o, none⟩ v).cell? ⟨g, o, none⟩ = some v := World.cell?_setCell_same w _ v h
theorem set_blocks {g o b : Nat} {v : Value} (h : b ≠ g) : (w.setCell ⟨g, o, none⟩ v).heap[b]? = w.heap[b]? := Below.heap_setCell _ _ _ _ h
theorem row_kind {l : List Tree} {g o j : Nat} {y : Tree} (s : ByteArray) (h : RowAt w S l g o) (hy : l[j]? = some y) (hS : ∀ b, S b → b ≠ g) : RowAt (w.setCell ⟨g, o + j * 5, none⟩ (.string s)) S (l.set j (kindT y s)) g o := by
  refine rowAt_of _ g o fun i t hi => ?_
  by_cases hij : j = i
  · subst hij
    rw [List.getElem?_set_self (List.getElem?_eq_some_iff.1 hy).1] at hi
    have hi' := Option.some.inj hi
    subst hi'
    obtain ⟨vm, va, vk, e0, e1, e2, e3, e4, hm, ha, hk⟩ := (nodeAt_iff y g _).1 (rowAt_get l g o h j y hy)
    exact (nodeAt_iff _ g _).2 ⟨vm, va, vk, set_same e0, (set_other (by omega)).trans e1, (set_other (by omega)).trans e2, (set_other (by omega)).trans e3, (set_other (by omega)).trans e4, hm.keep (fun _ h => h) fun b hb => set_blocks (hS b hb), ha.keep (fun _ h => h) fun b hb => set_blocks (hS b hb), hk.keep (fun _ h => h) fun b hb => set_blocks (hS b hb)⟩
  · rw [List.getElem?_set_ne hij] at hi
    exact nodeAt_cellsKeep (fun _ h => h) (fun b hb => set_blocks (hS b hb)) (fun k h1 h2 => set_other (by omega)) (rowAt_get l g o h i t hi)
theorem row_text {l : List Tree} {g o j : Nat} {y : Tree} (s : ByteArray) (h : RowAt w S l g o) (hy : l[j]? = some y) (hS : ∀ b, S b → b ≠ g) : RowAt (w.setCell ⟨g, o + j * 5 + 1, none⟩ (.string s)) S (l.set j (textT y s)) g o := by
  refine rowAt_of _ g o fun i t hi => ?_
  by_cases hij : j = i
  · subst hij
    rw [List.getElem?_set_self (List.getElem?_eq_some_iff.1 hy).1] at hi
    have hi' := Option.some.inj hi
    subst hi'
    obtain ⟨vm, va, vk, e0, e1, e2, e3, e4, hm, ha, hk⟩ := (nodeAt_iff y g _).1 (rowAt_get l g o h j y hy)
    exact (nodeAt_iff _ g _).2 ⟨vm, va, vk, (set_other (by omega)).trans e0, set_same e1, (set_other (by omega)).trans e2, (set_other (by omega)).trans e3, (set_other (by omega)).trans e4, hm.keep (fun _ h => h) fun b hb => set_blocks (hS b hb), ha.keep (fun _ h => h) fun b hb => set_blocks (hS b hb), hk.keep (fun _ h => h) fun b hb => set_blocks (hS b hb)⟩
  · rw [List.getElem?_set_ne hij] at hi
    exact nodeAt_cellsKeep (fun _ h => h) (fun b hb => set_blocks (hS b hb)) (fun k h1 h2 => set_other (by omega)) (rowAt_get l g o h i t hi)
theorem strs_set {b o n c j : Nat} {l : List ByteArray} {x : ByteArray} (s : ByteArray) (h : Strs w S (.slice (some ⟨b, o, none⟩) n c) l) (hx : l[j]? = some x) : Strs (w.setCell ⟨b, o + j, none⟩ (.string s)) S (.slice (some ⟨b, o, none⟩) n c) (l.set j s) := by
  obtain ⟨A, c', hv, hc, hm, h⟩ := h
  injection hv with h1 h2 h3
  subst h1 h2 h3
  refine ⟨_, c, by rw [List.length_set], by rw [List.length_set]; exact hc, hm, ?_⟩
  rcases h with rfl | ⟨b', o', he, hs, h⟩
  · simp at hx
  · injection he with he
    injection he with e1 e2
    subst e1 e2
    refine .inr ⟨b, o, rfl, hs, fun i t hi => ?_⟩
    by_cases hij : j = i
    · subst hij
      rw [List.getElem?_set_self (List.getElem?_eq_some_iff.1 hx).1] at hi
      rw [← Option.some.inj hi]
      exact set_same (h j x hx)
    · rw [List.getElem?_set_ne hij] at hi
      exact (set_other (by omega)).trans (h i t hi)
theorem pairs_set {b o n c j : Nat} {l : List (ByteArray × ByteArray)} {x : ByteArray × ByteArray} (s : ByteArray) (h : Pairs w S (.slice (some ⟨b, o, none⟩) n c) l) (hx : l[j]? = some x) : Pairs (w.setCell ⟨b, o + j * 2 + 1, none⟩ (.string s)) S (.slice (some ⟨b, o, none⟩) n c) (l.set j (x.1, s)) := by
  obtain ⟨A, c', hv, hc, hm, h⟩ := h
  injection hv with h1 h2 h3
  subst h1 h2 h3
  refine ⟨_, c, by rw [List.length_set], by rw [List.length_set]; exact hc, hm, ?_⟩
  rcases h with rfl | ⟨b', o', he, hs, h⟩
  · simp at hx
  · injection he with he
    injection he with e1 e2
    subst e1 e2
    refine .inr ⟨b, o, rfl, hs, fun i t hi => ?_⟩
    by_cases hij : j = i
    · subst hij
      rw [List.getElem?_set_self (List.getElem?_eq_some_iff.1 hx).1] at hi
      rw [← Option.some.inj hi]
      exact ⟨(set_other (by omega)).trans (h j x hx).1, set_same (h j x hx).2⟩
    · rw [List.getElem?_set_ne hij] at hi
      exact ⟨(set_other (by omega)).trans (h i t hi).1, (set_other (by omega)).trans (h i t hi).2⟩
end
/-! ### how much, behind it -/
/-- Each thing weighs at most twice what it did. -/
def Twice {α : Type} (f : α → Nat) (l l' : List α) : Prop := l'.length = l.length ∧ ∀ (i : Nat) (y : α), l'[i]? = some y → ∃ x : α, l[i]? = some x ∧ f y ≤ 2 * f x
theorem Twice.refl {α : Type} (f : α → Nat) (l : List α) : Twice f l l := ⟨rfl, fun i y h => ⟨y, h, by omega⟩⟩
theorem Twice.set {α : Type} {f : α → Nat} {l l' : List α} (h : Twice f l l') {j : Nat} {y x : α} (hx : l[j]? = some x) (hy : f y ≤ 2 * f x) : Twice f l (l'.set j y) := by
  refine ⟨by rw [List.length_set]; exact h.1, fun i z hz => ?_⟩
  by_cases hij : j = i
  · subst hij
    have hl : j < l'.length := by rw [h.1]; exact (List.getElem?_eq_some_iff.1 hx).1
    rw [List.getElem?_set_self hl] at hz
    rw [← Option.some.inj hz]
    exact ⟨x, hx, hy⟩
  · rw [List.getElem?_set_ne hij] at hz
    exact h.2 i z hz
theorem Twice.cons {α : Type} {f : α → Nat} {x y : α} {l l' : List α} (h : Twice f (x :: l) (y :: l')) : f y ≤ 2 * f x ∧ Twice f l l' := by
  obtain ⟨h1, h2⟩ := h
  refine ⟨?_, by simpa using h1, fun i z hz => ?_⟩
  · obtain ⟨x', e1, e2⟩ := h2 0 y rfl
    simp at e1; subst e1; exact e2
  · obtain ⟨x', e1, e2⟩ := h2 (i + 1) z (by simpa using hz)
    exact ⟨x', by simpa using e1, e2⟩
theorem twice_all : ∀ (l l' : List Tree), Twice weigh l l' → weighAll l' ≤ 2 * weighAll l
  | [], [], _ => by simp [weighAll]
  | [], y :: l', h => by have := h.1; simp at this
  | x :: l, [], h => by have := h.1; simp at this
  | x :: l, y :: l', h => by
    obtain ⟨h1, h2⟩ := h.cons
    have := twice_all l l' h2
    simp only [weighAll]; omega
theorem twice_names : ∀ (l l' : List ByteArray), Twice (fun s => s.size + 1) l l' → weighL l' ≤ 2 * weighL l
  | [], [], _ => by simp [weighL]
  | [], y :: l', h => by have := h.1; simp at this
  | x :: l, [], h => by have := h.1; simp at this
  | x :: l, y :: l', h => by
    obtain ⟨h1, h2⟩ := h.cons
    have := twice_names l l' h2
    simp only [weighL, List.map_cons, List.sum_cons] at *; omega
theorem twice_pairs : ∀ (l l' : List (ByteArray × ByteArray)), Twice (fun p => p.1.size + p.2.size + 1) l l' → weighP l' ≤ 2 * weighP l
  | [], [], _ => by simp [weighP]
  | [], y :: l', h => by have := h.1; simp at this
  | x :: l, [], h => by have := h.1; simp at this
  | x :: l, y :: l', h => by
    obtain ⟨h1, h2⟩ := h.cons
    have := twice_pairs l l' h2
    simp only [weighP, List.map_cons, List.sum_cons] at *; omega
end Go.Proofs.YtogpaamkmifalaaDoor
