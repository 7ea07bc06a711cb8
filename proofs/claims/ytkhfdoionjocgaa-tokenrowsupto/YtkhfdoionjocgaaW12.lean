/-
  What doc answers.
-/
import Derived.Test.YtkhfdoionjocgaaW10
import Derived.Test.YtkhfdoionjocgaaW11a
namespace Go.Proofs.Ytkhfdoionjocgaa
open Go.RowKit Go.Sort

def DOC : ByteArray := ⟨#[100, 111, 99]⟩
def docB (l : List Cel) : Tree := .mk DOC ByteArray.empty [] [] (madeB l)
def DocPost (w : World) (l : List Cel) (e : Ending) (w' : World) : Prop :=
  ∃ A c, e = .returned (.agg #[.string ⟨#[100, 111, 99]⟩, .string ⟨#[]⟩, .slice none 0 0, .slice none 0 0, .slice A (madeB l).length c]) ∧ Kids w' (From w.heap.size w'.heap.size) (.slice A (madeB l).length c) (madeB l) ∧ Below w.heap.size w w'

theorem Cels.below {w w' : World} {B : Nat} {v : Value} {l : List Cel} (h : Cels w (Under B) v l) (hb : Below B w w') : Cels w' (Under B) v l := by
  obtain ⟨A, c, rfl, h1, h2, h3, h4⟩ := h
  refine ⟨A, c, rfl, h1, h2, ?_, h4⟩
  rcases h3 with h3 | ⟨b, o, rfl, hS, h3⟩
  · exact .inl h3
  · refine .inr ⟨b, o, rfl, hS, fun i x hi => ?_⟩
    obtain ⟨a0, a1, a2⟩ := h3 i x hi
    exact ⟨(hb.cell (p := ⟨b, o + i * 3, none⟩) hS).trans a0, (hb.cell (p := ⟨b, o + i * 3 + 1, none⟩) hS).trans a1, (hb.cell (p := ⟨b, o + i * 3 + 2, none⟩) hS).trans a2⟩
theorem Cels.more {w : World} {B B' : Nat} {v : Value} {l : List Cel} (h : Cels w (Under B) v l) (hB : B ≤ B') : Cels w (Under B') v l := by
  obtain ⟨A, c, rfl, h1, h2, h3, h4⟩ := h
  refine ⟨A, c, rfl, h1, h2, ?_, h4⟩
  rcases h3 with h3 | ⟨b, o, rfl, hS, h3⟩
  · exact .inl h3
  · exact .inr ⟨b, o, rfl, Nat.lt_of_lt_of_le hS hB, h3⟩

theorem set5 {w : World} {g : Nat} {v0 v1 v2 v3 v4 u0 u1 u2 u3 u4 : Value} (c0 : w.cell? ⟨g, 0, none⟩ = some u0) (c1 : w.cell? ⟨g, 1, none⟩ = some u1) (c2 : w.cell? ⟨g, 2, none⟩ = some u2) (c3 : w.cell? ⟨g, 3, none⟩ = some u3) (c4 : w.cell? ⟨g, 4, none⟩ = some u4) :
    (((((w.setCell ⟨g, 0, none⟩ v0).setCell ⟨g, 1, none⟩ v1).setCell ⟨g, 2, none⟩ v2).setCell ⟨g, 3, none⟩ v3).setCell ⟨g, 4, none⟩ v4).cell? ⟨g, 0, none⟩ = some v0 ∧
    (((((w.setCell ⟨g, 0, none⟩ v0).setCell ⟨g, 1, none⟩ v1).setCell ⟨g, 2, none⟩ v2).setCell ⟨g, 3, none⟩ v3).setCell ⟨g, 4, none⟩ v4).cell? ⟨g, 1, none⟩ = some v1 ∧
    (((((w.setCell ⟨g, 0, none⟩ v0).setCell ⟨g, 1, none⟩ v1).setCell ⟨g, 2, none⟩ v2).setCell ⟨g, 3, none⟩ v3).setCell ⟨g, 4, none⟩ v4).cell? ⟨g, 2, none⟩ = some v2 ∧
    (((((w.setCell ⟨g, 0, none⟩ v0).setCell ⟨g, 1, none⟩ v1).setCell ⟨g, 2, none⟩ v2).setCell ⟨g, 3, none⟩ v3).setCell ⟨g, 4, none⟩ v4).cell? ⟨g, 3, none⟩ = some v3 ∧
    (((((w.setCell ⟨g, 0, none⟩ v0).setCell ⟨g, 1, none⟩ v1).setCell ⟨g, 2, none⟩ v2).setCell ⟨g, 3, none⟩ v3).setCell ⟨g, 4, none⟩ v4).cell? ⟨g, 4, none⟩ = some v4 ∧
    (∀ b, b ≠ g → (((((w.setCell ⟨g, 0, none⟩ v0).setCell ⟨g, 1, none⟩ v1).setCell ⟨g, 2, none⟩ v2).setCell ⟨g, 3, none⟩ v3).setCell ⟨g, 4, none⟩ v4).heap[b]? = w.heap[b]?) ∧
    (((((w.setCell ⟨g, 0, none⟩ v0).setCell ⟨g, 1, none⟩ v1).setCell ⟨g, 2, none⟩ v2).setCell ⟨g, 3, none⟩ v3).setCell ⟨g, 4, none⟩ v4).heap.size = w.heap.size := by
  have far : ∀ (W : World) (i j : Nat) (u : Value), i ≠ j → (W.setCell ⟨g, i, none⟩ u).cell? ⟨g, j, none⟩ = W.cell? ⟨g, j, none⟩ := fun W i j u h => World.cell?_setCell_other W _ _ _ (fun e => h (by have := congrArg Addr.off e; simpa [eq_comm] using this))
  have a0 := cell_set c0 v0
  have a1 := cell_set (w := w.setCell ⟨g, 0, none⟩ v0) ((far _ 0 1 _ (by omega)).trans c1) v1
  have a2 := cell_set (w := (w.setCell ⟨g, 0, none⟩ v0).setCell ⟨g, 1, none⟩ v1) ((far _ 1 2 _ (by omega)).trans ((far _ 0 2 _ (by omega)).trans c2)) v2
  have a3 := cell_set (w := ((w.setCell ⟨g, 0, none⟩ v0).setCell ⟨g, 1, none⟩ v1).setCell ⟨g, 2, none⟩ v2) ((far _ 2 3 _ (by omega)).trans ((far _ 1 3 _ (by omega)).trans ((far _ 0 3 _ (by omega)).trans c3))) v3
  have a4 := cell_set (w := (((w.setCell ⟨g, 0, none⟩ v0).setCell ⟨g, 1, none⟩ v1).setCell ⟨g, 2, none⟩ v2).setCell ⟨g, 3, none⟩ v3) ((far _ 3 4 _ (by omega)).trans ((far _ 2 4 _ (by omega)).trans ((far _ 1 4 _ (by omega)).trans ((far _ 0 4 _ (by omega)).trans c4)))) v4
  refine ⟨?_, ?_, ?_, ?_, a4, fun b hb => ?_, by simp [World.setCell]⟩
  · rw [far _ 4 0 _ (by omega), far _ 3 0 _ (by omega), far _ 2 0 _ (by omega), far _ 1 0 _ (by omega)]; exact a0
  · rw [far _ 4 1 _ (by omega), far _ 3 1 _ (by omega), far _ 2 1 _ (by omega)]; exact a1
  · rw [far _ 4 2 _ (by omega), far _ 3 2 _ (by omega)]; exact a2
  · rw [far _ 4 3 _ (by omega)]; exact a3
  · rw [Below.heap_setCell _ _ _ _ hb, Below.heap_setCell _ _ _ _ hb, Below.heap_setCell _ _ _ _ hb, Below.heap_setCell _ _ _ _ hb, Below.heap_setCell _ _ _ _ hb]

end Go.Proofs.Ytkhfdoionjocgaa
