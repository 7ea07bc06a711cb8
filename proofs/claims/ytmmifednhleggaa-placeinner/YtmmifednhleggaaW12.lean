/-
  What doc answers.
-/
import Derived.Test.YtmmifednhleggaaW10
import Derived.Test.YtmmifednhleggaaW11a
namespace Go.Proofs.Ytmmifednhleggaa
open Go.RowKit Go.Sort

def DOC : ByteArray := ⟨#[100, 111, 99]⟩
def docB (l : List Cel) : Tree := .mk DOC ByteArray.empty [] [] (madeB l)
def DocPost (w : World) (l : List Cel) (e : Ending) (w' : World) : Prop :=
  ∃ A c, e = .returned (.agg #[.string ⟨#[100, 111, 99]⟩, .string ⟨#[]⟩, .slice none 0 0, .slice none 0 0, .slice A (madeB l).length c]) ∧ Kids w' (From w.heap.size w'.heap.size) (.slice A (madeB l).length c) (madeB l) ∧ Below w.heap.size w w'

theorem Cels.below {w w' : World} {B : Nat} {v : Value} {l : List Cel} (h : Cels w (Under B) v l) (hb : Below B w w') : Cels w' (Under B) v l := by
  obtain ⟨A, c, rfl, h1, h2, h3, h4⟩ := h
  refine ⟨A, c, rfl, h1, h2, ?_, h4⟩
  rcases h3 with h3 | ⟨b, o, rfl, hS, h3⟩
  · exact .inl h3
  · refine .inr ⟨b, o, rfl, hS, fun i x hi => ?_⟩
    obtain ⟨a0, a1, a2⟩ := h3 i x hi
    exact ⟨(hb.cell (p := ⟨b, o + i * 3, none⟩) hS).trans a0, (hb.cell (p := ⟨b, o + i * 3 + 1, none⟩) hS).trans a1, (hb.cell (p := ⟨b, o + i * 3 + 2, none⟩) hS).trans a2⟩
theorem Cels.more {w : World} {B B' : Nat} {v : Value} {l : List Cel} (h : Cels w (Under B) v l) (hB : B ≤ B') : Cels w (Under B') v l := by
  obtain ⟨A, c, rfl, h1, h2, h3, h4⟩ := h
  refine ⟨A, c, rfl, h1, h2, ?_, h4⟩
  rcases h3 with h3 | ⟨b, o, rfl, hS, h3⟩
  · exact .inl h3
  · exact .inr ⟨b, o, rfl, Nat.lt_of_lt_of_le hS hB, h3⟩

theorem set5 {w : World} {g : Nat} {v0 v1 v2 v3 v4 u0 u1 u2 u3 u4 : Value} (c0 : w.cell? ⟨g, 0, none⟩ = some u0) (c1 : w.cell? ⟨g, 1, none⟩ = some u1) (c2 : w.cell? ⟨g, 2, none⟩ = some u2) (c3 : w.cell? ⟨g, 3, none⟩ = some u3) (c4 : w.cell? ⟨g, 4, none⟩ = some u4) :
    (((((w.setCell ⟨g, 0, none⟩ v0).setCell ⟨g, 1, none⟩ v1).setCell ⟨g, 2, none⟩ v2).setCell ⟨g, 3, none⟩ v3).setCell ⟨g, 4, none⟩ v4).cell? ⟨g, 0, none⟩ = some v0 ∧
    (((((w.setCell ⟨g, 0, none⟩ v0).setCell ⟨g, 1, none⟩ v1).setCell ⟨g, 2, none⟩ v2).setCell ⟨g, 3, none⟩ v3).setCell ⟨g, 4, none⟩ v4).cell? ⟨g, 1, none⟩ = some v1 ∧
    (((((w.setCell ⟨g, 0, none⟩ v0).setCell ⟨g, 1, none⟩ v1).setCell ⟨g, 2, none⟩ v2).setCell ⟨g, 3, none⟩ v3).setCell ⟨g, 4, none⟩ v4).cell? ⟨g, 2, none⟩ = some v2 ∧
    (((((w.setCell ⟨g, 0, none⟩ v0).setCell ⟨g, 1, none⟩ v1).setCell ⟨g, 2, none⟩ v2).setCell ⟨g, 3, none⟩ v3).setCell ⟨g, 4, none⟩ v4).cell? ⟨g, 3, none⟩ = some v3 ∧
    (((((w.setCell ⟨g, 0, none⟩ v0).setCell ⟨g, 1, none⟩ v1).setCell ⟨g, 2, none⟩ v2).setCell ⟨g, 3, none⟩ v3).setCell ⟨g, 4, none⟩ v4).cell? ⟨g, 4, none⟩ = some v4 ∧
    (∀ b, b ≠ g → (((((w.setCell ⟨g, 0, none⟩ v0).setCell ⟨g, 1, none⟩ v1).setCell ⟨g, 2, none⟩ v2).setCell ⟨g, 3, none⟩ v3).setCell ⟨g, 4, none⟩ v4).heap[b]? = w.heap[b]?) ∧
    (((((w.setCell ⟨g, 0, none⟩ v0).setCell ⟨g, 1, none⟩ v1).setCell ⟨g, 2, none⟩ v2).setCell ⟨g, 3, none⟩ v3).setCell ⟨g, 4, none⟩ v4).heap.size = w.heap.size := by
  have far : ∀ (W : World) (i j : Nat) (u : Value), i ≠ j → (W.setCell ⟨g, i, none⟩ u).cell? ⟨g, j, none⟩ = W.cell? ⟨g, j, none⟩ := fun W i j u h => World.cell?_setCell_other W _ _ _ (fun e => h (by have := congrArg Addr.off e; simpa [eq_comm] using this))
  have a0 := cell_set c0 v0
  have a1 := cell_set (w := w.setCell ⟨g, 0, none⟩ v0) ((far _ 0 1 _ (by omega)).trans c1) v1
  have a2 := cell_set (w := (w.setCell ⟨g, 0, none⟩ v0).setCell ⟨g, 1, none⟩ v1) ((far _ 1 2 _ (by omega)).trans ((far _ 0 2 _ (by omega)).trans c2)) v2
  have a3 := cell_set (w := ((w.setCell ⟨g, 0, none⟩ v0).setCell ⟨g, 1, none⟩ v1).setCell ⟨g, 2, none⟩ v2) ((far _ 2 3 _ (by omega)).trans ((far _ 1 3 _ (by omega)).trans ((far _ 0 3 _ (by omega)).trans c3))) v3
  have a4 := cell_set (w := (((w.setCell ⟨g, 0, none⟩ v0).setCell ⟨g, 1, none⟩ v1).setCell ⟨g, 2, none⟩ v2).setCell ⟨g, 3, none⟩ v3) ((far _ 3 4 _ (by omega)).trans ((far _ 2 4 _ (by omega)).trans ((far _ 1 4 _ (by omega)).trans ((far _ 0 4 _ (by omega)).trans c4)))) v4
  refine ⟨?_, ?_, ?_, ?_, a4, fun b hb => ?_, by simp [World.setCell]⟩
  · rw [far _ 4 0 _ (by omega), far _ 3 0 _ (by omega), far _ 2 0 _ (by omega), far _ 1 0 _ (by omega)]; exact a0
  · rw [far _ 4 1 _ (by omega), far _ 3 1 _ (by omega), far _ 2 1 _ (by omega)]; exact a1
  · rw [far _ 4 2 _ (by omega), far _ 3 2 _ (by omega)]; exact a2
  · rw [far _ 4 3 _ (by omega)]; exact a3
  · rw [Below.heap_setCell _ _ _ _ hb, Below.heap_setCell _ _ _ _ hb, Below.heap_setCell _ _ _ _ hb, Below.heap_setCell _ _ _ _ hb, Below.heap_setCell _ _ _ _ hb]

set_option maxHeartbeats 1000000 in
theorem doc_any (v : Value) (l : List Cel) (w : World) (h : Cels w (Under w.heap.size) v l) : Calls Try.prog 6 #[v] w (DocPost w l) := by
  have HL := Lib.hid h
  clear h
  have HB0 : Hid (Below w.heap.size w (w.alloc (.cells #[.string ⟨#[]⟩, .string ⟨#[]⟩, .slice none 0 0, .slice none 0 0, .slice none 0 0] 31))) := Lib.hid ((Below.refl _ _).alloc (Nat.le_refl _) _)
  go_enter Try.func6, Try.ntmps6
  go_wp2_with fail
  refine (made_any _ l _ ((HL.out.below HB0.out).more HB0.out.size)).mono ?_
  rintro e w1 ⟨v1, rfl, hk1, hb1⟩
  obtain ⟨c0, c1, c2, c3, c4, hB1, hz1⟩ := box5 hb1
  have hf : ∀ j, w1.frozen? ⟨w.heap.size, j, none⟩ = false := fun j => by
    rw [hb1.frozen (p := ⟨w.heap.size, j, none⟩) (by simp)]; simp only [World.frozen?, heap_new]; simp
  have f0 := hf 0
  have f1 := hf 1
  have f2 := hf 2
  have f3 := hf 3
  have f4 := hf 4
  obtain ⟨A1, n1, rfl, _⟩ := hk1.form
  have HK := Lib.hid hk1
  clear hf hk1 hb1
  obtain ⟨q0, q1, q2, q3, q4, hbl, hzz⟩ := set5 (v0 := .string ⟨#[100, 111, 99]⟩) (v1 := .string ⟨#[]⟩) (v2 := .slice none 0 0) (v3 := .slice none 0 0) (v4 := .slice A1 (madeB l).length n1) c0 c1 c2 c3 c4
  have HBL := Lib.hid hbl
  clear hbl
  have HQ := Lib.hid (And.intro q0 (And.intro q1 (And.intro q2 (And.intro q3 q4))))
  clear q0 q1 q2 q3 q4
  have HZ := Lib.hid hzz
  have HZO : Hid (((((((w1.setCell ⟨w.heap.size, 0, none⟩ (.string ⟨#[100, 111, 99]⟩)).setCell ⟨w.heap.size, 1, none⟩ (.string ⟨#[]⟩)).setCell ⟨w.heap.size, 2, none⟩ (.slice none 0 0)).setCell ⟨w.heap.size, 3, none⟩ (.slice none 0 0)).setCell ⟨w.heap.size, 4, none⟩ (.slice A1 (madeB l).length n1))).os = w1.os ∧
    (((((w1.setCell ⟨w.heap.size, 0, none⟩ (.string ⟨#[100, 111, 99]⟩)).setCell ⟨w.heap.size, 1, none⟩ (.string ⟨#[]⟩)).setCell ⟨w.heap.size, 2, none⟩ (.slice none 0 0)).setCell ⟨w.heap.size, 3, none⟩ (.slice none 0 0)).setCell ⟨w.heap.size, 4, none⟩ (.slice A1 (madeB l).length n1)).tape = w1.tape ∧
    (((((w1.setCell ⟨w.heap.size, 0, none⟩ (.string ⟨#[100, 111, 99]⟩)).setCell ⟨w.heap.size, 1, none⟩ (.string ⟨#[]⟩)).setCell ⟨w.heap.size, 2, none⟩ (.slice none 0 0)).setCell ⟨w.heap.size, 3, none⟩ (.slice none 0 0)).setCell ⟨w.heap.size, 4, none⟩ (.slice A1 (madeB l).length n1)).output = w1.output) := Lib.hid ⟨rfl, rfl, rfl⟩
  clear hzz
  go_wp2
  generalize ((((w1.setCell ⟨w.heap.size, 0, none⟩ (.string ⟨#[100, 111, 99]⟩)).setCell ⟨w.heap.size, 1, none⟩ (.string ⟨#[]⟩)).setCell ⟨w.heap.size, 2, none⟩ (.slice none 0 0)).setCell ⟨w.heap.size, 3, none⟩ (.slice none 0 0)).setCell ⟨w.heap.size, 4, none⟩ (.slice A1 (madeB l).length n1) = W5 at *
  obtain ⟨q0, q1, q2, q3, q4⟩ := HQ.out
  refine bodyPost_ret (v := .agg #[.string ⟨#[100, 111, 99]⟩, .string ⟨#[]⟩, .slice none 0 0, .slice none 0 0, .slice A1 (madeB l).length n1]) (by simp [results, Try.results6, go_sem, q0, q1, q2, q3, q4]) rfl ⟨A1, n1, rfl, ?_, ?_⟩
  · refine HK.out.keep (fun b hb => ⟨by have := hb.1; simp at this; omega, by rw [HZ.out]; exact hb.2⟩) fun b hb => HBL.out b ?_
    have := hb.1; simp at this; omega
  · exact ⟨HZO.out.1.trans hB1.os, HZO.out.2.1.trans hB1.tape, HZO.out.2.2.trans hB1.output, by rw [HZ.out]; exact hB1.size, fun b hb => (HBL.out b (by omega)).trans (hB1.block b hb)⟩
end Go.Proofs.Ytmmifednhleggaa
