/-
  A statement's argument that is a slice of whole numbers, or a spot, as it is read.
-/
import Derived.Test.YtmmifednhleggaaArgN
import Derived.Test.YtmmifednhleggaaPlA
namespace Go.Proofs.Ytmmifednhleggaa
open Go.ChangeShapes Go.WideShapes Go.ChangeAt Go.RowKit Go.Deep

theorem intI_cells : Try.prog.cellsOf 23 = 1 := by kernel_rfl
theorem ints_of {H : Type} {enc : TypeId × Value → H} {W : World} {fuel : Nat} {v : Value} {x : DataW H × List MemPlace} (h : DataW.trod enc Try.prog W 0 (fun _ => true) true fuel 23 [v] = some x) :
    ∃ l, Ints W (Under W.heap.size) v l ∧ ∀ x ∈ l, -9223372036854775808 ≤ x ∧ x ≤ 9223372036854775807 := by
  obtain ⟨l, A, c, hv, h1, h2, h3, _⟩ := slice_of (Q := fun b o (s : Int) => W.cell? ⟨b, o, none⟩ = some (.int .i64 s) ∧ -9223372036854775808 ≤ s ∧ s ≤ 9223372036854775807) (fun _ => 0) Try.underlying23 int_cells (by omega) h (by
    intro n _ b o cs y hc hl ht
    match cs, hl with
    | [c0], _ =>
      obtain ⟨i0, e0, _, w0⟩ := DataW.trod_int Try.underlying3 ht
      simp at e0
      subst e0
      have w := bounds_i64 w0
      exact ⟨i0, ⟨by simpa using hc 0 (by omega), w.1, w.2⟩, Nat.zero_le _⟩)
  refine ⟨l, ⟨A, c, hv, h1, h2, h3.imp id ?_⟩, ?_⟩
  · rintro ⟨b, o, hA, hb, hq⟩
    exact ⟨b, o, hA, hb, fun i s hi => by have := (hq i s hi).1; rwa [Nat.mul_one] at this⟩
  · intro y hy
    obtain ⟨i, hi⟩ := List.mem_iff_getElem?.1 hy
    rcases h3 with rfl | ⟨b, o, _, _, hq⟩
    · cases hy
    · exact (hq i y hi).2
theorem spot_of {H : Type} {enc : TypeId × Value → H} {W : World} {fuel : Nat} {cs : List Value} {x : DataW H × List MemPlace} (hl : cs.length = 3) (h : DataW.trod enc Try.prog W 0 (fun _ => true) true fuel 25 cs = some x) :
    ∃ (vp : Value) (j o : Int) (l : List Int), cs = [vp, .int .i64 j, .int .i64 o] ∧ Ints W (Under W.heap.size) vp l ∧ (∀ x ∈ l, -9223372036854775808 ≤ x ∧ x ≤ 9223372036854775807) ∧
      (-9223372036854775808 ≤ j ∧ j ≤ 9223372036854775807) ∧ (-9223372036854775808 ≤ o ∧ o ≤ 9223372036854775807) := by
  obtain ⟨y0, y1, y2, n, _, _, h0, h1, h2⟩ := trod_struct3 Try.underlying25 h
  simp only [int_cells, intI_cells] at h0 h1 h2
  match cs, hl with
  | [c0, c1, c2], _ =>
    obtain ⟨l, hi, hr⟩ := ints_of (v := c0) (x := y0) (by simpa using h0)
    obtain ⟨i1, e1, _, w1⟩ := DataW.trod_int Try.underlying3 h1
    obtain ⟨i2, e2, _, w2⟩ := DataW.trod_int Try.underlying3 h2
    simp at e1 e2
    subst e1 e2
    exact ⟨c0, i1, i2, l, rfl, hi, hr, bounds_i64 w1, bounds_i64 w2⟩
theorem spot_cells : Try.prog.cellsOf 25 = 3 := by kernel_rfl
end Go.Proofs.Ytmmifednhleggaa
