/-
  A statement's argument that is a slice of tokens, as it is read.
-/
import Derived.Test.YtggoebbfgkebcaaGreatDoorArgN
import Derived.Test.YtggoebbfgkebcaaGreatDoorMB
namespace Go.Proofs.YtggoebbfgkebcaaGreatDoor
open Go.ChangeShapes Go.WideShapes Go.ChangeAt Go.RowKit Go.Deep

theorem u8_cells : Tryz.prog.cellsOf 5 = 1 := by kernel_rfl
theorem tokS_cells : Tryz.prog.cellsOf 25 = 3 := by kernel_rfl
/-- How much there is to read of tokens. -/
def tokBulk (l : List Tok) : Nat := (l.map fun t => t.text.size + t.head.size + 1).sum
theorem tokBulk_mem {t : Tok} : ∀ {l : List Tok}, t ∈ l → t.text.size + t.head.size + 1 ≤ tokBulk l
  | [], h => by cases h
  | x :: l, h => by
    unfold tokBulk
    rw [List.map_cons, List.sum_cons]
    rcases List.mem_cons.1 h with rfl | h
    · omega
    · have := tokBulk_mem h
      unfold tokBulk at this; omega
set_option maxRecDepth 100000 in
theorem toks_of {H : Type} {enc : TypeId × Value → H} {W : World} {fuel : Nat} {v : Value} {x : DataW H × List MemPlace} (h : DataW.trod enc Tryz.prog W 0 (fun _ => true) true fuel 22 [v] = some x) :
    ∃ l, Toks W (Under W.heap.size) v l ∧ tokBulk l + 1 ≤ Rows.uptoBulk x.1 := by
  obtain ⟨l, A, c, hv, h1, h2, h3, h4⟩ := slice_of (Q := fun b o (t : Tok) => W.cell? ⟨b, o, none⟩ = some (.int .u8 (t.kind : Int)) ∧ W.cell? ⟨b, o + 1, none⟩ = some (.string t.text) ∧ W.cell? ⟨b, o + 2, none⟩ = some (.string t.head)) (fun t => t.text.size + t.head.size + 1) Tryz.underlying22 tokS_cells (by omega) h (by
    intro n _ b o cs y hc hl ht
    obtain ⟨y0, y1, y2, m, hy, _, t0, t1, t2⟩ := trod_struct3 Tryz.underlying25 ht
    match cs, hl with
    | [c0, c1, c2], _ =>
      simp only [str_cells, u8_cells] at t0 t1 t2
      obtain ⟨i0, e0, z0, w0⟩ := DataW.trod_int Tryz.underlying5 t0
      obtain ⟨s1, e1, z1, _⟩ := DataW.trod_string Tryz.underlying9 t1
      obtain ⟨s2, e2, z2, _⟩ := DataW.trod_string Tryz.underlying9 t2
      simp at e0 e1 e2
      have hk := (bounds_u8 w0).1
      obtain ⟨k, rfl⟩ : ∃ k : Nat, i0 = (k : Int) := ⟨i0.toNat, by omega⟩
      subst e0 e1 e2 hy z0 z1 z2
      exact ⟨⟨k, s1, s2⟩, ⟨by simpa using hc 0 (by omega), by simpa using hc 1 (by omega), by simpa using hc 2 (by omega)⟩, by simp only [Rows.uptoBulk, Rows.uptoBulkAll, Lib.size_eq]; omega⟩)
  refine ⟨l, ⟨A, c, hv, h1, h2, h3.imp id ?_⟩, h4⟩
  rintro ⟨b, o, hA, hb, hq⟩
  exact ⟨b, o, hA, hb, fun i p hi => hq i p hi⟩
end Go.Proofs.YtggoebbfgkebcaaGreatDoor
