/-
  Split's last statements: the three results laid, and what stands besides.
-/
import Derived.Test.YtamoklceekeheaaDoorQh
namespace Go.Proofs.YtamoklceekeheaaDoor
open Go.RowKit Go.Sort

/-- The results stored once more. -/
def laid3 (w wr : World) (v4 v5 : Value) (c : Int) : World := ((wr.setCell ⟨w.heap.size, 0, none⟩ v4).setCell ⟨w.heap.size + 1, 0, none⟩ v5).setCell ⟨w.heap.size + 1 + 1, 0, none⟩ (.int .i64 c)
theorem laid3_door {w wr : World} {u4 u5 v4 v5 : Value} {c0 c : Int} (h : Door w wr u4 u5 c0) : Door w (laid3 w wr v4 v5 c) v4 v5 c := by
  have a4 : (wr.setCell ⟨w.heap.size, 0, none⟩ v4).heap[w.heap.size]? = some (.cells #[v4] 26) := heap_setCell_same _ _ 0 _ _ _ h.h4
  have a5 : (wr.setCell ⟨w.heap.size, 0, none⟩ v4).heap[w.heap.size + 1]? = some (.cells #[u5] 26) := (Below.heap_setCell _ _ _ _ (show w.heap.size + 1 ≠ w.heap.size by omega)).trans h.h5
  have a6 : (wr.setCell ⟨w.heap.size, 0, none⟩ v4).heap[w.heap.size + 1 + 1]? = some (.cells #[.int .i64 c0] 32) := (Below.heap_setCell _ _ _ _ (show w.heap.size + 1 + 1 ≠ w.heap.size by omega)).trans h.h6
  have ab : Below w.heap.size w (wr.setCell ⟨w.heap.size, 0, none⟩ v4) := set_below (Nat.le_refl _) h.below
  unfold laid3
  generalize wr.setCell ⟨w.heap.size, 0, none⟩ v4 = W at *
  have b4 : (W.setCell ⟨w.heap.size + 1, 0, none⟩ v5).heap[w.heap.size]? = some (.cells #[v4] 26) := (Below.heap_setCell _ _ _ _ (show w.heap.size ≠ w.heap.size + 1 by omega)).trans a4
  have b5 : (W.setCell ⟨w.heap.size + 1, 0, none⟩ v5).heap[w.heap.size + 1]? = some (.cells #[v5] 26) := heap_setCell_same _ _ 0 _ _ _ a5
  have b6 : (W.setCell ⟨w.heap.size + 1, 0, none⟩ v5).heap[w.heap.size + 1 + 1]? = some (.cells #[.int .i64 c0] 32) := (Below.heap_setCell _ _ _ _ (show w.heap.size + 1 + 1 ≠ w.heap.size + 1 by omega)).trans a6
  have bb : Below w.heap.size w (W.setCell ⟨w.heap.size + 1, 0, none⟩ v5) := set_below (by omega) ab
  generalize W.setCell ⟨w.heap.size + 1, 0, none⟩ v5 = W2 at *
  exact ⟨(Below.heap_setCell _ _ _ _ (show w.heap.size ≠ w.heap.size + 1 + 1 by omega)).trans b4, (Below.heap_setCell _ _ _ _ (show w.heap.size + 1 ≠ w.heap.size + 1 + 1 by omega)).trans b5, heap_setCell_same _ _ 0 _ _ _ b6, set_below (by omega) bb⟩
theorem laid3_other {w wr : World} {v4 v5 : Value} {c : Int} {b : Nat} (h : w.heap.size + 3 ≤ b) : (laid3 w wr v4 v5 c).heap[b]? = wr.heap[b]? := by
  unfold laid3
  rw [Below.heap_setCell _ _ _ _ (show b ≠ w.heap.size + 1 + 1 by omega), Below.heap_setCell _ _ _ _ (show b ≠ w.heap.size + 1 by omega), Below.heap_setCell _ _ _ _ (show b ≠ w.heap.size by omega)]
theorem laid3_size {w wr : World} {v4 v5 : Value} {c : Int} : (laid3 w wr v4 v5 c).heap.size = wr.heap.size := by unfold laid3; simp [World.setCell]
/-- The cells that the last stores find. -/
theorem laid3_cells {w wr : World} {u4 u5 v4 v5 : Value} {c0 : Int} (h : Door w wr u4 u5 c0) :
    (wr.setCell ⟨w.heap.size, 0, none⟩ v4).cell? ⟨w.heap.size + 1, 0, none⟩ = some u5 ∧ (wr.setCell ⟨w.heap.size, 0, none⟩ v4).frozen? ⟨w.heap.size + 1, 0, none⟩ = false ∧
    ((wr.setCell ⟨w.heap.size, 0, none⟩ v4).setCell ⟨w.heap.size + 1, 0, none⟩ v5).cell? ⟨w.heap.size + 1 + 1, 0, none⟩ = some (.int .i64 c0) ∧ ((wr.setCell ⟨w.heap.size, 0, none⟩ v4).setCell ⟨w.heap.size + 1, 0, none⟩ v5).frozen? ⟨w.heap.size + 1 + 1, 0, none⟩ = false := by
  have a5 : (wr.setCell ⟨w.heap.size, 0, none⟩ v4).heap[w.heap.size + 1]? = some (.cells #[u5] 26) := (Below.heap_setCell _ _ _ _ (show w.heap.size + 1 ≠ w.heap.size by omega)).trans h.h5
  have a6 : (wr.setCell ⟨w.heap.size, 0, none⟩ v4).heap[w.heap.size + 1 + 1]? = some (.cells #[.int .i64 c0] 32) := (Below.heap_setCell _ _ _ _ (show w.heap.size + 1 + 1 ≠ w.heap.size by omega)).trans h.h6
  have b6 : ((wr.setCell ⟨w.heap.size, 0, none⟩ v4).setCell ⟨w.heap.size + 1, 0, none⟩ v5).heap[w.heap.size + 1 + 1]? = some (.cells #[.int .i64 c0] 32) := (Below.heap_setCell _ _ _ _ (show w.heap.size + 1 + 1 ≠ w.heap.size + 1 by omega)).trans a6
  exact ⟨(cells1 a5).1, (cells1 a5).2, (cells1 b6).1, (cells1 b6).2⟩
theorem Door.drew {w wr : World} {v4 v5 : Value} {c : Int} (h : Door w wr v4 v5 c) : Door w wr.drew v4 v5 c := ⟨h.h4, h.h5, h.h6, h.below.drew⟩
theorem Door.set5 {w wr : World} {v4 v5 u5 : Value} {c : Int} (h : Door w wr v4 u5 c) : Door w (wr.setCell ⟨w.heap.size + 1, 0, none⟩ v5) v4 v5 c :=
  ⟨(Below.heap_setCell _ _ _ _ (show w.heap.size ≠ w.heap.size + 1 by omega)).trans h.h4, heap_setCell_same _ _ 0 _ _ _ h.h5, (Below.heap_setCell _ _ _ _ (show w.heap.size + 1 + 1 ≠ w.heap.size + 1 by omega)).trans h.h6, set_below (by omega) h.below⟩
/-- Where Split is when the part behind is copied. -/
structure BackAt (w W : World) (l : List Tree) (k : Nat) (vA vB : Value) (S : Nat → Prop) (lo hi : Nat) : Prop where
  door : Door w W vA vB 0
  size : w.heap.size + 3 ≤ lo ∧ hi ≤ W.heap.size
  own : Own W (w.heap.size + 3) S vA (l.take k)
  hS : ∀ b, S b → (w.heap.size + 3 ≤ b ∧ b < lo) ∧ some b ≠ vA.ownBlock
  row : ∀ g, vA.ownBlock = some g → w.heap.size + 3 ≤ g ∧ g < lo
  back : RowV W lo hi vB (l.drop k)
theorem backAt_of {w w3 w4 : World} {l : List Tree} {n k m : Nat} {vA vB : Value} {S : Nat → Prop} (h : SplitAt w w3 l n k m vA S) (hb : Below w3.heap.size w3 w4) (hr : RowV w4 w3.heap.size w4.heap.size vB (l.drop k)) : BackAt w (w4.setCell ⟨w.heap.size + 1, 0, none⟩ vB) l k vA vB S w3.heap.size w4.heap.size := by
  have hz := h.size
  have h4 := h.keep hb
  have blk : ∀ b, w.heap.size + 3 ≤ b → (w4.setCell ⟨w.heap.size + 1, 0, none⟩ vB).heap[b]? = w4.heap[b]? := fun b hb => Below.heap_setCell _ _ _ _ (show b ≠ w.heap.size + 1 by omega)
  have hs : (w4.setCell ⟨w.heap.size + 1, 0, none⟩ vB).heap.size = w4.heap.size := by simp [World.setCell]
  refine ⟨h4.door.set5, ⟨hz, by rw [hs]; exact Nat.le_refl _⟩, ?_, fun b hb' => ⟨⟨(h.hS b hb').1.1, (h.hS b hb').1.2⟩, (h.hS b hb').2⟩, h.block, hr.keep (Nat.le_refl _) (Nat.le_refl _) (fun b hb' => blk b (by have := hb'.1; omega))⟩
  obtain ⟨xs, ⟨hl, ho⟩, hc⟩ := h4.own
  refine ⟨xs, ⟨hl, ?_⟩, hc.keep (fun _ h => h) fun b hb' => blk b (h.hS b hb').1.1⟩
  rcases ho with ho | ⟨g, cap, cur, hv, hg, hh, rest⟩
  · exact .inl ho
  · exact .inr ⟨g, cap, cur, hv, hg, (blk g hg).trans hh, rest⟩
theorem BackAt.kidsA {w W : World} {l : List Tree} {k : Nat} {vA vB : Value} {S : Nat → Prop} {lo hi : Nat} (h : BackAt w W l k vA vB S lo hi) (hl : lo ≤ hi) : Kids W (From (w.heap.size + 3) W.heap.size) vA (l.take k) :=
  h.own.kids (fun b hb => ⟨(h.hS b hb).1.1, by have := (h.hS b hb).1.2; have := h.size.2; omega⟩) (fun g hg => ⟨(h.row g hg).1, by have := (h.row g hg).2; have := h.size.2; omega⟩)
theorem BackAt.kidsB {w W : World} {l : List Tree} {k : Nat} {vA vB : Value} {S : Nat → Prop} {lo hi : Nat} (h : BackAt w W l k vA vB S lo hi) : Kids W (From (w.heap.size + 3) W.heap.size) vB (l.drop k) :=
  h.back.kids.keep (fun b hb => ⟨by have := hb.1; have := h.size.1; omega, by have := hb.2; have := h.size.2; omega⟩) (fun _ _ => rfl)
theorem laid3_kids {w wr : World} {v4 v5 v : Value} {c : Int} {a : List Tree} (h : Kids wr (From (w.heap.size + 3) wr.heap.size) v a) : Kids (laid3 w wr v4 v5 c).drew (From w.heap.size (laid3 w wr v4 v5 c).drew.heap.size) v a :=
  h.keep (fun b hb => ⟨by have := hb.1; omega, by show b < (laid3 w wr v4 v5 c).heap.size; rw [laid3_size]; exact hb.2⟩) (fun b hb => laid3_other hb.1)
end Go.Proofs.YtamoklceekeheaaDoor
