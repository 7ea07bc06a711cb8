/-
  What Split answers: the walk.
-/
import Derived.Test.YtamoklceekeheaaDoorQg
import Derived.Test.YtamoklceekeheaaDoorW26
namespace Go.Proofs.YtamoklceekeheaaDoor
open Go.RowKit Go.Sort

/-- What a round of Split holds. -/
structure SplitAt (w wr : World) (l : List Tree) (n k m : Nat) (vA : Value) (S : Nat → Prop) : Prop where
  eq : splitB l n = preB (l.take k) (splitB (l.drop k) m)
  door : Door w wr vA (.slice none 0 0) 0
  size : w.heap.size + 3 ≤ wr.heap.size
  own : Own wr (w.heap.size + 3) S vA (l.take k)
  hS : ∀ b, S b → (w.heap.size + 3 ≤ b ∧ b < wr.heap.size) ∧ some b ≠ vA.ownBlock

theorem splitAt_push {w w3 wf : World} {l : List Tree} {n k m : Nat} {vA : Value} {S : Nat → Prop} {x : Tree} {g' c' : Nat} {v2 v3 v4 : Value} (h : SplitAt w w3 l n k m vA S) (hx : l[k]? = some x) (hs : sizeB x ≤ m)
    (hp : Pushed w3 wf (w.heap.size + 3) S vA (l.take k) x g' c' (.string x.kind) (.string x.text) v2 v3 v4) :
    ∃ vA' S', Hid (SplitAt w ((put5o wf g' (k * 5) (.string x.kind) (.string x.text) v2 v3 v4).setCell ⟨w.heap.size, 0, none⟩ (.slice (some ⟨g', 0, none⟩) (k + 1) c')) l n (k + 1) (m - sizeB x) vA' S') := by
  have hl : k < l.length := (List.getElem?_eq_some_iff.1 hx).1
  have hlen : (l.take k).length = k := by rw [List.length_take]; omega
  have ht : l.take (k + 1) = l.take k ++ [x] := by rw [List.take_add_one, hx]; rfl
  obtain ⟨r1, r2, r3⟩ := hp.row
  have hsz := h.size
  have hz2 := hp.size
  have hob : ∀ b, b < w.heap.size + 3 → some b ≠ vA.ownBlock := fun b hb e => by
    obtain ⟨A, c, rfl, _, hA⟩ := h.own.form
    rcases hA with ⟨rfl, _⟩ | ⟨g, rfl, h1, _⟩
    · cases e
    · simp [Value.ownBlock] at e; omega
  have hfill := Own.fill (S' := fun b => (w.heap.size + 3 ≤ b ∧ b < wf.heap.size) ∧ b ≠ g') hp.own (fun b hb => ⟨(hp.hS b hb).2, ⟨(h.hS b hb).1.1, (hp.hS b hb).1⟩, (hp.hS b hb).2⟩) (fun b hb => hb.2) (hp.copy.keep (fun b hb => ⟨⟨by omega, hb.2.1⟩, hb.2.2⟩) (fun _ _ => rfl))
  rw [hlen] at hfill
  have hps : (put5o wf g' (k * 5) (.string x.kind) (.string x.text) v2 v3 v4).heap.size = wf.heap.size := put5o_size
  have blk : ∀ b, b ≠ g' → (put5o wf g' (k * 5) (.string x.kind) (.string x.text) v2 v3 v4).heap[b]? = wf.heap[b]? := fun b hb => put5o_other hb
  have hbe : Below w.heap.size w (put5o wf g' (k * 5) (.string x.kind) (.string x.text) v2 v3 v4) := put5o_below (by omega) ⟨hp.env.1.trans h.door.below.os, hp.env.2.1.trans h.door.below.tape, hp.env.2.2.trans h.door.below.output, by have := h.door.below.size; omega, fun b hb => (hp.old b (by omega) (hob b (by omega))).trans (h.door.below.block b hb)⟩
  have h4 : (put5o wf g' (k * 5) (.string x.kind) (.string x.text) v2 v3 v4).heap[w.heap.size]? = some (.cells #[vA] 26) := (blk _ (by omega)).trans ((hp.old _ (by omega) (hob _ (by omega))).trans h.door.h4)
  have h5 := (blk _ (by omega)).trans ((hp.old _ (by omega) (hob _ (by omega))).trans h.door.h5)
  have h6 := (blk _ (by omega)).trans ((hp.old _ (by omega) (hob _ (by omega))).trans h.door.h6)
  generalize put5o wf g' (k * 5) (.string x.kind) (.string x.text) v2 v3 v4 = W at *
  have bk2 : ∀ b, b ≠ w.heap.size → (W.setCell ⟨w.heap.size, 0, none⟩ (.slice (some ⟨g', 0, none⟩) (k + 1) c')).heap[b]? = W.heap[b]? := fun b hb => Below.heap_setCell _ _ _ _ hb
  have hz3 : (W.setCell ⟨w.heap.size, 0, none⟩ (.slice (some ⟨g', 0, none⟩) (k + 1) c')).heap.size = W.heap.size := by simp [World.setCell]
  have h4' : (W.setCell ⟨w.heap.size, 0, none⟩ (.slice (some ⟨g', 0, none⟩) (k + 1) c')).heap[w.heap.size]? = some (.cells #[.slice (some ⟨g', 0, none⟩) (k + 1) c'] 26) := heap_setCell_same _ w.heap.size 0 _ _ _ h4
  have hbe2 : Below w.heap.size w (W.setCell ⟨w.heap.size, 0, none⟩ (.slice (some ⟨g', 0, none⟩) (k + 1) c')) := set_below (Nat.le_refl _) hbe
  generalize W.setCell ⟨w.heap.size, 0, none⟩ (.slice (some ⟨g', 0, none⟩) (k + 1) c') = W2 at *
  refine ⟨_, fun b => (w.heap.size + 3 ≤ b ∧ b < wf.heap.size) ∧ b ≠ g', Lib.hid ⟨split_step h.eq hx hs, ⟨h4', (bk2 _ (by omega)).trans h5, (bk2 _ (by omega)).trans h6, hbe2⟩, by omega, ?_, ?_⟩⟩
  · rw [ht]
    obtain ⟨xs, ⟨hl2, ho⟩, hc⟩ := hfill
    refine ⟨xs, ⟨hl2, ?_⟩, hc.keep (fun _ h => h) fun b hb => bk2 b (by omega)⟩
    rcases ho with ⟨hv, _⟩ | ⟨g2, cap, cur, hv, hb2, hg2, rest⟩
    · cases hv
    · have : g2 = g' := by injection hv with hv; injection hv with hv; injection hv with hv; exact hv.symm
      subst this
      exact .inr ⟨g2, cap, cur, hv, hb2, (bk2 g2 (by omega)).trans hg2, rest⟩
  · exact fun b hb => ⟨⟨hb.1.1, by omega⟩, fun e => hb.2 (by simpa [Value.ownBlock] using e)⟩

theorem SplitAt.keep {w wr W : World} {l : List Tree} {n k m : Nat} {vA : Value} {S : Nat → Prop} (h : SplitAt w wr l n k m vA S) (hb : Below wr.heap.size wr W) : SplitAt w W l n k m vA S := by
  have hz := h.size
  have hz2 := hb.size
  exact ⟨h.eq, ⟨(hb.block _ (by omega)).trans h.door.h4, (hb.block _ (by omega)).trans h.door.h5, (hb.block _ (by omega)).trans h.door.h6, belowNext h.door.below hb⟩, by omega, h.own.later hb (fun b hb' => (h.hS b hb').1.2), fun b hb' => ⟨⟨(h.hS b hb').1.1, by have := (h.hS b hb').1.2; omega⟩, (h.hS b hb').2⟩⟩
theorem SplitAt.block {w wr : World} {l : List Tree} {n k m : Nat} {vA : Value} {S : Nat → Prop} (h : SplitAt w wr l n k m vA S) : ∀ g, vA.ownBlock = some g → w.heap.size + 3 ≤ g ∧ g < wr.heap.size := fun g hg => h.own.block_ge g hg

theorem setCell_comm (W : World) {g g' i j : Nat} (h : g ≠ g') (u v : Value) : (W.setCell ⟨g, i, none⟩ u).setCell ⟨g', j, none⟩ v = (W.setCell ⟨g', j, none⟩ v).setCell ⟨g, i, none⟩ u := by
  unfold World.setCell
  congr 1
  apply Array.ext_getElem?
  intro k
  simp only [Array.getElem?_modify]
  by_cases h1 : g = k
  · subst h1; simp [Ne.symm h]
  · by_cases h2 : g' = k
    · subst h2; simp [h]
    · simp [h1, h2]
/-- What the stores behind the append find. -/
structure Stores (wf : World) (g4 g' o : Nat) (vA : Value) : Prop where
  cells : ∃ u0 u1 u2 u3 u4, wf.cell? ⟨g', o, none⟩ = some u0 ∧ wf.cell? ⟨g', o + 1, none⟩ = some u1 ∧ wf.cell? ⟨g', o + 2, none⟩ = some u2 ∧ wf.cell? ⟨g', o + 3, none⟩ = some u3 ∧ wf.cell? ⟨g', o + 4, none⟩ = some u4
  frozen : ∀ j, wf.frozen? ⟨g', j, none⟩ = false
  var : wf.cell? ⟨g4, 0, none⟩ = some vA ∧ wf.frozen? ⟨g4, 0, none⟩ = false
  ne : g4 ≠ g'
theorem pushed_stores {w3 wf : World} {w : World} {l : List Tree} {n k m : Nat} {base : Nat} {S : Nat → Prop} {vA : Value} {x : Tree} {g' c' : Nat} {v0 v1 v2 v3 v4 : Value} (ha : SplitAt w w3 l n k m vA S) (hl : (l.take k).length = k) (h : Pushed w3 wf base S vA (l.take k) x g' c' v0 v1 v2 v3 v4) (hb : base = w.heap.size + 3) : Stores wf w.heap.size g' (k * 5) vA := by
  obtain ⟨r1, r2, r3⟩ := h.row
  obtain ⟨cur, vm, va, vk, hc, hs, u0, u1, u2, u3, u4, _, f0, f1, f2, f3, f4⟩ := h.own.last
  rw [hl] at f0 f1 f2 f3 f4
  have hz := ha.size
  have hv := (h.old w.heap.size (by omega) (fun e => by have := (ha.block _ e.symm).1; omega)).trans ha.door.h4
  exact ⟨⟨u0, u1, u2, u3, u4, by simpa [World.cell?, hc] using f0, by simpa [World.cell?, hc] using f1, by simpa [World.cell?, hc] using f2, by simpa [World.cell?, hc] using f3, by simpa [World.cell?, hc] using f4⟩, fun j => frozen_of_row _ _ j _ _ hc, cells1 hv, by omega⟩
/-- .. behind the store into the variable. -/
theorem Stores.after {wf : World} {g4 g' o : Nat} {vA u : Value} (h : Stores wf g4 g' o vA) : (∃ u0 u1 u2 u3 u4, (wf.setCell ⟨g4, 0, none⟩ u).cell? ⟨g', o, none⟩ = some u0 ∧ (wf.setCell ⟨g4, 0, none⟩ u).cell? ⟨g', o + 1, none⟩ = some u1 ∧ (wf.setCell ⟨g4, 0, none⟩ u).cell? ⟨g', o + 2, none⟩ = some u2 ∧ (wf.setCell ⟨g4, 0, none⟩ u).cell? ⟨g', o + 3, none⟩ = some u3 ∧ (wf.setCell ⟨g4, 0, none⟩ u).cell? ⟨g', o + 4, none⟩ = some u4) ∧ ∀ j, (wf.setCell ⟨g4, 0, none⟩ u).frozen? ⟨g', j, none⟩ = false := by
  have hb : (wf.setCell ⟨g4, 0, none⟩ u).heap[g']? = wf.heap[g']? := Below.heap_setCell _ _ _ _ (Ne.symm h.ne)
  have hc : ∀ j, (wf.setCell ⟨g4, 0, none⟩ u).cell? ⟨g', j, none⟩ = wf.cell? ⟨g', j, none⟩ := fun j => World.cell?_of_block (a := ⟨g', j, none⟩) hb
  obtain ⟨u0, u1, u2, u3, u4, h0, h1, h2, h3, h4⟩ := h.cells
  exact ⟨⟨u0, u1, u2, u3, u4, (hc _).trans h0, (hc _).trans h1, (hc _).trans h2, (hc _).trans h3, (hc _).trans h4⟩, fun j => (World.frozen?_of_block (a := ⟨g', j, none⟩) hb).trans (h.frozen j)⟩
/-- .. behind the stores into the row. -/
theorem Stores.past {wf : World} {g4 g' o : Nat} {vA v0 v1 v2 v3 v4 : Value} (h : Stores wf g4 g' o vA) : (put5o wf g' o v0 v1 v2 v3 v4).cell? ⟨g4, 0, none⟩ = some vA ∧ (put5o wf g' o v0 v1 v2 v3 v4).frozen? ⟨g4, 0, none⟩ = false := by
  have hb : (put5o wf g' o v0 v1 v2 v3 v4).heap[g4]? = wf.heap[g4]? := put5o_other h.ne
  exact ⟨(World.cell?_of_block (a := ⟨g4, 0, none⟩) hb).trans h.var.1, (World.frozen?_of_block (a := ⟨g4, 0, none⟩) hb).trans h.var.2⟩
theorem put5o_comm {wf : World} {g4 g' o : Nat} {u v0 v1 v2 v3 v4 : Value} (h : g4 ≠ g') : put5o (wf.setCell ⟨g4, 0, none⟩ u) g' o v0 v1 v2 v3 v4 = (put5o wf g' o v0 v1 v2 v3 v4).setCell ⟨g4, 0, none⟩ u := by
  unfold put5o
  rw [setCell_comm _ h, setCell_comm _ h, setCell_comm _ h, setCell_comm _ h, setCell_comm _ h]
end Go.Proofs.YtamoklceekeheaaDoor
