/-
  How Split ends: the door, with its deferred function.
-/
import Derived.Test.YtamoklceekeheaaDoorQe
namespace Go.Proofs.YtamoklceekeheaaDoor
open Go.RowKit Go.Sort

/-- What Split answers. -/
def SplitPost (w : World) (r : Spl) (e : Ending) (w' : World) : Prop :=
  ∃ v1 v2, e = .returned (.tuple #[v1, v2, .int .i64 (r.1 : Int)]) ∧ Kids w' (From w.heap.size w'.heap.size) v1 r.2.1 ∧ Kids w' (From w.heap.size w'.heap.size) v2 r.2.2 ∧ Below w.heap.size w w'

/-- Where the three results lie. -/
structure Door (w wd : World) (v4 v5 : Value) (c : Int) : Prop where
  h4 : wd.heap[w.heap.size]? = some (.cells #[v4] 26)
  h5 : wd.heap[w.heap.size + 1]? = some (.cells #[v5] 26)
  h6 : wd.heap[w.heap.size + 1 + 1]? = some (.cells #[.int .i64 c] 32)
  below : Below w.heap.size w wd
theorem cells1 {w : World} {g : Nat} {u0 : Value} {T : TypeId} (h : w.heap[g]? = some (.cells #[u0] T)) : w.cell? ⟨g, 0, none⟩ = some u0 ∧ w.frozen? ⟨g, 0, none⟩ = false := ⟨by simp [World.cell?, h], frozen_of_row _ _ 0 _ _ h⟩

set_option maxRecDepth 100000 in
theorem door_well {w wd : World} {tmps : Array Value} {v4 v5 : Value} {a b : List Tree} (h : Door w wd v4 v5 0) (t4 : tmps[4]? = some (.pointer (some ⟨w.heap.size, 0, none⟩))) (t5 : tmps[5]? = some (.pointer (some ⟨w.heap.size + 1, 0, none⟩))) (t6 : tmps[6]? = some (.pointer (some ⟨w.heap.size + 1 + 1, 0, none⟩)))
    (ha : Kids wd (From w.heap.size wd.heap.size) v4 a) (hb : Kids wd (From w.heap.size wd.heap.size) v5 b) :
    bodyPostD Tryd.prog Tryd.f22 (SplitPost w (0, a, b)) Exit.ret { tmps := tmps, defers := [{ target := Target.fn (Fn.func 44) #[.pointer (some ⟨w.heap.size + 1 + 1, 0, none⟩), .pointer (some ⟨w.heap.size, 0, none⟩), .pointer (some ⟨w.heap.size + 1, 0, none⟩)], args := #[] }] } wd := by
  obtain ⟨c4, f4⟩ := cells1 h.h4
  obtain ⟨c5, f5⟩ := cells1 h.h5
  obtain ⟨c6, f6⟩ := cells1 h.h6
  refine leaves_cons (f := 44) (args := #[.pointer (some ⟨w.heap.size + 1 + 1, 0, none⟩), .pointer (some ⟨w.heap.size, 0, none⟩), .pointer (some ⟨w.heap.size + 1, 0, none⟩)]) (by simp) (by simp [go_sem]) ?_
  refine (split_well _ _ _ _ wd c6).mono ?_
  rintro e u' w'' ⟨rfl, rfl, rfl⟩
  simp [Leaves, settle, results, Tryd.results22, go_sem, t4, t5, t6, c4, c5, c6]
  exact ⟨v4, v5, rfl, ha, hb, h.below⟩
set_option maxRecDepth 100000 in
theorem door_wrong {w wd : World} {tmps : Array Value} {v4 v5 : Value} {c : Nat} (hc : ((c : Int) == 0) = false) (h : Door w wd v4 v5 c) (t4 : tmps[4]? = some (.pointer (some ⟨w.heap.size, 0, none⟩))) (t5 : tmps[5]? = some (.pointer (some ⟨w.heap.size + 1, 0, none⟩))) (t6 : tmps[6]? = some (.pointer (some ⟨w.heap.size + 1 + 1, 0, none⟩))) :
    bodyPostD Tryd.prog Tryd.f22 (SplitPost w (c, [], [])) Exit.ret { tmps := tmps, defers := [{ target := Target.fn (Fn.func 44) #[.pointer (some ⟨w.heap.size + 1 + 1, 0, none⟩), .pointer (some ⟨w.heap.size, 0, none⟩), .pointer (some ⟨w.heap.size + 1, 0, none⟩)], args := #[] }] } wd := by
  obtain ⟨c4, f4⟩ := cells1 h.h4
  obtain ⟨c5, f5⟩ := cells1 h.h5
  obtain ⟨c6, f6⟩ := cells1 h.h6
  have hb : Below w.heap.size w ((wd.setCell ⟨w.heap.size, 0, none⟩ (.slice none 0 0)).setCell ⟨w.heap.size + 1, 0, none⟩ (.slice none 0 0)) := set_below (by omega) (set_below (Nat.le_refl _) h.below)
  obtain ⟨_, s4, _, blk, _, _⟩ := set_one (v := .slice none 0 0) c4
  have c5' := (World.cell?_of_block (a := ⟨w.heap.size + 1, 0, none⟩) (blk (w.heap.size + 1) (by omega))).trans c5
  have c6' := (World.cell?_of_block (a := ⟨w.heap.size + 1 + 1, 0, none⟩) (blk (w.heap.size + 1 + 1) (by omega))).trans c6
  obtain ⟨_, s5, _, blk2, _, _⟩ := set_one (v := .slice none 0 0) c5'
  have s4' := (World.cell?_of_block (a := ⟨w.heap.size, 0, none⟩) (blk2 w.heap.size (by omega))).trans s4
  have s6 := (World.cell?_of_block (a := ⟨w.heap.size + 1 + 1, 0, none⟩) (blk2 (w.heap.size + 1 + 1) (by omega))).trans c6'
  refine leaves_cons (f := 44) (args := #[.pointer (some ⟨w.heap.size + 1 + 1, 0, none⟩), .pointer (some ⟨w.heap.size, 0, none⟩), .pointer (some ⟨w.heap.size + 1, 0, none⟩)]) (by simp) (by simp [go_sem]) ?_
  refine (split_wrong _ _ _ c v4 v5 _ wd c6 hc c4 c5 f4 f5 (by omega)).mono ?_
  rintro e u' w'' ⟨rfl, rfl, rfl⟩
  generalize (wd.setCell ⟨w.heap.size, 0, none⟩ (.slice none 0 0)).setCell ⟨w.heap.size + 1, 0, none⟩ (.slice none 0 0) = w3 at *
  simp [Leaves, settle, results, Tryd.results22, go_sem, t4, t5, t6, s4', s5, s6]
  exact ⟨_, _, rfl, kids_nil, kids_nil, hb⟩
end Go.Proofs.YtamoklceekeheaaDoor
