/-
  Split's deferred function.
-/
import Derived.Test.YtamoklceekeheaaDoorQb
import Derived.Test.YtamoklceekeheaaDoorQc
import Derived.Test.YtamoklceekeheaaDoorQd
import Derived.Test.YtamoklceekeheaaDoorPlB
import Derived.Defers
import Derived.Recover
import Derived.Deep.RegionHeld3
namespace Go.Proofs.YtamoklceekeheaaDoor
open Go.RowKit Go.Sort

/-- The deferred function, where nothing is wrong. -/
theorem split_well (g6 g4 g5 : Nat) (u : FrameMode) (w : World) (h6 : w.cell? ⟨g6, 0, none⟩ = some (.int .i64 0)) :
    CallsD Tryd.prog 44 #[.pointer (some ⟨g6, 0, none⟩), .pointer (some ⟨g4, 0, none⟩), .pointer (some ⟨g5, 0, none⟩)] u w fun e u' w' => u' = u ∧ (e = .returned (.tuple #[]) ∧ w' = w) := by
  go_enter_d Tryd.func44, Tryd.ntmps44
  go_wp2
  go_end0
  exact ⟨rfl, rfl⟩
/-- .. and where something is. -/
theorem split_wrong (g6 g4 g5 : Nat) (c : Int) (v4 v5 : Value) (u : FrameMode) (w : World) (h6 : w.cell? ⟨g6, 0, none⟩ = some (.int .i64 c)) (hc : (c == 0) = false) (h4 : w.cell? ⟨g4, 0, none⟩ = some v4) (h5 : w.cell? ⟨g5, 0, none⟩ = some v5) (f4 : w.frozen? ⟨g4, 0, none⟩ = false) (f5 : w.frozen? ⟨g5, 0, none⟩ = false) (hne : g4 ≠ g5) :
    CallsD Tryd.prog 44 #[.pointer (some ⟨g6, 0, none⟩), .pointer (some ⟨g4, 0, none⟩), .pointer (some ⟨g5, 0, none⟩)] u w fun e u' w' => u' = u ∧ (e = .returned (.tuple #[]) ∧ w' = (w.setCell ⟨g4, 0, none⟩ (.slice none 0 0)).setCell ⟨g5, 0, none⟩ (.slice none 0 0)) := by
  have hc' : ¬ c = 0 := by simpa using hc
  have h5' : (w.setCell ⟨g4, 0, none⟩ (.slice none 0 0)).cell? ⟨g5, 0, none⟩ = some v5 := (World.cell?_setCell_other w _ _ _ (fun e => hne (congrArg Addr.block e))).trans h5
  go_enter_d Tryd.func44, Tryd.ntmps44
  go_wp2
  go_end0
  exact ⟨rfl, rfl⟩
end Go.Proofs.YtamoklceekeheaaDoor
