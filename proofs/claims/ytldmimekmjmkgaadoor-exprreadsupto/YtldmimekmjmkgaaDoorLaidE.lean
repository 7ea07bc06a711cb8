/-
  A world for the witness of a row, and what the row's laid table says of a world.
-/
import Derived.Test.YtldmimekmjmkgaaDoorCards
import Derived.Test.YtldmimekmjmkgaaDoorTie
import Derived.Test.YtldmimekmjmkgaaDoorArgE
import Derived.SevenTiedAt
import Derived.Lib.LaidTab
import Derived.Lib.LaidU8
namespace Go.Proofs.YtldmimekmjmkgaaDoor
open Go.ChangeShapes Go.WideShapes Go.ChangeAt Go.RowKit Go.Lib

theorem brujn_is : (Rows.laid_math_bits_deBruijn32tab : DataW Unit) = Lib.tabData .u8 (Lib.deBruijn32tab.map fun n : Nat => (n : Int)) := by kernel_rfl

/-- A world for the witness: the settled one, the table holding what its initialiser lays. -/
def putBlock (h : Array Obj) (g : Nat) (cs : Array Value) : Array Obj := h.modify g fun
  | .cells _ t frozen => .cells cs t frozen
  | o => o
noncomputable def laidHeap (os : Os) : Array Obj := putBlock (World.holding Tryd.prog os ⟨#[], #[], []⟩).heap 0 (Lib.deBruijn32tab.map fun n : Nat => Value.int .u8 (n : Int)).toArray
noncomputable def laidWorld (os : Os) : World := { World.holding Tryd.prog os ⟨#[], #[], []⟩ with heap := laidHeap os }

theorem tabB_of {W : World} (hL : laidMet Tryd.prog [("math/bits.deBruijn32tab", Rows.laid_math_bits_deBruijn32tab)] W) : TabB W := by
  obtain ⟨g, t, cs, fuel, p, hg, hty, hvar, hd⟩ := Lib.laidMet.reads hL (.head _)
  obtain rfl : 0 = g := Option.some.inj ((show Tryd.prog.globalNamed "math/bits.deBruijn32tab" = some 0 by kernel_rfl).symm.trans hg)
  obtain rfl : 124 = t := Option.some.inj ((show (Tryd.prog.globals[0]?).map (·.type) = some 124 by kernel_rfl).symm.trans hty)
  rw [brujn_is] at hd
  have hcs := cells_of_tab Tryd.underlying124 Tryd.underlying5 u8E_cells (show Tryd.prog.cellsOf 124 = 32 by kernel_rfl) hd
  intro j hj
  rw [World.var?_cell hg hvar j, ← Array.getElem?_toList, hcs]
  simp only [List.map_map, List.getElem?_map, List.getElem?_eq_getElem hj, Option.map_some, Function.comp, List.getD_eq_getElem?_getD, Option.getD_some]
end Go.Proofs.YtldmimekmjmkgaaDoor
