/-
  The library's own contracts, laid at this program.
-/
import Derived.Shelf.Small.Wraps
import Derived.Ground.NamesProg
import Derived.Test.YtldmimekmjmkgaaDoorProg
namespace Go.Proofs
open Go.Shelf
def Tryd.laysCut_ren : Go.Shelf.Ren := ⟨fun | 103 => 92 | 210 => 96 | 206 => 99 | n => n, fun | 9 => 9 | 4 => 4 | 24 => 130 | 3 => 3 | n => n, fun | n => n⟩
theorem Tryd.laysCut : Go.Proofs.Lays.n103 Tryd.prog Tryd.laysCut_ren := {
  mixed := by kernel_rfl
  f103 := Tryd.func92.trans (congrArg some (by kernel_rfl))
  f206 := Tryd.func99.trans (congrArg some (by kernel_rfl))
  f210 := Tryd.func96.trans (congrArg some (by kernel_rfl))
  t3 := Tryd.underlying3
  a3 := Tryd.isAgg3
  z3 := Tryd.sizeOf3
  v3 := Tryd.zeroValue3
  t4 := Tryd.underlying4
  a4 := Tryd.isAgg4
  z4 := Tryd.sizeOf4
  v4 := Tryd.zeroValue4
  t9 := Tryd.underlying9
  a9 := Tryd.isAgg9
  z9 := Tryd.sizeOf9
  v9 := Tryd.zeroValue9
  t24 := Tryd.underlying130
  a24 := Tryd.isAgg130
  z24 := Tryd.sizeOf130
  v24 := Tryd.zeroValue130 }
end Go.Proofs
