/-
  The library's own contracts, laid at this program.
-/
import Derived.Shelf.SlGeneric
import Derived.Shelf.SlicesE.Clone
import Derived.Ground.SlgnProg
import Derived.Test.YtogpaamkmifalaaDoorProg
namespace Go.Proofs
open Go.Shelf
def Tryd.laysCloneS_ren : Go.Shelf.Ren := ⟨fun | 41 => 13 | n => n, fun | 22 => 24 | 23 => 9 | 4 => 4 | n => n, fun | n => n⟩
theorem Tryd.laysCloneS : Go.Proofs.SlLaysE0.n41 Tryd.prog Tryd.laysCloneS_ren := {
  mixed := by kernel_rfl
  f41 := ⟨Tryd.f13.name, by decide, Tryd.func13.trans (congrArg some (by kernel_rfl))⟩
  t4 := Tryd.underlying4
  a4 := Tryd.isAgg4
  z4 := Tryd.sizeOf4
  v4 := Tryd.zeroValue4
  t22 := Tryd.underlying24
  a22 := Tryd.isAgg24
  z22 := Tryd.sizeOf24
  v22 := Tryd.zeroValue24 }
def Tryd.laysCloneA_ren : Go.Shelf.Ren := ⟨fun | 41 => 14 | n => n, fun | 22 => 25 | 23 => 33 | 4 => 4 | n => n, fun | n => n⟩
theorem Tryd.laysCloneA : Go.Proofs.SlLaysE0.n41 Tryd.prog Tryd.laysCloneA_ren := {
  mixed := by kernel_rfl
  f41 := ⟨Tryd.f14.name, by decide, Tryd.func14.trans (congrArg some (by kernel_rfl))⟩
  t4 := Tryd.underlying4
  a4 := Tryd.isAgg4
  z4 := Tryd.sizeOf4
  v4 := Tryd.zeroValue4
  t22 := Tryd.underlying25
  a22 := Tryd.isAgg25
  z22 := Tryd.sizeOf25
  v22 := Tryd.zeroValue25 }
def Tryd.laysCloneN_ren : Go.Shelf.Ren := ⟨fun | 41 => 15 | n => n, fun | 22 => 26 | 23 => 28 | 4 => 4 | n => n, fun | n => n⟩
theorem Tryd.laysCloneN : Go.Proofs.SlLaysE0.n41 Tryd.prog Tryd.laysCloneN_ren := {
  mixed := by kernel_rfl
  f41 := ⟨Tryd.f15.name, by decide, Tryd.func15.trans (congrArg some (by kernel_rfl))⟩
  t4 := Tryd.underlying4
  a4 := Tryd.isAgg4
  z4 := Tryd.sizeOf4
  v4 := Tryd.zeroValue4
  t22 := Tryd.underlying26
  a22 := Tryd.isAgg26
  z22 := Tryd.sizeOf26
  v22 := Tryd.zeroValue26 }
end Go.Proofs
