/-
  The library's own contracts, laid at this program.
-/
import Derived.Shelf.SlGeneric
import Derived.Shelf.SlicesE.Clone
import Derived.Ground.SlgnProg
import Derived.Test.YtpkkncfnjgbemaaProg
namespace Go.Proofs
open Go.Shelf
def Try.laysCloneS_ren : Go.Shelf.Ren := ⟨fun | 41 => 52 | n => n, fun | 22 => 27 | 23 => 9 | 4 => 4 | n => n, fun | n => n⟩
theorem Try.laysCloneS : Go.Proofs.SlLaysE0.n41 Try.prog Try.laysCloneS_ren := {
  mixed := by kernel_rfl
  f41 := ⟨Try.f52.name, by decide, Try.func52.trans (congrArg some (by kernel_rfl))⟩
  t4 := Try.underlying4
  a4 := Try.isAgg4
  z4 := Try.sizeOf4
  v4 := Try.zeroValue4
  t22 := Try.underlying27
  a22 := Try.isAgg27
  z22 := Try.sizeOf27
  v22 := Try.zeroValue27 }
def Try.laysCloneA_ren : Go.Shelf.Ren := ⟨fun | 41 => 53 | n => n, fun | 22 => 28 | 23 => 76 | 4 => 4 | n => n, fun | n => n⟩
theorem Try.laysCloneA : Go.Proofs.SlLaysE0.n41 Try.prog Try.laysCloneA_ren := {
  mixed := by kernel_rfl
  f41 := ⟨Try.f53.name, by decide, Try.func53.trans (congrArg some (by kernel_rfl))⟩
  t4 := Try.underlying4
  a4 := Try.isAgg4
  z4 := Try.sizeOf4
  v4 := Try.zeroValue4
  t22 := Try.underlying28
  a22 := Try.isAgg28
  z22 := Try.sizeOf28
  v22 := Try.zeroValue28 }
def Try.laysCloneN_ren : Go.Shelf.Ren := ⟨fun | 41 => 54 | n => n, fun | 22 => 29 | 23 => 31 | 4 => 4 | n => n, fun | n => n⟩
theorem Try.laysCloneN : Go.Proofs.SlLaysE0.n41 Try.prog Try.laysCloneN_ren := {
  mixed := by kernel_rfl
  f41 := ⟨Try.f54.name, by decide, Try.func54.trans (congrArg some (by kernel_rfl))⟩
  t4 := Try.underlying4
  a4 := Try.isAgg4
  z4 := Try.sizeOf4
  v4 := Try.zeroValue4
  t22 := Try.underlying29
  a22 := Try.isAgg29
  z22 := Try.sizeOf29
  v22 := Try.zeroValue29 }
end Go.Proofs
