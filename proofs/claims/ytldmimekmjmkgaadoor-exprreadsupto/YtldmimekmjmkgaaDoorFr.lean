/-
  The reader of expressions: its memory; skip.
-/
import Derived.Test.YtldmimekmjmkgaaDoorFq
import Derived.Test.YtldmimekmjmkgaaDoorShelfK
namespace Go.Proofs.YtldmimekmjmkgaaDoor
open Go.RowKit Go.Sort Go.Maps Go.WideMaps

/-- The reader in block R: what is left of the text, and how many units may still be read. -/
def RdE (w : World) (R : Nat) (l : List UInt8) (m : Int) : Prop := w.heap[R]? = some (.cells #[.string ⟨l.toArray⟩, .int .i64 m] 90)
theorem RdE.lt {w : World} {R : Nat} {l : List UInt8} {m : Int} (h : RdE w R l m) : R < w.heap.size := (Array.getElem?_eq_some_iff.1 h).1
theorem RdE.below {w w' : World} {R : Nat} {l : List UInt8} {m : Int} (h : RdE w R l m) (hb : Below w.heap.size w w') : RdE w' R l m := (hb.block R h.lt).trans h
theorem RdE.rest {w : World} {R : Nat} {l : List UInt8} {m : Int} (h : RdE w R l m) : w.cell? ⟨R, 0, none⟩ = some (.string ⟨l.toArray⟩) := by simp [World.cell?, show w.heap[R]? = _ from h]
theorem RdE.left {w : World} {R : Nat} {l : List UInt8} {m : Int} (h : RdE w R l m) : w.cell? ⟨R, 1, none⟩ = some (.int .i64 m) := by simp [World.cell?, show w.heap[R]? = _ from h]
theorem RdE.free {w : World} {R : Nat} {l : List UInt8} {m : Int} (h : RdE w R l m) (i : Nat) : w.frozen? ⟨R, i, none⟩ = false := frozen_of_row w R i _ _ h
theorem RdE.set0 {w : World} {R : Nat} {l : List UInt8} {m : Int} (h : RdE w R l m) (l' : List UInt8) : RdE (w.setCell ⟨R, 0, none⟩ (.string ⟨l'.toArray⟩)) R l' m := heap_setCell_same w R 0 _ _ _ h
theorem RdE.set1 {w : World} {R : Nat} {l : List UInt8} {m : Int} (h : RdE w R l m) (m' : Int) : RdE (w.setCell ⟨R, 1, none⟩ (.int .i64 m')) R l m' := heap_setCell_same w R 1 _ _ _ h

theorem cutPrefixE (l : List UInt8) (p : ByteArray) (w : World) :
    Calls Tryd.prog 92 #[.string ⟨l.toArray⟩, .string p] w fun e w' => e = .returned (.tuple #[.string ⟨(Lib.trimPrefix l p.data.toList).toArray⟩, .bool (Lib.hasPrefix l p.data.toList)]) ∧ w = w' := by
  refine (Any.strings_CutPrefix Tryd.laysCut ⟨l.toArray⟩ p w).mono ?_
  rintro e w' ⟨rfl, rfl⟩
  exact ⟨rfl, rfl⟩
set_option maxHeartbeats 1000000 in
theorem skip_any (R : Nat) (l : List UInt8) (m : Int) (p : ByteArray) (w : World) (h : RdE w R l m) :
    Calls Tryd.prog 86 #[.pointer (some ⟨R, 0, none⟩), .string p] w fun e w' =>
      e = .returned (.bool (Lib.hasPrefix l p.data.toList)) ∧ RdE w' R (Lib.trimPrefix l p.data.toList) m ∧ OnlyR R w w' := by
  have c0 := h.rest
  have f0 := h.free 0
  have HR := Lib.hid h
  clear h
  go_enter Tryd.func86, Tryd.ntmps86
  go_wp2_with fail
  refine (cutPrefixE l p w).mono ?_
  rintro e w' ⟨rfl, rfl⟩
  go_wp2
  go_ret
  exact ⟨rfl, HR.out.set0 _, OnlyR.set R 0 w _⟩

/-- The letters ahead. -/
def lettersE (l : List UInt8) : List UInt8 := l.takeWhile fun c => 97 ≤ c.toNat && c.toNat ≤ 122
end Go.Proofs.YtldmimekmjmkgaaDoor
