/-
  What Print answers.
-/
import Derived.Test.YtldmimekmjmkgaaDoorFp
namespace Go.Proofs.YtldmimekmjmkgaaDoor
open Go.RowKit Go.Sort Go.Maps Go.WideMaps

/-- Print's answer: how it is written, or that it is none. -/
def printE (e : Ex) : ByteArray × Int := if rightE okN e then (writeE e, 0) else (⟨#[]⟩, 2)

set_option maxHeartbeats 2000000 in
theorem print_any (e : Ex) (A : Option Addr) (n c : Nat) (w : World) (he : e.fits) (hl : Exs w (Under w.heap.size) (.slice A n c) e.kids) :
    Calls Tryd.prog 14 #[.agg #[.int .u8 e.op, .string e.name, .slice A n c]] w fun x w' => x = .returned (.tuple #[.string (printE e).1, .int .i64 (printE e).2]) ∧ Below w.heap.size w w' := by
  have HA := Lib.hid hl
  have HB : Hid (Below w.heap.size w (w.alloc (.cells #[.int .u8 e.op, .string e.name, .slice A n c] 24))) := Lib.hid ((Below.refl _ _).alloc (Nat.le_refl _) _)
  have HBX : Hid ((w.alloc (.cells #[.int .u8 e.op, .string e.name, .slice A n c] 24)).heap[w.heap.size]? = some (.cells #[.int .u8 e.op, .string e.name, .slice A n c] 24)) := Lib.hid (heap_new _ _)
  clear hl
  go_enter Tryd.func14, Tryd.ntmps14
  go_wp2_with fail
  generalize w.alloc (.cells #[.int .u8 e.op, .string e.name, .slice A n c] 24) = W1 at *
  have hz1 : w.heap.size < W1.heap.size := (Array.getElem?_eq_some_iff.1 HBX.out).1
  refine (right_ok e A n c W1 he ((HA.out.below HB.out).more HB.out.size)).mono ?_
  rintro x w2 ⟨rfl, hb2⟩
  have HB2 := Lib.hid (HB.out.trans (hb2.mono HB.out.size))
  have HBX2 := Lib.hid ((hb2.block _ hz1).trans HBX.out)
  have hz2 : w.heap.size < w2.heap.size := (Array.getElem?_eq_some_iff.1 HBX2.out).1
  clear hb2 HB HBX hz1
  generalize hr : rightE okN e = r at *
  have HRE := Lib.hid hr
  clear hr
  cases r with
  | false =>
    have HP : Hid (printE e = (⟨#[]⟩, 2)) := Lib.hid (by unfold printE; rw [HRE.out]; rfl)
    go_wp2
    go_ret2
    exact ⟨by rw [HP.out]; rfl, HB2.out⟩
  | true =>
    have HP : Hid (printE e = (writeE e, 0)) := Lib.hid (by unfold printE; rw [HRE.out]; rfl)
    obtain ⟨k0, k1, k2⟩ := three_cells HBX2.out
    have hrt := HRE.out
    unfold rightE at hrt
    rw [Bool.and_eq_true, decide_eq_true_iff] at hrt
    go_wp2_with fail
    refine (written_walk e he hrt.1 hrt.2 A n c w2 ((HA.out.below HB2.out).more HB2.out.size)).mono ?_
    rintro x w3 ⟨rfl, hb3⟩
    have HB3 := Lib.hid (HB2.out.trans (hb3.mono HB2.out.size))
    clear hb3 hrt
    go_wp2
    go_ret2
    exact ⟨by rw [HP.out]; rfl, HB3.out⟩
end Go.Proofs.YtldmimekmjmkgaaDoor
