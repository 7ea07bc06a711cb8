/-
  What the program's PrintAll answers (parted from H1, for seats without Parse).
-/
import Derived.Test.YtdbpnfabcmndjaaDoorX4
import Derived.Test.YtdbpnfabcmndjaaDoorAp
namespace Go.Proofs.YtdbpnfabcmndjaaDoor
open Go.RowKit Go.Sort Go.Maps

/-- Nodes, in a node of the kind x. -/
def around (l : List Tree) : Tree := .mk ⟨#[120]⟩ ⟨#[]⟩ [] [] l
set_option maxHeartbeats 1100000 in
theorem around_any (A : Option Addr) (n c : Nat) (w : World) :
    Calls Tryd.prog 46 #[.slice A n c] w fun e w' => e = .returned (.agg #[.string ⟨#[120]⟩, .string ⟨#[]⟩, .slice none 0 0, .slice none 0 0, .slice A n c]) ∧ Below w.heap.size w w' := by
  have hb : Below w.heap.size w (w.alloc (.cells #[.string ⟨#[120]⟩, .string ⟨#[]⟩, .slice none 0 0, .slice none 0 0, .slice A n c] 26)) := (Below.refl _ _).alloc (Nat.le_refl _) _
  have hq := heap_alloc_new w (.cells #[.string ⟨#[120]⟩, .string ⟨#[]⟩, .slice none 0 0, .slice none 0 0, .slice A n c] 26)
  have HB := Lib.hid hb
  have HQ := Lib.hid hq
  clear hb hq
  go_enter Tryd.func46, Tryd.ntmps46
  go_wp2
  obtain ⟨q0, q1, q2, q3, q4⟩ := five_cells HQ.out
  exact bodyPost_ret (v := .agg #[.string ⟨#[120]⟩, .string ⟨#[]⟩, .slice none 0 0, .slice none 0 0, .slice A n c]) (by simp [results, Tryd.results46, go_sem, q0, q1, q2, q3, q4]) rfl ⟨rfl, HB.out⟩

/-- What PrintAll answers. -/
def printAllB (l : List Tree) : List UInt8 := if checkB (around l) = 0 then writeAllB l else []
set_option maxHeartbeats 2000000 in
theorem printAll_any (A : Option Addr) (c : Nat) (l : List Tree) (w : World) (h : Kids w (Under w.heap.size) (.slice A l.length c) l) (hw : weighAll l ≤ 1060000) (hT : Tabs w) :
    Calls Tryd.prog 26 #[.slice A l.length c] w fun e w' => e = .returned (.tuple #[.string ⟨(printAllB l).toArray⟩, .int .i64 (checkB (around l))]) ∧ Below w.heap.size w w' := by
  have HK := Lib.hid h
  have HT := Lib.hid hT
  clear h hT
  have hwa : weigh (around l) ≤ 1100000 := by unfold around; simp only [weigh, weighL, weighP, List.map_nil, List.sum_nil]; rw [show (⟨#[120]⟩ : ByteArray).size = 1 from rfl, show (⟨#[]⟩ : ByteArray).size = 0 from rfl]; omega
  have HWA := Lib.hid hwa
  clear hwa
  go_enter Tryd.func26, Tryd.ntmps26
  go_wp2_with fail
  refine (around_any A l.length c w).mono ?_
  rintro e w1 ⟨rfl, hb1⟩
  have HB1 := Lib.hid hb1
  have HK1 := Lib.hid ((HK.out.below hb1).more hb1.size)
  clear hb1
  go_wp2_with fail
  refine (check_any _ (around l) w1 ⟨_, _, _, rfl, strs_none, pairs_none, HK1.out⟩ HWA.out (HT.out.below HB1.out)).mono ?_
  rintro e w2 ⟨rfl, hb2⟩
  have HB2 := Lib.hid (belowNext HB1.out hb2)
  have HK2 := Lib.hid ((HK1.out.below hb2).more hb2.size)
  clear hb2
  by_cases hc : checkB (around l) = 0
  · have HP : Hid (printAllB l = writeAllB l) := Lib.hid (if_pos hc)
    have HC := Lib.hid hc
    rw [hc]
    clear hc
    go_wp2_with fail
    refine (written_any _ l w2 HK2.out (by omega)).mono ?_
    rintro e w3 ⟨rfl, hb3⟩
    have HB3 := Lib.hid (belowNext HB2.out hb3)
    clear hb3
    rw [← HP.out]
    go_wp2
    go_ret2
    exact ⟨ret_pair rfl HC.out.symm, HB3.out⟩
  · have HP : Hid (printAllB l = []) := Lib.hid (if_neg hc)
    have hcb : (checkB (around l) != 0) = true := by simpa using hc
    clear hc
    generalize hr : checkB (around l) = r at *
    have HR := Lib.hid hr
    clear hr
    go_wp2
    go_ret2
    exact ⟨ret_pair (by rw [HP.out]) HR.out.symm, HB2.out⟩

end Go.Proofs.YtdbpnfabcmndjaaDoor
