/-
  The chapter's example: shown.
-/
import Derived.Test.YtdbpnfabcmndjaaDoorW11a
namespace Go.Proofs.YtdbpnfabcmndjaaDoor
open Go.RowKit Go.Sort

def hiT : Tree := .mk ⟨#[116, 101, 120, 116]⟩ ⟨#[104, 105]⟩ [] [] []
def paraT : Tree := .mk ⟨#[112, 97, 114, 97]⟩ ⟨#[]⟩ [] [] [hiT]
def docT : Tree := .mk ⟨#[100, 111, 99]⟩ ⟨#[]⟩ [] [] [paraT]

theorem docT_weigh : weigh docT ≤ 1100000 := by decide +kernel
theorem docT_size : sizeB docT = 6 := by decide +kernel
theorem docT_depth : depthB docT = 2 := by decide +kernel
theorem docT_check : checkB docT = 0 := by decide +kernel

set_option maxHeartbeats 1100000 in
theorem shown_any (w : World) (hT : Tabs w) : Calls Tryd.prog 5 #[] w fun e w' => e = .returned (.bool true) ∧ Below w.heap.size w w' := by
  have HT := Lib.hid hT
  clear hT
  generalize hW : ((w.alloc (.cells #[.string ⟨#[116, 101, 120, 116]⟩, .string ⟨#[104, 105]⟩, .slice none 0 0, .slice none 0 0, .slice none 0 0] 26)).alloc
    (.cells #[.string ⟨#[112, 97, 114, 97]⟩, .string ⟨#[]⟩, .slice none 0 0, .slice none 0 0, .slice (some ⟨w.heap.size, 0, none⟩) 1 1] 26)).alloc
    (.cells #[.string ⟨#[100, 111, 99]⟩, .string ⟨#[]⟩, .slice none 0 0, .slice none 0 0, .slice (some ⟨w.heap.size + 1, 0, none⟩) 1 1] 26) = W
  have HB : Hid (Below w.heap.size w W) := Lib.hid (by subst hW; exact (((Below.refl _ _).alloc (Nat.le_refl _) _).alloc (by simp) _).alloc (by simp; omega) _)
  have hz : W.heap.size = w.heap.size + 3 := by subst hW; simp
  have k1 : Kids W (Under W.heap.size) (.slice (some ⟨w.heap.size, 0, none⟩) 1 1) [hiT] := by
    rw [hz]; subst hW
    exact kids_row1 (by simp [go_sem, hiT, Tree.kind]) (by simp [go_sem, hiT, Tree.text]) (by simp [go_sem]) (by simp [go_sem]) (by simp [go_sem]) strs_none pairs_none kids_none (by unfold Under; omega)
  have k2 : Kids W (Under W.heap.size) (.slice (some ⟨w.heap.size + 1, 0, none⟩) 1 1) [paraT] := by
    rw [hz] at k1 ⊢; subst hW
    exact kids_row1 (by simp [go_sem, paraT, Tree.kind]) (by simp [go_sem, paraT, Tree.text]) (by simp [go_sem]) (by simp [go_sem]) (by simp [go_sem]) strs_none pairs_none k1 (by unfold Under; omega)
  have HN : Hid (Node W (Under W.heap.size) (.agg #[.string ⟨#[100, 111, 99]⟩, .string ⟨#[]⟩, .slice none 0 0, .slice none 0 0, .slice (some ⟨w.heap.size + 1, 0, none⟩) 1 1]) docT) := Lib.hid ⟨_, _, _, rfl, strs_none, pairs_none, k2⟩
  have c0 : W.cell? ⟨w.heap.size + 1 + 1, 0, none⟩ = some (.string ⟨#[100, 111, 99]⟩) := by subst hW; simp [go_sem]
  have c1 : W.cell? ⟨w.heap.size + 1 + 1, 1, none⟩ = some (.string ⟨#[]⟩) := by subst hW; simp [go_sem]
  have c2 : W.cell? ⟨w.heap.size + 1 + 1, 2, none⟩ = some (.slice none 0 0) := by subst hW; simp [go_sem]
  have c3 : W.cell? ⟨w.heap.size + 1 + 1, 3, none⟩ = some (.slice none 0 0) := by subst hW; simp [go_sem]
  have c4 : W.cell? ⟨w.heap.size + 1 + 1, 4, none⟩ = some (.slice (some ⟨w.heap.size + 1, 0, none⟩) 1 1) := by subst hW; simp [go_sem]
  have HW := Lib.hid hW
  have HS := Lib.hid docT_size
  have HDp := Lib.hid docT_depth
  have HCk := Lib.hid docT_check
  have HCELLS := Lib.hid (And.intro c0 (And.intro c1 (And.intro c2 (And.intro c3 c4))))
  clear hW k1 k2 hz c0 c1 c2 c3 c4
  go_enter Tryd.func5, Tryd.ntmps5
  go_wp2_with fail
  rw [HW.out]
  refine (size_any _ docT W HN.out docT_weigh).mono ?_
  rintro e w1 ⟨rfl, hb1⟩
  rw [HS.out]
  have d0 := cell_kept HCELLS.out.1 hb1
  have d1 := cell_kept HCELLS.out.2.1 hb1
  have d2 := cell_kept HCELLS.out.2.2.1 hb1
  have d3 := cell_kept HCELLS.out.2.2.2.1 hb1
  have d4 := cell_kept HCELLS.out.2.2.2.2 hb1
  go_wp2_with fail
  refine (depth_any _ docT w1 ((HN.out.below hb1).more hb1.size) docT_weigh).mono ?_
  rintro e w2 ⟨rfl, hb2⟩
  rw [HDp.out]
  have e0 := cell_kept d0 hb2
  have e1 := cell_kept d1 hb2
  have e2 := cell_kept d2 hb2
  have e3 := cell_kept d3 hb2
  have e4 := cell_kept d4 hb2
  have hb12 := belowNext hb1 hb2
  clear d0 d1 d2 d3 d4
  go_wp2_with fail
  refine (right_any _ docT w2 ((HN.out.below hb12).more hb12.size) docT_weigh ((HT.out.below HB.out).below hb12)).mono ?_
  rintro e w3 ⟨rfl, hb3⟩
  rw [HCk.out]
  go_wp2
  go_ret
  exact ⟨rfl, belowNext HB.out (belowNext hb12 hb3)⟩
end Go.Proofs.YtdbpnfabcmndjaaDoor
