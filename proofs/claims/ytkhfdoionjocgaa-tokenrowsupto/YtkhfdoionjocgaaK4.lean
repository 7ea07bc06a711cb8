/-
  The chapter's example (at the head of the statements of chapter 3).
-/
import Derived.Test.YtkhfdoionjocgaaK3
import Derived.Test.YtkhfdoionjocgaaW11a
namespace Go.Proofs.Ytkhfdoionjocgaa
open Go.RowKit Go.Sort Go.Maps

def hi3 : Tree := .mk ⟨#[116, 101, 120, 116]⟩ ⟨#[104, 105]⟩ [] [] []
def para3 : Tree := .mk ⟨#[112, 97, 114, 97]⟩ ⟨#[]⟩ [] [] [hi3]
theorem para3_weigh : weighAll [para3] ≤ 1000000 := by decide +kernel
theorem para3_toks : toksB [para3] = [⟨111, ⟨#[]⟩, ⟨#[112, 97, 114, 97]⟩⟩, ⟨116, ⟨#[104]⟩, ⟨#[]⟩⟩, ⟨116, ⟨#[105]⟩, ⟨#[]⟩⟩, ⟨99, ⟨#[]⟩, ⟨#[]⟩⟩] := by decide +kernel

set_option maxHeartbeats 2000000 in
set_option maxRecDepth 100000 in
theorem shown3_any (w : World) : Calls Try.prog 4 #[] w fun e w' => e = .returned (.bool true) ∧ Below w.heap.size w w' := by
  generalize hW : (w.alloc (.cells #[.string ⟨#[116, 101, 120, 116]⟩, .string ⟨#[104, 105]⟩, .slice none 0 0, .slice none 0 0, .slice none 0 0] 27)).alloc
    (.cells #[.string ⟨#[112, 97, 114, 97]⟩, .string ⟨#[]⟩, .slice none 0 0, .slice none 0 0, .slice (some ⟨w.heap.size, 0, none⟩) 1 1] 27) = W
  have HB : Hid (Below w.heap.size w W) := Lib.hid (by subst hW; exact ((Below.refl _ _).alloc (Nat.le_refl _) _).alloc (by simp) _)
  have hz : W.heap.size = w.heap.size + 2 := by subst hW; simp
  have k1 : Kids W (Under W.heap.size) (.slice (some ⟨w.heap.size, 0, none⟩) 1 1) [hi3] := by
    rw [hz]; subst hW
    exact kids_row1 (by simp [go_sem, hi3, Tree.kind]) (by simp [go_sem, hi3, Tree.text]) (by simp [go_sem]) (by simp [go_sem]) (by simp [go_sem]) strs_none pairs_none kids_none (by unfold Under; omega)
  have k2 : Kids W (Under W.heap.size) (.slice (some ⟨w.heap.size + 1, 0, none⟩) 1 1) [para3] := by
    rw [hz] at k1 ⊢; subst hW
    exact kids_row1 (by simp [go_sem, para3, Tree.kind]) (by simp [go_sem, para3, Tree.text]) (by simp [go_sem]) (by simp [go_sem]) (by simp [go_sem]) strs_none pairs_none k1 (by unfold Under; omega)
  have HW := Lib.hid hW
  have HK := Lib.hid k2
  clear hW k1 k2 hz
  go_enter Try.func4, Try.ntmps4
  go_wp2_with fail
  rw [HW.out]
  refine (of_any _ [para3] W HK.out para3_weigh).mono ?_
  rintro e w1 ⟨v1, rfl, ht1, hb1⟩
  have HB1 := Lib.hid (belowNext HB.out hb1)
  rw [para3_toks] at ht1
  have hk1 := ht1.toks
  obtain ⟨A1, c1, rfl, _⟩ := hk1.form
  obtain ⟨b, o, rfl, _, x0, x1, x2⟩ := hk1.get (i := 0) rfl
  obtain ⟨b', o', he, _, y0, y1, y2⟩ := hk1.get (i := 1) rfl
  injection he with he; injection he with he1 he2; subst he1; subst he2
  obtain ⟨b', o', he, _, z0, z1, z2⟩ := hk1.get (i := 3) rfl
  injection he with he; injection he with he1 he2; subst he1; subst he2
  clear hb1 ht1 hk1
  simp only [Nat.zero_mul, Nat.one_mul, Nat.add_zero, Nat.reduceMul] at x0 x1 x2 y0 y1 y2 z0 z1 z2
  go_wp2
  go_ret
  exact ⟨rfl, HB1.out⟩
end Go.Proofs.Ytkhfdoionjocgaa
