/-
  What made and doc give is right: plain facts (no program is named here).
-/
import Derived.Test.YtogpaamkmifalaaDoorW13a
import Derived.Test.YtogpaamkmifalaaDoorRightA
namespace Go.Proofs.YtogpaamkmifalaaDoor
open Go.RowKit Go.Sort

/-! ### made -/
theorem pick_nat (c n : Int) (h : 0 < n) : (pickN c n).toNat < n.toNat := by have h1 := pickN_lo c n h; have h2 := pickN_hi c n h; omega
theorem texts_ok : ∀ i, i < 5 → (textsL.getD i ByteArray.empty).data.toList ≠ [] ∧ Lib.validD (textsL.getD i ByteArray.empty).data.toList = true ∧ (textsL.getD i ByteArray.empty).size ≤ 40 := by decide +kernel
theorem kinds_ok : ∀ i, i < 4 → nameB (kindsL.getD i ByteArray.empty) = true ∧ isTxt (kindsL.getD i ByteArray.empty) = false := by decide +kernel
theorem attrs_ok : ∀ i, i < 5 → attrsB [(ALIGN, textsL.getD i ByteArray.empty)] = true := by decide +kernel
theorem marksOf_ok (c : Cel) : marksB (marksOf c) = true := by
  unfold marksOf; split
  · decide +kernel
  · split <;> decide +kernel
theorem attrsOf_ok (c : Cel) : attrsB (attrsOf c) = true := by
  unfold attrsOf; split
  · exact attrs_ok _ (pick_nat _ 5 (by omega))
  · decide +kernel
theorem made_text_ok (c : Cel) : formedB (.mk TEXT (textOf c) (marksOf c) [] []) = true := by
  have h := texts_ok _ (pick_nat c.a 5 (by omega))
  rw [formedB_text (by decide +kernel)]
  exact textB_of h.1 h.2.1 (marksOf_ok c) rfl rfl
theorem made_node_ok (c : Cel) (l : List Tree) (h : rowB none l = true) : formedB (.mk (kindOf c) ByteArray.empty [] (attrsOf c) l) = true := by
  have hk := kinds_ok _ (pick_nat c.a 4 (by omega))
  have he : ByteArray.empty.toList.isEmpty = true := by decide +kernel
  rw [formedB_node (k := kindOf c) hk.2, h]
  show (nameB (kindOf c) && (ByteArray.empty.toList.isEmpty && (decide (([] : List ByteArray).length = 0) && attrsB (attrsOf c))) && true) = true
  rw [he, attrsOf_ok, show nameB (kindOf c) = true from hk.1]; rfl
theorem madeStep_ok (out : List Tree) (c : Cel) (h : ∀ x ∈ out, formedB x = true) : ∀ x ∈ madeStep out c, formedB x = true := by
  unfold madeStep
  intro x hx
  split at hx
  · rcases List.mem_append.1 hx with hx | hx
    · exact h x hx
    · rw [List.mem_singleton.1 hx]; exact made_text_ok c
  · split at hx
    · rcases List.mem_append.1 hx with hx | hx
      · exact h x (List.mem_of_mem_take hx)
      · rw [List.mem_singleton.1 hx]; exact made_node_ok c _ (joinB_row _ fun y hy => h y (List.mem_of_mem_drop hy))
    · rcases List.mem_append.1 hx with hx | hx
      · exact h x hx
      · rw [List.mem_singleton.1 hx]; exact made_node_ok c _ (by simp [rowB])
theorem madeFold_ok : ∀ (l : List Cel) (out : List Tree), (∀ x ∈ out, formedB x = true) → ∀ x ∈ l.foldl madeStep out, formedB x = true
  | [], _, h => h
  | c :: l, out, h => madeFold_ok l _ (madeStep_ok out c h)
theorem madeTo_ok (l : List Cel) (k : Nat) : ∀ x ∈ madeTo l k, formedB x = true := madeFold_ok _ [] (by simp)
theorem madeB_ok (l : List Cel) : rowB none (madeB l) = true := joinB_row _ (madeTo_ok l 19)
theorem madeStep_deep (out : List Tree) (c : Cel) : deepB (madeStep out c) ≤ deepB out + 1 := by
  have hk := (kinds_ok _ (pick_nat c.a 4 (by omega))).2
  have ht : isTxt TEXT = true := by decide +kernel
  unfold madeStep
  split
  · rw [deepB_append]; simp only [deepB, depthB, ht, if_true]; omega
  · have hk' : isTxt (kindOf c) = false := hk
    split
    · have hj := joinB_deep (out.drop (out.length - manyOf c out.length))
      have hs := deepB_append (out.take (out.length - manyOf c out.length)) (out.drop (out.length - manyOf c out.length))
      rw [List.take_append_drop] at hs
      rw [deepB_append]; simp only [deepB, depthB, hk', Bool.false_eq_true, if_false]; omega
    · rw [deepB_append]; simp only [deepB, depthB, hk', Bool.false_eq_true, if_false]; omega
theorem madeFold_deep : ∀ (l : List Cel) (out : List Tree), deepB (l.foldl madeStep out) ≤ deepB out + l.length
  | [], _ => by simp
  | c :: l, out => by
    have h := madeFold_deep l (madeStep out c)
    have h2 := madeStep_deep out c
    simp only [List.foldl_cons, List.length_cons]; omega
theorem madeB_deep (l : List Cel) : deepB (madeB l) ≤ 19 := by
  have h1 := joinB_deep (madeTo l 19)
  have h2 := madeFold_deep (l.take 19) []
  simp only [deepB, List.length_take] at h2
  unfold madeB
  have h3 : deepB (madeTo l 19) ≤ 19 := by unfold madeTo; omega
  omega
theorem docB_right (l : List Cel) : checkB (docB l) = 0 := by
  have hd := madeB_deep l
  have hw := madeB_weigh l
  have hs := total_le_weigh (madeB l)
  have ht : isTxt DOC = false := by decide +kernel
  have hf : formedB (docB l) = true := by
    unfold docB
    rw [formedB_node ht, madeB_ok l]
    show (nameB DOC && (ByteArray.empty.toList.isEmpty && (decide (([] : List ByteArray).length = 0) && attrsB [])) && true) = true
    decide +kernel
  have h1 : depthB (docB l) = deepB (madeB l) + 1 := by simp [docB, depthB, ht]
  have h2 : sizeB (docB l) = 2 + totalB (madeB l) := by simp [docB, sizeB, ht]
  rw [checkB, if_pos hf, if_neg (by omega), if_neg (by omega)]
end Go.Proofs.YtogpaamkmifalaaDoor
