/-
  What made and doc give is right: plain facts (no program is named here).
-/
import Derived.Test.YtkkabkfalpjfgaaDoorW13
import Derived.Lib.ValidLaws
namespace Go.Proofs.YtkkabkfalpjfgaaDoor
open Go.RowKit Go.Sort

/-! ### well formed texts, one behind the other -/
theorem decodeN_more {n n' b0 b1 b2 b3 c1 c2 c3 : Nat} (hn : n ≤ n') (h1 : 1 < n → b1 = c1) (h2 : 2 < n → b2 = c2) (h3 : 3 < n → b3 = c3) (hv : ¬ ((Lib.decodeN n b0 b1 b2 b3).1 = 65533 ∧ (Lib.decodeN n b0 b1 b2 b3).2 = 1)) :
    Lib.decodeN n' b0 c1 c2 c3 = Lib.decodeN n b0 b1 b2 b3 := by
  rcases Lib.decodeN_shape n b0 b1 b2 b3 with ⟨c, e⟩ | ⟨d1, d2, d3, dv, e⟩ | ⟨d1, d2, d3, d4, dv, ds, e⟩ | ⟨d1, d2, d3, d4, d5, dv, dw, e⟩ | e
  · rw [e]; unfold Lib.decodeN; rw [if_pos c]
  · rw [e]; have := h1 (by omega); subst this
    unfold Lib.decodeN; rw [if_neg (by omega), if_pos ⟨by omega, by omega, by omega⟩, if_pos (by omega)]
  · rw [e]; have := h1 (by omega); subst this; have := h2 (by omega); subst this
    unfold Lib.decodeN; rw [if_neg (by omega), if_neg (by omega), if_pos ⟨by omega, ⟨by omega, by omega⟩, by omega, by omega⟩, if_pos (by omega)]
  · rw [e]; have := h1 (by omega); subst this; have := h2 (by omega); subst this; have := h3 (by omega); subst this
    unfold Lib.decodeN; rw [if_neg (by omega), if_neg (by omega), if_neg (by omega), if_pos ⟨by omega, ⟨by omega, by omega⟩, ⟨by omega, by omega⟩, by omega, by omega⟩, if_pos (by omega)]
  · rw [e] at hv; exact absurd ⟨rfl, rfl⟩ hv
theorem getD_app (a b : List UInt8) (i : Nat) (h : i < a.length) : (a ++ b).getD i 0 = a.getD i 0 := by
  simp [List.getD, List.getElem?_append_left h]
theorem decodeL_app (a b : List UInt8) (h : a ≠ []) (hv : ¬ ((Lib.decodeL a).1 = 65533 ∧ (Lib.decodeL a).2 = 1)) : Lib.decodeL (a ++ b) = Lib.decodeL a := by
  have hl : 0 < a.length := List.length_pos_iff.2 h
  rw [Lib.decodeL_N] at hv
  rw [Lib.decodeL_N, Lib.decodeL_N a, getD_app a b 0 hl]
  exact decodeN_more (by simp) (fun h => by rw [getD_app a b 1 h]) (fun h => by rw [getD_app a b 2 h]) (fun h => by rw [getD_app a b 3 h]) hv
theorem validD_app : ∀ (n : Nat) (a b : List UInt8), a.length ≤ n → Lib.validD a = true → Lib.validD b = true → Lib.validD (a ++ b) = true
  | 0, a, b, hn, _, hb => by
    have : a = [] := List.eq_nil_of_length_eq_zero (by omega)
    subst this; exact hb
  | n + 1, a, b, hn, ha, hb => by
    by_cases hne : a = []
    · subst hne; exact hb
    · rw [Lib.validD_step a hne] at ha
      split at ha
      · cases ha
      · rename_i hv
        have hw := Lib.decodeL_width a
        have hle := Lib.decodeL_le a hne
        have hl : 0 < a.length := List.length_pos_iff.2 hne
        rw [Lib.validD_step (a ++ b) (by simp [hne]), decodeL_app a b hne hv, if_neg hv, List.drop_append_of_le_length hle]
        exact validD_app n _ b (by rw [List.length_drop]; omega) ha hb

/-! ### rows -/
theorem sameL_eq {a b : List ByteArray} (h : sameL a b = true) : a = b := by
  simp only [sameL, Bool.and_eq_true, decide_eq_true_eq, List.all_eq_true, List.mem_range, beq_iff_eq] at h
  obtain ⟨hl, h⟩ := h
  apply List.ext_getElem hl
  intro i h1 h2
  have h3 := h i h1
  simp only [List.getD, List.getElem?_eq_getElem h1, List.getElem?_eq_getElem h2, Option.getD_some] at h3
  rw [Lib.toList_data, Lib.toList_data] at h3
  exact ByteArray.ext (Array.ext' h3)
theorem rowB_snoc : ∀ (l : List Tree) (p : Option Tree) (x : Tree), rowB p (l ++ [x]) = (rowB p l && (!alikeO (l.getLast?.or p) x && formedB x))
  | [], p, x => by simp [rowB]
  | y :: l, p, x => by
    simp only [List.cons_append, rowB, rowB_snoc l (some y) x]
    have : (y :: l).getLast?.or p = l.getLast?.or (some y) := by cases l <;> simp [List.getLast?_cons]
    rw [this]
    cases alikeO p y <;> cases formedB y <;> cases rowB (some y) l <;> simp

theorem empty_data {s : ByteArray} : s.toList.isEmpty = true ↔ s.data.toList = [] := by rw [Lib.toList_data s, List.isEmpty_iff]
theorem textB_parts {t : Tree} (h : textB t = true) : t.text.data.toList ≠ [] ∧ Lib.validD t.text.data.toList = true ∧ marksB t.marks = true ∧ t.attrs.length = 0 ∧ t.kids.length = 0 := by
  simp only [textB, Bool.and_eq_true, decide_eq_true_eq, Bool.not_eq_true'] at h
  obtain ⟨h0, h1, h2, h3, h4⟩ := h
  refine ⟨fun e => ?_, h1, h2, h3, h4⟩
  rw [empty_data.2 e] at h0; cases h0
theorem textB_of {t : Tree} (h0 : t.text.data.toList ≠ []) (h1 : Lib.validD t.text.data.toList = true) (h2 : marksB t.marks = true) (h3 : t.attrs.length = 0) (h4 : t.kids.length = 0) : textB t = true := by
  have : t.text.toList.isEmpty = false := by
    cases h : t.text.toList.isEmpty with
    | false => rfl
    | true => exact absurd (empty_data.1 h) h0
  simp [textB, this, h1, h2, h3, h4]
theorem formed_text {t : Tree} (h : isTxt t.kind = true) : formedB t = textB t := by obtain ⟨k, t, m, a, l⟩ := t; exact formedB_text h

theorem joinStep_row (out : List Tree) (n : Tree) (ho : rowB none out = true) (hn : formedB n = true) : rowB none (joinStep out n) = true := by
  unfold joinStep
  split
  · exact ho
  · split
    · rename_i z hz
      have hd := dropLast_getLast? hz
      split
      · rename_i hj
        rw [hd, rowB_snoc] at ho
        simp only [joinsOn, Bool.and_eq_true] at hj ho
        obtain ⟨hkn, hkz, hm⟩ := hj
        obtain ⟨ho1, ho2, ho3⟩ := ho
        have hm' := sameL_eq hm
        rw [rowB_snoc]
        have hf : formedB (setText n (z.text ++ n.text)) = true := by
          rw [formed_text hkn] at hn
          rw [formed_text hkz] at ho3
          have pn := textB_parts hn
          have pz := textB_parts ho3
          rw [formed_text (t := setText n (z.text ++ n.text)) hkn]
          refine textB_of (t := setText n (z.text ++ n.text)) ?_ ?_ pn.2.2.1 pn.2.2.2.1 pn.2.2.2.2
          · show (z.text ++ n.text).data.toList ≠ []
            rw [ByteArray.data_append, Array.toList_append]
            intro e; exact pz.1 (List.append_eq_nil_iff.1 e).1
          · show Lib.validD (z.text ++ n.text).data.toList = true
            rw [ByteArray.data_append, Array.toList_append]
            exact validD_app _ _ _ (Nat.le_refl _) pz.2.1 pn.2.1
        have ha : ∀ q, alikeO q (setText n (z.text ++ n.text)) = alikeO q z := by
          intro q
          cases q with
          | none => rfl
          | some y =>
            show (isTxt y.kind && (isTxt n.kind && sameL y.marks n.marks)) = (isTxt y.kind && (isTxt z.kind && sameL y.marks z.marks))
            rw [hkn, hkz, hm']
        simp only [ho1, ha, hf, Bool.true_and, Bool.and_true]
        exact ho2
      · rename_i hj
        rw [rowB_snoc, ho, hz, hn]
        show (true && (!(isTxt z.kind && (isTxt n.kind && sameL z.marks n.marks)) && true)) = true
        simp only [joinsOn] at hj
        revert hj
        generalize isTxt z.kind = x1
        generalize isTxt n.kind = x2
        generalize sameL z.marks n.marks = x3
        cases x1 <;> cases x2 <;> cases x3 <;> intro hj <;> first | rfl | exact absurd rfl hj
    · rename_i hz
      have : out = [] := List.getLast?_eq_none_iff.1 hz
      subst this
      simp [rowB, alikeO, hn]
theorem joinFold_row : ∀ (l out : List Tree), rowB none out = true → (∀ x ∈ l, formedB x = true) → rowB none (l.foldl joinStep out) = true
  | [], _, h, _ => h
  | x :: l, out, h, hl => joinFold_row l _ (joinStep_row out x h (hl x (by simp))) fun y hy => hl y (by simp [hy])
theorem joinB_row (l : List Tree) (h : ∀ x ∈ l, formedB x = true) : rowB none (joinB l) = true := joinFold_row l [] (by simp [rowB]) h

theorem depth_setText (n : Tree) (s : ByteArray) : depthB (setText n s) = depthB n := by obtain ⟨k, t, m, a, l⟩ := n; simp [setText, depthB, Tree.kind, Tree.kids]
theorem joinStep_deep (out : List Tree) (n : Tree) : deepB (joinStep out n) ≤ max (deepB out) (depthB n) := by
  unfold joinStep
  split
  · omega
  · split
    · rename_i z hz
      split
      · have h1 := congrArg deepB (dropLast_getLast? hz)
        rw [deepB_append] at h1 ⊢
        simp only [deepB, depth_setText] at h1 ⊢
        omega
      · rw [deepB_append]; simp only [deepB]; omega
    · rw [deepB_append]; simp only [deepB]; omega
theorem joinFold_deep : ∀ (l out : List Tree), deepB (l.foldl joinStep out) ≤ max (deepB out) (deepB l)
  | [], out => by simp [deepB]
  | x :: l, out => by
    have h := joinFold_deep l (joinStep out x)
    have h2 := joinStep_deep out x
    simp only [List.foldl_cons, deepB]; omega
theorem joinB_deep (l : List Tree) : deepB (joinB l) ≤ deepB l := by have := joinFold_deep l []; simp only [deepB] at this; unfold joinB; omega

/-! ### made -/
theorem pick_nat (c n : Int) (h : 0 < n) : (pickN c n).toNat < n.toNat := by have h1 := pickN_lo c n h; have h2 := pickN_hi c n h; omega
theorem texts_ok : ∀ i, i < 5 → (textsL.getD i ByteArray.empty).data.toList ≠ [] ∧ Lib.validD (textsL.getD i ByteArray.empty).data.toList = true ∧ (textsL.getD i ByteArray.empty).size ≤ 40 := by decide +kernel
theorem kinds_ok : ∀ i, i < 4 → nameB (kindsL.getD i ByteArray.empty) = true ∧ isTxt (kindsL.getD i ByteArray.empty) = false := by decide +kernel
theorem attrs_ok : ∀ i, i < 5 → attrsB [(ALIGN, textsL.getD i ByteArray.empty)] = true := by decide +kernel
theorem marksOf_ok (c : Cel) : marksB (marksOf c) = true := by
  unfold marksOf; split
  · decide +kernel
  · split <;> decide +kernel
theorem attrsOf_ok (c : Cel) : attrsB (attrsOf c) = true := by
  unfold attrsOf; split
  · exact attrs_ok _ (pick_nat _ 5 (by omega))
  · decide +kernel
theorem made_text_ok (c : Cel) : formedB (.mk TEXT (textOf c) (marksOf c) [] []) = true := by
  have h := texts_ok _ (pick_nat c.a 5 (by omega))
  rw [formedB_text (by decide +kernel)]
  exact textB_of h.1 h.2.1 (marksOf_ok c) rfl rfl
theorem made_node_ok (c : Cel) (l : List Tree) (h : rowB none l = true) : formedB (.mk (kindOf c) ByteArray.empty [] (attrsOf c) l) = true := by
  have hk := kinds_ok _ (pick_nat c.a 4 (by omega))
  have he : ByteArray.empty.toList.isEmpty = true := by decide +kernel
  rw [formedB_node (k := kindOf c) hk.2, h]
  show (nameB (kindOf c) && (ByteArray.empty.toList.isEmpty && (decide (([] : List ByteArray).length = 0) && attrsB (attrsOf c))) && true) = true
  rw [he, attrsOf_ok, show nameB (kindOf c) = true from hk.1]; rfl
theorem madeStep_ok (out : List Tree) (c : Cel) (h : ∀ x ∈ out, formedB x = true) : ∀ x ∈ madeStep out c, formedB x = true := by
  unfold madeStep
  intro x hx
  split at hx
  · rcases List.mem_append.1 hx with hx | hx
    · exact h x hx
    · rw [List.mem_singleton.1 hx]; exact made_text_ok c
  · split at hx
    · rcases List.mem_append.1 hx with hx | hx
      · exact h x (List.mem_of_mem_take hx)
      · rw [List.mem_singleton.1 hx]; exact made_node_ok c _ (joinB_row _ fun y hy => h y (List.mem_of_mem_drop hy))
    · rcases List.mem_append.1 hx with hx | hx
      · exact h x hx
      · rw [List.mem_singleton.1 hx]; exact made_node_ok c _ (by simp [rowB])
theorem madeFold_ok : ∀ (l : List Cel) (out : List Tree), (∀ x ∈ out, formedB x = true) → ∀ x ∈ l.foldl madeStep out, formedB x = true
  | [], _, h => h
  | c :: l, out, h => madeFold_ok l _ (madeStep_ok out c h)
theorem madeTo_ok (l : List Cel) (k : Nat) : ∀ x ∈ madeTo l k, formedB x = true := madeFold_ok _ [] (by simp)
theorem madeB_ok (l : List Cel) : rowB none (madeB l) = true := joinB_row _ (madeTo_ok l 19)
theorem madeStep_deep (out : List Tree) (c : Cel) : deepB (madeStep out c) ≤ deepB out + 1 := by
  have hk := (kinds_ok _ (pick_nat c.a 4 (by omega))).2
  have ht : isTxt TEXT = true := by decide +kernel
  unfold madeStep
  split
  · rw [deepB_append]; simp only [deepB, depthB, ht, if_true]; omega
  · have hk' : isTxt (kindOf c) = false := hk
    split
    · have hj := joinB_deep (out.drop (out.length - manyOf c out.length))
      have hs := deepB_append (out.take (out.length - manyOf c out.length)) (out.drop (out.length - manyOf c out.length))
      rw [List.take_append_drop] at hs
      rw [deepB_append]; simp only [deepB, depthB, hk', Bool.false_eq_true, if_false]; omega
    · rw [deepB_append]; simp only [deepB, depthB, hk', Bool.false_eq_true, if_false]; omega
theorem madeFold_deep : ∀ (l : List Cel) (out : List Tree), deepB (l.foldl madeStep out) ≤ deepB out + l.length
  | [], _ => by simp
  | c :: l, out => by
    have h := madeFold_deep l (madeStep out c)
    have h2 := madeStep_deep out c
    simp only [List.foldl_cons, List.length_cons]; omega
theorem madeB_deep (l : List Cel) : deepB (madeB l) ≤ 19 := by
  have h1 := joinB_deep (madeTo l 19)
  have h2 := madeFold_deep (l.take 19) []
  simp only [deepB, List.length_take] at h2
  unfold madeB
  have h3 : deepB (madeTo l 19) ≤ 19 := by unfold madeTo; omega
  omega
theorem docB_right (l : List Cel) : checkB (docB l) = 0 := by
  have hd := madeB_deep l
  have hw := madeB_weigh l
  have hs := total_le_weigh (madeB l)
  have ht : isTxt DOC = false := by decide +kernel
  have hf : formedB (docB l) = true := by
    unfold docB
    rw [formedB_node ht, madeB_ok l]
    show (nameB DOC && (ByteArray.empty.toList.isEmpty && (decide (([] : List ByteArray).length = 0) && attrsB [])) && true) = true
    decide +kernel
  have h1 : depthB (docB l) = deepB (madeB l) + 1 := by simp [docB, depthB, ht]
  have h2 : sizeB (docB l) = 2 + totalB (madeB l) := by simp [docB, sizeB, ht]
  rw [checkB, if_pos hf, if_neg (by omega), if_neg (by omega)]
end Go.Proofs.YtkkabkfalpjfgaaDoor
