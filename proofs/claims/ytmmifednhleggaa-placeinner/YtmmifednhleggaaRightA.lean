/-
  Rows of nodes that are joined are right: plain facts (no program is named here).
-/
import Derived.Test.YtmmifednhleggaaW8
import Derived.Lib.ValidLaws
namespace Go.Proofs.Ytmmifednhleggaa
open Go.RowKit Go.Sort

/-! ### well formed texts, one behind the other -/
theorem decodeN_more {n n' b0 b1 b2 b3 c1 c2 c3 : Nat} (hn : n ≤ n') (h1 : 1 < n → b1 = c1) (h2 : 2 < n → b2 = c2) (h3 : 3 < n → b3 = c3) (hv : ¬ ((Lib.decodeN n b0 b1 b2 b3).1 = 65533 ∧ (Lib.decodeN n b0 b1 b2 b3).2 = 1)) :
    Lib.decodeN n' b0 c1 c2 c3 = Lib.decodeN n b0 b1 b2 b3 := by
  rcases Lib.decodeN_shape n b0 b1 b2 b3 with ⟨c, e⟩ | ⟨d1, d2, d3, dv, e⟩ | ⟨d1, d2, d3, d4, dv, ds, e⟩ | ⟨d1, d2, d3, d4, d5, dv, dw, e⟩ | e
  · rw [e]; unfold Lib.decodeN; rw [if_pos c]
  · rw [e]; have := h1 (by omega); subst this
    unfold Lib.decodeN; rw [if_neg (by omega), if_pos ⟨by omega, by omega, by omega⟩, if_pos (by omega)]
  · rw [e]; have := h1 (by omega); subst this; have := h2 (by omega); subst this
    unfold Lib.decodeN; rw [if_neg (by omega), if_neg (by omega), if_pos ⟨by omega, ⟨by omega, by omega⟩, by omega, by omega⟩, if_pos (by omega)]
  · rw [e]; have := h1 (by omega); subst this; have := h2 (by omega); subst this; have := h3 (by omega); subst this
    unfold Lib.decodeN; rw [if_neg (by omega), if_neg (by omega), if_neg (by omega), if_pos ⟨by omega, ⟨by omega, by omega⟩, ⟨by omega, by omega⟩, by omega, by omega⟩, if_pos (by omega)]
  · rw [e] at hv; exact absurd ⟨rfl, rfl⟩ hv
theorem getD_app (a b : List UInt8) (i : Nat) (h : i < a.length) : (a ++ b).getD i 0 = a.getD i 0 := by
  simp [List.getD, List.getElem?_append_left h]
theorem decodeL_app (a b : List UInt8) (h : a ≠ []) (hv : ¬ ((Lib.decodeL a).1 = 65533 ∧ (Lib.decodeL a).2 = 1)) : Lib.decodeL (a ++ b) = Lib.decodeL a := by
  have hl : 0 < a.length := List.length_pos_iff.2 h
  rw [Lib.decodeL_N] at hv
  rw [Lib.decodeL_N, Lib.decodeL_N a, getD_app a b 0 hl]
  exact decodeN_more (by simp) (fun h => by rw [getD_app a b 1 h]) (fun h => by rw [getD_app a b 2 h]) (fun h => by rw [getD_app a b 3 h]) hv
theorem validD_app : ∀ (n : Nat) (a b : List UInt8), a.length ≤ n → Lib.validD a = true → Lib.validD b = true → Lib.validD (a ++ b) = true
  | 0, a, b, hn, _, hb => by
    have : a = [] := List.eq_nil_of_length_eq_zero (by omega)
    subst this; exact hb
  | n + 1, a, b, hn, ha, hb => by
    by_cases hne : a = []
    · subst hne; exact hb
    · rw [Lib.validD_step a hne] at ha
      split at ha
      · cases ha
      · rename_i hv
        have hw := Lib.decodeL_width a
        have hle := Lib.decodeL_le a hne
        have hl : 0 < a.length := List.length_pos_iff.2 hne
        rw [Lib.validD_step (a ++ b) (by simp [hne]), decodeL_app a b hne hv, if_neg hv, List.drop_append_of_le_length hle]
        exact validD_app n _ b (by rw [List.length_drop]; omega) ha hb

/-! ### rows -/
theorem sameL_eq {a b : List ByteArray} (h : sameL a b = true) : a = b := by
  simp only [sameL, Bool.and_eq_true, decide_eq_true_eq, List.all_eq_true, List.mem_range, beq_iff_eq] at h
  obtain ⟨hl, h⟩ := h
  apply List.ext_getElem hl
  intro i h1 h2
  have h3 := h i h1
  simp only [List.getD, List.getElem?_eq_getElem h1, List.getElem?_eq_getElem h2, Option.getD_some] at h3
  rw [Lib.toList_data, Lib.toList_data] at h3
  exact ByteArray.ext (Array.ext' h3)
theorem rowB_snoc : ∀ (l : List Tree) (p : Option Tree) (x : Tree), rowB p (l ++ [x]) = (rowB p l && (!alikeO (l.getLast?.or p) x && formedB x))
  | [], p, x => by simp [rowB]
  | y :: l, p, x => by
    simp only [List.cons_append, rowB, rowB_snoc l (some y) x]
    have : (y :: l).getLast?.or p = l.getLast?.or (some y) := by cases l <;> simp [List.getLast?_cons]
    rw [this]
    cases alikeO p y <;> cases formedB y <;> cases rowB (some y) l <;> simp

theorem empty_data {s : ByteArray} : s.toList.isEmpty = true ↔ s.data.toList = [] := by rw [Lib.toList_data s, List.isEmpty_iff]
theorem textB_parts {t : Tree} (h : textB t = true) : t.text.data.toList ≠ [] ∧ Lib.validD t.text.data.toList = true ∧ marksB t.marks = true ∧ t.attrs.length = 0 ∧ t.kids.length = 0 := by
  simp only [textB, Bool.and_eq_true, decide_eq_true_eq, Bool.not_eq_true'] at h
  obtain ⟨h0, h1, h2, h3, h4⟩ := h
  refine ⟨fun e => ?_, h1, h2, h3, h4⟩
  rw [empty_data.2 e] at h0; cases h0
theorem textB_of {t : Tree} (h0 : t.text.data.toList ≠ []) (h1 : Lib.validD t.text.data.toList = true) (h2 : marksB t.marks = true) (h3 : t.attrs.length = 0) (h4 : t.kids.length = 0) : textB t = true := by
  have : t.text.toList.isEmpty = false := by
    cases h : t.text.toList.isEmpty with
    | false => rfl
    | true => exact absurd (empty_data.1 h) h0
  simp [textB, this, h1, h2, h3, h4]
theorem formed_text {t : Tree} (h : isTxt t.kind = true) : formedB t = textB t := by obtain ⟨k, t, m, a, l⟩ := t; exact formedB_text h

theorem joinStep_row (out : List Tree) (n : Tree) (ho : rowB none out = true) (hn : formedB n = true) : rowB none (joinStep out n) = true := by
  unfold joinStep
  split
  · exact ho
  · split
    · rename_i z hz
      have hd := dropLast_getLast? hz
      split
      · rename_i hj
        rw [hd, rowB_snoc] at ho
        simp only [joinsOn, Bool.and_eq_true] at hj ho
        obtain ⟨hkn, hkz, hm⟩ := hj
        obtain ⟨ho1, ho2, ho3⟩ := ho
        have hm' := sameL_eq hm
        rw [rowB_snoc]
        have hf : formedB (setText n (z.text ++ n.text)) = true := by
          rw [formed_text hkn] at hn
          rw [formed_text hkz] at ho3
          have pn := textB_parts hn
          have pz := textB_parts ho3
          rw [formed_text (t := setText n (z.text ++ n.text)) hkn]
          refine textB_of (t := setText n (z.text ++ n.text)) ?_ ?_ pn.2.2.1 pn.2.2.2.1 pn.2.2.2.2
          · show (z.text ++ n.text).data.toList ≠ []
            rw [ByteArray.data_append, Array.toList_append]
            intro e; exact pz.1 (List.append_eq_nil_iff.1 e).1
          · show Lib.validD (z.text ++ n.text).data.toList = true
            rw [ByteArray.data_append, Array.toList_append]
            exact validD_app _ _ _ (Nat.le_refl _) pz.2.1 pn.2.1
        have ha : ∀ q, alikeO q (setText n (z.text ++ n.text)) = alikeO q z := by
          intro q
          cases q with
          | none => rfl
          | some y =>
            show (isTxt y.kind && (isTxt n.kind && sameL y.marks n.marks)) = (isTxt y.kind && (isTxt z.kind && sameL y.marks z.marks))
            rw [hkn, hkz, hm']
        simp only [ho1, ha, hf, Bool.true_and, Bool.and_true]
        exact ho2
      · rename_i hj
        rw [rowB_snoc, ho, hz, hn]
        show (true && (!(isTxt z.kind && (isTxt n.kind && sameL z.marks n.marks)) && true)) = true
        simp only [joinsOn] at hj
        revert hj
        generalize isTxt z.kind = x1
        generalize isTxt n.kind = x2
        generalize sameL z.marks n.marks = x3
        cases x1 <;> cases x2 <;> cases x3 <;> intro hj <;> first | rfl | exact absurd rfl hj
    · rename_i hz
      have : out = [] := List.getLast?_eq_none_iff.1 hz
      subst this
      simp [rowB, alikeO, hn]
theorem joinFold_row : ∀ (l out : List Tree), rowB none out = true → (∀ x ∈ l, formedB x = true) → rowB none (l.foldl joinStep out) = true
  | [], _, h, _ => h
  | x :: l, out, h, hl => joinFold_row l _ (joinStep_row out x h (hl x (by simp))) fun y hy => hl y (by simp [hy])
theorem joinB_row (l : List Tree) (h : ∀ x ∈ l, formedB x = true) : rowB none (joinB l) = true := joinFold_row l [] (by simp [rowB]) h

theorem depth_setText (n : Tree) (s : ByteArray) : depthB (setText n s) = depthB n := by obtain ⟨k, t, m, a, l⟩ := n; simp [setText, depthB, Tree.kind, Tree.kids]
theorem joinStep_deep (out : List Tree) (n : Tree) : deepB (joinStep out n) ≤ max (deepB out) (depthB n) := by
  unfold joinStep
  split
  · omega
  · split
    · rename_i z hz
      split
      · have h1 := congrArg deepB (dropLast_getLast? hz)
        rw [deepB_append] at h1 ⊢
        simp only [deepB, depth_setText] at h1 ⊢
        omega
      · rw [deepB_append]; simp only [deepB]; omega
    · rw [deepB_append]; simp only [deepB]; omega
theorem joinFold_deep : ∀ (l out : List Tree), deepB (l.foldl joinStep out) ≤ max (deepB out) (deepB l)
  | [], out => by simp [deepB]
  | x :: l, out => by
    have h := joinFold_deep l (joinStep out x)
    have h2 := joinStep_deep out x
    simp only [List.foldl_cons, deepB]; omega
theorem joinB_deep (l : List Tree) : deepB (joinB l) ≤ deepB l := by have := joinFold_deep l []; simp only [deepB] at this; unfold joinB; omega

end Go.Proofs.Ytmmifednhleggaa
