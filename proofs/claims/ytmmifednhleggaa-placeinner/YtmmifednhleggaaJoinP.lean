/-
  Joining, run by run: plain facts on trees (no program is named here).
-/
import Derived.Test.YtmmifednhleggaaRightA
import Derived.Test.YtmmifednhleggaaW14
import Derived.Test.YtmmifednhleggaaW20
import Derived.Lib.RuneCountTail
namespace Go.Proofs.Ytmmifednhleggaa
open Go.RowKit Go.Sort

/-! ### code points of texts one behind the other -/
theorem rc_step (l : List UInt8) (h : l ≠ []) : Lib.runeCountL l = 1 + Lib.runeCountL (l.drop (Lib.decodeL l).2) := by
  have hl : 0 < l.length := List.length_pos_iff.2 h
  have hw := Lib.decodeL_width l
  unfold Lib.runeCountL Lib.runeCount
  generalize hs : (⟨l.toArray⟩ : ByteArray) = s
  have hsz : s.size = l.length := by subst hs; simp [ByteArray.size]
  have hd : Lib.decodeL l = Utf8.decode s 0 := by subst hs; rfl
  have hx : (⟨(l.drop (Lib.decodeL l).2).toArray⟩ : ByteArray) = s.extract (Lib.decodeL l).2 s.size := by
    apply ByteArray.ext
    apply Array.ext'
    subst hs
    simp [ByteArray.size, List.extract_eq_take_drop]
    rw [List.take_of_length_le (by simp)]
  rw [hx]
  have he : (s.extract (Lib.decodeL l).2 s.size).size = l.length - (Lib.decodeL l).2 := by simp [ByteArray.size_extract, hsz]
  rw [he, hsz]
  obtain ⟨n, hn⟩ : ∃ n, l.length = n + 1 := ⟨l.length - 1, by omega⟩
  have h1 : Lib.runeCountFrom s l.length 0 = 1 + Lib.runeCountFrom s n (0 + (Utf8.decode s 0).2) := by
    rw [hn, Lib.runeCountFrom, if_pos (by omega)]
  rw [h1, ← hd, Nat.zero_add, ← hsz, Lib.tail_count, Nat.add_zero, hsz]
  congr 1
  exact Lib.fuel_enough s _ _ _ (by omega) (by omega)
theorem rc_nil : Lib.runeCountL [] = 0 := rfl
theorem rc_app : ∀ (n : Nat) (a b : List UInt8), a.length ≤ n → Lib.validD a = true → Lib.runeCountL (a ++ b) = Lib.runeCountL a + Lib.runeCountL b
  | 0, a, b, hn, _ => by
    have : a = [] := List.eq_nil_of_length_eq_zero (by omega)
    subst this; rw [List.nil_append, rc_nil, Nat.zero_add]
  | n + 1, a, b, hn, ha => by
    by_cases hne : a = []
    · subst hne; rw [List.nil_append, rc_nil, Nat.zero_add]
    · rw [Lib.validD_step a hne] at ha
      split at ha
      · cases ha
      · rename_i hv
        have hw := Lib.decodeL_width a
        have hle := Lib.decodeL_le a hne
        have hl : 0 < a.length := List.length_pos_iff.2 hne
        rw [rc_step (a ++ b) (by simp [hne]), rc_step a hne, decodeL_app a b hne hv, List.drop_append_of_le_length hle, rc_app n _ b (by rw [List.length_drop]; omega) ha]
        omega
theorem runeCount_app (a b : ByteArray) (h : Lib.validD a.data.toList = true) : Lib.runeCount (a ++ b) = Lib.runeCount a + Lib.runeCount b := by
  rw [← Lib.runeCountL_eq, ← Lib.runeCountL_eq a, ← Lib.runeCountL_eq b, ByteArray.data_append, Array.toList_append]
  exact rc_app _ _ _ (Nat.le_refl _) h

/-! ### what a round of joining keeps -/
theorem words_step (out : List Tree) (n : Tree) : wordsAll (joinStep out n) = wordsAll out ++ wordsB n := by
  have hone : wordsAll [n] = wordsB n := by simp [wordsAll]
  unfold joinStep
  split
  · rename_i h
    simp only [Bool.and_eq_true] at h
    have h2 := empty_data.1 h.2
    obtain ⟨k, t, m, a, l⟩ := n
    simp only [Tree.kind, Tree.text] at *
    simp [wordsB, h.1, h2]
  · split
    · rename_i z hz
      split
      · rename_i h
        simp only [Bool.and_eq_true, joinsOn] at h
        have e := dropLast_getLast? hz
        obtain ⟨k, t, m, a, l⟩ := n
        obtain ⟨k', t', m', a', l'⟩ := z
        simp only [Tree.kind, Tree.text] at *
        have e2 := congrArg wordsAll e
        rw [wordsAll_append] at e2
        rw [e2, wordsAll_append]
        simp [wordsAll, wordsB, setText, h.1, h.2.1, Tree.kind]
      · rw [wordsAll_append, hone]
    · rw [wordsAll_append, hone]
theorem words_fold : ∀ (l out : List Tree), wordsAll (l.foldl joinStep out) = wordsAll out ++ wordsAll l
  | [], out => by simp [wordsAll]
  | x :: l, out => by rw [List.foldl_cons, words_fold l, words_step, List.append_assoc]; simp [wordsAll]
theorem joinB_words (l : List Tree) : wordsAll (joinB l) = wordsAll l := by unfold joinB; rw [words_fold]; simp [wordsAll]

theorem total_step (out : List Tree) (n : Tree) (ho : ∀ z ∈ out, isTxt z.kind = true → Lib.validD z.text.data.toList = true) : totalB (joinStep out n) = totalB out + sizeB n := by
  have hone : totalB [n] = sizeB n := by simp [totalB]
  unfold joinStep
  split
  · rename_i h
    simp only [Bool.and_eq_true] at h
    have h2 := empty_data.1 h.2
    obtain ⟨k, t, m, a, l⟩ := n
    simp only [Tree.kind, Tree.text] at *
    have : Lib.runeCount t = 0 := by rw [← Lib.runeCountL_eq, h2]; rfl
    simp [sizeB, h.1, this]
  · split
    · rename_i z hz
      split
      · rename_i h
        simp only [Bool.and_eq_true, joinsOn] at h
        have e := dropLast_getLast? hz
        have hv := ho z (List.mem_of_getLast? hz) h.2.1
        have e2 := congrArg totalB e
        rw [totalB_append] at e2
        rw [e2, totalB_append]
        obtain ⟨k, t, m, a, l⟩ := n
        obtain ⟨k', t', m', a', l'⟩ := z
        simp only [Tree.kind, Tree.text] at *
        simp only [totalB, sizeB, setText, Tree.kind, h.1, h.2.1, if_true, runeCount_app t' t hv]
        omega
      · rw [totalB_append, hone]
    · rw [totalB_append, hone]
theorem row_valid : ∀ (l : List Tree) (p : Option Tree), rowB p l = true → ∀ z ∈ l, isTxt z.kind = true → Lib.validD z.text.data.toList = true
  | [], _, _, z, hz, _ => by cases hz
  | x :: l, p, h, z, hz, ht => by
    simp only [rowB, Bool.and_eq_true] at h
    rcases List.mem_cons.1 hz with e | e
    · subst e
      have h1 := h.2.1
      rw [formed_text ht] at h1
      exact (textB_parts h1).2.1
    · exact row_valid l (some x) h.2.2 z e ht
theorem total_fold : ∀ (l out : List Tree), rowB none out = true → (∀ x ∈ l, formedB x = true) → totalB (l.foldl joinStep out) = totalB out + totalB l
  | [], out, _, _ => by simp [totalB]
  | x :: l, out, ho, h => by
    rw [List.foldl_cons, total_fold l _ (joinStep_row out x ho (h x (by simp))) (fun y hy => h y (by simp [hy])), total_step out x (row_valid out none ho)]
    simp only [totalB]; omega
theorem joinB_total (l : List Tree) (h : ∀ x ∈ l, formedB x = true) : totalB (joinB l) = totalB l := by
  unfold joinB; rw [total_fold l [] (by simp [rowB]) h]; simp [totalB]

/-! ### a row that is joined stays -/
theorem row_stays : ∀ (l out : List Tree), rowB out.getLast? l = true → l.foldl joinStep out = out ++ l
  | [], out, _ => by simp
  | x :: l, out, h => by
    simp only [rowB, Bool.and_eq_true, Bool.not_eq_true'] at h
    obtain ⟨ha, hf, hr⟩ := h
    have hs : joinStep out x = out ++ [x] := by
      cases hk : isTxt x.kind with
      | false => exact joinStep_plain hk
      | true =>
        rw [formed_text hk] at hf
        have hne := (textB_parts hf).1
        have he : x.text.toList.isEmpty = false := by
          cases h : x.text.toList.isEmpty with
          | false => rfl
          | true => exact absurd (empty_data.1 h) hne
        cases hz : out.getLast? with
        | none =>
          have : out = [] := List.getLast?_eq_none_iff.1 hz
          subst this; exact joinStep_first he
        | some z =>
          rw [hz] at ha
          simp only [alikeO, alikeB, hk, Bool.true_and] at ha
          exact joinStep_other hz he ha
    rw [List.foldl_cons, hs, row_stays l _ (by simpa using hr), List.append_assoc]; rfl
theorem joinB_stays (l : List Tree) (h : rowB none l = true) : joinB l = l := by
  have := row_stays l [] (by simpa using h)
  simpa [joinB] using this

/-! ### run by run -/
def keepB (x : Tree) : Bool := !(isTxt x.kind && x.text.toList.isEmpty)
theorem join_skip (out : List Tree) (x : Tree) (h : keepB x = false) : joinStep out x = out := by
  simp only [keepB, Bool.not_eq_false', Bool.and_eq_true] at h
  exact joinStep_empty h.1 h.2
theorem join_filter : ∀ (l out : List Tree), (l.filter keepB).foldl joinStep out = l.foldl joinStep out
  | [], _ => rfl
  | x :: l, out => by
    cases h : keepB x with
    | true => rw [List.filter_cons_of_pos h, List.foldl_cons, List.foldl_cons, join_filter l]
    | false => rw [List.filter_cons_of_neg (by simp [h]), List.foldl_cons, join_skip out x h, join_filter l]

/-- The nodes of a run, as one. -/
def joinRun (z : Tree) : List Tree → Tree
  | [] => z
  | y :: l => joinRun (setText y (z.text ++ y.text)) l
def textsB (l : List Tree) : List UInt8 := (l.map fun x => x.text.data.toList).flatten
def emptyTree : Tree := .mk ByteArray.empty ByteArray.empty [] [] []
def asOneB : List Tree → Tree
  | [] => emptyTree
  | x :: l => joinRun x l
theorem textsB_append (a b : List Tree) : textsB (a ++ b) = textsB a ++ textsB b := by simp [textsB]
theorem textsB_one (x : Tree) : textsB [x] = x.text.data.toList := by simp [textsB]
theorem textsB_le : ∀ l : List Tree, (textsB l).length ≤ weighAll l
  | [] => by simp [textsB]
  | x :: l => by
    have h1 := textsB_le l
    have h2 := text_le_weigh x
    have h3 := Lib.size_eq x.text
    have h4 : textsB (x :: l) = x.text.data.toList ++ textsB l := by simp [textsB]
    rw [h4, List.length_append]; simp only [weighAll]; omega

theorem joinRun_last : ∀ (l : List Tree) (z y : Tree), l.getLast? = some y → joinRun z l = setText y ⟨(z.text.data.toList ++ textsB l).toArray⟩
  | [], _, _, h => by simp at h
  | [x], z, y, h => by
    simp at h; subst h
    simp only [joinRun, textsB_one]
    exact congrArg (setText x) (ByteArray.ext (Array.ext' (by simp [ByteArray.data_append])))
  | x :: x' :: l, z, y, h => by
    rw [joinRun, joinRun_last (x' :: l) _ y (by simpa [List.getLast?_cons] using h)]
    congr 1
    apply ByteArray.ext; apply Array.ext'
    simp [textsB, setText, Tree.text, ByteArray.data_append]
theorem asOneB_one (x : Tree) : asOneB [x] = x := rfl
theorem asOneB_many (l : List Tree) (y : Tree) (h1 : l.length ≠ 1) (hy : l.getLast? = some y) : asOneB l = setText y ⟨(textsB l).toArray⟩ := by
  rcases l with _ | ⟨x, l⟩
  · simp at hy
  · rcases l with _ | ⟨x', l⟩
    · simp at h1
    · simp only [asOneB]
      rw [joinRun_last (x' :: l) x y (by simpa [List.getLast?_cons] using hy)]
      rfl

theorem alike_like {z y x : Tree} (hk : z.kind = y.kind) (hm : z.marks = y.marks) : alikeB z x = alikeB y x := by simp only [alikeB, hk, hm]
theorem keepB_text {x : Tree} (h : keepB x = true) (hk : isTxt x.kind = true) : x.text.toList.isEmpty = false := by
  simpa [keepB, hk] using h

theorem run_fold (J : List Tree) : ∀ (l : List Tree) (z y : Tree), z.kind = y.kind → z.marks = y.marks → (∀ x ∈ l, keepB x = true) →
    (l.take (runB (y :: l) - 1)).foldl joinStep (J ++ [z]) = J ++ [joinRun z (l.take (runB (y :: l) - 1))] ∧ ∀ x, (l.drop (runB (y :: l) - 1)).head? = some x → alikeB (joinRun z (l.take (runB (y :: l) - 1))) x = false
  | [], z, y, _, _, _ => by simp [runB, joinRun]
  | x :: l, z, y, hk, hm, h => by
    rw [runB]
    cases ha : alikeB y x with
    | false =>
      simp only [Bool.false_eq_true, if_false, Nat.sub_self, List.take_zero, List.foldl_nil, joinRun, List.drop_zero, List.head?_cons, Option.some.injEq]
      refine ⟨trivial, ?_⟩
      rintro x' rfl
      rw [alike_like hk hm]; exact ha
    | true =>
      have hp := runB_pos (x :: l)
      have e : runB (x :: l) + 1 - 1 = (runB (x :: l) - 1) + 1 := by omega
      have hx := h x (by simp)
      have ha' := ha
      simp only [alikeB, Bool.and_eq_true] at ha'
      have hj : joinStep (J ++ [z]) x = J ++ [setText x (z.text ++ x.text)] := by
        rw [joinStep_on (z := z) (by simp) ha'.2.1 (keepB_text hx ha'.2.1) (by simp [joinsOn, hk, hm, ha'.1, ha'.2.2])]
        simp
      have ih := run_fold J l (setText x (z.text ++ x.text)) x rfl rfl (fun x' hx' => h x' (by simp [hx']))
      simp only [if_true]
      rw [e, List.take_succ_cons, List.foldl_cons, hj, List.drop_succ_cons, joinRun]
      exact ih

theorem join_run (J r : List Tree) (hr : r ≠ []) (hk : ∀ x ∈ r, keepB x = true) (hb : ∀ z x, J.getLast? = some z → r.head? = some x → alikeB z x = false) :
    (r.take (runB r)).foldl joinStep J = J ++ [asOneB (r.take (runB r))] ∧ ∀ x, (r.drop (runB r)).head? = some x → alikeB (asOneB (r.take (runB r))) x = false := by
  rcases r with _ | ⟨x, l⟩
  · exact absurd rfl hr
  · have hp := runB_pos (x :: l)
    have e : runB (x :: l) = (runB (x :: l) - 1) + 1 := by omega
    have hx := hk x (by simp)
    have hj : joinStep J x = J ++ [x] := by
      cases ht : isTxt x.kind with
      | false => exact joinStep_plain ht
      | true =>
        have he := keepB_text hx ht
        cases hz : J.getLast? with
        | none =>
          have : J = [] := List.getLast?_eq_none_iff.1 hz
          subst this; exact joinStep_first he
        | some z =>
          have ha := hb z x hz (by simp)
          simp only [alikeB, ht, Bool.true_and] at ha
          exact joinStep_other hz he ha
    have ih := run_fold J l x x rfl rfl (fun x' hx' => hk x' (by simp [hx']))
    generalize runB (x :: l) - 1 = n at *
    rw [e, List.take_succ_cons, List.foldl_cons, hj, List.drop_succ_cons, asOneB]
    exact ih
end Go.Proofs.Ytmmifednhleggaa
