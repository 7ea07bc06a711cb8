/-
  What node.runLength answers.
  Joining, run by run: plain facts on trees (no program is named here).
  The code points of a text, and the text of code points: plain facts, and what both conversions give.
  What the document's runes, Size and Total answer.
  The document's Name, formed, Value and rise: what they answer.
  What node.Words answers.
  The document's Depth and Words: what they answer.
  When attributes and rows are formed, parted as the document does.
  What the document's Formed answers.
-/
import Derived.Test.YtggoebbfgkebcaaDoorMA
import Derived.Lib.QuietBelow
import Derived.Lib.RuneCountTail
import Derived.Laws.Cover4
import Derived.Laws.IdiomStrings
import Derived.Lib.MapLaws
import Derived.Lib.TrimUEq
import Derived.Test.YtggoebbfgkebcaaDoorW6
import Derived.Test.YtggoebbfgkebcaaDoorMB
namespace Go.Proofs.YtggoebbfgkebcaaDoor
open Go.RowKit Go.Sort

/-- How many nodes at the beginning are to be one. -/
def runB : List Tree → Nat
  | [] => 1
  | [_] => 1
  | x :: y :: l => if alikeB x y then runB (y :: l) + 1 else 1
theorem runB_step {l : List Tree} {k : Nat} {x y : Tree} (hx : l[k]? = some x) (hy : l[k + 1]? = some y) : runB (l.drop k) = if alikeB x y then runB (l.drop (k + 1)) + 1 else 1 := by
  have h1 := (List.getElem?_eq_some_iff.1 hx).1
  have h2 := (List.getElem?_eq_some_iff.1 hy).1
  have e1 := (List.getElem?_eq_some_iff.1 hx).2
  have e2 := (List.getElem?_eq_some_iff.1 hy).2
  rw [List.drop_eq_getElem_cons h1, List.drop_eq_getElem_cons h2, e1, e2, runB]
theorem runB_last {l : List Tree} {k : Nat} (h : k + 1 = l.length) : runB (l.drop k) = 1 := by
  rw [List.drop_eq_getElem_cons (by omega), List.drop_eq_nil_of_le (by omega)]; rfl
theorem runB_pos : ∀ l : List Tree, 1 ≤ runB l
  | [] => by simp [runB]
  | [_] => by simp [runB]
  | x :: y :: l => by rw [runB]; split <;> omega
theorem runB_le : ∀ l : List Tree, l ≠ [] → runB l ≤ l.length
  | [], h => absurd rfl h
  | [_], _ => by simp [runB]
  | x :: y :: l, _ => by
    have := runB_le (y :: l) (by simp)
    rw [runB]; split <;> simp at this ⊢ <;> omega

end Go.Proofs.YtggoebbfgkebcaaDoor

namespace Go.Proofs.YtggoebbfgkebcaaDoor
open Go.RowKit Go.Sort

/-! ### code points of texts one behind the other -/
theorem rc_step (l : List UInt8) (h : l ≠ []) : Lib.runeCountL l = 1 + Lib.runeCountL (l.drop (Lib.decodeL l).2) := by
  have hl : 0 < l.length := List.length_pos_iff.2 h
  have hw := Lib.decodeL_width l
  unfold Lib.runeCountL Lib.runeCount
  generalize hs : (⟨l.toArray⟩ : ByteArray) = s
  have hsz : s.size = l.length := by subst hs; simp [ByteArray.size]
  have hd : Lib.decodeL l = Utf8.decode s 0 := by subst hs; rfl
  have hx : (⟨(l.drop (Lib.decodeL l).2).toArray⟩ : ByteArray) = s.extract (Lib.decodeL l).2 s.size := by
    apply ByteArray.ext
    apply Array.ext'
    subst hs
    simp [ByteArray.size, List.extract_eq_take_drop]
    rw [List.take_of_length_le (by simp)]
  rw [hx]
  have he : (s.extract (Lib.decodeL l).2 s.size).size = l.length - (Lib.decodeL l).2 := by simp [ByteArray.size_extract, hsz]
  rw [he, hsz]
  obtain ⟨n, hn⟩ : ∃ n, l.length = n + 1 := ⟨l.length - 1, by omega⟩
  have h1 : Lib.runeCountFrom s l.length 0 = 1 + Lib.runeCountFrom s n (0 + (Utf8.decode s 0).2) := by
    rw [hn, Lib.runeCountFrom, if_pos (by omega)]
  rw [h1, ← hd, Nat.zero_add, ← hsz, Lib.tail_count, Nat.add_zero, hsz]
  congr 1
  exact Lib.fuel_enough s _ _ _ (by omega) (by omega)
theorem rc_nil : Lib.runeCountL [] = 0 := rfl
theorem rc_app : ∀ (n : Nat) (a b : List UInt8), a.length ≤ n → Lib.validD a = true → Lib.runeCountL (a ++ b) = Lib.runeCountL a + Lib.runeCountL b
  | 0, a, b, hn, _ => by
    have : a = [] := List.eq_nil_of_length_eq_zero (by omega)
    subst this; rw [List.nil_append, rc_nil, Nat.zero_add]
  | n + 1, a, b, hn, ha => by
    by_cases hne : a = []
    · subst hne; rw [List.nil_append, rc_nil, Nat.zero_add]
    · rw [Lib.validD_step a hne] at ha
      split at ha
      · cases ha
      · rename_i hv
        have hw := Lib.decodeL_width a
        have hle := Lib.decodeL_le a hne
        have hl : 0 < a.length := List.length_pos_iff.2 hne
        rw [rc_step (a ++ b) (by simp [hne]), rc_step a hne, decodeL_app a b hne hv, List.drop_append_of_le_length hle, rc_app n _ b (by rw [List.length_drop]; omega) ha]
        omega
theorem runeCount_app (a b : ByteArray) (h : Lib.validD a.data.toList = true) : Lib.runeCount (a ++ b) = Lib.runeCount a + Lib.runeCount b := by
  rw [← Lib.runeCountL_eq, ← Lib.runeCountL_eq a, ← Lib.runeCountL_eq b, ByteArray.data_append, Array.toList_append]
  exact rc_app _ _ _ (Nat.le_refl _) h

/-! ### what a round of joining keeps -/
theorem words_step (out : List Tree) (n : Tree) : wordsAll (joinStep out n) = wordsAll out ++ wordsB n := by
  have hone : wordsAll [n] = wordsB n := by simp [wordsAll]
  unfold joinStep
  split
  · rename_i h
    simp only [Bool.and_eq_true] at h
    have h2 := empty_data.1 h.2
    obtain ⟨k, t, m, a, l⟩ := n
    simp only [Tree.kind, Tree.text] at *
    simp [wordsB, h.1, h2]
  · split
    · rename_i z hz
      split
      · rename_i h
        simp only [Bool.and_eq_true, joinsOn] at h
        have e := dropLast_getLast? hz
        obtain ⟨k, t, m, a, l⟩ := n
        obtain ⟨k', t', m', a', l'⟩ := z
        simp only [Tree.kind, Tree.text] at *
        have e2 := congrArg wordsAll e
        rw [wordsAll_append] at e2
        rw [e2, wordsAll_append]
        simp [wordsAll, wordsB, setText, h.1, h.2.1, Tree.kind]
      · rw [wordsAll_append, hone]
    · rw [wordsAll_append, hone]
theorem words_fold : ∀ (l out : List Tree), wordsAll (l.foldl joinStep out) = wordsAll out ++ wordsAll l
  | [], out => by simp [wordsAll]
  | x :: l, out => by rw [List.foldl_cons, words_fold l, words_step, List.append_assoc]; simp [wordsAll]
theorem joinB_words (l : List Tree) : wordsAll (joinB l) = wordsAll l := by unfold joinB; rw [words_fold]; simp [wordsAll]

theorem total_step (out : List Tree) (n : Tree) (ho : ∀ z ∈ out, isTxt z.kind = true → Lib.validD z.text.data.toList = true) : totalB (joinStep out n) = totalB out + sizeB n := by
  have hone : totalB [n] = sizeB n := by simp [totalB]
  unfold joinStep
  split
  · rename_i h
    simp only [Bool.and_eq_true] at h
    have h2 := empty_data.1 h.2
    obtain ⟨k, t, m, a, l⟩ := n
    simp only [Tree.kind, Tree.text] at *
    have : Lib.runeCount t = 0 := by rw [← Lib.runeCountL_eq, h2]; rfl
    simp [sizeB, h.1, this]
  · split
    · rename_i z hz
      split
      · rename_i h
        simp only [Bool.and_eq_true, joinsOn] at h
        have e := dropLast_getLast? hz
        have hv := ho z (List.mem_of_getLast? hz) h.2.1
        have e2 := congrArg totalB e
        rw [totalB_append] at e2
        rw [e2, totalB_append]
        obtain ⟨k, t, m, a, l⟩ := n
        obtain ⟨k', t', m', a', l'⟩ := z
        simp only [Tree.kind, Tree.text] at *
        simp only [totalB, sizeB, setText, Tree.kind, h.1, h.2.1, if_true, runeCount_app t' t hv]
        omega
      · rw [totalB_append, hone]
    · rw [totalB_append, hone]
theorem row_valid : ∀ (l : List Tree) (p : Option Tree), rowB p l = true → ∀ z ∈ l, isTxt z.kind = true → Lib.validD z.text.data.toList = true
  | [], _, _, z, hz, _ => by cases hz
  | x :: l, p, h, z, hz, ht => by
    simp only [rowB, Bool.and_eq_true] at h
    rcases List.mem_cons.1 hz with e | e
    · subst e
      have h1 := h.2.1
      rw [formed_text ht] at h1
      exact (textB_parts h1).2.1
    · exact row_valid l (some x) h.2.2 z e ht
theorem total_fold : ∀ (l out : List Tree), rowB none out = true → (∀ x ∈ l, formedB x = true) → totalB (l.foldl joinStep out) = totalB out + totalB l
  | [], out, _, _ => by simp [totalB]
  | x :: l, out, ho, h => by
    rw [List.foldl_cons, total_fold l _ (joinStep_row out x ho (h x (by simp))) (fun y hy => h y (by simp [hy])), total_step out x (row_valid out none ho)]
    simp only [totalB]; omega
theorem joinB_total (l : List Tree) (h : ∀ x ∈ l, formedB x = true) : totalB (joinB l) = totalB l := by
  unfold joinB; rw [total_fold l [] (by simp [rowB]) h]; simp [totalB]

/-! ### a row that is joined stays -/
theorem row_stays : ∀ (l out : List Tree), rowB out.getLast? l = true → l.foldl joinStep out = out ++ l
  | [], out, _ => by simp
  | x :: l, out, h => by
    simp only [rowB, Bool.and_eq_true, Bool.not_eq_true'] at h
    obtain ⟨ha, hf, hr⟩ := h
    have hs : joinStep out x = out ++ [x] := by
      cases hk : isTxt x.kind with
      | false => exact joinStep_plain hk
      | true =>
        rw [formed_text hk] at hf
        have hne := (textB_parts hf).1
        have he : x.text.toList.isEmpty = false := by
          cases h : x.text.toList.isEmpty with
          | false => rfl
          | true => exact absurd (empty_data.1 h) hne
        cases hz : out.getLast? with
        | none =>
          have : out = [] := List.getLast?_eq_none_iff.1 hz
          subst this; exact joinStep_first he
        | some z =>
          rw [hz] at ha
          simp only [alikeO, alikeB, hk, Bool.true_and] at ha
          exact joinStep_other hz he ha
    rw [List.foldl_cons, hs, row_stays l _ (by simpa using hr), List.append_assoc]; rfl
theorem joinB_stays (l : List Tree) (h : rowB none l = true) : joinB l = l := by
  have := row_stays l [] (by simpa using h)
  simpa [joinB] using this

/-! ### run by run -/
def keepB (x : Tree) : Bool := !(isTxt x.kind && x.text.toList.isEmpty)
theorem join_skip (out : List Tree) (x : Tree) (h : keepB x = false) : joinStep out x = out := by
  simp only [keepB, Bool.not_eq_false', Bool.and_eq_true] at h
  exact joinStep_empty h.1 h.2
theorem join_filter : ∀ (l out : List Tree), (l.filter keepB).foldl joinStep out = l.foldl joinStep out
  | [], _ => rfl
  | x :: l, out => by
    cases h : keepB x with
    | true => rw [List.filter_cons_of_pos h, List.foldl_cons, List.foldl_cons, join_filter l]
    | false => rw [List.filter_cons_of_neg (by simp [h]), List.foldl_cons, join_skip out x h, join_filter l]

/-- The nodes of a run, as one. -/
def joinRun (z : Tree) : List Tree → Tree
  | [] => z
  | y :: l => joinRun (setText y (z.text ++ y.text)) l
def textsB (l : List Tree) : List UInt8 := (l.map fun x => x.text.data.toList).flatten
def emptyTree : Tree := .mk ByteArray.empty ByteArray.empty [] [] []
def asOneB : List Tree → Tree
  | [] => emptyTree
  | x :: l => joinRun x l
theorem textsB_append (a b : List Tree) : textsB (a ++ b) = textsB a ++ textsB b := by simp [textsB]
theorem textsB_one (x : Tree) : textsB [x] = x.text.data.toList := by simp [textsB]
theorem textsB_le : ∀ l : List Tree, (textsB l).length ≤ weighAll l
  | [] => by simp [textsB]
  | x :: l => by
    have h1 := textsB_le l
    have h2 := text_le_weigh x
    have h3 := Lib.size_eq x.text
    have h4 : textsB (x :: l) = x.text.data.toList ++ textsB l := by simp [textsB]
    rw [h4, List.length_append]; simp only [weighAll]; omega

theorem joinRun_last : ∀ (l : List Tree) (z y : Tree), l.getLast? = some y → joinRun z l = setText y ⟨(z.text.data.toList ++ textsB l).toArray⟩
  | [], _, _, h => by simp at h
  | [x], z, y, h => by
    simp at h; subst h
    simp only [joinRun, textsB_one]
    exact congrArg (setText x) (ByteArray.ext (Array.ext' (by simp [ByteArray.data_append])))
  | x :: x' :: l, z, y, h => by
    rw [joinRun, joinRun_last (x' :: l) _ y (by simpa [List.getLast?_cons] using h)]
    congr 1
    apply ByteArray.ext; apply Array.ext'
    simp [textsB, setText, Tree.text, ByteArray.data_append]
theorem asOneB_one (x : Tree) : asOneB [x] = x := rfl
theorem asOneB_many (l : List Tree) (y : Tree) (h1 : l.length ≠ 1) (hy : l.getLast? = some y) : asOneB l = setText y ⟨(textsB l).toArray⟩ := by
  rcases l with _ | ⟨x, l⟩
  · simp at hy
  · rcases l with _ | ⟨x', l⟩
    · simp at h1
    · simp only [asOneB]
      rw [joinRun_last (x' :: l) x y (by simpa [List.getLast?_cons] using hy)]
      rfl

theorem alike_like {z y x : Tree} (hk : z.kind = y.kind) (hm : z.marks = y.marks) : alikeB z x = alikeB y x := by simp only [alikeB, hk, hm]
theorem keepB_text {x : Tree} (h : keepB x = true) (hk : isTxt x.kind = true) : x.text.toList.isEmpty = false := by
  simpa [keepB, hk] using h

theorem run_fold (J : List Tree) : ∀ (l : List Tree) (z y : Tree), z.kind = y.kind → z.marks = y.marks → (∀ x ∈ l, keepB x = true) →
    (l.take (runB (y :: l) - 1)).foldl joinStep (J ++ [z]) = J ++ [joinRun z (l.take (runB (y :: l) - 1))] ∧ ∀ x, (l.drop (runB (y :: l) - 1)).head? = some x → alikeB (joinRun z (l.take (runB (y :: l) - 1))) x = false
  | [], z, y, _, _, _ => by simp [runB, joinRun]
  | x :: l, z, y, hk, hm, h => by
    rw [runB]
    cases ha : alikeB y x with
    | false =>
      simp only [Bool.false_eq_true, if_false, Nat.sub_self, List.take_zero, List.foldl_nil, joinRun, List.drop_zero, List.head?_cons, Option.some.injEq]
      refine ⟨trivial, ?_⟩
      rintro x' rfl
      rw [alike_like hk hm]; exact ha
    | true =>
      have hp := runB_pos (x :: l)
      have e : runB (x :: l) + 1 - 1 = (runB (x :: l) - 1) + 1 := by omega
      have hx := h x (by simp)
      have ha' := ha
      simp only [alikeB, Bool.and_eq_true] at ha'
      have hj : joinStep (J ++ [z]) x = J ++ [setText x (z.text ++ x.text)] := by
        rw [joinStep_on (z := z) (by simp) ha'.2.1 (keepB_text hx ha'.2.1) (by simp [joinsOn, hk, hm, ha'.1, ha'.2.2])]
        simp
      have ih := run_fold J l (setText x (z.text ++ x.text)) x rfl rfl (fun x' hx' => h x' (by simp [hx']))
      simp only [if_true]
      rw [e, List.take_succ_cons, List.foldl_cons, hj, List.drop_succ_cons, joinRun]
      exact ih

theorem join_run (J r : List Tree) (hr : r ≠ []) (hk : ∀ x ∈ r, keepB x = true) (hb : ∀ z x, J.getLast? = some z → r.head? = some x → alikeB z x = false) :
    (r.take (runB r)).foldl joinStep J = J ++ [asOneB (r.take (runB r))] ∧ ∀ x, (r.drop (runB r)).head? = some x → alikeB (asOneB (r.take (runB r))) x = false := by
  rcases r with _ | ⟨x, l⟩
  · exact absurd rfl hr
  · have hp := runB_pos (x :: l)
    have e : runB (x :: l) = (runB (x :: l) - 1) + 1 := by omega
    have hx := hk x (by simp)
    have hj : joinStep J x = J ++ [x] := by
      cases ht : isTxt x.kind with
      | false => exact joinStep_plain ht
      | true =>
        have he := keepB_text hx ht
        cases hz : J.getLast? with
        | none =>
          have : J = [] := List.getLast?_eq_none_iff.1 hz
          subst this; exact joinStep_first he
        | some z =>
          have ha := hb z x hz (by simp)
          simp only [alikeB, ht, Bool.true_and] at ha
          exact joinStep_other hz he ha
    have ih := run_fold J l x x rfl rfl (fun x' hx' => hk x' (by simp [hx']))
    generalize runB (x :: l) - 1 = n at *
    rw [e, List.take_succ_cons, List.foldl_cons, hj, List.drop_succ_cons, asOneB]
    exact ih
end Go.Proofs.YtggoebbfgkebcaaDoor

namespace Go.Proofs.YtggoebbfgkebcaaDoor
open Go.RowKit Go.Sort

/-- The code points of bytes. -/
def ptsF : Nat → List UInt8 → List Nat
  | 0, _ => []
  | n + 1, l => if l = [] then [] else (Lib.decodeL l).1 :: ptsF n (l.drop (Lib.decodeL l).2)
def pts (l : List UInt8) : List Nat := ptsF l.length l
theorem ptsF_more : ∀ (n m : Nat) (l : List UInt8), l.length ≤ n → l.length ≤ m → ptsF n l = ptsF m l
  | 0, m, l, h, _ => by
    have : l = [] := List.eq_nil_of_length_eq_zero (by omega)
    subst this; cases m <;> simp [ptsF]
  | n + 1, 0, l, _, h => by
    have : l = [] := List.eq_nil_of_length_eq_zero (by omega)
    subst this; simp [ptsF]
  | n + 1, m + 1, l, h1, h2 => by
    simp only [ptsF]
    split
    · rfl
    · rename_i hne
      have hw := Lib.decodeL_width l
      have hl : 0 < l.length := List.length_pos_iff.2 hne
      rw [ptsF_more n m _ (by rw [List.length_drop]; omega) (by rw [List.length_drop]; omega)]
theorem pts_nil : pts [] = [] := rfl
theorem pts_step (l : List UInt8) (h : l ≠ []) : pts l = (Lib.decodeL l).1 :: pts (l.drop (Lib.decodeL l).2) := by
  have hw := Lib.decodeL_width l
  have hl : 0 < l.length := List.length_pos_iff.2 h
  obtain ⟨n, hn⟩ : ∃ n, l.length = n + 1 := ⟨l.length - 1, by omega⟩
  unfold pts
  rw [hn, ptsF, if_neg h, ptsF_more n _ _ (by rw [List.length_drop]; omega) (Nat.le_refl _)]
theorem ptsF_count : ∀ (n : Nat) (l : List UInt8), l.length ≤ n → (pts l).length = Lib.runeCountL l
  | 0, l, h => by
    have : l = [] := List.eq_nil_of_length_eq_zero (by omega)
    subst this; rfl
  | n + 1, l, h => by
    by_cases hne : l = []
    · subst hne; rfl
    · have hw := Lib.decodeL_width l
      have hl : 0 < l.length := List.length_pos_iff.2 hne
      rw [pts_step l hne, rc_step l hne, List.length_cons, ptsF_count n _ (by rw [List.length_drop]; omega)]; omega
theorem pts_count (l : List UInt8) : (pts l).length = Lib.runeCountL l := ptsF_count _ l (Nat.le_refl _)

/-- The model's own code points are these. -/
theorem runesFrom_eq (s : ByteArray) : ∀ (n i : Nat) (acc : Array Value), s.size - i ≤ n → Conv.runesFrom s n i acc = acc ++ ((pts (s.data.toList.drop i)).map fun r : Nat => Value.int .i32 (r : Int)).toArray
  | 0, i, acc, h => by
    have : s.data.toList.drop i = [] := List.drop_of_length_le (by have := Lib.size_eq s; omega)
    rw [this, pts_nil]; simp [Conv.runesFrom]
  | n + 1, i, acc, h => by
    unfold Conv.runesFrom
    have hsz := Lib.size_eq s
    split
    · rename_i hi
      have hne : s.data.toList.drop i ≠ [] := fun e => by
        have := congrArg List.length e
        rw [List.length_drop] at this; simp at this; omega
      have hw := Lib.decodeL_width (s.data.toList.drop i)
      rw [Lib.decodeL_drop] at hw
      show Conv.runesFrom s n (i + (Utf8.decode s i).2) (acc.push (.int .i32 (Int.ofNat (Utf8.decode s i).1))) = _
      rw [runesFrom_eq s n _ _ (by omega), pts_step _ hne, Lib.decodeL_drop, List.drop_drop]
      simp
    · rename_i hi
      have : s.data.toList.drop i = [] := List.drop_of_length_le (by omega)
      rw [this, pts_nil]; simp

/-! ### the text of code points -/
theorem runeError_eq : Utf8.runeError = 65533 := rfl
theorem encode_eq (r : Nat) (h : Utf8.valid (r : Int) = true) : (Utf8.encode (r : Int)).data.toList = Lib.encodeRune (r : Int) := by
  have hv : ((0 : Int) ≤ r ∧ (r : Int) < 55296) ∨ (57344 ≤ (r : Int) ∧ (r : Int) ≤ 1114111) := by simpa [Utf8.valid] using h
  unfold Utf8.encode Lib.encodeRune
  simp only [h, if_true, Int.toNat_natCast]
  by_cases h1 : r < 128
  · rw [if_pos h1, Lib.encodeRuneZ_one (by omega) (by omega)]; simp
  · rw [if_neg h1]
    by_cases h2 : r < 2048
    · rw [if_pos h2, Lib.encodeRuneZ_two (by omega) (by omega)]
      simp only [List.map_cons, List.map_nil]
      rw [show (192 + (r : Int) / 64).toNat = 192 + r / 64 by omega, show (128 + (r : Int) % 64).toNat = 128 + r % 64 by omega]
    · rw [if_neg h2]
      by_cases h3 : r < 65536
      · rw [if_pos h3, Lib.encodeRuneZ_three (by omega)]
        simp only [List.map_cons, List.map_nil]
        rw [show (224 + (r : Int) / 4096).toNat = 224 + r / 4096 by omega, show (128 + (r : Int) / 64 % 64).toNat = 128 + r / 64 % 64 by omega, show (128 + (r : Int) % 64).toNat = 128 + r % 64 by omega]
      · rw [if_neg h3, Lib.encodeRuneZ_four (by omega) (by omega)]
        simp only [List.map_cons, List.map_nil]
        rw [show (240 + (r : Int) / 262144).toNat = 240 + r / 262144 by omega, show (128 + (r : Int) / 4096 % 64).toNat = 128 + r / 4096 % 64 by omega, show (128 + (r : Int) / 64 % 64).toNat = 128 + r / 64 % 64 by omega, show (128 + (r : Int) % 64).toNat = 128 + r % 64 by omega]
theorem valid_of (r : Nat) (h : r < 55296 ∨ (57344 ≤ r ∧ r ≤ 1114111)) : Utf8.valid (r : Int) = true := by
  simp only [Utf8.valid, Bool.or_eq_true, Bool.and_eq_true, decide_eq_true_eq]
  omega
theorem ok1 (x : Nat) (h : x < 55296) : x < 55296 ∨ (57344 ≤ x ∧ x ≤ 1114111) := .inl h
theorem ok3 (x : Nat) (h : x ≤ 65535) (h2 : x < 55296 ∨ 57344 ≤ x) : x < 55296 ∨ (57344 ≤ x ∧ x ≤ 1114111) := by omega
theorem ok4 (x : Nat) (h : 65536 ≤ x) (h2 : x ≤ 1114111) : x < 55296 ∨ (57344 ≤ x ∧ x ≤ 1114111) := by omega
theorem ok5 (x : Nat) (h : x = 65533) : x < 55296 ∨ (57344 ≤ x ∧ x ≤ 1114111) := by omega
theorem decodeN_valid (n b0 b1 b2 b3 : Nat) : (Lib.decodeN n b0 b1 b2 b3).1 < 55296 ∨ (57344 ≤ (Lib.decodeN n b0 b1 b2 b3).1 ∧ (Lib.decodeN n b0 b1 b2 b3).1 ≤ 1114111) := by
  generalize hx : (Lib.decodeN n b0 b1 b2 b3).1 = x
  rcases Lib.decodeN_shape n b0 b1 b2 b3 with ⟨c, e⟩ | ⟨d1, d2, d3, dv, e⟩ | ⟨d1, d2, d3, d4, dv, ds, e⟩ | ⟨d1, d2, d3, d4, d5, dv, dw, e⟩ | e
  · exact ok1 x (by rw [e] at hx; simp only at hx; omega)
  · exact ok1 x (by rw [e] at hx; simp only at hx; omega)
  · rw [e] at hx; simp only at hx
    rw [hx] at ds dv
    exact ok3 x (by omega) ds
  · rw [e] at hx; simp only at hx
    rw [hx] at dv dw
    exact ok4 x dv dw
  · exact ok5 x (by rw [e] at hx; simp only at hx; exact hx.symm)
theorem decode_valid (l : List UInt8) : Utf8.valid ((Lib.decodeL l).1 : Int) = true := by
  rw [Lib.decodeL_N]
  exact valid_of _ (decodeN_valid _ _ _ _ _)
def encZ (r : Int) : List UInt8 := (Utf8.encode r).data.toList
theorem encZ_eq (r : Int) : encZ r = (Utf8.encode r).data.toList := rfl
def encL (r : Nat) : List UInt8 := encZ (r : Int)
theorem encL_eq (r : Nat) : encL r = encZ (r : Int) := rfl
theorem encL_dec (l : List UInt8) (h : l ≠ []) (hv : ¬ ((Lib.decodeL l).1 = 65533 ∧ (Lib.decodeL l).2 = 1)) : encL (Lib.decodeL l).1 = l.take (Lib.decodeL l).2 := by
  rw [encL_eq, encZ_eq, encode_eq _ (decode_valid l), Lib.encode_decode l h hv]
theorem encL_bad : (encL 65533).length = 3 := by decide +kernel
/-- The text of the code points of a text. -/
def backB (l : List UInt8) : List UInt8 := ((pts l).map encL).flatten
theorem back_step (l : List UInt8) (h : l ≠ []) : backB l = encL (Lib.decodeL l).1 ++ backB (l.drop (Lib.decodeL l).2) := by
  unfold backB; rw [pts_step l h]; simp
theorem back_le : ∀ (n : Nat) (l : List UInt8), l.length ≤ n → l.length ≤ (backB l).length
  | 0, l, h => by omega
  | n + 1, l, h => by
    by_cases hne : l = []
    · subst hne; simp
    · have hw := Lib.decodeL_width l
      have hle := Lib.decodeL_le l hne
      have hl : 0 < l.length := List.length_pos_iff.2 hne
      have ih := back_le n (l.drop (Lib.decodeL l).2) (by rw [List.length_drop]; omega)
      rw [List.length_drop] at ih
      rw [back_step l hne, List.length_append]
      by_cases hv : (Lib.decodeL l).1 = 65533 ∧ (Lib.decodeL l).2 = 1
      · rw [hv.1, encL_bad]; omega
      · rw [encL_dec l hne hv, List.length_take]; omega
theorem back_valid : ∀ (n : Nat) (l : List UInt8), l.length ≤ n → Lib.validD l = true → backB l = l
  | 0, l, h, _ => by
    have : l = [] := List.eq_nil_of_length_eq_zero (by omega)
    subst this; rfl
  | n + 1, l, h, hv => by
    by_cases hne : l = []
    · subst hne; rfl
    · rw [Lib.validD_step l hne] at hv
      split at hv
      · cases hv
      · rename_i he
        have hw := Lib.decodeL_width l
        have hl : 0 < l.length := List.length_pos_iff.2 hne
        rw [back_step l hne, encL_dec l hne he, back_valid n _ (by rw [List.length_drop]; omega) hv, List.take_append_drop]
theorem back_invalid : ∀ (n : Nat) (l : List UInt8), l.length ≤ n → Lib.validD l = false → l.length < (backB l).length
  | 0, l, h, hv => by
    have : l = [] := List.eq_nil_of_length_eq_zero (by omega)
    subst this; exact absurd hv (by decide +kernel)
  | n + 1, l, h, hv => by
    by_cases hne : l = []
    · subst hne; exact absurd hv (by decide +kernel)
    · have hw := Lib.decodeL_width l
      have hle := Lib.decodeL_le l hne
      have hl : 0 < l.length := List.length_pos_iff.2 hne
      have hd : (l.drop (Lib.decodeL l).2).length = l.length - (Lib.decodeL l).2 := List.length_drop
      rw [Lib.validD_step l hne] at hv
      rw [back_step l hne, List.length_append]
      split at hv
      · rename_i he
        have := back_le _ (l.drop (Lib.decodeL l).2) (Nat.le_refl _)
        rw [he.1, encL_bad]; omega
      · rename_i he
        have := back_invalid n (l.drop (Lib.decodeL l).2) (by omega) hv
        rw [encL_dec l hne he, List.length_take]; omega
theorem back_same (l : List UInt8) : (backB l == l) = Lib.validD l := by
  cases hv : Lib.validD l with
  | true => rw [back_valid _ l (Nat.le_refl _) hv]; simp
  | false =>
    have := back_invalid _ l (Nat.le_refl _) hv
    rw [beq_eq_false_iff_ne]
    intro e; rw [e] at this; omega

theorem foldl_runes : ∀ (ns : List Int) (s : ByteArray), (ns.foldl (fun r n => r ++ Utf8.encode n) s).data.toList = s.data.toList ++ (ns.map encZ).flatten
  | [], s => by simp
  | n :: ns, s => by rw [List.foldl_cons, foldl_runes ns, ByteArray.data_append, Array.toList_append, List.map_cons, List.flatten_cons, encZ_eq, List.append_assoc]
theorem runesBytes_data (ps : List Nat) : (runesBytes (ps.map fun r : Nat => (r : Int))).data.toList = (ps.map encL).flatten := by
  have h1 : (ps.map fun r : Nat => (r : Int)).map encZ = ps.map encL := by
    rw [List.map_map]
    exact List.map_congr_left fun r _ => by rw [Function.comp_apply, encL_eq]
  have h2 : ByteArray.empty.data.toList = [] := rfl
  unfold runesBytes
  rw [foldl_runes, h1, h2, List.nil_append]

/-! ### what the conversions give, in memory -/
/-- A slice of code points. -/
def Pts (w : World) (S : Nat → Prop) (v : Value) (ps : List Nat) : Prop :=
  ∃ g c, v = .slice (some ⟨g, 0, none⟩) ps.length c ∧ ps.length ≤ c ∧ S g ∧ ∀ i (r : Nat), ps[i]? = some r → w.cell? ⟨g, i, none⟩ = some (.int .i32 (r : Int))
theorem run_runes (w : World) (s : ByteArray) (hs : s.size ≤ 100000000) :
    ∃ c obj, (convert 9 76 (.string s)).run Tryd.prog w = .ok (.slice (some ⟨w.heap.size, 0, none⟩) (pts s.data.toList).length c) (w.drew.alloc obj) ∧ (pts s.data.toList).length ≤ c ∧
      ∀ i (r : Nat), (pts s.data.toList)[i]? = some r → (w.drew.alloc obj).cell? ⟨w.heap.size, i, none⟩ = some (.int .i32 (r : Int)) := by
  have he : Conv.runesFrom s s.size 0 #[] = ((pts s.data.toList).map fun r : Nat => Value.int .i32 (r : Int)).toArray := by
    rw [runesFrom_eq s s.size 0 #[] (by omega)]; simp
  have hsz : (Conv.runesFrom s s.size 0 #[]).size = (pts s.data.toList).length := by rw [he]; simp
  have hle := size_runesFrom s s.size 0 #[]
  have hrun := run_runes_of_string (P := Tryd.prog) w 9 76 21 s Tryd.underlying9 Tryd.underlying76 Tryd.underlying21 (by simp at hle; omega)
  have hge := grownCap_ge w (Conv.runesFrom s s.size 0 #[]).size 0 21
  rw [hsz] at hrun hge
  refine ⟨_, _, hrun, by omega, fun i r hr => ?_⟩
  have hi := (List.getElem?_eq_some_iff.1 hr).1
  have hn : ∀ obj : Obj, (w.drew.alloc obj).heap[w.heap.size]? = some obj := fun obj => by show (w.heap.push obj)[w.heap.size]? = _; simp
  simp only [World.cell?, hn]
  rw [he]
  show (_ ++ _ : Array Value)[i]? = _
  rw [Array.getElem?_append_left (by simpa using hi)]
  simp [hr]
end Go.Proofs.YtggoebbfgkebcaaDoor

namespace Go.Proofs.YtggoebbfgkebcaaDoor
open Go.RowKit Go.Sort

theorem rrun_back (w : World) (g c : Nat) (ps : List Nat) (h : ∀ i (r : Nat), ps[i]? = some r → w.cell? ⟨g, i, none⟩ = some (.int .i32 (r : Int))) :
    (convert 76 9 (.slice (some ⟨g, 0, none⟩) ps.length c)).run Tryd.prog w = .ok (.string (runesBytes (ps.map fun r : Nat => (r : Int)))) w := by
  rw [run_convert_runes_string w 76 9 21 (some ⟨g, 0, none⟩) ps.length c Tryd.underlying76 Tryd.underlying21 Tryd.underlying9]
  refine run_runesToString w ⟨g, 0, none⟩ ps.length c _ ?_
  have hl := run_loadCells_list (P := Tryd.prog) (w := w) ⟨g, 0, none⟩ ((ps.map fun r : Nat => (r : Int)).map (Value.int .i32)) fun j v hj => by
    rw [add_cell, Nat.zero_add]
    rw [List.map_map, List.getElem?_map, Option.map_eq_some_iff] at hj
    obtain ⟨r, hr, rfl⟩ := hj
    exact h j r hr
  simpa using hl

def RunesPost (s : ByteArray) (w : World) (e : Ending) (w' : World) : Prop :=
  ∃ A c b, e = .returned (.tuple #[.slice A (Lib.runeCount s) c, .bool b]) ∧ Below w.heap.size w w'

set_option maxHeartbeats 1000000 in
theorem rrunes_any (s : ByteArray) (w : World) (hs : s.size ≤ 1000000) :
    Calls Tryd.prog 59 #[.string s] w (RunesPost s w) := by
  obtain ⟨c, obj, hrun, hc, hcell⟩ := run_runes w s (by omega)
  have hback := rrun_back (w.drew.alloc obj) w.heap.size c (pts s.data.toList) hcell
  have hback2 := rrun_back (w.drew.alloc obj).drew w.heap.size c (pts s.data.toList) hcell
  have HX : Hid (∀ b, RunesPost s w (.returned (.tuple #[.slice (some ⟨w.heap.size, 0, none⟩) (pts s.data.toList).length c, .bool b])) (w.drew.alloc obj).drew) :=
    Lib.hid fun b => ⟨_, _, _, by rw [pts_count, Lib.runeCountL_eq], (((Below.refl _ _).drew).alloc (Nat.le_refl _) _).drew⟩
  clear hcell hc
  generalize runesBytes ((pts s.data.toList).map fun r : Nat => (r : Int)) = sr at *
  generalize (pts s.data.toList).length = np at *
  generalize w.heap.size = g at *
  generalize hW : w.drew.alloc obj = W at *
  go_enter Tryd.func59, Tryd.ntmps59
  go_wp2_with fail
  go_region
  all_goals
    go_wp2
    exact bodyPost_ret (v := .tuple #[.slice (some ⟨g, 0, none⟩) np c, .bool (sr.toList == s.toList)]) (by simp [results, Tryd.results59, go_sem]) rfl (HX.out _)

/-- What Size answers, of trees that weigh so much. -/
def RSize (n : Nat) : Prop := ∀ (t : Tree) (v : Value) (w : World), weigh t ≤ n → weigh t ≤ 1000000 → Node w (Under w.heap.size) v t →
  Calls Tryd.prog 38 #[v] w fun e w' => e = .returned (.int .i64 (sizeB t)) ∧ Below w.heap.size w w'

set_option maxHeartbeats 2000000 in
theorem rtotal_of (n : Nat) (ih : RSize n) (l : List Tree) (v : Value) (w : World) (hn : weighAll l ≤ n) (hw : weighAll l ≤ 1000000) (h : Kids w (Under w.heap.size) v l) :
    Calls Tryd.prog 60 #[v] w fun e w' => e = .returned (.int .i64 (totalB l)) ∧ Below w.heap.size w w' := by
  have IH := Lib.hid ih
  have HK := Lib.hid h
  have hlen : l.length ≤ 1000000 := by have := length_le_weigh l; omega
  obtain ⟨A, c, rfl, hlc⟩ := h.form
  clear ih h
  go_enter Tryd.func60, Tryd.ntmps60
  go_wp2
  go_loopw [3, 4] (fun m i wr => ∃ k : Nat, k ≤ l.length ∧ m = .int .i64 (totalB (l.take k)) ∧ i = .int .i64 k ∧ Below w.heap.size w wr) (fun _ i _ => l.length - (intOf i).toNat)
  case atStart => exact ⟨0, by omega, rfl, rfl, Below.refl _ _⟩
  case round =>
    obtain ⟨k, hk, rfl, rfl, hb⟩ := hrel
    have HB := Lib.hid hb
    by_cases hlt : k < l.length
    · obtain ⟨b, o, rfl, hub, hrow⟩ := HK.out.get hlt
      have hlx : l[k]? = some l[k] := List.getElem?_eq_getElem hlt
      have HTK : Hid (l.take (k + 1) = l.take k ++ [l[k]]) := Lib.hid (List.take_succ_eq_append_getElem hlt)
      generalize l[k] = x at *
      have hwx := weighAll_take_get l k x HTK.out
      have htl := total_le_weigh (l.take k)
      have hsx := size_le_weigh x
      obtain ⟨xm, xa, xk, e0, e1, e2, e3, e4, exm, exa, exk⟩ := hrow.node hlx
      have HXN : Hid (Node w (Under w.heap.size) (.agg #[.string x.kind, .string x.text, xm, xa, xk]) x) := Lib.hid ⟨_, _, _, rfl, exm, exa, exk⟩
      have f0 := (HB.out.cell (p := ⟨b, _, none⟩) hub).trans e0
      have f1 := (HB.out.cell (p := ⟨b, _, none⟩) hub).trans e1
      have f2 := (HB.out.cell (p := ⟨b, _, none⟩) hub).trans e2
      have f3 := (HB.out.cell (p := ⟨b, _, none⟩) hub).trans e3
      have f4 := (HB.out.cell (p := ⟨b, _, none⟩) hub).trans e4
      obtain ⟨A1, c1, rfl, _⟩ := exm.form
      obtain ⟨A2, c2, rfl, _⟩ := id exa
      obtain ⟨A3, c3, rfl, _⟩ := exk.form
      have HTT : Hid (totalB (l.take (k + 1)) = totalB (l.take k) + sizeB x) := Lib.hid (by rw [HTK.out, totalB_append]; simp [totalB])
      clear e0 e1 e2 e3 e4 exm exa exk hlx hrow hb
      go_wp2_with fail
      refine (IH.out x _ wr (by omega) (by omega) ((HXN.out.below HB.out).more HB.out.size)).mono ?_
      rintro e w1 ⟨rfl, hb1⟩
      have HB1 := Lib.hid (belowNext HB.out hb1)
      clear hb1
      generalize totalB (l.take k) = tt at *
      generalize sizeB x = sx at *
      go_wp2
      exact ⟨⟨k + 1, by omega, by rw [HTT.out]; go_num, by go_num, HB1.out⟩, by simp [intOf]; omega⟩
    · have HTK : Hid (totalB l = totalB (l.take k)) := Lib.hid (by rw [List.take_of_length_le (by omega)])
      generalize totalB (l.take k) = tt at *
      go_wp2
      go_ret
      exact ⟨by rw [HTK.out]; rfl, HB.out⟩

set_option maxHeartbeats 2000000 in
theorem rsize_all : ∀ n, RSize n := by
  intro n
  induction n using Nat.strongRecOn with
  | ind n ih =>
    have IH := Lib.hid ih
    clear ih
    intro t v w hn hw h
    have HN := Lib.hid h
    obtain ⟨vm, va, vk, rfl, hm, ha, hl⟩ := h
    have HL := Lib.hid hl
    have hkw := kids_weigh t
    have htl := total_le_weigh t.kids
    have htw : t.text.size ≤ weigh t := by obtain ⟨k, t, m, a, l⟩ := t; simp only [weigh, Tree.text]; omega
    obtain ⟨A1, c1, rfl, _⟩ := hm.form
    obtain ⟨A2, c2, rfl, _⟩ := id ha
    obtain ⟨A3, c3, rfl, _⟩ := hl.form
    clear hm ha hl
    generalize hW1 : w.alloc (.cells #[.string t.kind, .string t.text, .slice A1 t.marks.length c1, .slice A2 t.attrs.length c2, .slice A3 t.kids.length c3] 27) = W1
    have HB : Hid (Below w.heap.size w W1) := Lib.hid (by subst hW1; exact (Below.refl _ _).alloc (Nat.le_refl _) _)
    have hblk : W1.heap[w.heap.size]? = some (.cells #[.string t.kind, .string t.text, .slice A1 t.marks.length c1, .slice A2 t.attrs.length c2, .slice A3 t.kids.length c3] 27) := by
      subst hW1; show (w.heap.push _)[w.heap.size]? = _; simp
    obtain ⟨x0, x1, x2, x3, x4⟩ : W1.cell? ⟨w.heap.size, 0, none⟩ = some (.string t.kind) ∧ W1.cell? ⟨w.heap.size, 1, none⟩ = some (.string t.text) ∧ W1.cell? ⟨w.heap.size, 2, none⟩ = some (.slice A1 t.marks.length c1) ∧ W1.cell? ⟨w.heap.size, 3, none⟩ = some (.slice A2 t.attrs.length c2) ∧ W1.cell? ⟨w.heap.size, 4, none⟩ = some (.slice A3 t.kids.length c3) := by
      simp [World.cell?, hblk]
    have HW1 := Lib.hid hW1
    clear hblk hW1
    cases hk : isTxt t.kind with
    | true =>
      have HSX : Hid (sizeB t = Lib.runeCount t.text) := Lib.hid (by obtain ⟨k, t, m, a, l⟩ := t; simp only [Tree.kind, Tree.text] at *; simp [sizeB, hk])
      have hkk : (t.kind.toList == [116, 101, 120, 116]) = true := hk
      go_enter Tryd.func38, Tryd.ntmps38
      go_wp2_with fail
      rw [HW1.out]
      refine (rrunes_any t.text W1 (by omega)).mono ?_
      rintro e w2 ⟨Ar, cr, br, rfl, hb2⟩
      have HB2 := Lib.hid (belowNext HB.out hb2)
      clear hb2
      go_wp2
      go_ret
      exact ⟨by rw [HSX.out]; rfl, HB2.out⟩
    | false =>
      have HSX : Hid (sizeB t = 2 + totalB t.kids) := Lib.hid (by obtain ⟨k, t, m, a, l⟩ := t; simp only [Tree.kind, Tree.kids] at *; simp [sizeB, hk])
      have hkk : (t.kind.toList == [116, 101, 120, 116]) = false := hk
      go_enter Tryd.func38, Tryd.ntmps38
      go_wp2_with fail
      rw [HW1.out]
      refine (rtotal_of (weighAll t.kids) (IH.out _ (by omega)) t.kids _ W1 (Nat.le_refl _) (by omega) ((HL.out.below HB.out).more HB.out.size)).mono ?_
      rintro e w2 ⟨rfl, hb2⟩
      have HB2 := Lib.hid (belowNext HB.out hb2)
      clear hb2
      generalize totalB t.kids = tt at *
      go_wp2
      go_ret
      exact ⟨by rw [HSX.out]; exact ret_num (by omega), HB2.out⟩

theorem rtotal_any (v : Value) (l : List Tree) (w : World) (h : Kids w (Under w.heap.size) v l) (hw : weighAll l ≤ 1000000) :
    Calls Tryd.prog 60 #[v] w fun e w' => e = .returned (.int .i64 (totalB l)) ∧ Below w.heap.size w w' :=
  rtotal_of _ (rsize_all (weighAll l)) l v w (Nat.le_refl _) hw h
theorem rsize_any (v : Value) (t : Tree) (w : World) (h : Node w (Under w.heap.size) v t) (hw : weigh t ≤ 1000000) :
    Calls Tryd.prog 38 #[v] w fun e w' => e = .returned (.int .i64 (sizeB t)) ∧ Below w.heap.size w w' :=
  rsize_all _ t v w (Nat.le_refl _) hw h
end Go.Proofs.YtggoebbfgkebcaaDoor

namespace Go.Proofs.YtggoebbfgkebcaaDoor
open Go.RowKit Go.Sort

set_option maxHeartbeats 1000000 in
theorem rname_any (s : ByteArray) (w : World) (hs : s.size ≤ maxLen) :
    Calls Tryd.prog 36 #[.string s] w fun e w' => e = .returned (.bool (nameB s)) ∧ w' = w := by
  unfold maxLen at hs
  go_enter Tryd.func36, Tryd.ntmps36
  go_wp2
  go_loop [3] (fun i => ∃ k : Nat, k ≤ s.size ∧ i = .int .i64 k ∧ Hid (∀ j, j < k → small (s.data.toList.getD j 0) = true)) (fun i => s.size - (intOf i).toNat)
  case atStart => exact ⟨0, by omega, rfl, fun j hj => absurd hj (by omega)⟩
  case round =>
    obtain ⟨k, hk, rfl, hall⟩ := hrel
    by_cases hlt : k < s.size
    · have HB := Lib.hid (nameB_bad s k hlt)
      have HG := Lib.hid (byte_getD s k hlt)
      by_cases hlo : s[k].toNat < 97
      · have HF := Lib.hid (HB.out (by unfold small; rw [decide_eq_false (p := 97 ≤ s[k].toNat) (by omega), Bool.false_and]))
        go_wp2
        go_ret
        exact ⟨ret_bool HF.out.symm, rfl⟩
      · by_cases hhi : 122 < s[k].toNat
        · have HF := Lib.hid (HB.out (by unfold small; rw [decide_eq_false (p := s[k].toNat ≤ 122) (by omega), Bool.and_false]))
          go_wp2
          go_ret
          exact ⟨ret_bool HF.out.symm, rfl⟩
        · have HT : Hid (∀ j, j < k + 1 → small (s.data.toList.getD j 0) = true) := Lib.hid fun j hj => by
            by_cases e : j < k
            · exact hall j e
            · obtain rfl : j = k := by omega
              rw [HG.out]; unfold small
              rw [decide_eq_true (p := 97 ≤ s[j].toNat) (by omega), decide_eq_true (p := s[j].toNat ≤ 122) (by omega)]; rfl
          go_wp2
          exact ⟨⟨k + 1, by omega, by go_num, HT.out⟩, by simp [intOf]; omega⟩
    · have HA : Hid (∀ j, j < s.size → small (s.data.toList.getD j 0) = true) := Lib.hid fun j hj => hall j (by omega)
      by_cases h1 : 1 ≤ s.size
      · by_cases h8 : s.size ≤ 8
        · cases ht : isTxt s with
          | true =>
            have ht' : (s.toList == [116, 101, 120, 116]) = true := ht
            have HN : Hid (nameB s = false) := Lib.hid (by simp [nameB, ht])
            clear ht
            go_wp2
            go_ret
            exact ⟨ret_bool HN.out.symm, rfl⟩
          | false =>
            have ht' : (s.toList == [116, 101, 120, 116]) = false := ht
            have HN : Hid (nameB s = true) := Lib.hid (nameB_true s h1 h8 ht HA.out)
            clear ht
            go_wp2
            go_ret
            exact ⟨ret_bool HN.out.symm, rfl⟩
        · have HN : Hid (nameB s = false) := Lib.hid (by simp [nameB, h8])
          go_wp2
          go_ret
          exact ⟨ret_bool HN.out.symm, rfl⟩
      · have HN : Hid (nameB s = false) := Lib.hid (by simp [nameB, h1])
        go_wp2
        go_ret
        exact ⟨ret_bool HN.out.symm, rfl⟩

theorem back_bytes (s : ByteArray) : ((runesBytes ((pts s.data.toList).map fun r : Nat => (r : Int))).toList == s.toList) = Lib.validD s.data.toList := by
  rw [Lib.toList_data, Lib.toList_data, runesBytes_data]
  exact back_same s.data.toList

set_option maxHeartbeats 1000000 in
theorem rrunes2_any (s : ByteArray) (w : World) (hs : s.size ≤ 1000000) :
    Calls Tryd.prog 59 #[.string s] w fun e w' => (∃ A c, e = .returned (.tuple #[.slice A (Lib.runeCount s) c, .bool (Lib.validD s.data.toList)])) ∧ Below w.heap.size w w' := by
  obtain ⟨c, obj, hrun, hc, hcell⟩ := run_runes w s (by omega)
  have hback := rrun_back (w.drew.alloc obj) w.heap.size c (pts s.data.toList) hcell
  have hback2 := rrun_back (w.drew.alloc obj).drew w.heap.size c (pts s.data.toList) hcell
  have HX : Hid (Below w.heap.size w (w.drew.alloc obj).drew) := Lib.hid (((Below.refl _ _).drew).alloc (Nat.le_refl _) _).drew
  have HL : Hid ((pts s.data.toList).length = Lib.runeCount s) := Lib.hid (by rw [pts_count, Lib.runeCountL_eq])
  have HV := Lib.hid (back_bytes s)
  clear hcell hc
  generalize runesBytes ((pts s.data.toList).map fun r : Nat => (r : Int)) = sr at *
  generalize (pts s.data.toList).length = np at *
  generalize w.heap.size = g at *
  generalize hW : w.drew.alloc obj = W at *
  go_enter Tryd.func59, Tryd.ntmps59
  go_wp2_with fail
  go_region
  all_goals
    go_wp2
    exact bodyPost_ret (v := .tuple #[.slice (some ⟨g, 0, none⟩) np c, .bool (sr.toList == s.toList)]) (by simp [results, Tryd.results59, go_sem]) rfl ⟨⟨_, _, by rw [HV.out, HL.out]⟩, HX.out⟩

set_option maxHeartbeats 1000000 in
theorem rformed_any (s : ByteArray) (w : World) (hs : s.size ≤ 1000000) :
    Calls Tryd.prog 33 #[.string s] w fun e w' => e = .returned (.bool (Lib.validD s.data.toList)) ∧ Below w.heap.size w w' := by
  go_enter Tryd.func33, Tryd.ntmps33
  go_wp2_with fail
  refine (rrunes2_any s w hs).mono ?_
  rintro e w1 ⟨⟨A, c, rfl⟩, hb1⟩
  generalize hv : Lib.validD s.data.toList = b at *
  have HV := Lib.hid hv
  clear hv
  go_wp2
  go_ret
  exact ⟨ret_bool HV.out.symm, hb1⟩

set_option maxHeartbeats 1000000 in
theorem rvalue_any (s : ByteArray) (w : World) (hs : s.size ≤ 1000000) :
    Calls Tryd.prog 35 #[.string s] w fun e w' => e = .returned (.bool (valueB s)) ∧ Below w.heap.size w w' := by
  by_cases h : s.size ≤ 40
  · have HV : Hid (valueB s = Lib.validD s.data.toList) := Lib.hid (by simp [valueB, h])
    go_enter Tryd.func35, Tryd.ntmps35
    go_wp2_with fail
    refine (rformed_any s w hs).mono ?_
    rintro e w1 ⟨rfl, hb1⟩
    generalize Lib.validD s.data.toList = b at *
    go_wp2
    go_ret
    exact ⟨ret_bool HV.out.symm, hb1⟩
  · have HV : Hid (valueB s = false) := Lib.hid (by simp [valueB, h])
    go_enter Tryd.func35, Tryd.ntmps35
    go_wp2
    go_ret
    exact ⟨ret_bool HV.out.symm, Below.refl _ _⟩

theorem less_flip : ∀ x y : List UInt8, (Op.bytesLess x y || x == y) = !Op.bytesLess y x
  | [], [] => rfl
  | a :: x, [] => by simp [Op.bytesLess]
  | [], b :: y => by simp [Op.bytesLess]
  | a :: x, b :: y => by
    have ih := less_flip x y
    rcases Nat.lt_trichotomy a.toNat b.toNat with h | h | h
    · have h1 : a < b := UInt8.lt_iff_toNat_lt.2 h
      have h2 : ¬ b < a := fun e => by have := UInt8.lt_iff_toNat_lt.1 e; omega
      have h3 : ¬ b = a := fun e => by subst e; omega
      simp [Op.bytesLess, h1, h2, h3]
    · obtain rfl : a = b := UInt8.toNat_inj.1 h
      have h2 : ¬ a < a := fun e => by have := UInt8.lt_iff_toNat_lt.1 e; omega
      simp only [Op.bytesLess, h2, decide_false, Bool.false_or, beq_self_eq_true, Bool.true_and, List.cons_beq_cons]
      exact ih
    · have h1 : b < a := UInt8.lt_iff_toNat_lt.2 h
      have h2 : ¬ a < b := fun e => by have := UInt8.lt_iff_toNat_lt.1 e; omega
      have h3 : ¬ a = b := fun e => by subst e; omega
      simp [Op.bytesLess, h1, h2, h3]

set_option maxHeartbeats 1000000 in
theorem rrise_any (v : Value) (l : List ByteArray) (S : Nat → Prop) (w : World) (h : Strs w S v l) (hS : ∀ b, S b → b < w.heap.size) (hw : weighL l ≤ 1000000) :
    Calls Tryd.prog 34 #[v] w fun e w' => e = .returned (.bool (marksB l)) ∧ Below w.heap.size w w' := by
  have hlen := length_le_weighL l
  obtain ⟨A, c, rfl, hc⟩ := h.form
  have H := Lib.hid h
  have HS := Lib.hid hS
  clear h hS
  go_enter Tryd.func34, Tryd.ntmps34
  go_wp2
  go_loopw [3] (fun i wr => ∃ k : Nat, k ≤ l.length ∧ i = .int .i64 k ∧ Below w.heap.size w wr ∧ Hid (∀ j, j < k → markOk l j = true)) (fun i _ => l.length - (intOf i).toNat)
  case atStart => exact ⟨0, by omega, rfl, Below.refl _ _, fun j hj => absurd hj (by omega)⟩
  case round =>
    obtain ⟨k, hk, rfl, hbr, hall⟩ := hrel
    by_cases hlt : k < l.length
    · obtain ⟨b, o, rfl, hub, hcell⟩ := H.out.get hlt
      have hbl := HS.out b hub
      have HCL : Hid (∀ i, i < l.length → wr.cell? ⟨b, o + i, none⟩ = some (.string (l.getD i ByteArray.empty))) := Lib.hid fun i hi => (hbr.cell (p := ⟨b, o + i, none⟩) hbl).trans (hcell i hi)
      have hs := weighL_get (getD_some ByteArray.empty hlt)
      have HB := Lib.hid (all_range_false (p := markOk l) k hlt)
      have k0 := cell_regrown (HCL.out k hlt)
      generalize hsk : l.getD k ByteArray.empty = sk at *
      have Hsk := Lib.hid hsk
      clear hsk hcell
      go_wp2_with fail
      cases hnm : nameB sk with
      | false =>
        have HN := Lib.hid (regrown_same (w := wr) fun W => by have := rname_any sk W (by unfold maxLen; omega); rwa [hnm] at this)
        have HN' := Lib.hid hnm
        clear hnm
        refine wp_region_quiet_below (by kernel_rfl) (by kernel_rfl) ?_
        repeat (first | go_big_quiet_step (exact HN.out _ _) | quiet_step (exact HN.out _ _))
        refine wpQuiet_nil ?_
        intro _ hw'
        obtain ⟨⟨dq, osq⟩, hw''⟩ := hw'
        subst hw''
        go_wp2
        go_ret
        exact ⟨ret_bool (HB.out (by unfold markOk; rw [Hsk.out, HN'.out]; rfl)).symm, belowNext hbr (below_regrown wr dq osq)⟩
      | true =>
        have HN := Lib.hid (regrown_same (w := wr) fun W => by have := rname_any sk W (by unfold maxLen; omega); rwa [hnm] at this)
        have HN' := Lib.hid hnm
        clear hnm
        by_cases h0 : k = 0
        · have g0 : decide (0 < k) = false := by simp; omega
          have H0 := Lib.hid h0
          clear h0
          refine wp_region_quiet_below (by kernel_rfl) (by kernel_rfl) ?_
          repeat (first | go_big_quiet_step (exact HN.out _ _) | quiet_step (exact HN.out _ _))
          refine wpQuiet_nil ?_
          intro _ hw'
          obtain ⟨⟨dq, osq⟩, hw''⟩ := hw'
          subst hw''
          go_wp2
          exact ⟨⟨k + 1, by omega, by go_num, belowNext hbr (below_regrown wr dq osq), step_all hall.out (by unfold markOk; rw [Hsk.out, HN'.out, decide_eq_true H0.out]; rfl)⟩, by simp [intOf]; omega⟩
        · have g0 : decide (0 < k) = true := by simp; omega
          have g1 : ((k : Int) - 1).toNat = k - 1 := by omega
          have k2 := cell_regrown (HCL.out (k - 1) (by omega))
          generalize hsp : l.getD (k - 1) ByteArray.empty = sp at *
          have Hsp := Lib.hid hsp
          clear hsp
          have hfl := less_flip sk.toList sp.toList
          cases hb1 : Op.bytesLess sk.toList sp.toList with
          | true =>
            have HL : Hid (less sp sk = false) := Lib.hid (by unfold less; rw [hb1, Bool.true_or] at hfl; simpa using hfl.symm)
            clear hfl
            refine wp_region_quiet_below (by kernel_rfl) (by kernel_rfl) ?_
            repeat (first | go_big_quiet_step (exact HN.out _ _) | quiet_step (exact HN.out _ _))
            refine wpQuiet_nil ?_
            intro _ hw'
            obtain ⟨⟨dq, osq⟩, hw''⟩ := hw'
            subst hw''
            go_wp2
            go_ret
            exact ⟨ret_bool (HB.out (by unfold markOk; rw [Hsk.out, HN'.out, Hsp.out, HL.out, decide_eq_false h0]; rfl)).symm, belowNext hbr (below_regrown wr dq osq)⟩
          | false =>
            cases hb2 : (sk.toList == sp.toList) with
            | true =>
              have HL : Hid (less sp sk = false) := Lib.hid (by unfold less; rw [hb1, hb2, Bool.false_or] at hfl; simpa using hfl.symm)
              clear hfl
              refine wp_region_quiet_below (by kernel_rfl) (by kernel_rfl) ?_
              repeat (first | go_big_quiet_step (exact HN.out _ _) | quiet_step (exact HN.out _ _))
              refine wpQuiet_nil ?_
              intro _ hw'
              obtain ⟨⟨dq, osq⟩, hw''⟩ := hw'
              subst hw''
              go_wp2
              go_ret
              exact ⟨ret_bool (HB.out (by unfold markOk; rw [Hsk.out, HN'.out, Hsp.out, HL.out, decide_eq_false h0]; rfl)).symm, belowNext hbr (below_regrown wr dq osq)⟩
            | false =>
              have HL : Hid (less sp sk = true) := Lib.hid (by unfold less; rw [hb1, hb2, Bool.false_or] at hfl; simpa using hfl.symm)
              clear hfl
              refine wp_region_quiet_below (by kernel_rfl) (by kernel_rfl) ?_
              repeat (first | go_big_quiet_step (exact HN.out _ _) | quiet_step (exact HN.out _ _))
              refine wpQuiet_nil ?_
              intro _ hw'
              obtain ⟨⟨dq, osq⟩, hw''⟩ := hw'
              subst hw''
              go_wp2
              exact ⟨⟨k + 1, by omega, by go_num, belowNext hbr (below_regrown wr dq osq), step_all hall.out (by unfold markOk; rw [Hsk.out, HN'.out, Hsp.out, HL.out]; simp)⟩, by simp [intOf]; omega⟩
    · go_wp2
      go_ret
      exact ⟨ret_bool (all_range_true fun i hi => hall.out i (by omega)).symm, hbr⟩
end Go.Proofs.YtggoebbfgkebcaaDoor

namespace Go.Proofs.YtggoebbfgkebcaaDoor
open Go.RowKit Go.Sort

theorem heap_at_new (w : World) (o : Obj) {n : Nat} (h : w.heap.size = n) : (w.alloc o).heap[n]? = some o := by
  subst h; show (w.heap.push o)[w.heap.size]? = some o; simp

theorem wordsAll_take (l : List Tree) (i : Nat) : (wordsAll (l.take i)).length ≤ weighAll l := by
  have h1 := wordsAll_le_weigh (l.take i)
  have h2 := weighAll_take l i
  omega

end Go.Proofs.YtggoebbfgkebcaaDoor

namespace Go.Proofs.YtggoebbfgkebcaaDoor
open Go.RowKit Go.Sort

/-- A node's kid, read in a later world. -/
theorem Kids.late {w W : World} {A : Option Addr} {n c : Nat} {l : List Tree} {i : Nat} {x : Tree} (h : Kids w (Under w.heap.size) (.slice A n c) l) (hb : Below w.heap.size w W) (hx : l[i]? = some x) :
    ∃ b o A1 n1 c1 A2 n2 c2 A3 c3, A = some ⟨b, o, none⟩ ∧ W.cell? ⟨b, o + i * 5, none⟩ = some (.string x.kind) ∧ W.cell? ⟨b, o + i * 5 + 1, none⟩ = some (.string x.text) ∧ W.cell? ⟨b, o + i * 5 + 2, none⟩ = some (.slice A1 n1 c1) ∧
      W.cell? ⟨b, o + i * 5 + 3, none⟩ = some (.slice A2 n2 c2) ∧ W.cell? ⟨b, o + i * 5 + 4, none⟩ = some (.slice A3 x.kids.length c3) ∧ (∀ W', Below w.heap.size w W' → Node W' (Under W'.heap.size) (.agg #[.string x.kind, .string x.text, .slice A1 n1 c1, .slice A2 n2 c2, .slice A3 x.kids.length c3]) x) := by
  obtain ⟨b, o, rfl, hb', hr⟩ := h.get (List.getElem?_eq_some_iff.1 hx).1
  obtain ⟨vm, va, vk, e0, e1, e2, e3, e4, hm, ha, hk⟩ := hr.node hx
  obtain ⟨A1, c1, rfl, _⟩ := id hm.form
  obtain ⟨A2, c2, rfl, _⟩ := id ha
  obtain ⟨A3, c3, rfl, _⟩ := id hk.form
  have c : ∀ j v, w.cell? ⟨b, j, none⟩ = some v → W.cell? ⟨b, j, none⟩ = some v := fun j v h => (hb.cell (p := ⟨b, j, none⟩) hb').trans h
  exact ⟨b, o, _, _, _, _, _, _, _, _, rfl, c _ _ e0, c _ _ e1, c _ _ e2, c _ _ e3, c _ _ e4, fun W' hW => Node.keep ⟨_, _, _, rfl, hm, ha, hk⟩ (fun b hb => Nat.lt_of_lt_of_le hb hW.size) (fun b hb => hW.block b hb)⟩
theorem Node.forms1 {w : World} {S : Nat → Prop} {v : Value} {u : Tree} (h : Node w S v u) : ∃ A1 c1 A2 c2 A3 c3, v = .agg #[.string u.kind, .string u.text, .slice A1 u.marks.length c1, .slice A2 u.attrs.length c2, .slice A3 u.kids.length c3] := by
  obtain ⟨vm, va, vk, rfl, hm, ha, hl⟩ := h
  obtain ⟨A1, c1, rfl, _⟩ := hm.form
  obtain ⟨A2, c2, rfl, _⟩ := ha
  obtain ⟨A3, c3, rfl, _⟩ := hl.form
  exact ⟨_, _, _, _, _, _, rfl⟩
theorem Node.kids1 {w : World} {S : Nat → Prop} {k t : ByteArray} {vm va vk : Value} {u : Tree} (h : Node w S (.agg #[.string k, .string t, vm, va, vk]) u) : Strs w S vm u.marks ∧ Pairs w S va u.attrs ∧ Kids w S vk u.kids := by
  obtain ⟨vm', va', vk', he, h1, h2, hl⟩ := h
  injection he with he
  have h4 : k = u.kind ∧ t = u.text ∧ vm = vm' ∧ va = va' ∧ vk = vk' := by simpa using he
  obtain ⟨_, _, rfl, rfl, rfl⟩ := h4
  exact ⟨h1, h2, hl⟩
theorem deepB_take {l : List Tree} {k : Nat} {x : Tree} (hx : l[k]? = some x) : deepB (l.take (k + 1)) = max (deepB (l.take k)) (depthB x) := by
  have h : ∀ a b : List Tree, deepB (a ++ b) = max (deepB a) (deepB b) := by
    intro a b
    induction a with
    | nil => simp [deepB]
    | cons y a ih => simp only [List.cons_append, deepB, ih]; omega
  rw [List.take_add_one, hx, h]; simp [deepB]

def RDepth (t : Tree) : Prop := ∀ (v : Value) (w : World), weigh t ≤ 1000000 → Node w (Under w.heap.size) v t →
  Calls Tryd.prog 37 #[v] w fun e w' => e = .returned (.int .i64 (depthB t)) ∧ Below w.heap.size w w'
set_option maxHeartbeats 2000000 in
theorem rdepth_of (t : Tree) (ih : ∀ x, x ∈ t.kids → RDepth x) : RDepth t := by
  intro v w hw h
  have IH := Lib.hid ih
  have HN := Lib.hid h
  obtain ⟨A1, c1, A2, c2, A3, c3, rfl⟩ := h.forms1
  have hkl := length_le_weigh t.kids
  have hkw := kids_weigh t
  clear ih h
  generalize hW1 : w.alloc (.cells #[.string t.kind, .string t.text, .slice A1 t.marks.length c1, .slice A2 t.attrs.length c2, .slice A3 t.kids.length c3] 27) = W1
  have HB : Hid (Below w.heap.size w W1) := Lib.hid (by subst hW1; exact (Below.refl _ _).alloc (Nat.le_refl _) _)
  have HBL : Hid (W1.heap[w.heap.size]? = some (.cells #[.string t.kind, .string t.text, .slice A1 t.marks.length c1, .slice A2 t.attrs.length c2, .slice A3 t.kids.length c3] 27)) := Lib.hid (by
    subst hW1; show (w.heap.push _)[w.heap.size]? = _; simp)
  have HK1 : Hid (Kids W1 (Under W1.heap.size) (.slice A3 t.kids.length c3) t.kids) := Lib.hid ((HN.out.kids1.2.2.below HB.out).more HB.out.size)
  obtain ⟨x0, x1, x2, x3, x4⟩ : W1.cell? ⟨w.heap.size, 0, none⟩ = some (.string t.kind) ∧ W1.cell? ⟨w.heap.size, 1, none⟩ = some (.string t.text) ∧ W1.cell? ⟨w.heap.size, 2, none⟩ = some (.slice A1 t.marks.length c1) ∧ W1.cell? ⟨w.heap.size, 3, none⟩ = some (.slice A2 t.attrs.length c2) ∧ W1.cell? ⟨w.heap.size, 4, none⟩ = some (.slice A3 t.kids.length c3) := by
    have := HBL.out; simp [World.cell?, this]
  have HX4 := Lib.hid x4
  have HW1 := Lib.hid hW1
  clear hW1
  cases hk : isTxt t.kind with
  | true =>
    have HE : Hid (depthB t = 0) := Lib.hid (by obtain ⟨k, t, m, a, l⟩ := t; simp only [Tree.kind] at hk; simp [depthB, hk])
    have hkk : (t.kind.toList == [116, 101, 120, 116]) = true := hk
    clear hk
    go_enter Tryd.func37, Tryd.ntmps37
    go_upto_region 2 with fail
    rw [HW1.out]
    go_wp2
    go_ret
    exact ⟨by rw [HE.out]; rfl, HB.out⟩
  | false =>
    have HE : Hid (depthB t = deepB t.kids + 1) := Lib.hid (by obtain ⟨k, t, m, a, l⟩ := t; simp only [Tree.kind] at hk; simp [depthB, hk, Tree.kids])
    have hkk : (t.kind.toList == [116, 101, 120, 116]) = false := hk
    clear hk
    go_enter Tryd.func37, Tryd.ntmps37
    go_upto_region 3 with fail
    rw [HW1.out]
    clear x0 x1 x2 x3 x4
    go_wp2
    go_loopg [3, 4] t.kids.length (fun gh s3 s4 wx => ∃ k : Nat, k + gh = t.kids.length ∧ s4 = .int .i64 (k : Int) ∧ s3 = .int .i64 (deepB (t.kids.take k) : Nat) ∧ Hid (Below W1.heap.size W1 wx))
    case atStart => exact ⟨0, by omega, rfl, by simp [deepB], Lib.hid (Below.refl _ _)⟩
    case round =>
      obtain ⟨k, hkg, rfl, rfl, hb⟩ := hrel
      have x4 := cell_kept HX4.out hb.out
      have hdw := deep_le_weigh (t.kids.take k)
      have hwt := weighAll_take t.kids k
      by_cases hlt : k < t.kids.length
      · have hx : t.kids[k]? = some t.kids[k] := List.getElem?_eq_getElem hlt
        have HIX := Lib.hid (IH.out t.kids[k] (List.getElem_mem hlt))
        have hwx := weigh_mem (List.getElem_mem hlt)
        have HD := Lib.hid (deepB_take hx)
        generalize t.kids[k] = x at *
        obtain ⟨b, o, E1, l1, e1, E2, l2, e2, E3, e3, rfl, r0, r1, r2, r3, r4, hnx⟩ := HK1.out.late hb.out hx
        have HNX := Lib.hid hnx
        have hdx := depth_le_weigh x
        clear hx hnx
        go_wp2_with fail
        refine (HIX.out _ wr (by omega) (HNX.out wr hb.out)).mono ?_
        rintro e w4 ⟨rfl, hb4⟩
        have HB4 := Lib.hid (belowNext hb.out hb4)
        clear hb4 r0 r1 r2 r3 r4
        generalize deepB (t.kids.take k) = d at *
        generalize depthB x = dx at *
        go_wp2
        go_roundg (t.kids.length - (k + 1))
        case measure => omega
        case rel => exact ⟨k + 1, by omega, by go_num, by rw [HD.out]; go_num, HB4⟩
      · have HD : Hid (deepB t.kids = deepB (t.kids.take k)) := Lib.hid (by rw [List.take_of_length_le (by omega)])
        generalize deepB (t.kids.take k) = d at *
        go_wp2
        go_ret
        exact ⟨by rw [HE.out, HD.out]; exact ret_num (by omega), HB.out.trans (hb.out.mono HB.out.size)⟩
theorem rdepth_any (t : Tree) : RDepth t := by
  induction t using Tree.induct_one with
  | h k t m a l ih => exact rdepth_of _ fun x hx => ih x hx
end Go.Proofs.YtggoebbfgkebcaaDoor

namespace Go.Proofs.YtggoebbfgkebcaaDoor
open Go.RowKit Go.Sort

theorem all_range {n : Nat} {p : Nat → Bool} : (List.range n).all p = true ↔ ∀ i, i < n → p i = true := by
  rw [List.all_eq_true]
  exact ⟨fun h i hi => h i (List.mem_range.2 hi), fun h i hi => h i (List.mem_range.1 hi)⟩
theorem names_at {l : List (ByteArray × ByteArray)} {i : Nat} (h : i < l.length) : (l.map (·.1)).getD i ByteArray.empty = (pairAt l i).1 := by
  have h1 := getD_some (ByteArray.empty, ByteArray.empty) h
  rw [List.getD_eq_getElem?_getD, List.getElem?_map, h1]; rfl
theorem attrs_split (l : List (ByteArray × ByteArray)) : attrsB l = true ↔ (∀ i, i < l.length → valueB (pairAt l i).2 = true) ∧ marksB (l.map (·.1)) = true := by
  unfold attrsB marksB
  rw [all_range, all_range, List.length_map]
  constructor
  · intro h
    refine ⟨fun i hi => ?_, fun i hi => ?_⟩
    · have := h i hi; unfold attrOk at this; simp only [Bool.and_eq_true] at this; exact this.2.1
    · have := h i hi
      unfold attrOk at this
      simp only [Bool.and_eq_true] at this
      unfold markOk
      rw [names_at hi, names_at (i := i - 1) (by omega), this.1, this.2.2]; rfl
  · rintro ⟨h1, h2⟩ i hi
    have := h2 i hi
    unfold markOk at this
    rw [names_at hi, names_at (i := i - 1) (by omega)] at this
    simp only [Bool.and_eq_true] at this
    unfold attrOk
    rw [this.1, this.2, h1 i hi]; rfl
theorem rowB_iff : ∀ (l : List Tree) (p : Option Tree), rowB p l = true ↔ ∀ (i : Nat) (x : Tree), l[i]? = some x → formedB x = true ∧ alikeO (if i = 0 then p else l[i - 1]?) x = false
  | [], p => by simp [rowB]
  | y :: l, p => by
    rw [rowB, Bool.and_eq_true, Bool.and_eq_true, rowB_iff l (some y), Bool.not_eq_true']
    constructor
    · rintro ⟨h1, h2, h3⟩ i x hx
      cases i with
      | zero => simp only [List.getElem?_cons_zero, Option.some.injEq] at hx; subst hx; exact ⟨h2, by simpa using h1⟩
      | succ i =>
        have := h3 i x (by simpa using hx)
        refine ⟨this.1, ?_⟩
        cases i with
        | zero => simpa using this.2
        | succ i => simpa using this.2
    · intro h
      have h0 := h 0 y rfl
      refine ⟨by simpa using h0.2, h0.1, fun i x hx => ?_⟩
      have := h (i + 1) x (by simpa using hx)
      refine ⟨this.1, ?_⟩
      cases i with
      | zero => simpa using this.2
      | succ i => simpa using this.2
theorem names_weigh (l : List (ByteArray × ByteArray)) : weighL (l.map (·.1)) ≤ weighP l := by
  induction l with
  | nil => simp [weighL]
  | cons p l ih => simp only [weighL, weighP, List.map_cons, List.sum_cons] at ih ⊢; omega
theorem sameL_flip (a b : List ByteArray) : sameL a b = sameL b a := by
  cases h : sameL a b with
  | true => have := sameL_eq h; subst this; exact h.symm
  | false =>
    cases h' : sameL b a with
    | true => have := sameL_eq h'; subst this; rw [h'] at h; exact h.symm
    | false => rfl
/-- A row of texts of the call's own. -/
theorem strs_own {w : World} {base : Nat} {v : Value} {n : Nat} {l : List ByteArray} (h : w.ownsRow base 9 1 v n (l.map Value.string)) : Strs w (Under w.heap.size) v l := by
  obtain ⟨hl, h⟩ := h
  have hn : n = l.length := by simp at hl; omega
  subst hn
  rcases h with ⟨rfl, h0⟩ | ⟨g, cap, cur, rfl, hb, hg, hn, hc, hs, ht⟩
  · have : l = [] := List.eq_nil_of_length_eq_zero h0
    subst this
    exact ⟨none, 0, rfl, Nat.le_refl _, by unfold maxLen; omega, .inl rfl⟩
  · refine ⟨_, cap, rfl, hn, hc, .inr ⟨g, 0, rfl, (Array.getElem?_eq_some_iff.1 hg).1, fun i s hi => ?_⟩⟩
    have hil := (List.getElem?_eq_some_iff.1 hi).1
    have h1 : (cur.toList.take (l.length * 1))[i]? = some (.string s) := by rw [ht, List.getElem?_map, hi]; rfl
    rw [List.getElem?_take_of_lt (by omega)] at h1
    simp only [World.cell?, hg]
    simpa using h1
end Go.Proofs.YtggoebbfgkebcaaDoor

namespace Go.Proofs.YtggoebbfgkebcaaDoor
open Go.RowKit Go.Sort Go.Maps

def RFormed (t : Tree) : Prop := ∀ (v : Value) (w : World), weigh t ≤ 1000000 → Node w (Under w.heap.size) v t →
  Calls Tryd.prog 16 #[v] w fun e w' => e = .returned (.bool (formedB t)) ∧ Below w.heap.size w w'

theorem five_of {w : World} {g : Nat} {u0 u1 u2 u3 u4 : Value} {T : TypeId} (h : w.heap[g]? = some (.cells #[u0, u1, u2, u3, u4] T)) :
    w.cell? ⟨g, 0, none⟩ = some u0 ∧ w.cell? ⟨g, 1, none⟩ = some u1 ∧ w.cell? ⟨g, 2, none⟩ = some u2 ∧ w.cell? ⟨g, 3, none⟩ = some u3 ∧ w.cell? ⟨g, 4, none⟩ = some u4 := by
  simp [World.cell?, h]
theorem block_kept {w w' : World} {g : Nat} {o : Obj} (h : w.heap[g]? = some o) (hb : Below w.heap.size w w') : w'.heap[g]? = some o := (hb.block g (Array.getElem?_eq_some_iff.1 h).1).trans h

set_option maxHeartbeats 4000000 in
/-- A text. -/
theorem rformed_text (t : Tree) (hk : isTxt t.kind = true) : RFormed t := by
  intro v w hw h
  have HN := Lib.hid h
  obtain ⟨A1, c1, A2, c2, A3, c3, rfl⟩ := h.forms1
  have hkl := length_le_weigh t.kids
  have hml := length_le_weighL t.marks
  have hal := length_le_weighP t.attrs
  have hwe : t.text.size ≤ weigh t ∧ weighL t.marks ≤ weigh t := by obtain ⟨k, x, m, a, l⟩ := t; simp only [weigh, Tree.text, Tree.marks]; omega
  have HE : Hid (formedB t = textB t) := Lib.hid (by obtain ⟨k, x, m, a, l⟩ := t; simp only [Tree.kind] at hk; simp [formedB, hk])
  clear h
  generalize hW1 : w.alloc (.cells #[.string t.kind, .string t.text, .slice A1 t.marks.length c1, .slice A2 t.attrs.length c2, .slice A3 t.kids.length c3] 27) = W1
  have HB : Hid (Below w.heap.size w W1) := Lib.hid (by subst hW1; exact (Below.refl _ _).alloc (Nat.le_refl _) _)
  have HBL : Hid (W1.heap[w.heap.size]? = some (.cells #[.string t.kind, .string t.text, .slice A1 t.marks.length c1, .slice A2 t.attrs.length c2, .slice A3 t.kids.length c3] 27)) := Lib.hid (by
    subst hW1; show (w.heap.push _)[w.heap.size]? = _; simp)
  have HM : Hid (∀ W, Below W1.heap.size W1 W → Strs W (Under W.heap.size) (.slice A1 t.marks.length c1) t.marks) := Lib.hid fun W hW => HN.out.kids1.1.keep (fun b hb => Nat.lt_of_lt_of_le hb (Nat.le_trans HB.out.size hW.size)) (fun b hb => (hW.block b (Nat.lt_of_lt_of_le hb HB.out.size)).trans (HB.out.block b hb))
  obtain ⟨x0, x1, x2, x3, x4⟩ := five_of HBL.out
  have hkk : (t.kind.toList == [116, 101, 120, 116]) = true := hk
  have HW1 := Lib.hid hW1
  clear hW1 hk
  go_enter Tryd.func16, Tryd.ntmps16
  go_upto_region 2 with fail
  rw [HW1.out]
  by_cases he : t.text.toList = []
  · have HF : Hid (formedB t = false) := Lib.hid (by rw [HE.out]; unfold textB; rw [he]; rfl)
    go_wp2
    go_ret
    exact ⟨by rw [HF.out]; rfl, HB.out⟩
  · have he1 : (t.text.toList == []) = false := by simpa using he
    have HT0 : Hid (textB t = (Lib.validD t.text.data.toList && (marksB t.marks && (decide (t.attrs.length = 0) && decide (t.kids.length = 0))))) := Lib.hid (by unfold textB; rw [show t.text.toList.isEmpty = false by simpa using he]; rfl)
    go_wp2_with fail
    refine (rformed_any t.text W1 (by omega)).mono ?_
    rintro e w2 ⟨rfl, hb2⟩
    have HB2 := Lib.hid hb2
    obtain ⟨y0, y1, y2, y3, y4⟩ := five_of (block_kept HBL.out hb2)
    clear hb2 x0 x1 x2 x3 x4
    cases hv : Lib.validD t.text.data.toList with
    | false =>
      have HF : Hid (formedB t = false) := Lib.hid (by rw [HE.out, HT0.out, hv]; rfl)
      clear hv
      go_wp2
      go_ret
      exact ⟨by rw [HF.out]; rfl, HB.out.trans (HB2.out.mono HB.out.size)⟩
    | true =>
      have HV := Lib.hid hv
      clear hv
      go_wp2_with fail
      refine (rrise_any _ t.marks _ w2 (HM.out w2 HB2.out) (fun b hb => hb) (by omega)).mono ?_
      rintro e w3 ⟨rfl, hb3⟩
      have HB3 := Lib.hid (belowNext HB2.out hb3)
      obtain ⟨z0, z1, z2, z3, z4⟩ := five_of (block_kept HBL.out HB3.out)
      clear hb3 y0 y1 y2 y3 y4
      cases hm : marksB t.marks with
      | false =>
        have HF : Hid (formedB t = false) := Lib.hid (by rw [HE.out, HT0.out, HV.out, hm]; rfl)
        clear hm
        go_wp2
        go_ret
        exact ⟨by rw [HF.out]; rfl, HB.out.trans (HB3.out.mono HB.out.size)⟩
      | true =>
        have HM1 := Lib.hid hm
        clear hm
        by_cases ha : t.attrs.length = 0
        · have ha' : ((t.attrs.length : Int) == 0) = true := by simp [ha]
          by_cases hl : t.kids.length = 0
          · have hl' : ((t.kids.length : Int) == 0) = true := by simp [hl]
            have HF : Hid (formedB t = true) := Lib.hid (by rw [HE.out, HT0.out, HV.out, HM1.out]; simp [ha, hl])
            clear ha hl
            go_wp2
            go_ret
            exact ⟨by rw [HF.out]; rfl, HB.out.trans (HB3.out.mono HB.out.size)⟩
          · have hl' : ((t.kids.length : Int) == 0) = false := by rw [beq_eq_false_iff_ne]; omega
            have HF : Hid (formedB t = false) := Lib.hid (by rw [HE.out, HT0.out, HV.out, HM1.out]; simp [hl])
            clear ha hl
            go_wp2
            go_ret
            exact ⟨by rw [HF.out]; rfl, HB.out.trans (HB3.out.mono HB.out.size)⟩
        · have ha' : ((t.attrs.length : Int) == 0) = false := by rw [beq_eq_false_iff_ne]; omega
          have HF : Hid (formedB t = false) := Lib.hid (by rw [HE.out, HT0.out, HV.out, HM1.out]; simp [ha])
          clear ha
          go_wp2
          go_ret
          exact ⟨by rw [HF.out]; rfl, HB.out.trans (HB3.out.mono HB.out.size)⟩
end Go.Proofs.YtggoebbfgkebcaaDoor
