/-
  What node.runLength answers.
  Joining, run by run: plain facts on trees (no program is named here).
  The code points of a text, and the text of code points: plain facts, and what both conversions give.
-/
import Derived.Test.YtdcgffepdgldmaaDoorW8
import Derived.Lib.QuietBelow
import Derived.Test.YtdcgffepdgldmaaDoorRightA
import Derived.Test.YtdcgffepdgldmaaDoorW14
import Derived.Lib.RuneCountTail
import Derived.Laws.Cover4
import Derived.Laws.IdiomStrings
import Derived.Lib.MapLaws
import Derived.Lib.TrimUEq
namespace Go.Proofs.YtdcgffepdgldmaaDoor
open Go.RowKit Go.Sort

/-- How many nodes at the beginning are to be one. -/
def runB : List Tree → Nat
  | [] => 1
  | [_] => 1
  | x :: y :: l => if alikeB x y then runB (y :: l) + 1 else 1
theorem runB_step {l : List Tree} {k : Nat} {x y : Tree} (hx : l[k]? = some x) (hy : l[k + 1]? = some y) : runB (l.drop k) = if alikeB x y then runB (l.drop (k + 1)) + 1 else 1 := by
  have h1 := (List.getElem?_eq_some_iff.1 hx).1
  have h2 := (List.getElem?_eq_some_iff.1 hy).1
  have e1 := (List.getElem?_eq_some_iff.1 hx).2
  have e2 := (List.getElem?_eq_some_iff.1 hy).2
  rw [List.drop_eq_getElem_cons h1, List.drop_eq_getElem_cons h2, e1, e2, runB]
theorem runB_last {l : List Tree} {k : Nat} (h : k + 1 = l.length) : runB (l.drop k) = 1 := by
  rw [List.drop_eq_getElem_cons (by omega), List.drop_eq_nil_of_le (by omega)]; rfl
theorem runB_pos : ∀ l : List Tree, 1 ≤ runB l
  | [] => by simp [runB]
  | [_] => by simp [runB]
  | x :: y :: l => by rw [runB]; split <;> omega
theorem runB_le : ∀ l : List Tree, l ≠ [] → runB l ≤ l.length
  | [], h => absurd rfl h
  | [_], _ => by simp [runB]
  | x :: y :: l, _ => by
    have := runB_le (y :: l) (by simp)
    rw [runB]; split <;> simp at this ⊢ <;> omega

set_option maxHeartbeats 2000000 in
theorem runLength_any (v : Value) (l : List Tree) (w : World) (h : Kids w (Under w.heap.size) v l) (h0 : l ≠ []) (hw : weighAll l ≤ 1000000) :
    Calls Tryd.prog 67 #[v] w fun e w' => e = .returned (.int .i64 (runB l)) ∧ Below w.heap.size w w' := by
  have hlen : l.length ≤ 1000000 := by have := length_le_weigh l; omega
  have hpos : 0 < l.length := List.length_pos_iff.2 h0
  have HL := Lib.hid h
  obtain ⟨A, c, rfl, _⟩ := h.form
  clear h
  go_enter Tryd.func67, Tryd.ntmps67
  go_wp2
  go_loopw [3] (fun i wr => ∃ k : Nat, k < l.length ∧ i = .int .i64 ((k : Int) + 1) ∧ Hid (runB l = k + runB (l.drop k)) ∧ Below w.heap.size w wr) (fun i _ => l.length + 1 - (intOf i).toNat)
  case atStart => exact ⟨0, hpos, rfl, Lib.hid (by simp), Below.refl _ _⟩
  case round =>
    obtain ⟨k, hk, rfl, hrun, hbr⟩ := hrel
    by_cases hlt : k + 1 < l.length
    · obtain ⟨b, o, rfl, hub, hrow⟩ := HL.out.get hk
      have hlx : l[k]? = some l[k] := List.getElem?_eq_getElem hk
      have hly : l[k + 1]? = some l[k + 1] := List.getElem?_eq_getElem hlt
      generalize hx : l[k] = x at *
      generalize hy : l[k + 1] = y at *
      have HST := Lib.hid (runB_step hlx hly)
      have hwx := weigh_mem (List.mem_of_getElem? hlx)
      obtain ⟨xm, xa, xk, e0, e1, e2, e3, e4, exm, exa, exk⟩ := hrow.node hlx
      obtain ⟨ym, ya, yk, d0, d1, d2, d3, d4, dxm, dxa, dxk⟩ := hrow.node hly
      have HXN : Hid (Node wr (Under wr.heap.size) (.agg #[.string x.kind, .string x.text, xm, xa, xk]) x) := Lib.hid ((Node.below (B := w.heap.size) ⟨_, _, _, rfl, exm, exa, exk⟩ hbr).more hbr.size)
      have HYN : Hid (Node wr (Under wr.heap.size) (.agg #[.string y.kind, .string y.text, ym, ya, yk]) y) := Lib.hid ((Node.below (B := w.heap.size) ⟨_, _, _, rfl, dxm, dxa, dxk⟩ hbr).more hbr.size)
      obtain ⟨A1, c1, rfl, _⟩ := exm.form
      obtain ⟨A2, c2, rfl, _⟩ := exa.form
      obtain ⟨A3, c3, rfl, _⟩ := exk.form
      obtain ⟨A4, c4, rfl, _⟩ := dxm.form
      obtain ⟨A5, c5, rfl, _⟩ := dxa.form
      obtain ⟨A6, c6, rfl, _⟩ := dxk.form
      have k0 := cell_regrown (cell_kept e0 hbr)
      have k1 := cell_regrown (cell_kept e1 hbr)
      have k2 := cell_regrown (cell_kept e2 hbr)
      have k3 := cell_regrown (cell_kept e3 hbr)
      have k4 := cell_regrown (cell_kept e4 hbr)
      have m0 := cell_regrown (cell_kept d0 hbr)
      have m1 := cell_regrown (cell_kept d1 hbr)
      have m2 := cell_regrown (cell_kept d2 hbr)
      have m3 := cell_regrown (cell_kept d3 hbr)
      have m4 := cell_regrown (cell_kept d4 hbr)
      have g1 : ((k : Int) + 1 - 1).toNat = k := by omega
      have g2 : ((k : Int) + 1).toNat = k + 1 := by omega
      have g3 : decide ((k : Int) + 1 < (l.length : Int)) = true := by simp; omega
      clear e0 e1 e2 e3 e4 d0 d1 d2 d3 d4 exm exa exk dxm dxa dxk hx hy hlx hly hrow
      cases hal : alikeB x y with
      | true =>
        rw [hal] at HST
        have HAL := Lib.hid (regrown_any (w := wr) fun W hW => walk_res (alike_any _ _ x y W ((HXN.out.below hW).more hW.size) ((HYN.out.below hW).more hW.size) (by omega)) hal)
        clear hal
        go_wp2_with fail
        refine wp_region_quiet_below (by kernel_rfl) (by kernel_rfl) ?_
        repeat (first | go_big_quiet_step (exact HAL.out _ _) | quiet_step (exact HAL.out _ _))
        refine wpQuiet_nil ?_
        intro _ hw'
        obtain ⟨⟨dq, osq⟩, hw''⟩ := hw'
        subst hw''
        have HQ := Lib.hid (below_regrown wr dq osq)
        go_wp2
        exact ⟨⟨k + 1, hlt, by go_num, Lib.hid (by rw [hrun.out, HST.out]; simp; omega), belowNext hbr HQ.out⟩, by simp [intOf]; omega⟩
      | false =>
        rw [hal] at HST
        have HAL := Lib.hid (regrown_any (w := wr) fun W hW => walk_res (alike_any _ _ x y W ((HXN.out.below hW).more hW.size) ((HYN.out.below hW).more hW.size) (by omega)) hal)
        clear hal
        go_wp2_with fail
        refine wp_region_quiet_below (by kernel_rfl) (by kernel_rfl) ?_
        repeat (first | go_big_quiet_step (exact HAL.out _ _) | quiet_step (exact HAL.out _ _))
        refine wpQuiet_nil ?_
        intro _ hw'
        obtain ⟨⟨dq, osq⟩, hw''⟩ := hw'
        subst hw''
        have HQ := Lib.hid (below_regrown wr dq osq)
        go_wp2
        go_ret
        exact ⟨ret_num (by rw [hrun.out, HST.out]; simp), belowNext hbr HQ.out⟩
    · have HR : Hid (runB (l.drop k) = 1) := Lib.hid (runB_last (by omega))
      have g3 : decide ((k : Int) + 1 < (l.length : Int)) = false := by simp; omega
      go_wp2_with fail
      refine wp_region_quiet_below (by kernel_rfl) (by kernel_rfl) ?_
      repeat (first | go_big_quiet_step (fail) | quiet_step (fail))
      refine wpQuiet_nil ?_
      intro _ hw'
      obtain ⟨⟨dq, osq⟩, hw''⟩ := hw'
      subst hw''
      have HQ := Lib.hid (below_regrown wr dq osq)
      go_wp2
      go_ret
      exact ⟨ret_num (by rw [hrun.out, HR.out]; omega), belowNext hbr HQ.out⟩
end Go.Proofs.YtdcgffepdgldmaaDoor

namespace Go.Proofs.YtdcgffepdgldmaaDoor
open Go.RowKit Go.Sort

/-! ### code points of texts one behind the other -/
theorem rc_step (l : List UInt8) (h : l ≠ []) : Lib.runeCountL l = 1 + Lib.runeCountL (l.drop (Lib.decodeL l).2) := by
  have hl : 0 < l.length := List.length_pos_iff.2 h
  have hw := Lib.decodeL_width l
  unfold Lib.runeCountL Lib.runeCount
  generalize hs : (⟨l.toArray⟩ : ByteArray) = s
  have hsz : s.size = l.length := by subst hs; simp [ByteArray.size]
  have hd : Lib.decodeL l = Utf8.decode s 0 := by subst hs; rfl
  have hx : (⟨(l.drop (Lib.decodeL l).2).toArray⟩ : ByteArray) = s.extract (Lib.decodeL l).2 s.size := by
    apply ByteArray.ext
    apply Array.ext'
    subst hs
    simp [ByteArray.size, List.extract_eq_take_drop]
    rw [List.take_of_length_le (by simp)]
  rw [hx]
  have he : (s.extract (Lib.decodeL l).2 s.size).size = l.length - (Lib.decodeL l).2 := by simp [ByteArray.size_extract, hsz]
  rw [he, hsz]
  obtain ⟨n, hn⟩ : ∃ n, l.length = n + 1 := ⟨l.length - 1, by omega⟩
  have h1 : Lib.runeCountFrom s l.length 0 = 1 + Lib.runeCountFrom s n (0 + (Utf8.decode s 0).2) := by
    rw [hn, Lib.runeCountFrom, if_pos (by omega)]
  rw [h1, ← hd, Nat.zero_add, ← hsz, Lib.tail_count, Nat.add_zero, hsz]
  congr 1
  exact Lib.fuel_enough s _ _ _ (by omega) (by omega)
theorem rc_nil : Lib.runeCountL [] = 0 := rfl
theorem rc_app : ∀ (n : Nat) (a b : List UInt8), a.length ≤ n → Lib.validD a = true → Lib.runeCountL (a ++ b) = Lib.runeCountL a + Lib.runeCountL b
  | 0, a, b, hn, _ => by
    have : a = [] := List.eq_nil_of_length_eq_zero (by omega)
    subst this; rw [List.nil_append, rc_nil, Nat.zero_add]
  | n + 1, a, b, hn, ha => by
    by_cases hne : a = []
    · subst hne; rw [List.nil_append, rc_nil, Nat.zero_add]
    · rw [Lib.validD_step a hne] at ha
      split at ha
      · cases ha
      · rename_i hv
        have hw := Lib.decodeL_width a
        have hle := Lib.decodeL_le a hne
        have hl : 0 < a.length := List.length_pos_iff.2 hne
        rw [rc_step (a ++ b) (by simp [hne]), rc_step a hne, decodeL_app a b hne hv, List.drop_append_of_le_length hle, rc_app n _ b (by rw [List.length_drop]; omega) ha]
        omega
theorem runeCount_app (a b : ByteArray) (h : Lib.validD a.data.toList = true) : Lib.runeCount (a ++ b) = Lib.runeCount a + Lib.runeCount b := by
  rw [← Lib.runeCountL_eq, ← Lib.runeCountL_eq a, ← Lib.runeCountL_eq b, ByteArray.data_append, Array.toList_append]
  exact rc_app _ _ _ (Nat.le_refl _) h

/-! ### what a round of joining keeps -/
theorem words_step (out : List Tree) (n : Tree) : wordsAll (joinStep out n) = wordsAll out ++ wordsB n := by
  have hone : wordsAll [n] = wordsB n := by simp [wordsAll]
  unfold joinStep
  split
  · rename_i h
    simp only [Bool.and_eq_true] at h
    have h2 := empty_data.1 h.2
    obtain ⟨k, t, m, a, l⟩ := n
    simp only [Tree.kind, Tree.text] at *
    simp [wordsB, h.1, h2]
  · split
    · rename_i z hz
      split
      · rename_i h
        simp only [Bool.and_eq_true, joinsOn] at h
        have e := dropLast_getLast? hz
        obtain ⟨k, t, m, a, l⟩ := n
        obtain ⟨k', t', m', a', l'⟩ := z
        simp only [Tree.kind, Tree.text] at *
        have e2 := congrArg wordsAll e
        rw [wordsAll_append] at e2
        rw [e2, wordsAll_append]
        simp [wordsAll, wordsB, setText, h.1, h.2.1, Tree.kind]
      · rw [wordsAll_append, hone]
    · rw [wordsAll_append, hone]
theorem words_fold : ∀ (l out : List Tree), wordsAll (l.foldl joinStep out) = wordsAll out ++ wordsAll l
  | [], out => by simp [wordsAll]
  | x :: l, out => by rw [List.foldl_cons, words_fold l, words_step, List.append_assoc]; simp [wordsAll]
theorem joinB_words (l : List Tree) : wordsAll (joinB l) = wordsAll l := by unfold joinB; rw [words_fold]; simp [wordsAll]

theorem total_step (out : List Tree) (n : Tree) (ho : ∀ z ∈ out, isTxt z.kind = true → Lib.validD z.text.data.toList = true) : totalB (joinStep out n) = totalB out + sizeB n := by
  have hone : totalB [n] = sizeB n := by simp [totalB]
  unfold joinStep
  split
  · rename_i h
    simp only [Bool.and_eq_true] at h
    have h2 := empty_data.1 h.2
    obtain ⟨k, t, m, a, l⟩ := n
    simp only [Tree.kind, Tree.text] at *
    have : Lib.runeCount t = 0 := by rw [← Lib.runeCountL_eq, h2]; rfl
    simp [sizeB, h.1, this]
  · split
    · rename_i z hz
      split
      · rename_i h
        simp only [Bool.and_eq_true, joinsOn] at h
        have e := dropLast_getLast? hz
        have hv := ho z (List.mem_of_getLast? hz) h.2.1
        have e2 := congrArg totalB e
        rw [totalB_append] at e2
        rw [e2, totalB_append]
        obtain ⟨k, t, m, a, l⟩ := n
        obtain ⟨k', t', m', a', l'⟩ := z
        simp only [Tree.kind, Tree.text] at *
        simp only [totalB, sizeB, setText, Tree.kind, h.1, h.2.1, if_true, runeCount_app t' t hv]
        omega
      · rw [totalB_append, hone]
    · rw [totalB_append, hone]
theorem row_valid : ∀ (l : List Tree) (p : Option Tree), rowB p l = true → ∀ z ∈ l, isTxt z.kind = true → Lib.validD z.text.data.toList = true
  | [], _, _, z, hz, _ => by cases hz
  | x :: l, p, h, z, hz, ht => by
    simp only [rowB, Bool.and_eq_true] at h
    rcases List.mem_cons.1 hz with e | e
    · subst e
      have h1 := h.2.1
      rw [formed_text ht] at h1
      exact (textB_parts h1).2.1
    · exact row_valid l (some x) h.2.2 z e ht
theorem total_fold : ∀ (l out : List Tree), rowB none out = true → (∀ x ∈ l, formedB x = true) → totalB (l.foldl joinStep out) = totalB out + totalB l
  | [], out, _, _ => by simp [totalB]
  | x :: l, out, ho, h => by
    rw [List.foldl_cons, total_fold l _ (joinStep_row out x ho (h x (by simp))) (fun y hy => h y (by simp [hy])), total_step out x (row_valid out none ho)]
    simp only [totalB]; omega
theorem joinB_total (l : List Tree) (h : ∀ x ∈ l, formedB x = true) : totalB (joinB l) = totalB l := by
  unfold joinB; rw [total_fold l [] (by simp [rowB]) h]; simp [totalB]

/-! ### a row that is joined stays -/
theorem row_stays : ∀ (l out : List Tree), rowB out.getLast? l = true → l.foldl joinStep out = out ++ l
  | [], out, _ => by simp
  | x :: l, out, h => by
    simp only [rowB, Bool.and_eq_true, Bool.not_eq_true'] at h
    obtain ⟨ha, hf, hr⟩ := h
    have hs : joinStep out x = out ++ [x] := by
      cases hk : isTxt x.kind with
      | false => exact joinStep_plain hk
      | true =>
        rw [formed_text hk] at hf
        have hne := (textB_parts hf).1
        have he : x.text.toList.isEmpty = false := by
          cases h : x.text.toList.isEmpty with
          | false => rfl
          | true => exact absurd (empty_data.1 h) hne
        cases hz : out.getLast? with
        | none =>
          have : out = [] := List.getLast?_eq_none_iff.1 hz
          subst this; exact joinStep_first he
        | some z =>
          rw [hz] at ha
          simp only [alikeO, alikeB, hk, Bool.true_and] at ha
          exact joinStep_other hz he ha
    rw [List.foldl_cons, hs, row_stays l _ (by simpa using hr), List.append_assoc]; rfl
theorem joinB_stays (l : List Tree) (h : rowB none l = true) : joinB l = l := by
  have := row_stays l [] (by simpa using h)
  simpa [joinB] using this

/-! ### run by run -/
def keepB (x : Tree) : Bool := !(isTxt x.kind && x.text.toList.isEmpty)
theorem join_skip (out : List Tree) (x : Tree) (h : keepB x = false) : joinStep out x = out := by
  simp only [keepB, Bool.not_eq_false', Bool.and_eq_true] at h
  exact joinStep_empty h.1 h.2
theorem join_filter : ∀ (l out : List Tree), (l.filter keepB).foldl joinStep out = l.foldl joinStep out
  | [], _ => rfl
  | x :: l, out => by
    cases h : keepB x with
    | true => rw [List.filter_cons_of_pos h, List.foldl_cons, List.foldl_cons, join_filter l]
    | false => rw [List.filter_cons_of_neg (by simp [h]), List.foldl_cons, join_skip out x h, join_filter l]

/-- The nodes of a run, as one. -/
def joinRun (z : Tree) : List Tree → Tree
  | [] => z
  | y :: l => joinRun (setText y (z.text ++ y.text)) l
def textsB (l : List Tree) : List UInt8 := (l.map fun x => x.text.data.toList).flatten
def emptyTree : Tree := .mk ByteArray.empty ByteArray.empty [] [] []
def asOneB : List Tree → Tree
  | [] => emptyTree
  | x :: l => joinRun x l
theorem textsB_append (a b : List Tree) : textsB (a ++ b) = textsB a ++ textsB b := by simp [textsB]
theorem textsB_one (x : Tree) : textsB [x] = x.text.data.toList := by simp [textsB]
theorem textsB_le : ∀ l : List Tree, (textsB l).length ≤ weighAll l
  | [] => by simp [textsB]
  | x :: l => by
    have h1 := textsB_le l
    have h2 := text_le_weigh x
    have h3 := Lib.size_eq x.text
    have h4 : textsB (x :: l) = x.text.data.toList ++ textsB l := by simp [textsB]
    rw [h4, List.length_append]; simp only [weighAll]; omega

theorem joinRun_last : ∀ (l : List Tree) (z y : Tree), l.getLast? = some y → joinRun z l = setText y ⟨(z.text.data.toList ++ textsB l).toArray⟩
  | [], _, _, h => by simp at h
  | [x], z, y, h => by
    simp at h; subst h
    simp only [joinRun, textsB_one]
    exact congrArg (setText x) (ByteArray.ext (Array.ext' (by simp [ByteArray.data_append])))
  | x :: x' :: l, z, y, h => by
    rw [joinRun, joinRun_last (x' :: l) _ y (by simpa [List.getLast?_cons] using h)]
    congr 1
    apply ByteArray.ext; apply Array.ext'
    simp [textsB, setText, Tree.text, ByteArray.data_append]
theorem asOneB_one (x : Tree) : asOneB [x] = x := rfl
theorem asOneB_many (l : List Tree) (y : Tree) (h1 : l.length ≠ 1) (hy : l.getLast? = some y) : asOneB l = setText y ⟨(textsB l).toArray⟩ := by
  rcases l with _ | ⟨x, l⟩
  · simp at hy
  · rcases l with _ | ⟨x', l⟩
    · simp at h1
    · simp only [asOneB]
      rw [joinRun_last (x' :: l) x y (by simpa [List.getLast?_cons] using hy)]
      rfl

theorem alike_like {z y x : Tree} (hk : z.kind = y.kind) (hm : z.marks = y.marks) : alikeB z x = alikeB y x := by simp only [alikeB, hk, hm]
theorem keepB_text {x : Tree} (h : keepB x = true) (hk : isTxt x.kind = true) : x.text.toList.isEmpty = false := by
  simpa [keepB, hk] using h

theorem run_fold (J : List Tree) : ∀ (l : List Tree) (z y : Tree), z.kind = y.kind → z.marks = y.marks → (∀ x ∈ l, keepB x = true) →
    (l.take (runB (y :: l) - 1)).foldl joinStep (J ++ [z]) = J ++ [joinRun z (l.take (runB (y :: l) - 1))] ∧ ∀ x, (l.drop (runB (y :: l) - 1)).head? = some x → alikeB (joinRun z (l.take (runB (y :: l) - 1))) x = false
  | [], z, y, _, _, _ => by simp [runB, joinRun]
  | x :: l, z, y, hk, hm, h => by
    rw [runB]
    cases ha : alikeB y x with
    | false =>
      simp only [Bool.false_eq_true, if_false, Nat.sub_self, List.take_zero, List.foldl_nil, joinRun, List.drop_zero, List.head?_cons, Option.some.injEq]
      refine ⟨trivial, ?_⟩
      rintro x' rfl
      rw [alike_like hk hm]; exact ha
    | true =>
      have hp := runB_pos (x :: l)
      have e : runB (x :: l) + 1 - 1 = (runB (x :: l) - 1) + 1 := by omega
      have hx := h x (by simp)
      have ha' := ha
      simp only [alikeB, Bool.and_eq_true] at ha'
      have hj : joinStep (J ++ [z]) x = J ++ [setText x (z.text ++ x.text)] := by
        rw [joinStep_on (z := z) (by simp) ha'.2.1 (keepB_text hx ha'.2.1) (by simp [joinsOn, hk, hm, ha'.1, ha'.2.2])]
        simp
      have ih := run_fold J l (setText x (z.text ++ x.text)) x rfl rfl (fun x' hx' => h x' (by simp [hx']))
      simp only [if_true]
      rw [e, List.take_succ_cons, List.foldl_cons, hj, List.drop_succ_cons, joinRun]
      exact ih

theorem join_run (J r : List Tree) (hr : r ≠ []) (hk : ∀ x ∈ r, keepB x = true) (hb : ∀ z x, J.getLast? = some z → r.head? = some x → alikeB z x = false) :
    (r.take (runB r)).foldl joinStep J = J ++ [asOneB (r.take (runB r))] ∧ ∀ x, (r.drop (runB r)).head? = some x → alikeB (asOneB (r.take (runB r))) x = false := by
  rcases r with _ | ⟨x, l⟩
  · exact absurd rfl hr
  · have hp := runB_pos (x :: l)
    have e : runB (x :: l) = (runB (x :: l) - 1) + 1 := by omega
    have hx := hk x (by simp)
    have hj : joinStep J x = J ++ [x] := by
      cases ht : isTxt x.kind with
      | false => exact joinStep_plain ht
      | true =>
        have he := keepB_text hx ht
        cases hz : J.getLast? with
        | none =>
          have : J = [] := List.getLast?_eq_none_iff.1 hz
          subst this; exact joinStep_first he
        | some z =>
          have ha := hb z x hz (by simp)
          simp only [alikeB, ht, Bool.true_and] at ha
          exact joinStep_other hz he ha
    have ih := run_fold J l x x rfl rfl (fun x' hx' => hk x' (by simp [hx']))
    generalize runB (x :: l) - 1 = n at *
    rw [e, List.take_succ_cons, List.foldl_cons, hj, List.drop_succ_cons, asOneB]
    exact ih
end Go.Proofs.YtdcgffepdgldmaaDoor

namespace Go.Proofs.YtdcgffepdgldmaaDoor
open Go.RowKit Go.Sort

/-- The code points of bytes. -/
def ptsF : Nat → List UInt8 → List Nat
  | 0, _ => []
  | n + 1, l => if l = [] then [] else (Lib.decodeL l).1 :: ptsF n (l.drop (Lib.decodeL l).2)
def pts (l : List UInt8) : List Nat := ptsF l.length l
theorem ptsF_more : ∀ (n m : Nat) (l : List UInt8), l.length ≤ n → l.length ≤ m → ptsF n l = ptsF m l
  | 0, m, l, h, _ => by
    have : l = [] := List.eq_nil_of_length_eq_zero (by omega)
    subst this; cases m <;> simp [ptsF]
  | n + 1, 0, l, _, h => by
    have : l = [] := List.eq_nil_of_length_eq_zero (by omega)
    subst this; simp [ptsF]
  | n + 1, m + 1, l, h1, h2 => by
    simp only [ptsF]
    split
    · rfl
    · rename_i hne
      have hw := Lib.decodeL_width l
      have hl : 0 < l.length := List.length_pos_iff.2 hne
      rw [ptsF_more n m _ (by rw [List.length_drop]; omega) (by rw [List.length_drop]; omega)]
theorem pts_nil : pts [] = [] := rfl
theorem pts_step (l : List UInt8) (h : l ≠ []) : pts l = (Lib.decodeL l).1 :: pts (l.drop (Lib.decodeL l).2) := by
  have hw := Lib.decodeL_width l
  have hl : 0 < l.length := List.length_pos_iff.2 h
  obtain ⟨n, hn⟩ : ∃ n, l.length = n + 1 := ⟨l.length - 1, by omega⟩
  unfold pts
  rw [hn, ptsF, if_neg h, ptsF_more n _ _ (by rw [List.length_drop]; omega) (Nat.le_refl _)]
theorem ptsF_count : ∀ (n : Nat) (l : List UInt8), l.length ≤ n → (pts l).length = Lib.runeCountL l
  | 0, l, h => by
    have : l = [] := List.eq_nil_of_length_eq_zero (by omega)
    subst this; rfl
  | n + 1, l, h => by
    by_cases hne : l = []
    · subst hne; rfl
    · have hw := Lib.decodeL_width l
      have hl : 0 < l.length := List.length_pos_iff.2 hne
      rw [pts_step l hne, rc_step l hne, List.length_cons, ptsF_count n _ (by rw [List.length_drop]; omega)]; omega
theorem pts_count (l : List UInt8) : (pts l).length = Lib.runeCountL l := ptsF_count _ l (Nat.le_refl _)

/-- The model's own code points are these. -/
theorem runesFrom_eq (s : ByteArray) : ∀ (n i : Nat) (acc : Array Value), s.size - i ≤ n → Conv.runesFrom s n i acc = acc ++ ((pts (s.data.toList.drop i)).map fun r : Nat => Value.int .i32 (r : Int)).toArray
  | 0, i, acc, h => by
    have : s.data.toList.drop i = [] := List.drop_of_length_le (by have := Lib.size_eq s; omega)
    rw [this, pts_nil]; simp [Conv.runesFrom]
  | n + 1, i, acc, h => by
    unfold Conv.runesFrom
    have hsz := Lib.size_eq s
    split
    · rename_i hi
      have hne : s.data.toList.drop i ≠ [] := fun e => by
        have := congrArg List.length e
        rw [List.length_drop] at this; simp at this; omega
      have hw := Lib.decodeL_width (s.data.toList.drop i)
      rw [Lib.decodeL_drop] at hw
      show Conv.runesFrom s n (i + (Utf8.decode s i).2) (acc.push (.int .i32 (Int.ofNat (Utf8.decode s i).1))) = _
      rw [runesFrom_eq s n _ _ (by omega), pts_step _ hne, Lib.decodeL_drop, List.drop_drop]
      simp
    · rename_i hi
      have : s.data.toList.drop i = [] := List.drop_of_length_le (by omega)
      rw [this, pts_nil]; simp

/-! ### the text of code points -/
theorem runeError_eq : Utf8.runeError = 65533 := rfl
theorem encode_eq (r : Nat) (h : Utf8.valid (r : Int) = true) : (Utf8.encode (r : Int)).data.toList = Lib.encodeRune (r : Int) := by
  have hv : ((0 : Int) ≤ r ∧ (r : Int) < 55296) ∨ (57344 ≤ (r : Int) ∧ (r : Int) ≤ 1114111) := by simpa [Utf8.valid] using h
  unfold Utf8.encode Lib.encodeRune
  simp only [h, if_true, Int.toNat_natCast]
  by_cases h1 : r < 128
  · rw [if_pos h1, Lib.encodeRuneZ_one (by omega) (by omega)]; simp
  · rw [if_neg h1]
    by_cases h2 : r < 2048
    · rw [if_pos h2, Lib.encodeRuneZ_two (by omega) (by omega)]
      simp only [List.map_cons, List.map_nil]
      rw [show (192 + (r : Int) / 64).toNat = 192 + r / 64 by omega, show (128 + (r : Int) % 64).toNat = 128 + r % 64 by omega]
    · rw [if_neg h2]
      by_cases h3 : r < 65536
      · rw [if_pos h3, Lib.encodeRuneZ_three (by omega)]
        simp only [List.map_cons, List.map_nil]
        rw [show (224 + (r : Int) / 4096).toNat = 224 + r / 4096 by omega, show (128 + (r : Int) / 64 % 64).toNat = 128 + r / 64 % 64 by omega, show (128 + (r : Int) % 64).toNat = 128 + r % 64 by omega]
      · rw [if_neg h3, Lib.encodeRuneZ_four (by omega) (by omega)]
        simp only [List.map_cons, List.map_nil]
        rw [show (240 + (r : Int) / 262144).toNat = 240 + r / 262144 by omega, show (128 + (r : Int) / 4096 % 64).toNat = 128 + r / 4096 % 64 by omega, show (128 + (r : Int) / 64 % 64).toNat = 128 + r / 64 % 64 by omega, show (128 + (r : Int) % 64).toNat = 128 + r % 64 by omega]
theorem valid_of (r : Nat) (h : r < 55296 ∨ (57344 ≤ r ∧ r ≤ 1114111)) : Utf8.valid (r : Int) = true := by
  simp only [Utf8.valid, Bool.or_eq_true, Bool.and_eq_true, decide_eq_true_eq]
  omega
theorem ok1 (x : Nat) (h : x < 55296) : x < 55296 ∨ (57344 ≤ x ∧ x ≤ 1114111) := .inl h
theorem ok3 (x : Nat) (h : x ≤ 65535) (h2 : x < 55296 ∨ 57344 ≤ x) : x < 55296 ∨ (57344 ≤ x ∧ x ≤ 1114111) := by omega
theorem ok4 (x : Nat) (h : 65536 ≤ x) (h2 : x ≤ 1114111) : x < 55296 ∨ (57344 ≤ x ∧ x ≤ 1114111) := by omega
theorem ok5 (x : Nat) (h : x = 65533) : x < 55296 ∨ (57344 ≤ x ∧ x ≤ 1114111) := by omega
theorem decodeN_valid (n b0 b1 b2 b3 : Nat) : (Lib.decodeN n b0 b1 b2 b3).1 < 55296 ∨ (57344 ≤ (Lib.decodeN n b0 b1 b2 b3).1 ∧ (Lib.decodeN n b0 b1 b2 b3).1 ≤ 1114111) := by
  generalize hx : (Lib.decodeN n b0 b1 b2 b3).1 = x
  rcases Lib.decodeN_shape n b0 b1 b2 b3 with ⟨c, e⟩ | ⟨d1, d2, d3, dv, e⟩ | ⟨d1, d2, d3, d4, dv, ds, e⟩ | ⟨d1, d2, d3, d4, d5, dv, dw, e⟩ | e
  · exact ok1 x (by rw [e] at hx; simp only at hx; omega)
  · exact ok1 x (by rw [e] at hx; simp only at hx; omega)
  · rw [e] at hx; simp only at hx
    rw [hx] at ds dv
    exact ok3 x (by omega) ds
  · rw [e] at hx; simp only at hx
    rw [hx] at dv dw
    exact ok4 x dv dw
  · exact ok5 x (by rw [e] at hx; simp only at hx; exact hx.symm)
theorem decode_valid (l : List UInt8) : Utf8.valid ((Lib.decodeL l).1 : Int) = true := by
  rw [Lib.decodeL_N]
  exact valid_of _ (decodeN_valid _ _ _ _ _)
def encZ (r : Int) : List UInt8 := (Utf8.encode r).data.toList
theorem encZ_eq (r : Int) : encZ r = (Utf8.encode r).data.toList := rfl
def encL (r : Nat) : List UInt8 := encZ (r : Int)
theorem encL_eq (r : Nat) : encL r = encZ (r : Int) := rfl
theorem encL_dec (l : List UInt8) (h : l ≠ []) (hv : ¬ ((Lib.decodeL l).1 = 65533 ∧ (Lib.decodeL l).2 = 1)) : encL (Lib.decodeL l).1 = l.take (Lib.decodeL l).2 := by
  rw [encL_eq, encZ_eq, encode_eq _ (decode_valid l), Lib.encode_decode l h hv]
theorem encL_bad : (encL 65533).length = 3 := by decide +kernel
/-- The text of the code points of a text. -/
def backB (l : List UInt8) : List UInt8 := ((pts l).map encL).flatten
theorem back_step (l : List UInt8) (h : l ≠ []) : backB l = encL (Lib.decodeL l).1 ++ backB (l.drop (Lib.decodeL l).2) := by
  unfold backB; rw [pts_step l h]; simp
theorem back_le : ∀ (n : Nat) (l : List UInt8), l.length ≤ n → l.length ≤ (backB l).length
  | 0, l, h => by omega
  | n + 1, l, h => by
    by_cases hne : l = []
    · subst hne; simp
    · have hw := Lib.decodeL_width l
      have hle := Lib.decodeL_le l hne
      have hl : 0 < l.length := List.length_pos_iff.2 hne
      have ih := back_le n (l.drop (Lib.decodeL l).2) (by rw [List.length_drop]; omega)
      rw [List.length_drop] at ih
      rw [back_step l hne, List.length_append]
      by_cases hv : (Lib.decodeL l).1 = 65533 ∧ (Lib.decodeL l).2 = 1
      · rw [hv.1, encL_bad]; omega
      · rw [encL_dec l hne hv, List.length_take]; omega
theorem back_valid : ∀ (n : Nat) (l : List UInt8), l.length ≤ n → Lib.validD l = true → backB l = l
  | 0, l, h, _ => by
    have : l = [] := List.eq_nil_of_length_eq_zero (by omega)
    subst this; rfl
  | n + 1, l, h, hv => by
    by_cases hne : l = []
    · subst hne; rfl
    · rw [Lib.validD_step l hne] at hv
      split at hv
      · cases hv
      · rename_i he
        have hw := Lib.decodeL_width l
        have hl : 0 < l.length := List.length_pos_iff.2 hne
        rw [back_step l hne, encL_dec l hne he, back_valid n _ (by rw [List.length_drop]; omega) hv, List.take_append_drop]
theorem back_invalid : ∀ (n : Nat) (l : List UInt8), l.length ≤ n → Lib.validD l = false → l.length < (backB l).length
  | 0, l, h, hv => by
    have : l = [] := List.eq_nil_of_length_eq_zero (by omega)
    subst this; exact absurd hv (by decide +kernel)
  | n + 1, l, h, hv => by
    by_cases hne : l = []
    · subst hne; exact absurd hv (by decide +kernel)
    · have hw := Lib.decodeL_width l
      have hle := Lib.decodeL_le l hne
      have hl : 0 < l.length := List.length_pos_iff.2 hne
      have hd : (l.drop (Lib.decodeL l).2).length = l.length - (Lib.decodeL l).2 := List.length_drop
      rw [Lib.validD_step l hne] at hv
      rw [back_step l hne, List.length_append]
      split at hv
      · rename_i he
        have := back_le _ (l.drop (Lib.decodeL l).2) (Nat.le_refl _)
        rw [he.1, encL_bad]; omega
      · rename_i he
        have := back_invalid n (l.drop (Lib.decodeL l).2) (by omega) hv
        rw [encL_dec l hne he, List.length_take]; omega
theorem back_same (l : List UInt8) : (backB l == l) = Lib.validD l := by
  cases hv : Lib.validD l with
  | true => rw [back_valid _ l (Nat.le_refl _) hv]; simp
  | false =>
    have := back_invalid _ l (Nat.le_refl _) hv
    rw [beq_eq_false_iff_ne]
    intro e; rw [e] at this; omega

theorem foldl_runes : ∀ (ns : List Int) (s : ByteArray), (ns.foldl (fun r n => r ++ Utf8.encode n) s).data.toList = s.data.toList ++ (ns.map encZ).flatten
  | [], s => by simp
  | n :: ns, s => by rw [List.foldl_cons, foldl_runes ns, ByteArray.data_append, Array.toList_append, List.map_cons, List.flatten_cons, encZ_eq, List.append_assoc]
theorem runesBytes_data (ps : List Nat) : (runesBytes (ps.map fun r : Nat => (r : Int))).data.toList = (ps.map encL).flatten := by
  have h1 : (ps.map fun r : Nat => (r : Int)).map encZ = ps.map encL := by
    rw [List.map_map]
    exact List.map_congr_left fun r _ => by rw [Function.comp_apply, encL_eq]
  have h2 : ByteArray.empty.data.toList = [] := rfl
  unfold runesBytes
  rw [foldl_runes, h1, h2, List.nil_append]

/-! ### what the conversions give, in memory -/
/-- A slice of code points. -/
def Pts (w : World) (S : Nat → Prop) (v : Value) (ps : List Nat) : Prop :=
  ∃ g c, v = .slice (some ⟨g, 0, none⟩) ps.length c ∧ ps.length ≤ c ∧ S g ∧ ∀ i (r : Nat), ps[i]? = some r → w.cell? ⟨g, i, none⟩ = some (.int .i32 (r : Int))
theorem run_runes (w : World) (s : ByteArray) (hs : s.size ≤ 100000000) :
    ∃ c obj, (convert 9 49 (.string s)).run Tryd.prog w = .ok (.slice (some ⟨w.heap.size, 0, none⟩) (pts s.data.toList).length c) (w.drew.alloc obj) ∧ (pts s.data.toList).length ≤ c ∧
      ∀ i (r : Nat), (pts s.data.toList)[i]? = some r → (w.drew.alloc obj).cell? ⟨w.heap.size, i, none⟩ = some (.int .i32 (r : Int)) := by
  have he : Conv.runesFrom s s.size 0 #[] = ((pts s.data.toList).map fun r : Nat => Value.int .i32 (r : Int)).toArray := by
    rw [runesFrom_eq s s.size 0 #[] (by omega)]; simp
  have hsz : (Conv.runesFrom s s.size 0 #[]).size = (pts s.data.toList).length := by rw [he]; simp
  have hle := size_runesFrom s s.size 0 #[]
  have hrun := run_runes_of_string (P := Tryd.prog) w 9 49 21 s Tryd.underlying9 Tryd.underlying49 Tryd.underlying21 (by simp at hle; omega)
  have hge := grownCap_ge w (Conv.runesFrom s s.size 0 #[]).size 0 21
  rw [hsz] at hrun hge
  refine ⟨_, _, hrun, by omega, fun i r hr => ?_⟩
  have hi := (List.getElem?_eq_some_iff.1 hr).1
  have hn : ∀ obj : Obj, (w.drew.alloc obj).heap[w.heap.size]? = some obj := fun obj => by show (w.heap.push obj)[w.heap.size]? = _; simp
  simp only [World.cell?, hn]
  rw [he]
  show (_ ++ _ : Array Value)[i]? = _
  rw [Array.getElem?_append_left (by simpa using hi)]
  simp [hr]
end Go.Proofs.YtdcgffepdgldmaaDoor
