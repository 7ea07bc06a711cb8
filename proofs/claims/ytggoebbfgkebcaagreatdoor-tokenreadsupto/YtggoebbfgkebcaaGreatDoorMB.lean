/-
  What codec.Head answers.
  append of one thing to a row of the call's own.
  What node.runLength answers.
  Joining, run by run: plain facts on trees (no program is named here).
  The code points of a text, and the text of code points: plain facts, and what both conversions give.
  Tokens: what they are, and a row of them as the call's own; what token.Of answers.
  What token.Of answers.
  What token.Same and token.Back answer.
-/
import Derived.Test.YtggoebbfgkebcaaGreatDoorMA
import Derived.Laws.RangeAny
import Derived.Lib.QuietBelow
import Derived.Lib.RuneCountTail
import Derived.Laws.Cover4
import Derived.Laws.IdiomStrings
import Derived.Lib.MapLaws
import Derived.Lib.TrimUEq
import Derived.Laws.Runes
import Derived.WalkMore
import Derived.Laws.StructEq
namespace Go.Proofs.YtggoebbfgkebcaaGreatDoor
open Go.RowKit Go.Sort

set_option maxHeartbeats 1000000 in
theorem head_any (v : Value) (t : Tree) (w : World) (h : Node w (Under w.heap.size) v t) (hw : weigh t ≤ 1000000) :
    Calls Tryz.prog 29 #[v] w fun e w' => e = .returned (.string ⟨(headW t).toArray⟩) ∧ Below w.heap.size w w' := by
  obtain ⟨vm, va, vk, rfl, hm, ha, hk⟩ := h
  obtain ⟨A1, c1, rfl, _⟩ := hm.form
  obtain ⟨A2, c2, rfl, _⟩ := ha.form
  obtain ⟨A3, c3, rfl, _⟩ := hk.form
  have HN : Hid (Node w (Under w.heap.size) (.agg #[.string t.kind, .string t.text, .slice A1 t.marks.length c1, .slice A2 t.attrs.length c2, .slice A3 t.kids.length c3]) t) := Lib.hid ⟨_, _, _, rfl, hm, ha, hk⟩
  clear hm ha hk
  have hb0 : Below w.heap.size w (w.alloc (.cells #[.string t.kind, .string t.text, .slice A1 t.marks.length c1, .slice A2 t.attrs.length c2, .slice A3 t.kids.length c3] 41)) := (Below.refl _ _).alloc (Nat.le_refl _) _
  have hz0 : (w.alloc (.cells #[.string t.kind, .string t.text, .slice A1 t.marks.length c1, .slice A2 t.attrs.length c2, .slice A3 t.kids.length c3] 41)).heap.size = w.heap.size + 1 := by simp
  have HB0 := Lib.hid hb0
  clear hb0
  go_enter Tryz.func29, Tryz.ntmps29
  go_wp2_with fail
  have HB := Lib.hid (buil_new (w.alloc (.cells #[.string t.kind, .string t.text, .slice A1 t.marks.length c1, .slice A2 t.attrs.length c2, .slice A3 t.kids.length c3] 41)))
  have HW : Hid (Below (w.alloc (.cells #[.string t.kind, .string t.text, .slice A1 t.marks.length c1, .slice A2 t.attrs.length c2, .slice A3 t.kids.length c3] 41)).heap.size (w.alloc (.cells #[.string t.kind, .string t.text, .slice A1 t.marks.length c1, .slice A2 t.attrs.length c2, .slice A3 t.kids.length c3] 41)) ((w.alloc (.cells #[.string t.kind, .string t.text, .slice A1 t.marks.length c1, .slice A2 t.attrs.length c2, .slice A3 t.kids.length c3] 41)).alloc (.cells #[.pointer none, .slice none 0 0] 45))) := Lib.hid ((Below.refl _ _).alloc (Nat.le_refl _) _)
  rw [← hz0]
  clear hz0
  generalize w.alloc (.cells #[.string t.kind, .string t.text, .slice A1 t.marks.length c1, .slice A2 t.attrs.length c2, .slice A3 t.kids.length c3] 41) = W0 at *
  generalize W0.alloc (.cells #[.pointer none, .slice none 0 0] 45) = W1 at *
  refine (writeHead_any W0.heap.size W0.heap.size [] _ t W1 HB.out (((HN.out.below HB0.out).more HB0.out.size).below HW.out) hw (by simp) HW.out.size).mono ?_
  rintro e w2 ⟨rfl, hb2, hB2, _⟩
  have HB2 := Lib.hid hb2
  have hW2 := HW.out.trans hB2
  clear hb2 hB2
  go_wp2_with fail
  refine (string_any W0.heap.size W0.heap.size _ w2 HB2.out hW2.size).mono ?_
  rintro e w3 ⟨rfl, _, hB3, _⟩
  have hW3 := belowNext HB0.out (hW2.trans hB3)
  clear hB3
  go_wp2
  go_ret
  exact ⟨rfl, hW3⟩
end Go.Proofs.YtggoebbfgkebcaaGreatDoor

namespace Go.Proofs.YtggoebbfgkebcaaGreatDoor
open Go.RowKit Go.Sort Go.Maps

section
variable {w : World} {ops : Array Oper} {rest : List Oper} {o : Oper} {a : Act} {Q : Exit → Act → World → Prop}
theorem wp_append_gen {K : Act → World → Prop} {t e : TypeId} {z : Value} {size bytes : Nat} (ht : Tryz.prog.underlying t = some (.slice e)) (hinfo : (Tryz.prog.info? e).map (fun i => (i.zero, i.size, i.bytes)) = some (some z, size, bytes)) (hzs : z.cells.size = size) (hsz : 0 < size) (hby : bytes ≤ 1000)
    (s x : Operand) (ho : o.op = .call { callee := .builtin .append, args := #[s, x], argTypes := #[t, t] })
    (base : Nat) (v : Value) (n : Nat) (xs : List Value) (g c : Nat) (news : List Value) (hs : a.eval s = v) (hx : a.eval x = .slice (some ⟨g, 0, none⟩) 1 c) (hown : w.ownsRow base e size v n xs)
    (hl : news.length = size) (hnews : ∀ j u, news[j]? = some u → w.cell? ⟨g, j, none⟩ = some u) (h1 : ∀ u ∈ news, u.oneCell' = true) (hn : n + 1 ≤ 100000000) (hbase : base ≤ w.heap.size)
    (h : ∀ v' w', w'.ownsRow base e size v' (n + 1) (xs ++ news) → w.grownBy w' v.ownBlock → K (a.put o.dst v') w') : o.wp Tryz.prog a w K Q := by
  obtain ⟨i, hi, hz0, hz1, hz2⟩ := info_parts hinfo
  obtain ⟨v', w', hr, h2, h3, _, _⟩ := run_append_own_at (P := Tryz.prog) w base t o.type e i z size bytes ht hi hz0 hz1 hz2 hzs hsz v n xs hown ⟨g, 0, none⟩ 1 c news (by rw [hl, Nat.one_mul]) (fun j u hj => by rw [add_cell, Nat.zero_add]; exact hnews j u hj) h1 (by unfold maxLen; omega) (Nat.le_trans (Nat.mul_le_mul hn hby) (by decide)) hbase
  unfold Oper.wp execOp
  simp only [ho, resolve, invoke, builtin, Sem.run_bind, Sem.run_pure, Result.andThen_ok, List.map_toArray, List.map_cons, List.map_nil, hs, hx, hr]
  exact h v' w' h2 h3
theorem step_append_gen {K : Act → World → Prop} {E : Prop} {t e : TypeId} {z : Value} {size bytes : Nat} (ht : Tryz.prog.underlying t = some (.slice e)) (hinfo : (Tryz.prog.info? e).map (fun i => (i.zero, i.size, i.bytes)) = some (some z, size, bytes)) (hzs : z.cells.size = size) (hsz : 0 < size) (hby : bytes ≤ 1000)
    (hgd : o.guard = none) (s x : Operand) (ho : o.op = .call { callee := .builtin .append, args := #[s, x], argTypes := #[t, t] })
    (base : Nat) (v : Value) (n : Nat) (xs : List Value) (g c : Nat) (news : List Value) (hs : a.eval s = v) (hx : a.eval x = .slice (some ⟨g, 0, none⟩) 1 c) (hown : w.ownsRow base e size v n xs)
    (hl : news.length = size) (hnews : ∀ j u, news[j]? = some u → w.cell? ⟨g, j, none⟩ = some u) (h1 : ∀ u ∈ news, u.oneCell' = true) (hn : n + 1 ≤ 100000000) (hbase : base ≤ w.heap.size)
    (h : ∀ v' w', w'.ownsRow base e size v' (n + 1) (xs ++ news) → w.grownBy w' v.ownBlock → K (a.put o.dst v') w') :
    if Region.wanted o (yielded ops a.tmps) = true then Oper.wp Tryz.prog o a w K Q else E := by
  have hw : Region.wanted o (yielded ops a.tmps) = true := by simp [Region.wanted, hgd]
  rw [if_pos hw]
  exact wp_append_gen ht hinfo hzs hsz hby s x ho base v n xs g c news hs hx hown hl hnews h1 hn hbase h
theorem wpList_append_gen {t e : TypeId} {z : Value} {size bytes : Nat} (ht : Tryz.prog.underlying t = some (.slice e)) (hinfo : (Tryz.prog.info? e).map (fun i => (i.zero, i.size, i.bytes)) = some (some z, size, bytes)) (hzs : z.cells.size = size) (hsz : 0 < size) (hby : bytes ≤ 1000)
    (hgd : o.guard = none) (s x : Operand) (ho : o.op = .call { callee := .builtin .append, args := #[s, x], argTypes := #[t, t] })
    (base : Nat) (v : Value) (n : Nat) (xs : List Value) (g c : Nat) (news : List Value) (hs : a.eval s = v) (hx : a.eval x = .slice (some ⟨g, 0, none⟩) 1 c) (hown : w.ownsRow base e size v n xs)
    (hl : news.length = size) (hnews : ∀ j u, news[j]? = some u → w.cell? ⟨g, j, none⟩ = some u) (h1 : ∀ u ∈ news, u.oneCell' = true) (hn : n + 1 ≤ 100000000) (hbase : base ≤ w.heap.size)
    (h : ∀ v' w', w'.ownsRow base e size v' (n + 1) (xs ++ news) → w.grownBy w' v.ownBlock → wpList Tryz.prog ops Q rest (a.put o.dst v') w') : wpList Tryz.prog ops Q (o :: rest) a w :=
  wpList_plain hgd fun _ hK => wp_append_gen ht hinfo hzs hsz hby s x ho base v n xs g c news hs hx hown hl hnews h1 hn hbase fun v' w' h1 h2 => hK _ _ (h v' w' h1 h2)
end

theorem str_info : (Tryz.prog.info? 9).map (fun i => (i.zero, i.size, i.bytes)) = some (some (.string ⟨#[]⟩), 1, 16) := by kernel_rfl
theorem pair_info : (Tryz.prog.info? 80).map (fun i => (i.zero, i.size, i.bytes)) = some (some (.agg #[.string ⟨#[]⟩, .string ⟨#[]⟩]), 2, 32) := by kernel_rfl

theorem fresh_cell (w : World) (cs : Array Value) (T : TypeId) (j : Nat) (v : Value) (h : cs[j]? = some v) : (w.alloc (.cells cs T)).cell? ⟨w.heap.size, j, none⟩ = some v := by
  unfold World.cell?
  simp only [heap_alloc_new]
  exact h
theorem five_cells {w : World} {g : Nat} {u0 u1 u2 u3 u4 : Value} {T : TypeId} (h : w.heap[g]? = some (.cells #[u0, u1, u2, u3, u4] T)) :
    w.cell? ⟨g, 0, none⟩ = some u0 ∧ w.cell? ⟨g, 1, none⟩ = some u1 ∧ w.cell? ⟨g, 2, none⟩ = some u2 ∧ w.cell? ⟨g, 3, none⟩ = some u3 ∧ w.cell? ⟨g, 4, none⟩ = some u4 := by
  simp [World.cell?, h]
theorem iter_below (w : World) (s : ByteArray) (p : Nat) : Below w.heap.size w (w.iter s p) := (Below.refl _ _).alloc (Nat.le_refl _) _
end Go.Proofs.YtggoebbfgkebcaaGreatDoor

namespace Go.Proofs.YtggoebbfgkebcaaGreatDoor
open Go.RowKit Go.Sort

/-- How many nodes at the beginning are to be one. -/
def runB : List Tree → Nat
  | [] => 1
  | [_] => 1
  | x :: y :: l => if alikeB x y then runB (y :: l) + 1 else 1
theorem runB_step {l : List Tree} {k : Nat} {x y : Tree} (hx : l[k]? = some x) (hy : l[k + 1]? = some y) : runB (l.drop k) = if alikeB x y then runB (l.drop (k + 1)) + 1 else 1 := by
  have h1 := (List.getElem?_eq_some_iff.1 hx).1
  have h2 := (List.getElem?_eq_some_iff.1 hy).1
  have e1 := (List.getElem?_eq_some_iff.1 hx).2
  have e2 := (List.getElem?_eq_some_iff.1 hy).2
  rw [List.drop_eq_getElem_cons h1, List.drop_eq_getElem_cons h2, e1, e2, runB]
theorem runB_last {l : List Tree} {k : Nat} (h : k + 1 = l.length) : runB (l.drop k) = 1 := by
  rw [List.drop_eq_getElem_cons (by omega), List.drop_eq_nil_of_le (by omega)]; rfl
theorem runB_pos : ∀ l : List Tree, 1 ≤ runB l
  | [] => by simp [runB]
  | [_] => by simp [runB]
  | x :: y :: l => by rw [runB]; split <;> omega
theorem runB_le : ∀ l : List Tree, l ≠ [] → runB l ≤ l.length
  | [], h => absurd rfl h
  | [_], _ => by simp [runB]
  | x :: y :: l, _ => by
    have := runB_le (y :: l) (by simp)
    rw [runB]; split <;> simp at this ⊢ <;> omega

end Go.Proofs.YtggoebbfgkebcaaGreatDoor

namespace Go.Proofs.YtggoebbfgkebcaaGreatDoor
open Go.RowKit Go.Sort

/-! ### code points of texts one behind the other -/
theorem rc_step (l : List UInt8) (h : l ≠ []) : Lib.runeCountL l = 1 + Lib.runeCountL (l.drop (Lib.decodeL l).2) := by
  have hl : 0 < l.length := List.length_pos_iff.2 h
  have hw := Lib.decodeL_width l
  unfold Lib.runeCountL Lib.runeCount
  generalize hs : (⟨l.toArray⟩ : ByteArray) = s
  have hsz : s.size = l.length := by subst hs; simp [ByteArray.size]
  have hd : Lib.decodeL l = Utf8.decode s 0 := by subst hs; rfl
  have hx : (⟨(l.drop (Lib.decodeL l).2).toArray⟩ : ByteArray) = s.extract (Lib.decodeL l).2 s.size := by
    apply ByteArray.ext
    apply Array.ext'
    subst hs
    simp [ByteArray.size, List.extract_eq_take_drop]
    rw [List.take_of_length_le (by simp)]
  rw [hx]
  have he : (s.extract (Lib.decodeL l).2 s.size).size = l.length - (Lib.decodeL l).2 := by simp [ByteArray.size_extract, hsz]
  rw [he, hsz]
  obtain ⟨n, hn⟩ : ∃ n, l.length = n + 1 := ⟨l.length - 1, by omega⟩
  have h1 : Lib.runeCountFrom s l.length 0 = 1 + Lib.runeCountFrom s n (0 + (Utf8.decode s 0).2) := by
    rw [hn, Lib.runeCountFrom, if_pos (by omega)]
  rw [h1, ← hd, Nat.zero_add, ← hsz, Lib.tail_count, Nat.add_zero, hsz]
  congr 1
  exact Lib.fuel_enough s _ _ _ (by omega) (by omega)
theorem rc_nil : Lib.runeCountL [] = 0 := rfl
theorem rc_app : ∀ (n : Nat) (a b : List UInt8), a.length ≤ n → Lib.validD a = true → Lib.runeCountL (a ++ b) = Lib.runeCountL a + Lib.runeCountL b
  | 0, a, b, hn, _ => by
    have : a = [] := List.eq_nil_of_length_eq_zero (by omega)
    subst this; rw [List.nil_append, rc_nil, Nat.zero_add]
  | n + 1, a, b, hn, ha => by
    by_cases hne : a = []
    · subst hne; rw [List.nil_append, rc_nil, Nat.zero_add]
    · rw [Lib.validD_step a hne] at ha
      split at ha
      · cases ha
      · rename_i hv
        have hw := Lib.decodeL_width a
        have hle := Lib.decodeL_le a hne
        have hl : 0 < a.length := List.length_pos_iff.2 hne
        rw [rc_step (a ++ b) (by simp [hne]), rc_step a hne, decodeL_app a b hne hv, List.drop_append_of_le_length hle, rc_app n _ b (by rw [List.length_drop]; omega) ha]
        omega
theorem runeCount_app (a b : ByteArray) (h : Lib.validD a.data.toList = true) : Lib.runeCount (a ++ b) = Lib.runeCount a + Lib.runeCount b := by
  rw [← Lib.runeCountL_eq, ← Lib.runeCountL_eq a, ← Lib.runeCountL_eq b, ByteArray.data_append, Array.toList_append]
  exact rc_app _ _ _ (Nat.le_refl _) h

/-! ### what a round of joining keeps -/
theorem words_step (out : List Tree) (n : Tree) : wordsAll (joinStep out n) = wordsAll out ++ wordsB n := by
  have hone : wordsAll [n] = wordsB n := by simp [wordsAll]
  unfold joinStep
  split
  · rename_i h
    simp only [Bool.and_eq_true] at h
    have h2 := empty_data.1 h.2
    obtain ⟨k, t, m, a, l⟩ := n
    simp only [Tree.kind, Tree.text] at *
    simp [wordsB, h.1, h2]
  · split
    · rename_i z hz
      split
      · rename_i h
        simp only [Bool.and_eq_true, joinsOn] at h
        have e := dropLast_getLast? hz
        obtain ⟨k, t, m, a, l⟩ := n
        obtain ⟨k', t', m', a', l'⟩ := z
        simp only [Tree.kind, Tree.text] at *
        have e2 := congrArg wordsAll e
        rw [wordsAll_append] at e2
        rw [e2, wordsAll_append]
        simp [wordsAll, wordsB, setText, h.1, h.2.1, Tree.kind]
      · rw [wordsAll_append, hone]
    · rw [wordsAll_append, hone]
theorem words_fold : ∀ (l out : List Tree), wordsAll (l.foldl joinStep out) = wordsAll out ++ wordsAll l
  | [], out => by simp [wordsAll]
  | x :: l, out => by rw [List.foldl_cons, words_fold l, words_step, List.append_assoc]; simp [wordsAll]
theorem joinB_words (l : List Tree) : wordsAll (joinB l) = wordsAll l := by unfold joinB; rw [words_fold]; simp [wordsAll]

theorem total_step (out : List Tree) (n : Tree) (ho : ∀ z ∈ out, isTxt z.kind = true → Lib.validD z.text.data.toList = true) : totalB (joinStep out n) = totalB out + sizeB n := by
  have hone : totalB [n] = sizeB n := by simp [totalB]
  unfold joinStep
  split
  · rename_i h
    simp only [Bool.and_eq_true] at h
    have h2 := empty_data.1 h.2
    obtain ⟨k, t, m, a, l⟩ := n
    simp only [Tree.kind, Tree.text] at *
    have : Lib.runeCount t = 0 := by rw [← Lib.runeCountL_eq, h2]; rfl
    simp [sizeB, h.1, this]
  · split
    · rename_i z hz
      split
      · rename_i h
        simp only [Bool.and_eq_true, joinsOn] at h
        have e := dropLast_getLast? hz
        have hv := ho z (List.mem_of_getLast? hz) h.2.1
        have e2 := congrArg totalB e
        rw [totalB_append] at e2
        rw [e2, totalB_append]
        obtain ⟨k, t, m, a, l⟩ := n
        obtain ⟨k', t', m', a', l'⟩ := z
        simp only [Tree.kind, Tree.text] at *
        simp only [totalB, sizeB, setText, Tree.kind, h.1, h.2.1, if_true, runeCount_app t' t hv]
        omega
      · rw [totalB_append, hone]
    · rw [totalB_append, hone]
theorem row_valid : ∀ (l : List Tree) (p : Option Tree), rowB p l = true → ∀ z ∈ l, isTxt z.kind = true → Lib.validD z.text.data.toList = true
  | [], _, _, z, hz, _ => by cases hz
  | x :: l, p, h, z, hz, ht => by
    simp only [rowB, Bool.and_eq_true] at h
    rcases List.mem_cons.1 hz with e | e
    · subst e
      have h1 := h.2.1
      rw [formed_text ht] at h1
      exact (textB_parts h1).2.1
    · exact row_valid l (some x) h.2.2 z e ht
theorem total_fold : ∀ (l out : List Tree), rowB none out = true → (∀ x ∈ l, formedB x = true) → totalB (l.foldl joinStep out) = totalB out + totalB l
  | [], out, _, _ => by simp [totalB]
  | x :: l, out, ho, h => by
    rw [List.foldl_cons, total_fold l _ (joinStep_row out x ho (h x (by simp))) (fun y hy => h y (by simp [hy])), total_step out x (row_valid out none ho)]
    simp only [totalB]; omega
theorem joinB_total (l : List Tree) (h : ∀ x ∈ l, formedB x = true) : totalB (joinB l) = totalB l := by
  unfold joinB; rw [total_fold l [] (by simp [rowB]) h]; simp [totalB]

/-! ### a row that is joined stays -/
theorem row_stays : ∀ (l out : List Tree), rowB out.getLast? l = true → l.foldl joinStep out = out ++ l
  | [], out, _ => by simp
  | x :: l, out, h => by
    simp only [rowB, Bool.and_eq_true, Bool.not_eq_true'] at h
    obtain ⟨ha, hf, hr⟩ := h
    have hs : joinStep out x = out ++ [x] := by
      cases hk : isTxt x.kind with
      | false => exact joinStep_plain hk
      | true =>
        rw [formed_text hk] at hf
        have hne := (textB_parts hf).1
        have he : x.text.toList.isEmpty = false := by
          cases h : x.text.toList.isEmpty with
          | false => rfl
          | true => exact absurd (empty_data.1 h) hne
        cases hz : out.getLast? with
        | none =>
          have : out = [] := List.getLast?_eq_none_iff.1 hz
          subst this; exact joinStep_first he
        | some z =>
          rw [hz] at ha
          simp only [alikeO, alikeB, hk, Bool.true_and] at ha
          exact joinStep_other hz he ha
    rw [List.foldl_cons, hs, row_stays l _ (by simpa using hr), List.append_assoc]; rfl
theorem joinB_stays (l : List Tree) (h : rowB none l = true) : joinB l = l := by
  have := row_stays l [] (by simpa using h)
  simpa [joinB] using this

/-! ### run by run -/
def keepB (x : Tree) : Bool := !(isTxt x.kind && x.text.toList.isEmpty)
theorem join_skip (out : List Tree) (x : Tree) (h : keepB x = false) : joinStep out x = out := by
  simp only [keepB, Bool.not_eq_false', Bool.and_eq_true] at h
  exact joinStep_empty h.1 h.2
theorem join_filter : ∀ (l out : List Tree), (l.filter keepB).foldl joinStep out = l.foldl joinStep out
  | [], _ => rfl
  | x :: l, out => by
    cases h : keepB x with
    | true => rw [List.filter_cons_of_pos h, List.foldl_cons, List.foldl_cons, join_filter l]
    | false => rw [List.filter_cons_of_neg (by simp [h]), List.foldl_cons, join_skip out x h, join_filter l]

/-- The nodes of a run, as one. -/
def joinRun (z : Tree) : List Tree → Tree
  | [] => z
  | y :: l => joinRun (setText y (z.text ++ y.text)) l
def textsB (l : List Tree) : List UInt8 := (l.map fun x => x.text.data.toList).flatten
def emptyTree : Tree := .mk ByteArray.empty ByteArray.empty [] [] []
def asOneB : List Tree → Tree
  | [] => emptyTree
  | x :: l => joinRun x l
theorem textsB_append (a b : List Tree) : textsB (a ++ b) = textsB a ++ textsB b := by simp [textsB]
theorem textsB_one (x : Tree) : textsB [x] = x.text.data.toList := by simp [textsB]
theorem textsB_le : ∀ l : List Tree, (textsB l).length ≤ weighAll l
  | [] => by simp [textsB]
  | x :: l => by
    have h1 := textsB_le l
    have h2 := text_le_weigh x
    have h3 := Lib.size_eq x.text
    have h4 : textsB (x :: l) = x.text.data.toList ++ textsB l := by simp [textsB]
    rw [h4, List.length_append]; simp only [weighAll]; omega

theorem joinRun_last : ∀ (l : List Tree) (z y : Tree), l.getLast? = some y → joinRun z l = setText y ⟨(z.text.data.toList ++ textsB l).toArray⟩
  | [], _, _, h => by simp at h
  | [x], z, y, h => by
    simp at h; subst h
    simp only [joinRun, textsB_one]
    exact congrArg (setText x) (ByteArray.ext (Array.ext' (by simp [ByteArray.data_append])))
  | x :: x' :: l, z, y, h => by
    rw [joinRun, joinRun_last (x' :: l) _ y (by simpa [List.getLast?_cons] using h)]
    congr 1
    apply ByteArray.ext; apply Array.ext'
    simp [textsB, setText, Tree.text, ByteArray.data_append]
theorem asOneB_one (x : Tree) : asOneB [x] = x := rfl
theorem asOneB_many (l : List Tree) (y : Tree) (h1 : l.length ≠ 1) (hy : l.getLast? = some y) : asOneB l = setText y ⟨(textsB l).toArray⟩ := by
  rcases l with _ | ⟨x, l⟩
  · simp at hy
  · rcases l with _ | ⟨x', l⟩
    · simp at h1
    · simp only [asOneB]
      rw [joinRun_last (x' :: l) x y (by simpa [List.getLast?_cons] using hy)]
      rfl

theorem alike_like {z y x : Tree} (hk : z.kind = y.kind) (hm : z.marks = y.marks) : alikeB z x = alikeB y x := by simp only [alikeB, hk, hm]
theorem keepB_text {x : Tree} (h : keepB x = true) (hk : isTxt x.kind = true) : x.text.toList.isEmpty = false := by
  simpa [keepB, hk] using h

theorem run_fold (J : List Tree) : ∀ (l : List Tree) (z y : Tree), z.kind = y.kind → z.marks = y.marks → (∀ x ∈ l, keepB x = true) →
    (l.take (runB (y :: l) - 1)).foldl joinStep (J ++ [z]) = J ++ [joinRun z (l.take (runB (y :: l) - 1))] ∧ ∀ x, (l.drop (runB (y :: l) - 1)).head? = some x → alikeB (joinRun z (l.take (runB (y :: l) - 1))) x = false
  | [], z, y, _, _, _ => by simp [runB, joinRun]
  | x :: l, z, y, hk, hm, h => by
    rw [runB]
    cases ha : alikeB y x with
    | false =>
      simp only [Bool.false_eq_true, if_false, Nat.sub_self, List.take_zero, List.foldl_nil, joinRun, List.drop_zero, List.head?_cons, Option.some.injEq]
      refine ⟨trivial, ?_⟩
      rintro x' rfl
      rw [alike_like hk hm]; exact ha
    | true =>
      have hp := runB_pos (x :: l)
      have e : runB (x :: l) + 1 - 1 = (runB (x :: l) - 1) + 1 := by omega
      have hx := h x (by simp)
      have ha' := ha
      simp only [alikeB, Bool.and_eq_true] at ha'
      have hj : joinStep (J ++ [z]) x = J ++ [setText x (z.text ++ x.text)] := by
        rw [joinStep_on (z := z) (by simp) ha'.2.1 (keepB_text hx ha'.2.1) (by simp [joinsOn, hk, hm, ha'.1, ha'.2.2])]
        simp
      have ih := run_fold J l (setText x (z.text ++ x.text)) x rfl rfl (fun x' hx' => h x' (by simp [hx']))
      simp only [if_true]
      rw [e, List.take_succ_cons, List.foldl_cons, hj, List.drop_succ_cons, joinRun]
      exact ih

theorem join_run (J r : List Tree) (hr : r ≠ []) (hk : ∀ x ∈ r, keepB x = true) (hb : ∀ z x, J.getLast? = some z → r.head? = some x → alikeB z x = false) :
    (r.take (runB r)).foldl joinStep J = J ++ [asOneB (r.take (runB r))] ∧ ∀ x, (r.drop (runB r)).head? = some x → alikeB (asOneB (r.take (runB r))) x = false := by
  rcases r with _ | ⟨x, l⟩
  · exact absurd rfl hr
  · have hp := runB_pos (x :: l)
    have e : runB (x :: l) = (runB (x :: l) - 1) + 1 := by omega
    have hx := hk x (by simp)
    have hj : joinStep J x = J ++ [x] := by
      cases ht : isTxt x.kind with
      | false => exact joinStep_plain ht
      | true =>
        have he := keepB_text hx ht
        cases hz : J.getLast? with
        | none =>
          have : J = [] := List.getLast?_eq_none_iff.1 hz
          subst this; exact joinStep_first he
        | some z =>
          have ha := hb z x hz (by simp)
          simp only [alikeB, ht, Bool.true_and] at ha
          exact joinStep_other hz he ha
    have ih := run_fold J l x x rfl rfl (fun x' hx' => hk x' (by simp [hx']))
    generalize runB (x :: l) - 1 = n at *
    rw [e, List.take_succ_cons, List.foldl_cons, hj, List.drop_succ_cons, asOneB]
    exact ih
end Go.Proofs.YtggoebbfgkebcaaGreatDoor

namespace Go.Proofs.YtggoebbfgkebcaaGreatDoor
open Go.RowKit Go.Sort

/-- The code points of bytes. -/
def ptsF : Nat → List UInt8 → List Nat
  | 0, _ => []
  | n + 1, l => if l = [] then [] else (Lib.decodeL l).1 :: ptsF n (l.drop (Lib.decodeL l).2)
def pts (l : List UInt8) : List Nat := ptsF l.length l
theorem ptsF_more : ∀ (n m : Nat) (l : List UInt8), l.length ≤ n → l.length ≤ m → ptsF n l = ptsF m l
  | 0, m, l, h, _ => by
    have : l = [] := List.eq_nil_of_length_eq_zero (by omega)
    subst this; cases m <;> simp [ptsF]
  | n + 1, 0, l, _, h => by
    have : l = [] := List.eq_nil_of_length_eq_zero (by omega)
    subst this; simp [ptsF]
  | n + 1, m + 1, l, h1, h2 => by
    simp only [ptsF]
    split
    · rfl
    · rename_i hne
      have hw := Lib.decodeL_width l
      have hl : 0 < l.length := List.length_pos_iff.2 hne
      rw [ptsF_more n m _ (by rw [List.length_drop]; omega) (by rw [List.length_drop]; omega)]
theorem pts_nil : pts [] = [] := rfl
theorem pts_step (l : List UInt8) (h : l ≠ []) : pts l = (Lib.decodeL l).1 :: pts (l.drop (Lib.decodeL l).2) := by
  have hw := Lib.decodeL_width l
  have hl : 0 < l.length := List.length_pos_iff.2 h
  obtain ⟨n, hn⟩ : ∃ n, l.length = n + 1 := ⟨l.length - 1, by omega⟩
  unfold pts
  rw [hn, ptsF, if_neg h, ptsF_more n _ _ (by rw [List.length_drop]; omega) (Nat.le_refl _)]
theorem ptsF_count : ∀ (n : Nat) (l : List UInt8), l.length ≤ n → (pts l).length = Lib.runeCountL l
  | 0, l, h => by
    have : l = [] := List.eq_nil_of_length_eq_zero (by omega)
    subst this; rfl
  | n + 1, l, h => by
    by_cases hne : l = []
    · subst hne; rfl
    · have hw := Lib.decodeL_width l
      have hl : 0 < l.length := List.length_pos_iff.2 hne
      rw [pts_step l hne, rc_step l hne, List.length_cons, ptsF_count n _ (by rw [List.length_drop]; omega)]; omega
theorem pts_count (l : List UInt8) : (pts l).length = Lib.runeCountL l := ptsF_count _ l (Nat.le_refl _)

/-- The model's own code points are these. -/
theorem runesFrom_eq (s : ByteArray) : ∀ (n i : Nat) (acc : Array Value), s.size - i ≤ n → Conv.runesFrom s n i acc = acc ++ ((pts (s.data.toList.drop i)).map fun r : Nat => Value.int .i32 (r : Int)).toArray
  | 0, i, acc, h => by
    have : s.data.toList.drop i = [] := List.drop_of_length_le (by have := Lib.size_eq s; omega)
    rw [this, pts_nil]; simp [Conv.runesFrom]
  | n + 1, i, acc, h => by
    unfold Conv.runesFrom
    have hsz := Lib.size_eq s
    split
    · rename_i hi
      have hne : s.data.toList.drop i ≠ [] := fun e => by
        have := congrArg List.length e
        rw [List.length_drop] at this; simp at this; omega
      have hw := Lib.decodeL_width (s.data.toList.drop i)
      rw [Lib.decodeL_drop] at hw
      show Conv.runesFrom s n (i + (Utf8.decode s i).2) (acc.push (.int .i32 (Int.ofNat (Utf8.decode s i).1))) = _
      rw [runesFrom_eq s n _ _ (by omega), pts_step _ hne, Lib.decodeL_drop, List.drop_drop]
      simp
    · rename_i hi
      have : s.data.toList.drop i = [] := List.drop_of_length_le (by omega)
      rw [this, pts_nil]; simp

/-! ### the text of code points -/
theorem runeError_eq : Utf8.runeError = 65533 := rfl
theorem encode_eq (r : Nat) (h : Utf8.valid (r : Int) = true) : (Utf8.encode (r : Int)).data.toList = Lib.encodeRune (r : Int) := by
  have hv : ((0 : Int) ≤ r ∧ (r : Int) < 55296) ∨ (57344 ≤ (r : Int) ∧ (r : Int) ≤ 1114111) := by simpa [Utf8.valid] using h
  unfold Utf8.encode Lib.encodeRune
  simp only [h, if_true, Int.toNat_natCast]
  by_cases h1 : r < 128
  · rw [if_pos h1, Lib.encodeRuneZ_one (by omega) (by omega)]; simp
  · rw [if_neg h1]
    by_cases h2 : r < 2048
    · rw [if_pos h2, Lib.encodeRuneZ_two (by omega) (by omega)]
      simp only [List.map_cons, List.map_nil]
      rw [show (192 + (r : Int) / 64).toNat = 192 + r / 64 by omega, show (128 + (r : Int) % 64).toNat = 128 + r % 64 by omega]
    · rw [if_neg h2]
      by_cases h3 : r < 65536
      · rw [if_pos h3, Lib.encodeRuneZ_three (by omega)]
        simp only [List.map_cons, List.map_nil]
        rw [show (224 + (r : Int) / 4096).toNat = 224 + r / 4096 by omega, show (128 + (r : Int) / 64 % 64).toNat = 128 + r / 64 % 64 by omega, show (128 + (r : Int) % 64).toNat = 128 + r % 64 by omega]
      · rw [if_neg h3, Lib.encodeRuneZ_four (by omega) (by omega)]
        simp only [List.map_cons, List.map_nil]
        rw [show (240 + (r : Int) / 262144).toNat = 240 + r / 262144 by omega, show (128 + (r : Int) / 4096 % 64).toNat = 128 + r / 4096 % 64 by omega, show (128 + (r : Int) / 64 % 64).toNat = 128 + r / 64 % 64 by omega, show (128 + (r : Int) % 64).toNat = 128 + r % 64 by omega]
theorem valid_of (r : Nat) (h : r < 55296 ∨ (57344 ≤ r ∧ r ≤ 1114111)) : Utf8.valid (r : Int) = true := by
  simp only [Utf8.valid, Bool.or_eq_true, Bool.and_eq_true, decide_eq_true_eq]
  omega
theorem ok1 (x : Nat) (h : x < 55296) : x < 55296 ∨ (57344 ≤ x ∧ x ≤ 1114111) := .inl h
theorem ok3 (x : Nat) (h : x ≤ 65535) (h2 : x < 55296 ∨ 57344 ≤ x) : x < 55296 ∨ (57344 ≤ x ∧ x ≤ 1114111) := by omega
theorem ok4 (x : Nat) (h : 65536 ≤ x) (h2 : x ≤ 1114111) : x < 55296 ∨ (57344 ≤ x ∧ x ≤ 1114111) := by omega
theorem ok5 (x : Nat) (h : x = 65533) : x < 55296 ∨ (57344 ≤ x ∧ x ≤ 1114111) := by omega
theorem decodeN_valid (n b0 b1 b2 b3 : Nat) : (Lib.decodeN n b0 b1 b2 b3).1 < 55296 ∨ (57344 ≤ (Lib.decodeN n b0 b1 b2 b3).1 ∧ (Lib.decodeN n b0 b1 b2 b3).1 ≤ 1114111) := by
  generalize hx : (Lib.decodeN n b0 b1 b2 b3).1 = x
  rcases Lib.decodeN_shape n b0 b1 b2 b3 with ⟨c, e⟩ | ⟨d1, d2, d3, dv, e⟩ | ⟨d1, d2, d3, d4, dv, ds, e⟩ | ⟨d1, d2, d3, d4, d5, dv, dw, e⟩ | e
  · exact ok1 x (by rw [e] at hx; simp only at hx; omega)
  · exact ok1 x (by rw [e] at hx; simp only at hx; omega)
  · rw [e] at hx; simp only at hx
    rw [hx] at ds dv
    exact ok3 x (by omega) ds
  · rw [e] at hx; simp only at hx
    rw [hx] at dv dw
    exact ok4 x dv dw
  · exact ok5 x (by rw [e] at hx; simp only at hx; exact hx.symm)
theorem decode_valid (l : List UInt8) : Utf8.valid ((Lib.decodeL l).1 : Int) = true := by
  rw [Lib.decodeL_N]
  exact valid_of _ (decodeN_valid _ _ _ _ _)
def encZ (r : Int) : List UInt8 := (Utf8.encode r).data.toList
theorem encZ_eq (r : Int) : encZ r = (Utf8.encode r).data.toList := rfl
def encL (r : Nat) : List UInt8 := encZ (r : Int)
theorem encL_eq (r : Nat) : encL r = encZ (r : Int) := rfl
theorem encL_dec (l : List UInt8) (h : l ≠ []) (hv : ¬ ((Lib.decodeL l).1 = 65533 ∧ (Lib.decodeL l).2 = 1)) : encL (Lib.decodeL l).1 = l.take (Lib.decodeL l).2 := by
  rw [encL_eq, encZ_eq, encode_eq _ (decode_valid l), Lib.encode_decode l h hv]
theorem encL_bad : (encL 65533).length = 3 := by decide +kernel
/-- The text of the code points of a text. -/
def backB (l : List UInt8) : List UInt8 := ((pts l).map encL).flatten
theorem back_step (l : List UInt8) (h : l ≠ []) : backB l = encL (Lib.decodeL l).1 ++ backB (l.drop (Lib.decodeL l).2) := by
  unfold backB; rw [pts_step l h]; simp
theorem back_le : ∀ (n : Nat) (l : List UInt8), l.length ≤ n → l.length ≤ (backB l).length
  | 0, l, h => by omega
  | n + 1, l, h => by
    by_cases hne : l = []
    · subst hne; simp
    · have hw := Lib.decodeL_width l
      have hle := Lib.decodeL_le l hne
      have hl : 0 < l.length := List.length_pos_iff.2 hne
      have ih := back_le n (l.drop (Lib.decodeL l).2) (by rw [List.length_drop]; omega)
      rw [List.length_drop] at ih
      rw [back_step l hne, List.length_append]
      by_cases hv : (Lib.decodeL l).1 = 65533 ∧ (Lib.decodeL l).2 = 1
      · rw [hv.1, encL_bad]; omega
      · rw [encL_dec l hne hv, List.length_take]; omega
theorem back_valid : ∀ (n : Nat) (l : List UInt8), l.length ≤ n → Lib.validD l = true → backB l = l
  | 0, l, h, _ => by
    have : l = [] := List.eq_nil_of_length_eq_zero (by omega)
    subst this; rfl
  | n + 1, l, h, hv => by
    by_cases hne : l = []
    · subst hne; rfl
    · rw [Lib.validD_step l hne] at hv
      split at hv
      · cases hv
      · rename_i he
        have hw := Lib.decodeL_width l
        have hl : 0 < l.length := List.length_pos_iff.2 hne
        rw [back_step l hne, encL_dec l hne he, back_valid n _ (by rw [List.length_drop]; omega) hv, List.take_append_drop]
theorem back_invalid : ∀ (n : Nat) (l : List UInt8), l.length ≤ n → Lib.validD l = false → l.length < (backB l).length
  | 0, l, h, hv => by
    have : l = [] := List.eq_nil_of_length_eq_zero (by omega)
    subst this; exact absurd hv (by decide +kernel)
  | n + 1, l, h, hv => by
    by_cases hne : l = []
    · subst hne; exact absurd hv (by decide +kernel)
    · have hw := Lib.decodeL_width l
      have hle := Lib.decodeL_le l hne
      have hl : 0 < l.length := List.length_pos_iff.2 hne
      have hd : (l.drop (Lib.decodeL l).2).length = l.length - (Lib.decodeL l).2 := List.length_drop
      rw [Lib.validD_step l hne] at hv
      rw [back_step l hne, List.length_append]
      split at hv
      · rename_i he
        have := back_le _ (l.drop (Lib.decodeL l).2) (Nat.le_refl _)
        rw [he.1, encL_bad]; omega
      · rename_i he
        have := back_invalid n (l.drop (Lib.decodeL l).2) (by omega) hv
        rw [encL_dec l hne he, List.length_take]; omega
theorem back_same (l : List UInt8) : (backB l == l) = Lib.validD l := by
  cases hv : Lib.validD l with
  | true => rw [back_valid _ l (Nat.le_refl _) hv]; simp
  | false =>
    have := back_invalid _ l (Nat.le_refl _) hv
    rw [beq_eq_false_iff_ne]
    intro e; rw [e] at this; omega

theorem foldl_runes : ∀ (ns : List Int) (s : ByteArray), (ns.foldl (fun r n => r ++ Utf8.encode n) s).data.toList = s.data.toList ++ (ns.map encZ).flatten
  | [], s => by simp
  | n :: ns, s => by rw [List.foldl_cons, foldl_runes ns, ByteArray.data_append, Array.toList_append, List.map_cons, List.flatten_cons, encZ_eq, List.append_assoc]
theorem runesBytes_data (ps : List Nat) : (runesBytes (ps.map fun r : Nat => (r : Int))).data.toList = (ps.map encL).flatten := by
  have h1 : (ps.map fun r : Nat => (r : Int)).map encZ = ps.map encL := by
    rw [List.map_map]
    exact List.map_congr_left fun r _ => by rw [Function.comp_apply, encL_eq]
  have h2 : ByteArray.empty.data.toList = [] := rfl
  unfold runesBytes
  rw [foldl_runes, h1, h2, List.nil_append]

/-! ### what the conversions give, in memory -/
/-- A slice of code points. -/
def Pts (w : World) (S : Nat → Prop) (v : Value) (ps : List Nat) : Prop :=
  ∃ g c, v = .slice (some ⟨g, 0, none⟩) ps.length c ∧ ps.length ≤ c ∧ S g ∧ ∀ i (r : Nat), ps[i]? = some r → w.cell? ⟨g, i, none⟩ = some (.int .i32 (r : Int))
theorem run_runes (w : World) (s : ByteArray) (hs : s.size ≤ 100000000) :
    ∃ c obj, (convert 9 82 (.string s)).run Tryz.prog w = .ok (.slice (some ⟨w.heap.size, 0, none⟩) (pts s.data.toList).length c) (w.drew.alloc obj) ∧ (pts s.data.toList).length ≤ c ∧
      ∀ i (r : Nat), (pts s.data.toList)[i]? = some r → (w.drew.alloc obj).cell? ⟨w.heap.size, i, none⟩ = some (.int .i32 (r : Int)) := by
  have he : Conv.runesFrom s s.size 0 #[] = ((pts s.data.toList).map fun r : Nat => Value.int .i32 (r : Int)).toArray := by
    rw [runesFrom_eq s s.size 0 #[] (by omega)]; simp
  have hsz : (Conv.runesFrom s s.size 0 #[]).size = (pts s.data.toList).length := by rw [he]; simp
  have hle := size_runesFrom s s.size 0 #[]
  have hrun := run_runes_of_string (P := Tryz.prog) w 9 82 21 s Tryz.underlying9 Tryz.underlying82 Tryz.underlying21 (by simp at hle; omega)
  have hge := grownCap_ge w (Conv.runesFrom s s.size 0 #[]).size 0 21
  rw [hsz] at hrun hge
  refine ⟨_, _, hrun, by omega, fun i r hr => ?_⟩
  have hi := (List.getElem?_eq_some_iff.1 hr).1
  have hn : ∀ obj : Obj, (w.drew.alloc obj).heap[w.heap.size]? = some obj := fun obj => by show (w.heap.push obj)[w.heap.size]? = _; simp
  simp only [World.cell?, hn]
  rw [he]
  show (_ ++ _ : Array Value)[i]? = _
  rw [Array.getElem?_append_left (by simpa using hi)]
  simp [hr]
end Go.Proofs.YtggoebbfgkebcaaGreatDoor

namespace Go.Proofs.YtggoebbfgkebcaaGreatDoor
open Go.RowKit Go.Sort Go.Maps

/-- A token. -/
structure Tok where
  kind : Nat
  text : ByteArray
  head : ByteArray
deriving DecidableEq
/-- The text of one code point. -/
def encB (r : Nat) : ByteArray := Utf8.encode (r : Int)
theorem encB_eq (r : Nat) : encB r = Utf8.encode (r : Int) := rfl
def signT (h : ByteArray) (r : Nat) : Tok := ⟨116, encB r, h⟩
def openT (h : ByteArray) : Tok := ⟨111, ⟨#[]⟩, h⟩
def closeT : Tok := ⟨99, ⟨#[]⟩, ⟨#[]⟩⟩
def headT (t : Tree) : ByteArray := ⟨(headW t).toArray⟩
/-! ### the tokens of a node, and of nodes -/
mutual
def tokB : Tree → List Tok
  | .mk k t m a l => if isTxt k then (pts t.data.toList).map (signT (headT (.mk k t m a l))) else openT (headT (.mk k t m a l)) :: (toksB l ++ [closeT])
def toksB : List Tree → List Tok
  | [] => []
  | t :: l => tokB t ++ toksB l
end
theorem tokB_text (t : Tree) (h : isTxt t.kind = true) : tokB t = (pts t.text.data.toList).map (signT (headT t)) := by
  obtain ⟨k, x, m, a, l⟩ := t; simp only [Tree.kind] at h; simp [tokB, h, Tree.text]
theorem tokB_node (t : Tree) (h : isTxt t.kind = false) : tokB t = openT (headT t) :: (toksB t.kids ++ [closeT]) := by
  obtain ⟨k, x, m, a, l⟩ := t; simp only [Tree.kind] at h; simp [tokB, h, Tree.kids]
theorem toksB_append : ∀ a b : List Tree, toksB (a ++ b) = toksB a ++ toksB b
  | [], b => by simp [toksB]
  | x :: a, b => by rw [List.cons_append, toksB, toksB, toksB_append a b, List.append_assoc]
theorem toksB_one (t : Tree) : toksB [t] = tokB t := by simp [toksB]
theorem ptsF_len : ∀ (n : Nat) (l : List UInt8), (ptsF n l).length ≤ n
  | 0, _ => by simp [ptsF]
  | n + 1, l => by
    simp only [ptsF]; split
    · simp
    · have := ptsF_len n (l.drop (Lib.decodeL l).2); simp only [List.length_cons]; omega
theorem pts_len (l : List UInt8) : (pts l).length ≤ l.length := ptsF_len _ l

def tokCells (t : Tok) : List Value := [.int .u8 (t.kind : Int), .string t.text, .string t.head]
theorem tokCells_len (t : Tok) : (tokCells t).length = 3 := rfl
/-- A row of tokens of the call's own. -/
def TRow (w : World) (base : Nat) (v : Value) (l : List Tok) : Prop := w.ownsRow base 25 3 v l.length (l.flatMap tokCells)
theorem tok_info : (Tryz.prog.info? 25).map (fun i => (i.zero, i.size, i.bytes)) = some (some (.agg #[.int .u8 0, .string ⟨#[]⟩, .string ⟨#[]⟩]), 3, 40) := by kernel_rfl

theorem ownsRow_keep {w w' : World} {base : Nat} {e : TypeId} {size : Nat} {v : Value} {n : Nat} {xs : List Value} (h : w.ownsRow base e size v n xs) (k : ∀ g, v.ownBlock = some g → w'.heap[g]? = w.heap[g]?) : w'.ownsRow base e size v n xs := by
  refine ⟨h.1, ?_⟩
  rcases h.2 with hn | ⟨g, cap, cur, hv, hb, hg, rest⟩
  · exact .inl hn
  · exact .inr ⟨g, cap, cur, hv, hb, (k g (by rw [hv]; rfl)).trans hg, rest⟩
theorem TRow.block {w : World} {base : Nat} {v : Value} {l : List Tok} (h : TRow w base v l) {g : Nat} (hg : v.ownBlock = some g) : base ≤ g ∧ ∃ cur, w.heap[g]? = some (.cells cur 25) := by
  rcases h.2 with ⟨rfl, _⟩ | ⟨g', cap, cur, rfl, hb, hg', _⟩
  · cases hg
  · injection hg with hg; subst hg; exact ⟨hb, cur, hg'⟩

/-- The variable that holds the row (block pt), the walk itself (block p). -/
structure TokAt (w : World) (base pt p : Nat) (v : Value) (l : List Tok) : Prop where
  var : w.heap[pt]? = some (.cells #[v] 22)
  row : TRow w base v l
  self : w.heap[p]? = some (.cells #[.func (.func 28) #[] #[.pointer (some ⟨pt, 0, none⟩), .pointer (some ⟨p, 0, none⟩)]] 68)
  nn : v ≠ .slice none 0 0
theorem TokAt.ne {w : World} {base pt p : Nat} {v : Value} {l : List Tok} (h : TokAt w base pt p v l) : pt ≠ p := fun e => by
  subst e; have := h.var.symm.trans h.self; injection this with this; injection this with _ this; exact absurd this (by decide)
theorem TokAt.neV {w : World} {base pt p : Nat} {v : Value} {l : List Tok} (h : TokAt w base pt p v l) {g : Nat} (hg : v.ownBlock = some g) : pt ≠ g := fun e => by
  subst e; obtain ⟨_, cur, hc⟩ := h.row.block hg; have := h.var.symm.trans hc; injection this with this; injection this with _ this; exact absurd this (by decide)
theorem TokAt.neS {w : World} {base pt p : Nat} {v : Value} {l : List Tok} (h : TokAt w base pt p v l) {g : Nat} (hg : v.ownBlock = some g) : p ≠ g := fun e => by
  subst e; obtain ⟨_, cur, hc⟩ := h.row.block hg; have := h.self.symm.trans hc; injection this with this; injection this with _ this; exact absurd this (by decide)
theorem heap_lt {w : World} {g : Nat} {o : Obj} (h : w.heap[g]? = some o) : g < w.heap.size := (Array.getElem?_eq_some_iff.1 h).1
theorem TokAt.below {w w' : World} {base pt p : Nat} {v : Value} {l : List Tok} (h : TokAt w base pt p v l) (b : Below w.heap.size w w') : TokAt w' base pt p v l :=
  ⟨(b.block _ (heap_lt h.var)).trans h.var, ownsRow_keep h.row fun g hg => b.block _ (by obtain ⟨_, cur, hc⟩ := h.row.block hg; exact heap_lt hc), (b.block _ (heap_lt h.self)).trans h.self, h.nn⟩

/-- One more token behind the row. -/
theorem TokAt.push {w w' : World} {base pt p : Nat} {v v' : Value} {l : List Tok} {t : Tok} (h : TokAt w base pt p v l) (hpt : base ≤ pt) (hbw : base ≤ w.heap.size)
    (ho : w'.ownsRow base 25 3 v' (l.length + 1) (l.flatMap tokCells ++ tokCells t)) (hg : w.grownBy w' v.ownBlock) :
    TokAt (w'.setCell ⟨pt, 0, none⟩ v') base pt p v' (l ++ [t]) ∧ Below base w (w'.setCell ⟨pt, 0, none⟩ v') ∧ ∀ b, b < w.heap.size → b ≠ pt → some b ≠ v.ownBlock → (w'.setCell ⟨pt, 0, none⟩ v').heap[b]? = w.heap[b]? := by
  have hv : w'.heap[pt]? = some (.cells #[v] 22) := (hg.block pt (heap_lt h.var) (fun e => h.neV e.symm rfl)).trans h.var
  have hs : w'.heap[p]? = some (.cells #[.func (.func 28) #[] #[.pointer (some ⟨pt, 0, none⟩), .pointer (some ⟨p, 0, none⟩)]] 68) := (hg.block p (heap_lt h.self) (fun e => h.neS e.symm rfl)).trans h.self
  have hr : TRow w' base v' (l ++ [t]) := by unfold TRow; rw [List.length_append, List.flatMap_append]; simpa using ho
  have hnn : v' ≠ .slice none 0 0 := by
    rcases ho.2 with ⟨_, h0⟩ | ⟨g, cap, cur, hv', _⟩
    · omega
    · rw [hv']; simp
  have hne : ∀ g, v'.ownBlock = some g → g ≠ pt := fun g hg' e => by
    subst e; obtain ⟨_, cur, hc⟩ := hr.block hg'; have := hv.symm.trans hc; injection this with this; injection this with _ this; exact absurd this (by decide)
  refine ⟨⟨heap_setCell_same w' pt 0 _ _ v' hv, ownsRow_keep hr fun g hg' => Below.heap_setCell _ _ _ _ (hne g hg'), (Below.heap_setCell _ _ _ _ (fun e => h.ne e.symm)).trans hs, hnn⟩, ?_, fun b hb h1 h2 => (Below.heap_setCell _ _ _ _ h1).trans (hg.block b hb h2)⟩
  have hb : Below base w w' := (Below.refl _ _).grown hg hbw fun k hk => (h.row.block hk).1
  exact hb.trans ⟨rfl, rfl, rfl, by simp [World.setCell], fun i hi => Below.heap_setCell _ _ _ _ (show i ≠ pt by omega)⟩
theorem TokAt.other {w : World} {base pt p : Nat} {v : Value} {l : List Tok} (h : TokAt w base pt p v l) {b : Nat} {o : Obj} (hb : w.heap[b]? = some o) (ho : ∀ cs, o ≠ .cells cs 22) (hr : ∀ cs, o ≠ .cells cs 25) : b ≠ pt ∧ some b ≠ v.ownBlock :=
  ⟨fun e => by subst e; exact ho _ (Option.some.inj (hb.symm.trans h.var)), fun e => by obtain ⟨_, cur, hc⟩ := h.row.block e.symm; exact hr _ (Option.some.inj (hb.symm.trans hc))⟩
theorem TokAt.cell {w : World} {base pt p : Nat} {v : Value} {l : List Tok} (h : TokAt w base pt p v l) : w.cell? ⟨pt, 0, none⟩ = some v := by simp only [World.cell?, h.var]; rfl
theorem TokAt.frozen {w : World} {base pt p : Nat} {v : Value} {l : List Tok} (h : TokAt w base pt p v l) : w.frozen? ⟨pt, 0, none⟩ = false := frozen_of_row _ _ 0 _ _ h.var
theorem TokAt.call {w : World} {base pt p : Nat} {v : Value} {l : List Tok} (h : TokAt w base pt p v l) : w.cell? ⟨p, 0, none⟩ = some (.func (.func 28) #[] #[.pointer (some ⟨pt, 0, none⟩), .pointer (some ⟨p, 0, none⟩)]) := by simp only [World.cell?, h.self]; rfl
theorem TokAt.var2 {w w' : World} {base pt p : Nat} {v : Value} {l : List Tok} (h : TokAt w base pt p v l) (hg : w.grownBy w' v.ownBlock) : w'.cell? ⟨pt, 0, none⟩ = some v ∧ w'.frozen? ⟨pt, 0, none⟩ = false := by
  have hv : w'.heap[pt]? = some (.cells #[v] 22) := (hg.block pt (heap_lt h.var) (fun e => h.neV e.symm rfl)).trans h.var
  exact ⟨by simp only [World.cell?, hv]; rfl, frozen_of_row _ _ 0 _ _ hv⟩
theorem ownsRow_form {w : World} {base : Nat} {e : TypeId} {size : Nat} {v : Value} {n : Nat} {xs : List Value} (h : w.ownsRow base e size v n xs) : ∃ A m c, v = .slice A m c := by
  rcases h.2 with ⟨rfl, _⟩ | ⟨g, cap, cur, rfl, _⟩
  · exact ⟨_, _, _, rfl⟩
  · exact ⟨_, _, _, rfl⟩
/-- The literal row of one token lies in a block of its own. -/
theorem TokAt.lit {w : World} {base pt p : Nat} {v : Value} {l : List Tok} (h : TokAt w base pt p v l) (o : Obj) : TokAt (w.alloc o) base pt p v l := h.below ((Below.refl _ _).alloc (Nat.le_refl _) o)
theorem tok_fresh (w : World) (t : Tok) : ∀ j u, (tokCells t)[j]? = some u → (w.alloc (.cells (tokCells t).toArray 25)).cell? ⟨w.heap.size, j, none⟩ = some u := fun j u hj => fresh_cell w _ _ j u (by simpa using hj)
theorem tok_one (t : Tok) : ∀ u ∈ tokCells t, u.oneCell' = true := by intro u hu; simp only [tokCells, List.mem_cons, List.not_mem_nil, or_false] at hu; rcases hu with rfl | rfl | rfl <;> rfl
mutual
theorem tokB_len : ∀ t : Tree, (tokB t).length = sizeB t
  | .mk k t m a l => by
    rw [tokB, sizeB]
    split
    · rw [List.length_map, pts_count]; rfl
    · simp only [List.length_cons, List.length_append, List.length_nil, toksB_len l]; omega
theorem toksB_len : ∀ l : List Tree, (toksB l).length = totalB l
  | [] => rfl
  | t :: l => by rw [toksB, totalB, List.length_append, tokB_len t, toksB_len l]
end

def OfSaid (n : Nat) : Prop := ∀ (l : List Tree) (vl v : Value) (w : World) (base pt p : Nat) (acc : List Tok), weighAll l ≤ n → Kids w (Under base) vl l → weighAll l ≤ 1000000 → TokAt w base pt p v acc → base ≤ pt → base ≤ p → base ≤ w.heap.size → acc.length + weighAll l ≤ 50000000 →
    Calls Tryz.prog 28 #[vl, .pointer (some ⟨pt, 0, none⟩), .pointer (some ⟨p, 0, none⟩)] w fun e w' => e = .returned (.tuple #[]) ∧ Below base w w' ∧ ∃ v', TokAt w' base pt p v' (acc ++ toksB l)

set_option maxHeartbeats 4000000 in
set_option maxRecDepth 100000 in
theorem of_walk : ∀ n, OfSaid n := by
  intro n
  induction n using Nat.strongRecOn with
  | ind n ih =>
    have IH := Lib.hid ih
    clear ih
    intro l vl v w base pt p acc hn hK hw hat hpt hp hbw hacc
    have hlen : l.length ≤ 1000000 := by have := length_le_weigh l; omega
    obtain ⟨A, c, rfl, hlc⟩ := hK.form
    have HL := Lib.hid hK
    have HA := Lib.hid hat
    clear hK hat
    go_enter Tryz.func28, Tryz.ntmps28
    go_wp2
    go_loopw [11] (fun i wr => ∃ k : Nat, k ≤ l.length ∧ i = .int .i64 k ∧ Below base w wr ∧ ∃ v', Hid (TokAt wr base pt p v' (acc ++ toksB (l.take k)))) (fun i _ => l.length - (intOf i).toNat)
    case atStart => exact ⟨0, by omega, rfl, Below.refl _ _, v, Lib.hid (by simpa [toksB] using HA.out)⟩
    case round =>
      obtain ⟨i, hi, rfl, hbr, v1, hat⟩ := hrel
      have hws := hbr.size
      by_cases hlt : i < l.length
      · obtain ⟨g, o, rfl, hub, hrow⟩ := HL.out.get hlt
        have hlx : l[i]? = some l[i] := List.getElem?_eq_getElem hlt
        have HTK : Hid (l.take (i + 1) = l.take i ++ [l[i]]) := Lib.hid (List.take_succ_eq_append_getElem hlt)
        generalize hx : l[i] = x at *
        have hwx := weighAll_take_get l i x HTK.out
        have hwl : (toksB (l.take i)).length ≤ weighAll (l.take i) := by rw [toksB_len]; exact total_le_weigh _
        have hal : (acc ++ toksB (l.take i)).length + weigh x ≤ 50000000 := by rw [List.length_append]; omega
        have HTW : Hid (acc ++ toksB (l.take (i + 1)) = (acc ++ toksB (l.take i)) ++ tokB x) := Lib.hid (by rw [HTK.out, toksB_append, toksB_one, List.append_assoc])
        obtain ⟨xm, xa, xk, e0, e1, e2, e3, e4, exm, exa, exk⟩ := hrow.node hlx
        have f0 := (hbr.cell (p := ⟨g, o + i * 5, none⟩) hub).trans e0
        have f1 := (hbr.cell (p := ⟨g, o + i * 5 + 1, none⟩) hub).trans e1
        have f2 := (hbr.cell (p := ⟨g, o + i * 5 + 2, none⟩) hub).trans e2
        have f3 := (hbr.cell (p := ⟨g, o + i * 5 + 3, none⟩) hub).trans e3
        have f4 := (hbr.cell (p := ⟨g, o + i * 5 + 4, none⟩) hub).trans e4
        have hxn : Node w (Under base) (.agg #[.string x.kind, .string x.text, xm, xa, xk]) x := ⟨_, _, _, rfl, exm, exa, exk⟩
        have HXN := Lib.hid (hxn.below hbr)
        have HXK := Lib.hid (exk.below hbr)
        obtain ⟨A1, c1, rfl, _⟩ := exm.form
        obtain ⟨A2, c2, rfl, _⟩ := exa.form
        obtain ⟨A3, c3, rfl, _⟩ := exk.form
        have hkw := kids_weigh x
        have hxt := text_le_weigh x
        generalize acc ++ toksB (l.take i) = A0 at *
        have hgl := cell_lt f0
        clear e0 e1 e2 e3 e4 exm exa exk hx hlx hrow hxn
        go_wp2_with fail
        have hA2 : Below wr.heap.size wr (wr.alloc (.cells #[.string x.kind, .string x.text, .slice A1 x.marks.length c1, .slice A2 x.attrs.length c2, .slice A3 x.kids.length c3] 41)) := (Below.refl _ _).alloc (Nat.le_refl _) _
        have hP := heap_alloc_new wr (.cells #[.string x.kind, .string x.text, .slice A1 x.marks.length c1, .slice A2 x.attrs.length c2, .slice A3 x.kids.length c3] 41)
        generalize wr.alloc (.cells #[.string x.kind, .string x.text, .slice A1 x.marks.length c1, .slice A2 x.attrs.length c2, .slice A3 x.kids.length c3] 41) = W2 at *
        have hz2 := hA2.size
        refine (head_any _ x W2 ((HXN.out.below (hA2.mono (Nat.le_trans hbw hws))).more (by omega)) (by omega)).mono ?_
        rintro e w3 ⟨rfl, hb3⟩
        have hz3 := hb3.size
        have hb23 := hA2.trans (hb3.mono hz2)
        have HAT3 := Lib.hid (hat.out.below hb23)
        have HP3 := Lib.hid ((hb3.block _ (heap_lt hP)).trans hP)
        have HB3 := Lib.hid (hbr.trans (hb23.mono (Nat.le_trans hbw hws)))
        have HXK3 := Lib.hid (HXK.out.below (hb23.mono (Nat.le_trans hbw hws)))
        obtain ⟨k0, k1, k2, k3, k4⟩ := five_cells HP3.out
        obtain ⟨hh, hhe⟩ : ∃ hh : ByteArray, hh = headT x := ⟨_, rfl⟩
        rw [show (⟨(headW x).toArray⟩ : ByteArray) = hh from hhe.symm]
        clear hb3 hb23 hA2 hP f0 f1 f2 f3 f4 hat HXK HXN
        cases hk : isTxt x.kind with
        | true =>
          have hk' : (x.kind.toList == [116, 101, 120, 116]) = true := hk
          have HTX : Hid (tokB x = (pts x.text.data.toList).map (signT hh)) := Lib.hid (by rw [hhe]; exact tokB_text x hk)
          clear hk hhe
          have hsl : (tokB x).length ≤ weigh x := by rw [tokB_len]; exact size_le_weigh x
          have hb3s : base ≤ w3.heap.size := by omega
          go_wp2
          have HAT4 := Lib.hid (HAT3.out.below (iter_below w3 x.text 0))
          have HB4 := Lib.hid (HB3.out.trans ((iter_below w3 x.text 0).mono hb3s))
          go_loopg [8] x.text.size (fun g _ wx => ∃ (i' : Nat) (vv : Value) (done : List Tok), g = x.text.size - i' ∧ wx.heap[w3.heap.size]? = some (.stringIter x.text i') ∧ Below base w wx ∧ Hid (TokAt wx base pt p vv done) ∧ Hid (done ++ (pts (x.text.data.toList.drop i')).map (signT hh) = A0 ++ tokB x))
          case atStart => exact ⟨0, v1, A0, rfl, World.iter_heap w3 x.text 0, HB4.out, HAT4, Lib.hid (by rw [HTX.out]; rfl)⟩
          case round =>
            obtain ⟨i', vv, done, hig, hk5, hb5, hat5, hdone⟩ := hrel
            have HK5 := Lib.hid hk5
            have HB5 := Lib.hid hb5
            have hz5 := heap_lt hk5
            clear hk5 hb5
            cases gk with
            | zero =>
              have hge : ¬ i' < x.text.size := by omega
              clear hig
              have hnx := fun ty => Lib.run_next_end_at (P := Tryz.prog) wr w3.heap.size x.text i' ty HK5.out hge
              go_wp2
              refine ⟨⟨i + 1, by omega, by go_num, HB5.out, vv, Lib.hid ?_⟩, by simp [intOf]; omega⟩
              rw [HTW.out, ← hdone.out, List.drop_of_length_le (by rw [← Lib.size_eq]; omega)]
              simpa [pts_nil] using hat5.out
            | succ g' =>
              have hi' : i' < x.text.size := by omega
              have HIG := Lib.hid hig
              clear hig
              have hnx := fun ty => Lib.run_next_any_at (P := Tryz.prog) wr w3.heap.size x.text i' ty HK5.out hi'
              have hne : x.text.data.toList.drop i' ≠ [] := fun e => by
                have := congrArg List.length e
                rw [List.length_drop, ← Lib.size_eq] at this; simp at this; omega
              have hwd := Lib.decodeL_width (x.text.data.toList.drop i')
              have hst := pts_step _ hne
              rw [Lib.decodeL_drop, List.drop_drop] at hst
              rw [Lib.decodeL_drop] at hwd
              generalize (Utf8.decode x.text i').1 = r at *
              generalize (Utf8.decode x.text i').2 = d at *
              obtain ⟨er, her⟩ : ∃ er : ByteArray, Utf8.encode (r : Int) = er := ⟨_, rfl⟩
              have HK6 := Lib.hid (Lib.iterAt_heap wr w3.heap.size x.text i' (i' + d) HK5.out)
              have HB6 := Lib.hid (Lib.below_iterAt HB5.out hb3s x.text (i' + d))
              have HAT6 : Hid (TokAt (wr.iterAt w3.heap.size x.text (i' + d)) base pt p vv done) := Lib.hid (by
                have o := hat5.out.other HK5.out (fun _ e => by cases e) (fun _ e => by cases e)
                exact ⟨(Lib.iterAt_other _ _ _ _ _ (Ne.symm o.1)).trans hat5.out.var, ownsRow_keep hat5.out.row fun g hg => Lib.iterAt_other _ _ _ _ _ (fun e => o.2 (by rw [hg, e])), (Lib.iterAt_other _ _ _ _ _ (fun e => by subst e; have := HK5.out.symm.trans hat5.out.self; cases this)).trans hat5.out.self, hat5.out.nn⟩)
              have hz6 : wr.heap.size ≤ (wr.iterAt w3.heap.size x.text (i' + d)).heap.size := Nat.le_of_eq (Lib.iterAt_size _ _ _ _).symm
              have HST := Lib.hid hst
              generalize wr.iterAt w3.heap.size x.text (i' + d) = Wi at *
              have hbi : base ≤ Wi.heap.size := by omega
              have hln : done.length + 1 ≤ 100000000 := by
                have := congrArg List.length hdone.out
                rw [List.length_append, List.length_append] at this; omega
              clear hst hne
              have q7 := HAT6.out.cell
              have HBA7 : Hid (Below Wi.heap.size Wi (Wi.alloc (.cells #[.int .u8 116, .string er, .string hh] 25))) := Lib.hid ((Below.refl _ _).alloc (Nat.le_refl _) _)
              have HL7 : Hid (TokAt (Wi.alloc (.cells #[.int .u8 116, .string er, .string hh] 25)) base pt p vv done) := Lib.hid (HAT6.out.below HBA7.out)
              have HF7 : Hid (∀ j u, (tokCells ⟨116, er, hh⟩)[j]? = some u → (Wi.alloc (.cells #[.int .u8 116, .string er, .string hh] 25)).cell? ⟨Wi.heap.size, j, none⟩ = some u) := Lib.hid (tok_fresh Wi ⟨116, er, hh⟩)
              have HP7 : Hid ((Wi.alloc (.cells #[.int .u8 116, .string er, .string hh] 25)).heap[w3.heap.size]? = some (.stringIter x.text (i' + d))) := Lib.hid ((HBA7.out.block _ (heap_lt HK6.out)).trans HK6.out)
              have HO7 := Lib.hid (HL7.out.other HP7.out (fun _ e => by cases e) (fun _ e => by cases e))
              go_wp2_with (at_builtin; refine wpList_append_gen Tryz.underlying22 tok_info rfl (by decide) (by decide) rfl (.tmp 26) (.tmp 31) rfl base vv (done).length _ Wi.heap.size 1 (tokCells ⟨116, er, hh⟩) rfl rfl HL7.out.row rfl HF7.out (tok_one _) hln (Nat.le_trans hbi HBA7.out.size) ?_; intro v7 w7 hown7 hg7; obtain ⟨B7, m7, d7, rfl⟩ := ownsRow_form hown7; obtain ⟨ht7, hbb7, hoo7⟩ := HL7.out.push hpt (Nat.le_trans hbi HBA7.out.size) hown7 hg7; have HT7 := Lib.hid ht7; have HBB7 := Lib.hid hbb7; have HOO7 := Lib.hid hoo7; obtain ⟨y7, z7⟩ := HL7.out.var2 hg7; clear hown7 hg7 ht7 hbb7 hoo7)
              go_wp2
              go_roundg (x.text.size - (i' + d))
              case measure => have := HIG.out; omega
              case rel =>
                refine ⟨i' + d, .slice B7 m7 d7, done ++ [⟨116, er, hh⟩], rfl, (HOO7.out _ (heap_lt HP7.out) HO7.out.1 HO7.out.2).trans HP7.out, HB6.out.trans ((HBA7.out.mono hbi).trans HBB7.out), HT7, Lib.hid ?_⟩
                rw [← hdone.out, HST.out, List.map_cons, show signT hh r = ⟨116, er, hh⟩ from by unfold signT; rw [encB_eq, her], List.append_assoc]
                rfl
        | false =>
          have hk' : (x.kind.toList == [116, 101, 120, 116]) = false := hk
          have HTX : Hid (tokB x = openT hh :: (toksB x.kids ++ [closeT])) := Lib.hid (by rw [hhe]; exact tokB_node x hk)
          have q6 := HAT3.out.cell
          have HBA6 : Hid (Below w3.heap.size w3 (w3.alloc (.cells #[.int .u8 111, .string ⟨#[]⟩, .string hh] 25))) := Lib.hid ((Below.refl _ _).alloc (Nat.le_refl _) _)
          have HL6 : Hid (TokAt (w3.alloc (.cells #[.int .u8 111, .string ⟨#[]⟩, .string hh] 25)) base pt p v1 A0) := Lib.hid (HAT3.out.below HBA6.out)
          have HF6 : Hid (∀ j u, (tokCells (openT hh))[j]? = some u → (w3.alloc (.cells #[.int .u8 111, .string ⟨#[]⟩, .string hh] 25)).cell? ⟨w3.heap.size, j, none⟩ = some u) := Lib.hid (tok_fresh w3 (openT hh))
          clear hk hhe
          have hb3s : base ≤ w3.heap.size := by omega
          have HP6 : Hid ((w3.alloc (.cells #[.int .u8 111, .string ⟨#[]⟩, .string hh] 25)).heap[wr.heap.size]? = some (.cells #[.string x.kind, .string x.text, .slice A1 x.marks.length c1, .slice A2 x.attrs.length c2, .slice A3 x.kids.length c3] 41)) := Lib.hid ((HBA6.out.block _ (heap_lt HP3.out)).trans HP3.out)
          have HO6 := Lib.hid (HL6.out.other HP6.out (fun cs e => by injection e with _ e; exact absurd e (by decide)) (fun cs e => by injection e with _ e; exact absurd e (by decide)))
          go_wp2_with (at_builtin; refine wpList_append_gen Tryz.underlying22 tok_info rfl (by decide) (by decide) rfl (.tmp 33) (.tmp 36) rfl base v1 (A0).length _ w3.heap.size 1 (tokCells (openT hh)) rfl rfl HL6.out.row rfl HF6.out (tok_one _) (by omega) (Nat.le_trans hb3s HBA6.out.size) ?_; intro v6 w6 hown6 hg6; obtain ⟨B6, m6, d6, rfl⟩ := ownsRow_form hown6; obtain ⟨ht6, hbb6, hoo6⟩ := HL6.out.push hpt (Nat.le_trans hb3s HBA6.out.size) hown6 hg6; have HT6 := Lib.hid ht6; have HBB6 := Lib.hid hbb6; have HOO6 := Lib.hid hoo6; obtain ⟨y6, z6⟩ := HL6.out.var2 hg6; clear hown6 hg6 ht6 hbb6 hoo6; have s6 := HT6.out.call; have HN6 := Lib.hid ((HOO6.out _ (heap_lt HP6.out) HO6.out.1 HO6.out.2).trans HP6.out); obtain ⟨n0, n1, n2, n3, n4⟩ := five_cells HN6.out)
          have hbase6 := (HBA6.out.mono hb3s).trans HBB6.out
          have HB7 := Lib.hid (HB3.out.trans hbase6)
          have HXK7 := Lib.hid (HXK3.out.below hbase6)
          have hz7 := hbase6.size
          clear y6 z6 q6 s6 n0 n1 n2 n3 n4 hbase6 k0 k1 k2 k3 k4
          generalize w6.setCell ⟨pt, 0, none⟩ (.slice B6 m6 d6) = W7 at *
          refine (IH.out (weighAll x.kids) (by omega) x.kids _ (.slice B6 m6 d6) W7 base pt p _ (Nat.le_refl _) HXK7.out (by omega) HT6.out hpt hp (by omega) (by rw [List.length_append, List.length_singleton]; omega)).mono ?_
          rintro e w8 ⟨rfl, hb8, v8, hat8⟩
          have HB8 := Lib.hid (HB7.out.trans hb8)
          have HAT8 := Lib.hid hat8
          have hz8 := hb8.size
          have hl8 : (A0 ++ [openT hh] ++ toksB x.kids).length + 1 ≤ 100000000 := by
            rw [List.length_append, List.length_append, toksB_len, List.length_singleton]; have := total_le_weigh x.kids; omega
          have hb8s : base ≤ w8.heap.size := by omega
          clear hb8 hat8
          generalize hA8 : A0 ++ [openT hh] ++ toksB x.kids = A8 at *
          have q9 := HAT8.out.cell
          have HBA9 : Hid (Below w8.heap.size w8 (w8.alloc (.cells #[.int .u8 99, .string ⟨#[]⟩, .string ⟨#[]⟩] 25))) := Lib.hid ((Below.refl _ _).alloc (Nat.le_refl _) _)
          have HL9 : Hid (TokAt (w8.alloc (.cells #[.int .u8 99, .string ⟨#[]⟩, .string ⟨#[]⟩] 25)) base pt p v8 A8) := Lib.hid (HAT8.out.below HBA9.out)
          have HF9 : Hid (∀ j u, (tokCells closeT)[j]? = some u → (w8.alloc (.cells #[.int .u8 99, .string ⟨#[]⟩, .string ⟨#[]⟩] 25)).cell? ⟨w8.heap.size, j, none⟩ = some u) := Lib.hid (tok_fresh w8 closeT)
          go_wp2_with (at_builtin; refine wpList_append_gen Tryz.underlying22 tok_info rfl (by decide) (by decide) rfl (.tmp 42) (.tmp 44) rfl base v8 (A8).length _ w8.heap.size 1 (tokCells closeT) rfl rfl HL9.out.row rfl HF9.out (tok_one _) hl8 (Nat.le_trans hb8s HBA9.out.size) ?_; intro v9 w9 hown9 hg9; obtain ⟨B9, m9, d9, rfl⟩ := ownsRow_form hown9; obtain ⟨ht9, hbb9, hoo9⟩ := HL9.out.push hpt (Nat.le_trans hb8s HBA9.out.size) hown9 hg9; have HT9 := Lib.hid ht9; have HBB9 := Lib.hid hbb9; have HOO9 := Lib.hid hoo9; obtain ⟨y9, z9⟩ := HL9.out.var2 hg9; clear hown9 hg9 ht9 hbb9 hoo9)
          go_wp2
          refine ⟨⟨i + 1, by omega, by go_num, HB8.out.trans ((HBA9.out.mono hb8s).trans HBB9.out), .slice B9 m9 d9, Lib.hid ?_⟩, by simp [intOf]; omega⟩
          have ht := HT9.out
          rw [← hA8] at ht
          rw [HTW.out, HTX.out, show A0 ++ openT hh :: (toksB x.kids ++ [closeT]) = A0 ++ [openT hh] ++ toksB x.kids ++ [closeT] by simp]
          exact ht
      · go_wp2
        go_end0
        have h := hat.out
        rw [List.take_of_length_le (by omega)] at h
        exact ⟨rfl, hbr, _, h⟩
end Go.Proofs.YtggoebbfgkebcaaGreatDoor

namespace Go.Proofs.YtggoebbfgkebcaaGreatDoor
open Go.RowKit Go.Sort Go.Maps

set_option maxHeartbeats 4000000 in
set_option maxRecDepth 100000 in
theorem of_some (vl : Value) (l : List Tree) (w : World) (h : Kids w (Under w.heap.size) vl l) (hw : weighAll l ≤ 1000000) :
    Calls Tryz.prog 13 #[vl] w fun e w' => ∃ v, e = .returned v ∧ TRow w' w.heap.size v (toksB l) ∧ Below w.heap.size w w' ∧ v ≠ .slice none 0 0 := by
  have hmf : ∀ (fn : Fn) (first cap : Array Value) (w : World), (Instr.makeFunc fn first cap).run Tryz.prog w = .ok (.func fn first cap) w := fun _ _ _ _ => rfl
  have HN := Lib.hid h
  obtain ⟨A, c, rfl, hlc⟩ := h.form
  clear h
  go_enter Tryz.func13, Tryz.ntmps13
  go_wp2_with fail
  refine (total_any _ l w HN.out hw).mono ?_
  rintro e w1 ⟨rfl, hb1⟩
  have HB1 := Lib.hid hb1
  have hz1 := hb1.size
  have htl := total_le_weigh l
  clear hb1
  generalize totalB l = n at *
  obtain ⟨i, hi, hz0, hi1, hi2⟩ := info_parts tok_info
  obtain ⟨w2, hr, hown, hg⟩ := run_make_own (P := Tryz.prog) w1 w.heap.size 22 25 i _ 3 Tryz.underlying22 hi hz0 hi1 .i64 .i64 n (by rw [hi2]; omega) (by unfold maxLen; omega) hz1
  have HR : Hid (TRow w2 w.heap.size (.slice (some ⟨w1.heap.size, 0, none⟩) 0 n) []) := Lib.hid hown
  have hb2 : Below w1.heap.size w1 w2 := ⟨hg.os, hg.tape, hg.output, hg.size, fun k hk => hg.block k hk (by simp)⟩
  have HB2 := Lib.hid (HB1.out.trans (hb2.mono hz1))
  have hz2 := hb2.size
  clear hown hg hb2 hi hz0 hi1 hi2
  go_wp2_with fail
  obtain ⟨W4, hW4⟩ : ∃ W4, W4 = (w2.alloc (.cells #[.slice (some ⟨w1.heap.size, 0, none⟩) 0 n] 22)).alloc (.cells #[.func (.func 28) #[] #[.pointer (some ⟨w2.heap.size, 0, none⟩), .pointer (some ⟨w2.heap.size + 1, 0, none⟩)]] 68) := ⟨_, rfl⟩
  rw [← hW4]
  have hB4 : Below w2.heap.size w2 W4 := by subst hW4; exact ((Below.refl _ _).alloc (Nat.le_refl _) _).alloc (by simp) _
  have hat : TokAt W4 w.heap.size w2.heap.size (w2.heap.size + 1) (.slice (some ⟨w1.heap.size, 0, none⟩) 0 n) [] := by
    refine ⟨?_, ownsRow_keep HR.out fun g hg => hB4.block _ (by obtain ⟨_, cur, hc⟩ := HR.out.block hg; exact heap_lt hc), ?_, ?_⟩
    · subst hW4; exact heap_old _ _ _ (heap_new _ _)
    · subst hW4; exact heap_new' _ _ (by simp)
    · simp
  have hz4 := hB4.size
  have hB := HB2.out.trans (hB4.mono (Nat.le_trans hz1 hz2))
  clear hW4 hB4
  refine (of_walk (weighAll l) l _ _ W4 w.heap.size w2.heap.size (w2.heap.size + 1) [] (Nat.le_refl _) (HN.out.below hB) hw hat (by omega) (by omega) (by omega) (by simp; omega)).mono ?_
  rintro e w5 ⟨rfl, hb5, v5, hat5⟩
  have HB5 := Lib.hid (hB.trans hb5)
  have HAT5 := Lib.hid hat5
  obtain ⟨A5, m5, c5, rfl⟩ := ownsRow_form hat5.row
  have q5 := hat5.cell
  clear hb5 hat5 hat hB
  go_wp2
  go_ret
  exact ⟨_, rfl, HAT5.out.row, HB5.out, HAT5.out.nn⟩
theorem of_any (vl : Value) (l : List Tree) (w : World) (h : Kids w (Under w.heap.size) vl l) (hw : weighAll l ≤ 1000000) :
    Calls Tryz.prog 13 #[vl] w fun e w' => ∃ v, e = .returned v ∧ TRow w' w.heap.size v (toksB l) ∧ Below w.heap.size w w' :=
  (of_some vl l w h hw).mono fun _ _ ⟨v, he, ht, hb, _⟩ => ⟨v, he, ht, hb⟩
end Go.Proofs.YtggoebbfgkebcaaGreatDoor

namespace Go.Proofs.YtggoebbfgkebcaaGreatDoor
open Go.RowKit Go.Sort Go.Maps

/-- A row of tokens, as it is read. -/
def Toks (w : World) (S : Nat → Prop) (v : Value) (l : List Tok) : Prop :=
  ∃ A c, v = .slice A l.length c ∧ l.length ≤ c ∧ c ≤ maxLen ∧ (l = [] ∨ ∃ b o, A = some ⟨b, o, none⟩ ∧ S b ∧
    ∀ i t, l[i]? = some t → w.cell? ⟨b, o + i * 3, none⟩ = some (.int .u8 (t.kind : Int)) ∧ w.cell? ⟨b, o + i * 3 + 1, none⟩ = some (.string t.text) ∧ w.cell? ⟨b, o + i * 3 + 2, none⟩ = some (.string t.head))
theorem Toks.keep {w w' : World} {S S' : Nat → Prop} {v : Value} {l : List Tok} (h : Toks w S v l) (hs : ∀ b, S b → S' b) (k : ∀ b, S b → w'.heap[b]? = w.heap[b]?) : Toks w' S' v l := by
  obtain ⟨A, c, hv, h1, h2, h3⟩ := h
  refine ⟨A, c, hv, h1, h2, h3.imp id ?_⟩
  rintro ⟨b, o, ha, hb, hc⟩
  refine ⟨b, o, ha, hs b hb, fun i t hi => ?_⟩
  obtain ⟨x0, x1, x2⟩ := hc i t hi
  exact ⟨(World.cell?_of_block (a := ⟨b, _, none⟩) (k b hb)).trans x0, (World.cell?_of_block (a := ⟨b, _, none⟩) (k b hb)).trans x1, (World.cell?_of_block (a := ⟨b, _, none⟩) (k b hb)).trans x2⟩
theorem Toks.get {w : World} {S : Nat → Prop} {A : Option Addr} {n c : Nat} {l : List Tok} (h : Toks w S (.slice A n c) l) {i : Nat} {t : Tok} (hi : l[i]? = some t) :
    ∃ b o, A = some ⟨b, o, none⟩ ∧ S b ∧ w.cell? ⟨b, o + i * 3, none⟩ = some (.int .u8 (t.kind : Int)) ∧ w.cell? ⟨b, o + i * 3 + 1, none⟩ = some (.string t.text) ∧ w.cell? ⟨b, o + i * 3 + 2, none⟩ = some (.string t.head) := by
  obtain ⟨A', c', hv, _, _, h3⟩ := h
  injection hv with hv
  subst hv
  rcases h3 with rfl | ⟨b, o, rfl, hb, hc⟩
  · simp at hi
  · exact ⟨b, o, rfl, hb, hc i t hi⟩
theorem Toks.form {w : World} {S : Nat → Prop} {v : Value} {l : List Tok} (h : Toks w S v l) : ∃ A c, v = .slice A l.length c ∧ l.length ≤ c := by
  obtain ⟨A, c, hv, h1, _⟩ := h; exact ⟨A, c, hv, h1⟩
theorem flat3 : ∀ (l : List Tok) (i j : Nat) (t : Tok), l[i]? = some t → j < 3 → (l.flatMap tokCells)[i * 3 + j]? = (tokCells t)[j]?
  | [], i, j, t, h, _ => by simp at h
  | x :: l, 0, j, t, h, hj => by
    simp only [List.getElem?_cons_zero, Option.some.injEq] at h
    subst h
    rw [List.flatMap_cons, Nat.zero_mul, Nat.zero_add, List.getElem?_append_left (by rw [tokCells_len]; exact hj)]
  | x :: l, i + 1, j, t, h, hj => by
    rw [List.getElem?_cons_succ] at h
    rw [List.flatMap_cons, List.getElem?_append_right (by rw [tokCells_len]; omega), tokCells_len, show (i + 1) * 3 + j - 3 = i * 3 + j by omega]
    exact flat3 l i j t h hj
theorem TRow.toks {w : World} {base : Nat} {v : Value} {l : List Tok} (h : TRow w base v l) : Toks w (From base w.heap.size) v l := by
  rcases h.2 with ⟨rfl, hm⟩ | ⟨g, cap, cur, rfl, hb, hg, hnc, hcap, hsz, htk⟩
  · exact ⟨none, 0, by rw [hm], by omega, by unfold maxLen; omega, .inl (List.eq_nil_of_length_eq_zero hm)⟩
  · refine ⟨_, cap, rfl, hnc, hcap, .inr ⟨g, 0, rfl, ⟨hb, (Array.getElem?_eq_some_iff.1 hg).1⟩, fun i t hi => ?_⟩⟩
    have hlt : i < l.length := (List.getElem?_eq_some_iff.1 hi).1
    have each : ∀ j u, j < 3 → (tokCells t)[j]? = some u → w.cell? ⟨g, 0 + i * 3 + j, none⟩ = some u := fun j u hj hu => by
      have e := flat3 l i j t hi hj
      rw [hu, ← htk, List.getElem?_take, if_pos (by omega)] at e
      rw [Nat.zero_add]
      simpa [World.cell?, hg] using e
    exact ⟨by simpa using each 0 _ (by omega) rfl, each 1 _ (by omega) rfl, each 2 _ (by omega) rfl⟩

/-- How many tokens two rows begin with alike. -/
def sameN : List Tok → List Tok → Nat
  | a :: x, b :: y => if a = b then sameN x y + 1 else 0
  | _, _ => 0

theorem bytes_iff (a b : ByteArray) : (a.toList == b.toList) = true ↔ a = b := by
  rw [Lib.toList_data, Lib.toList_data, beq_iff_eq]
  exact ⟨fun h => ByteArray.ext (Array.ext' h), fun h => by rw [h]⟩
theorem tok_eq (x y : Tok) : x = y ↔ ((x.kind : Int) == (y.kind : Int)) = true ∧ (x.text.toList == y.text.toList) = true ∧ (x.head.toList == y.head.toList) = true := by
  obtain ⟨k, t, h⟩ := x
  obtain ⟨k', t', h'⟩ := y
  rw [bytes_iff, bytes_iff, beq_iff_eq, Tok.mk.injEq]
  constructor
  · rintro ⟨rfl, rfl, rfl⟩; exact ⟨rfl, rfl, rfl⟩
  · rintro ⟨h0, h1, h2⟩; exact ⟨Int.ofNat.inj h0, h1, h2⟩
theorem drawn_on {B : Nat} {a w : World} (h : Below B a w) (n : Nat) : Below B a (w.drewN n) := h.trans ⟨rfl, rfl, rfl, Nat.le_refl _, fun _ _ => rfl⟩
theorem sameN_end {a b : List Tok} {k : Nat} (h : a.length ≤ k ∨ b.length ≤ k) : sameN (a.drop k) (b.drop k) = 0 := by
  rcases h with h | h
  · rw [List.drop_of_length_le h]; cases b.drop k <;> rfl
  · rw [List.drop_of_length_le h]; cases a.drop k <;> rfl

set_option maxHeartbeats 4000000 in
set_option maxRecDepth 100000 in
theorem tsame_any (va vb : Value) (a b : List Tok) (w : World) (ha : Toks w (Under w.heap.size) va a) (hb : Toks w (Under w.heap.size) vb b) (hla : a.length ≤ 100000000) (hlb : b.length ≤ 100000000) :
    Calls Tryz.prog 9 #[va, vb] w fun e w' => e = .returned (.int .i64 (sameN a b)) ∧ Below w.heap.size w w' := by
  obtain ⟨A1, c1, rfl, _⟩ := ha.form
  obtain ⟨A2, c2, rfl, _⟩ := hb.form
  have HA := Lib.hid ha
  have HB := Lib.hid hb
  clear ha hb
  go_enter Tryz.func9, Tryz.ntmps9
  go_wp2
  go_loopw [6] (fun i wr => ∃ k : Nat, k ≤ a.length ∧ k ≤ b.length ∧ i = .int .i64 k ∧ Hid (sameN a b = k + sameN (a.drop k) (b.drop k)) ∧ Below w.heap.size w wr) (fun i _ => a.length - (intOf i).toNat)
  case atStart => exact ⟨0, by omega, by omega, rfl, Lib.hid (by simp), Below.refl _ _⟩
  case round =>
    obtain ⟨k, hka, hkb, rfl, hsn, hbr⟩ := hrel
    by_cases hlt : k < a.length ∧ k < b.length
    · obtain ⟨hlt1, hlt2⟩ := hlt
      have hax : a[k]? = some a[k] := List.getElem?_eq_getElem hlt1
      have hby : b[k]? = some b[k] := List.getElem?_eq_getElem hlt2
      have HST : Hid (sameN (a.drop k) (b.drop k) = if a[k] = b[k] then sameN (a.drop (k + 1)) (b.drop (k + 1)) + 1 else 0) := Lib.hid (by rw [List.drop_eq_getElem_cons hlt1, List.drop_eq_getElem_cons hlt2, sameN])
      generalize a[k] = x at *
      generalize b[k] = y at *
      obtain ⟨g1, o1, rfl, hu1, x0, x1, x2⟩ := HA.out.get hax
      obtain ⟨g2, o2, rfl, hu2, y0, y1, y2⟩ := HB.out.get hby
      have k0 := cell_kept x0 hbr
      have k1 := cell_kept x1 hbr
      have k2 := cell_kept x2 hbr
      have m0 := cell_kept y0 hbr
      have m1 := cell_kept y1 hbr
      have m2 := cell_kept y2 hbr
      have g3 : decide ((k : Int) < min (a.length : Int) (b.length : Int)) = true := by simp; omega
      have g4 : (k : Int) < (a.length : Int) ∧ (k : Int) < (b.length : Int) := by omega
      clear x0 x1 x2 y0 y1 y2 hax hby
      have HEQ := Lib.hid (tok_eq x y)
      cases q0 : ((x.kind : Int) == (y.kind : Int)) with
      | false =>
        have HNE : Hid (x ≠ y) := Lib.hid (fun e => by have := (HEQ.out.1 e).1; rw [q0] at this; cases this)
        go_wp2
        go_quiet (fail)
        go_wp2
        go_ret
        exact ⟨ret_num (by rw [hsn.out, HST.out, if_neg HNE.out]; omega), drawn_on hbr _⟩
      | true =>
        cases q1 : (x.text.toList == y.text.toList) with
        | false =>
          have HNE : Hid (x ≠ y) := Lib.hid (fun e => by have := (HEQ.out.1 e).2.1; rw [q1] at this; cases this)
          go_wp2
          go_quiet (fail)
          go_wp2
          go_ret
          exact ⟨ret_num (by rw [hsn.out, HST.out, if_neg HNE.out]; omega), drawn_on hbr _⟩
        | true =>
          cases q2 : (x.head.toList == y.head.toList) with
          | false =>
            have HNE : Hid (x ≠ y) := Lib.hid (fun e => by have := (HEQ.out.1 e).2.2; rw [q2] at this; cases this)
            go_wp2
            go_quiet (fail)
            go_wp2
            go_ret
            exact ⟨ret_num (by rw [hsn.out, HST.out, if_neg HNE.out]; omega), drawn_on hbr _⟩
          | true =>
            have HYE : Hid (x = y) := Lib.hid (HEQ.out.2 ⟨q0, q1, q2⟩)
            go_wp2
            go_quiet (fail)
            go_wp2
            exact ⟨⟨k + 1, by omega, by omega, by go_num, Lib.hid (by rw [hsn.out, HST.out, if_pos HYE.out]; omega), drawn_on hbr _⟩, by simp [intOf]; omega⟩
    · have g3 : decide ((k : Int) < min (a.length : Int) (b.length : Int)) = false := by simp; omega
      have HZ : Hid (sameN (a.drop k) (b.drop k) = 0) := Lib.hid (sameN_end (by omega))
      go_wp2_with fail
      refine wp_region_quiet_below (by kernel_rfl) (by kernel_rfl) ?_
      repeat (first | go_big_quiet_step (fail) | quiet_step (fail))
      refine wpQuiet_nil ?_
      intro _ hw'
      obtain ⟨⟨dq, osq⟩, hw''⟩ := hw'
      subst hw''
      have HQ := Lib.hid (below_regrown wr dq osq)
      go_wp2
      go_ret
      exact ⟨ret_num (by rw [hsn.out, HZ.out]; omega), belowNext hbr HQ.out⟩
/-- How many they end with, what they begin with alike left out. -/
def backN (a b : List Tok) : Nat := min (sameN a.reverse b.reverse) (min a.length b.length - sameN a b)
theorem sameN_le : ∀ a b : List Tok, sameN a b ≤ a.length ∧ sameN a b ≤ b.length
  | [], b => by cases b <;> simp [sameN]
  | a :: x, [] => by simp [sameN]
  | a :: x, b :: y => by
    have := sameN_le x y
    rw [sameN]; split <;> simp <;> omega
theorem get_rev {l : List Tok} {k : Nat} (h : k < l.length) : l[l.length - 1 - k]? = l.reverse[k]? := by
  rw [List.getElem?_reverse h]

set_option maxHeartbeats 4000000 in
set_option maxRecDepth 100000 in
theorem tback_any (va vb : Value) (a b : List Tok) (w : World) (ha : Toks w (Under w.heap.size) va a) (hb : Toks w (Under w.heap.size) vb b) (hla : a.length ≤ 100000000) (hlb : b.length ≤ 100000000) :
    Calls Tryz.prog 11 #[va, vb] w fun e w' => e = .returned (.int .i64 (backN a b)) ∧ Below w.heap.size w w' := by
  obtain ⟨A1, c1, rfl, _⟩ := ha.form
  obtain ⟨A2, c2, rfl, _⟩ := hb.form
  have HA := Lib.hid ha
  have HB := Lib.hid hb
  clear ha hb
  go_enter Tryz.func11, Tryz.ntmps11
  go_wp2_with fail
  refine (tsame_any _ _ a b w HA.out HB.out hla hlb).mono ?_
  rintro e w0 ⟨rfl, hb0⟩
  obtain ⟨hs1, hs2⟩ := sameN_le a b
  obtain ⟨n, hn⟩ : ∃ n : Nat, min (a.length : Int) (b.length : Int) - (sameN a b : Int) = (n : Int) := ⟨min a.length b.length - sameN a b, by omega⟩
  have HBN : Hid (backN a b = min (sameN a.reverse b.reverse) n) := Lib.hid (by unfold backN; congr 1; omega)
  have hn1 : n ≤ a.length := by omega
  have hn2 : n ≤ b.length := by omega
  have HB0 := Lib.hid hb0
  have hw1 : -9223372036854775808 ≤ min (a.length : Int) (b.length : Int) - (sameN a b : Int) ∧ min (a.length : Int) (b.length : Int) - (sameN a b : Int) ≤ 9223372036854775807 := by omega
  clear hb0
  go_wp2
  clear hn hs1 hs2 hw1
  go_loopw [6] (fun i wr => ∃ k : Nat, k ≤ n ∧ i = .int .i64 k ∧ Hid (sameN a.reverse b.reverse = k + sameN (a.reverse.drop k) (b.reverse.drop k)) ∧ Below w.heap.size w wr) (fun i _ => n - (intOf i).toNat)
  case atStart => exact ⟨0, by omega, rfl, Lib.hid (by simp), HB0.out⟩
  case round =>
    obtain ⟨k, hkn, rfl, hsn, hbr⟩ := hrel
    by_cases hlt : k < n
    · have hlt1 : k < a.length := by omega
      have hlt2 : k < b.length := by omega
      have hra : k < a.reverse.length := by rw [List.length_reverse]; exact hlt1
      have hrb : k < b.reverse.length := by rw [List.length_reverse]; exact hlt2
      have hax : a[a.length - 1 - k]? = some a.reverse[k] := by rw [get_rev hlt1]; exact List.getElem?_eq_getElem hra
      have hby : b[b.length - 1 - k]? = some b.reverse[k] := by rw [get_rev hlt2]; exact List.getElem?_eq_getElem hrb
      have HST : Hid (sameN (a.reverse.drop k) (b.reverse.drop k) = if a.reverse[k] = b.reverse[k] then sameN (a.reverse.drop (k + 1)) (b.reverse.drop (k + 1)) + 1 else 0) := Lib.hid (by rw [List.drop_eq_getElem_cons hra, List.drop_eq_getElem_cons hrb, sameN])
      generalize a.reverse[k] = x at *
      generalize b.reverse[k] = y at *
      obtain ⟨g1, o1, rfl, hu1, x0, x1, x2⟩ := HA.out.get hax
      obtain ⟨g2, o2, rfl, hu2, y0, y1, y2⟩ := HB.out.get hby
      have k0 := cell_kept x0 hbr
      have k1 := cell_kept x1 hbr
      have k2 := cell_kept x2 hbr
      have m0 := cell_kept y0 hbr
      have m1 := cell_kept y1 hbr
      have m2 := cell_kept y2 hbr
      obtain ⟨ia, hia⟩ : ∃ ia : Nat, a.length - 1 - k = ia := ⟨_, rfl⟩
      obtain ⟨ib, hib⟩ : ∃ ib : Nat, b.length - 1 - k = ib := ⟨_, rfl⟩
      rw [hia] at k0 k1 k2
      rw [hib] at m0 m1 m2
      have ja : (a.length : Int) - 1 - (k : Int) = (ia : Int) := by omega
      have jb : (b.length : Int) - 1 - (k : Int) = (ib : Int) := by omega
      have la : ia < a.length := by omega
      have lb : ib < b.length := by omega
      have g3 : decide ((k : Int) < (n : Int)) = true := by simp; omega
      clear x0 x1 x2 y0 y1 y2 hax hby hra hrb hia hib
      have HEQ := Lib.hid (tok_eq x y)
      cases q0 : ((x.kind : Int) == (y.kind : Int)) with
      | false =>
        have HNE : Hid (x ≠ y) := Lib.hid (fun e => by have := (HEQ.out.1 e).1; rw [q0] at this; cases this)
        go_wp2
        go_quiet (fail)
        go_wp2
        go_ret
        exact ⟨ret_num (by rw [HBN.out, hsn.out, HST.out, if_neg HNE.out]; omega), drawn_on hbr _⟩
      | true =>
        cases q1 : (x.text.toList == y.text.toList) with
        | false =>
          have HNE : Hid (x ≠ y) := Lib.hid (fun e => by have := (HEQ.out.1 e).2.1; rw [q1] at this; cases this)
          go_wp2
          go_quiet (fail)
          go_wp2
          go_ret
          exact ⟨ret_num (by rw [HBN.out, hsn.out, HST.out, if_neg HNE.out]; omega), drawn_on hbr _⟩
        | true =>
          cases q2 : (x.head.toList == y.head.toList) with
          | false =>
            have HNE : Hid (x ≠ y) := Lib.hid (fun e => by have := (HEQ.out.1 e).2.2; rw [q2] at this; cases this)
            go_wp2
            go_quiet (fail)
            go_wp2
            go_ret
            exact ⟨ret_num (by rw [HBN.out, hsn.out, HST.out, if_neg HNE.out]; omega), drawn_on hbr _⟩
          | true =>
            have HYE : Hid (x = y) := Lib.hid (HEQ.out.2 ⟨q0, q1, q2⟩)
            go_wp2
            go_quiet (fail)
            go_wp2
            exact ⟨⟨k + 1, by omega, by go_num, Lib.hid (by rw [hsn.out, HST.out, if_pos HYE.out]; omega), drawn_on hbr _⟩, by simp [intOf]; omega⟩
    · have g3 : decide ((k : Int) < (n : Int)) = false := by simp; omega
      obtain rfl : k = n := by omega
      go_wp2_with fail
      refine wp_region_quiet_below (by kernel_rfl) (by kernel_rfl) ?_
      repeat (first | go_big_quiet_step (fail) | quiet_step (fail))
      refine wpQuiet_nil ?_
      intro _ hw'
      obtain ⟨⟨dq, osq⟩, hw''⟩ := hw'
      subst hw''
      have HQ := Lib.hid (below_regrown wr dq osq)
      go_wp2
      go_ret
      exact ⟨ret_num (by rw [HBN.out, hsn.out]; omega), belowNext hbr HQ.out⟩
end Go.Proofs.YtggoebbfgkebcaaGreatDoor
