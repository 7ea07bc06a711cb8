/-
  How nodes are written, as plain functions on trees; two right nodes are written alike just if they are the same (no program is named here).
-/
import Derived.Test.YtmmifednhleggaaRightA
namespace Go.Proofs.Ytmmifednhleggaa
open Go.RowKit Go.Sort

def escL : List UInt8 → List UInt8
  | [] => []
  | c :: l => if c == 34 || c == 92 then 92 :: c :: escL l else c :: escL l
def quoteL (l : List UInt8) : List UInt8 := 34 :: (escL l ++ [34])
def commaM : List ByteArray → List UInt8
  | [] => []
  | [s] => s.data.toList
  | s :: l => s.data.toList ++ 44 :: commaM l
def marksW (l : List ByteArray) : List UInt8 := if l.isEmpty then [] else 60 :: (commaM l ++ [62])
def attrW (p : ByteArray × ByteArray) : List UInt8 := p.1.data.toList ++ 61 :: quoteL p.2.data.toList
def blankA : List (ByteArray × ByteArray) → List UInt8
  | [] => []
  | [p] => attrW p
  | p :: l => attrW p ++ 32 :: blankA l
def attrsW (l : List (ByteArray × ByteArray)) : List UInt8 := if l.isEmpty then [] else 40 :: (blankA l ++ [41])
def headW (t : Tree) : List UInt8 := if isTxt t.kind then marksW t.marks else t.kind.data.toList ++ attrsW t.attrs
mutual
def writeB : Tree → List UInt8
  | .mk k t m a l => if isTxt k then quoteL t.data.toList ++ marksW m else (k.data.toList ++ attrsW a) ++ 91 :: (writeAllB l ++ [93])
def writeAllB : List Tree → List UInt8
  | [] => []
  | x :: l => writeB x ++ writeAllB l
end

theorem escL_snoc (l : List UInt8) (c : UInt8) : escL (l ++ [c]) = escL l ++ (if c == 34 || c == 92 then [92, c] else [c]) := by
  induction l with
  | nil => simp only [List.nil_append, escL]
  | cons d l ih => simp only [List.cons_append, escL, ih]; split <;> simp
theorem commaM_snoc (l : List ByteArray) (x : ByteArray) : commaM (l ++ [x]) = if l.isEmpty then x.data.toList else commaM l ++ 44 :: x.data.toList := by
  induction l with
  | nil => simp [commaM]
  | cons d l ih =>
    cases l with
    | nil => simp [commaM]
    | cons e l => simp only [List.cons_append, commaM] at ih ⊢; rw [ih]; simp
theorem blankA_snoc (l : List (ByteArray × ByteArray)) (x : ByteArray × ByteArray) : blankA (l ++ [x]) = if l.isEmpty then attrW x else blankA l ++ 32 :: attrW x := by
  induction l with
  | nil => simp [blankA]
  | cons d l ih =>
    cases l with
    | nil => simp [blankA]
    | cons e l => simp only [List.cons_append, blankA] at ih ⊢; rw [ih]; simp
theorem writeAllB_append (a b : List Tree) : writeAllB (a ++ b) = writeAllB a ++ writeAllB b := by
  induction a with
  | nil => simp [writeAllB]
  | cons x l ih => simp only [List.cons_append, writeAllB, ih, List.append_assoc]

/-! ### how long -/
theorem escL_le (l : List UInt8) : (escL l).length ≤ 2 * l.length := by
  induction l with
  | nil => simp [escL]
  | cons c l ih => simp only [escL]; split <;> simp only [List.length_cons] <;> omega
theorem escL_ge (l : List UInt8) : l.length ≤ (escL l).length := by
  induction l with
  | nil => simp [escL]
  | cons c l ih => simp only [escL]; split <;> simp only [List.length_cons] <;> omega
theorem quoteL_le (l : List UInt8) : (quoteL l).length ≤ 2 * l.length + 2 := by have := escL_le l; simp only [quoteL, List.length_cons, List.length_append, List.length_nil]; omega
theorem commaM_le : ∀ l : List ByteArray, (commaM l).length ≤ weighL l
  | [] => by simp [commaM]
  | [s] => by have := Lib.size_eq s; simp only [commaM, weighL, List.map_cons, List.map_nil, List.sum_cons, List.sum_nil]; omega
  | s :: s' :: l => by
    have := commaM_le (s' :: l); have := Lib.size_eq s
    simp only [commaM, weighL, List.map_cons, List.sum_cons, List.length_append, List.length_cons] at *; omega
theorem marksW_le (l : List ByteArray) : (marksW l).length ≤ weighL l + 2 := by
  have := commaM_le l
  unfold marksW; split <;> simp only [List.length_nil, List.length_cons, List.length_append] <;> omega
theorem blankA_le : ∀ l : List (ByteArray × ByteArray), (blankA l).length ≤ 4 * weighP l
  | [] => by simp [blankA]
  | [p] => by
    have := Lib.size_eq p.1; have := Lib.size_eq p.2; have := quoteL_le p.2.data.toList
    simp only [blankA, attrW, weighP, List.map_cons, List.map_nil, List.sum_cons, List.sum_nil, List.length_append, List.length_cons]; omega
  | p :: q :: l => by
    have := blankA_le (q :: l); have := Lib.size_eq p.1; have := Lib.size_eq p.2; have := quoteL_le p.2.data.toList
    simp only [blankA, attrW, weighP, List.map_cons, List.sum_cons, List.length_append, List.length_cons] at *; omega
theorem attrsW_le (l : List (ByteArray × ByteArray)) : (attrsW l).length ≤ 4 * weighP l + 2 := by
  have := blankA_le l
  unfold attrsW; split <;> simp only [List.length_nil, List.length_cons, List.length_append] <;> omega
mutual
theorem writeB_le : ∀ t : Tree, (writeB t).length ≤ 4 * weigh t
  | .mk k t m a l => by
    have h1 := writeAllB_le l
    have h2 := quoteL_le t.data.toList
    have h3 := Lib.size_eq t
    have h4 := Lib.size_eq k
    have h5 := marksW_le m
    have h6 := attrsW_le a
    simp only [writeB, weigh]; split <;> simp only [List.length_append, List.length_cons, List.length_nil] <;> omega
theorem writeAllB_le : ∀ l : List Tree, (writeAllB l).length ≤ 4 * weighAll l
  | [] => by simp [writeAllB]
  | x :: l => by have h1 := writeB_le x; have h2 := writeAllB_le l; simp only [writeAllB, weighAll, List.length_append]; omega
end

/-! ### written alike, the same -/
theorem esc_inj : ∀ (l l' r r' : List UInt8), escL l ++ 34 :: r = escL l' ++ 34 :: r' → l = l' ∧ r = r'
  | [], [], r, r', h => by simpa [escL] using h
  | [], c :: l', r, r', h => by
    simp only [escL] at h
    split at h
    · simp at h
    · rename_i hc
      simp only [List.nil_append, List.cons_append, List.cons.injEq] at h
      exact absurd (by rw [← h.1]; rfl) hc
  | c :: l, [], r, r', h => by
    simp only [escL] at h
    split at h
    · simp at h
    · rename_i hc
      simp only [List.nil_append, List.cons_append, List.cons.injEq] at h
      exact absurd (by rw [h.1]; rfl) hc
  | c :: l, c' :: l', r, r', h => by
    simp only [escL] at h
    split at h
    · split at h
      · simp only [List.cons_append, List.cons.injEq, true_and] at h
        obtain ⟨e, h⟩ := h
        obtain ⟨h1, h2⟩ := esc_inj l l' r r' h
        exact ⟨by rw [e, h1], h2⟩
      · rename_i hc'
        simp only [List.cons_append, List.cons.injEq] at h
        exact absurd (by rw [← h.1]; rfl) hc'
    · rename_i hc
      split at h
      · simp only [List.cons_append, List.cons.injEq] at h
        exact absurd (by rw [h.1]; rfl) hc
      · simp only [List.cons_append, List.cons.injEq] at h
        obtain ⟨e, h⟩ := h
        obtain ⟨h1, h2⟩ := esc_inj l l' r r' h
        exact ⟨by rw [e, h1], h2⟩
theorem quote_inj {l l' r r' : List UInt8} (h : quoteL l ++ r = quoteL l' ++ r') : l = l' ∧ r = r' := by
  simp only [quoteL, List.cons_append, List.append_assoc, List.cons.injEq, true_and, List.nil_append] at h
  exact esc_inj l l' r r' h
theorem letters_inj : ∀ (a b r r' : List UInt8) (x y : UInt8), (∀ c ∈ a, small c = true) → (∀ c ∈ b, small c = true) → small x = false → small y = false → a ++ x :: r = b ++ y :: r' → a = b ∧ x = y ∧ r = r'
  | [], [], r, r', x, y, _, _, _, _, h => by simp at h; exact ⟨rfl, h.1, h.2⟩
  | [], c :: b, r, r', x, y, _, hb, hx, _, h => by
    simp only [List.nil_append, List.cons_append, List.cons.injEq] at h
    have := hb c (by simp); rw [← h.1, hx] at this; cases this
  | c :: a, [], r, r', x, y, ha, _, _, hy, h => by
    simp only [List.nil_append, List.cons_append, List.cons.injEq] at h
    have := ha c (by simp); rw [h.1, hy] at this; cases this
  | c :: a, d :: b, r, r', x, y, ha, hb, hx, hy, h => by
    simp only [List.cons_append, List.cons.injEq] at h
    obtain ⟨h1, h2, h3⟩ := letters_inj a b r r' x y (fun c hc => ha c (by simp [hc])) (fun c hc => hb c (by simp [hc])) hx hy h.2
    exact ⟨by rw [h.1, h1], h2, h3⟩
theorem name_small {s : ByteArray} (h : nameB s = true) : ∀ c ∈ s.data.toList, small c = true := by
  simp only [nameB, Bool.and_eq_true, List.all_eq_true] at h
  exact h.2.2.2
theorem name_ne {s : ByteArray} (h : nameB s = true) : s.data.toList ≠ [] := by
  simp only [nameB, Bool.and_eq_true, decide_eq_true_eq] at h
  have := Lib.size_eq s
  intro e; rw [e, List.length_nil] at this; omega
theorem bytes_of {s t : ByteArray} (h : s.data.toList = t.data.toList) : s = t := ByteArray.ext (Array.ext' h)
theorem marks_names {m : List ByteArray} (h : marksB m = true) : ∀ s ∈ m, nameB s = true := by
  intro s hs
  obtain ⟨i, hi, rfl⟩ := List.getElem_of_mem hs
  simp only [marksB, List.all_eq_true, List.mem_range] at h
  have := h i hi
  simp only [markOk, Bool.and_eq_true, List.getD, List.getElem?_eq_getElem hi, Option.getD_some] at this
  exact this.1
theorem attrs_names {m : List (ByteArray × ByteArray)} (h : attrsB m = true) : ∀ p ∈ m, nameB p.1 = true := by
  intro s hs
  obtain ⟨i, hi, rfl⟩ := List.getElem_of_mem hs
  simp only [attrsB, List.all_eq_true, List.mem_range] at h
  have := h i hi
  simp only [attrOk, pairAt, Bool.and_eq_true, List.getD, List.getElem?_eq_getElem hi, Option.getD_some] at this
  exact this.1
theorem comma_inj : ∀ (m m' : List ByteArray) (r r' : List UInt8), m ≠ [] → m' ≠ [] → (∀ s ∈ m, nameB s = true) → (∀ s ∈ m', nameB s = true) → commaM m ++ 62 :: r = commaM m' ++ 62 :: r' → m = m' ∧ r = r'
  | [], _, _, _, h, _, _, _, _ => absurd rfl h
  | _ :: _, [], _, _, _, h, _, _, _ => absurd rfl h
  | [s], [s'], r, r', _, _, hm, hm', h => by
    obtain ⟨h1, _, h3⟩ := letters_inj _ _ _ _ _ _ (name_small (hm s (by simp))) (name_small (hm' s' (by simp))) (by decide) (by decide) h
    exact ⟨by rw [bytes_of h1], h3⟩
  | [s], s' :: t' :: l', r, r', _, _, hm, hm', h => by
    simp only [commaM, List.append_assoc, List.cons_append] at h
    obtain ⟨_, h2, _⟩ := letters_inj _ _ _ _ _ _ (name_small (hm s (by simp))) (name_small (hm' s' (by simp))) (by decide) (by decide) h
    exact absurd h2 (by decide)
  | s :: t :: l, [s'], r, r', _, _, hm, hm', h => by
    simp only [commaM, List.append_assoc, List.cons_append] at h
    obtain ⟨_, h2, _⟩ := letters_inj _ _ _ _ _ _ (name_small (hm s (by simp))) (name_small (hm' s' (by simp))) (by decide) (by decide) h
    exact absurd h2 (by decide)
  | s :: t :: l, s' :: t' :: l', r, r', _, _, hm, hm', h => by
    simp only [commaM, List.append_assoc, List.cons_append] at h
    obtain ⟨h1, _, h3⟩ := letters_inj _ _ _ _ _ _ (name_small (hm s (by simp))) (name_small (hm' s' (by simp))) (by decide) (by decide) h
    obtain ⟨h4, h5⟩ := comma_inj (t :: l) (t' :: l') r r' (by simp) (by simp) (fun x hx => hm x (by simp [hx])) (fun x hx => hm' x (by simp [hx])) h3
    exact ⟨by rw [bytes_of h1, h4], h5⟩
theorem blank_inj : ∀ (m m' : List (ByteArray × ByteArray)) (r r' : List UInt8), m ≠ [] → m' ≠ [] → (∀ s ∈ m, nameB s.1 = true) → (∀ s ∈ m', nameB s.1 = true) → blankA m ++ 41 :: r = blankA m' ++ 41 :: r' → m = m' ∧ r = r'
  | [], _, _, _, h, _, _, _, _ => absurd rfl h
  | _ :: _, [], _, _, _, h, _, _, _ => absurd rfl h
  | [s], [s'], r, r', _, _, hm, hm', h => by
    simp only [blankA, attrW, List.append_assoc, List.cons_append] at h
    obtain ⟨h1, _, h3⟩ := letters_inj _ _ _ _ _ _ (name_small (hm s (by simp))) (name_small (hm' s' (by simp))) (by decide) (by decide) h
    obtain ⟨h4, h5⟩ := quote_inj h3
    simp only [List.cons.injEq, true_and] at h5
    exact ⟨by rw [Prod.ext (bytes_of h1) (bytes_of h4)], h5⟩
  | [s], s' :: t' :: l', r, r', _, _, hm, hm', h => by
    simp only [blankA, attrW, List.append_assoc, List.cons_append] at h
    obtain ⟨h1, _, h3⟩ := letters_inj _ _ _ _ _ _ (name_small (hm s (by simp))) (name_small (hm' s' (by simp))) (by decide) (by decide) h
    obtain ⟨h4, h5⟩ := quote_inj h3
    simp only [List.cons.injEq] at h5
    exact absurd h5.1 (by decide)
  | s :: t :: l, [s'], r, r', _, _, hm, hm', h => by
    simp only [blankA, attrW, List.append_assoc, List.cons_append] at h
    obtain ⟨h1, _, h3⟩ := letters_inj _ _ _ _ _ _ (name_small (hm s (by simp))) (name_small (hm' s' (by simp))) (by decide) (by decide) h
    obtain ⟨h4, h5⟩ := quote_inj h3
    simp only [List.cons.injEq] at h5
    exact absurd h5.1 (by decide)
  | s :: t :: l, s' :: t' :: l', r, r', _, _, hm, hm', h => by
    simp only [blankA, attrW, List.append_assoc, List.cons_append] at h
    obtain ⟨h1, _, h3⟩ := letters_inj _ _ _ _ _ _ (name_small (hm s (by simp))) (name_small (hm' s' (by simp))) (by decide) (by decide) h
    obtain ⟨h4, h5⟩ := quote_inj h3
    simp only [List.cons.injEq, true_and] at h5
    obtain ⟨h6, h7⟩ := blank_inj (t :: l) (t' :: l') r r' (by simp) (by simp) (fun x hx => hm x (by simp [hx])) (fun x hx => hm' x (by simp [hx])) h5
    exact ⟨by rw [Prod.ext (bytes_of h1) (bytes_of h4), h6], h7⟩
/-- What may stand behind a node. -/
def Aft (r : List UInt8) : Prop := ∀ c, r.head? = some c → c ≠ 60
theorem marks_inj (m m' : List ByteArray) (r r' : List UInt8) (hm : ∀ s ∈ m, nameB s = true) (hm' : ∀ s ∈ m', nameB s = true) (hr : Aft r) (hr' : Aft r') (h : marksW m ++ r = marksW m' ++ r') : m = m' ∧ r = r' := by
  unfold marksW at h
  cases m with
  | nil =>
    cases m' with
    | nil => exact ⟨rfl, by simpa using h⟩
    | cons s' l' =>
      simp at h
      exact absurd rfl (hr 60 (by rw [h]; rfl))
  | cons s l =>
    cases m' with
    | nil =>
      simp at h
      exact absurd rfl (hr' 60 (by rw [← h]; rfl))
    | cons s' l' =>
      simp only [List.isEmpty_cons, Bool.false_eq_true, if_false, List.cons_append, List.append_assoc, List.nil_append, List.cons.injEq, true_and] at h
      exact comma_inj (s :: l) (s' :: l') r r' (by simp) (by simp) hm hm' h
theorem attrs_inj (m m' : List (ByteArray × ByteArray)) (r r' : List UInt8) (hm : ∀ s ∈ m, nameB s.1 = true) (hm' : ∀ s ∈ m', nameB s.1 = true) (h : attrsW m ++ 91 :: r = attrsW m' ++ 91 :: r') : m = m' ∧ r = r' := by
  unfold attrsW at h
  cases m with
  | nil =>
    cases m' with
    | nil => exact ⟨rfl, by simpa using h⟩
    | cons s' l' => simp at h
  | cons s l =>
    cases m' with
    | nil => simp at h
    | cons s' l' =>
      simp only [List.isEmpty_cons, Bool.false_eq_true, if_false, List.cons_append, List.append_assoc, List.nil_append, List.cons.injEq, true_and] at h
      obtain ⟨h1, h2⟩ := blank_inj (s :: l) (s' :: l') _ _ (by simp) (by simp) hm hm' h
      simp only [List.cons.injEq, true_and] at h2
      exact ⟨h1, h2⟩
/-! ### trees -/
theorem text_parts {k t : ByteArray} {m : List ByteArray} {a : List (ByteArray × ByteArray)} {l : List Tree} (hk : isTxt k = true) (h : formedB (.mk k t m a l) = true) : marksB m = true ∧ a = [] ∧ l = [] := by
  rw [formedB_text hk] at h
  obtain ⟨_, _, h3, h4, h5⟩ := textB_parts h
  exact ⟨h3, List.eq_nil_of_length_eq_zero h4, List.eq_nil_of_length_eq_zero h5⟩
theorem node_parts {k t : ByteArray} {m : List ByteArray} {a : List (ByteArray × ByteArray)} {l : List Tree} (hk : isTxt k = false) (h : formedB (.mk k t m a l) = true) : nameB k = true ∧ t.data.toList = [] ∧ m = [] ∧ attrsB a = true ∧ rowB none l = true := by
  rw [formedB_node hk] at h
  simp only [headB, Bool.and_eq_true, Tree.kind, Tree.text, Tree.marks, Tree.attrs] at h
  exact ⟨h.1.1, empty_data.1 h.1.2.1, List.eq_nil_of_length_eq_zero (of_decide_eq_true h.1.2.2.1), h.1.2.2.2, h.2⟩
theorem txt_eq {k k' : ByteArray} (h : isTxt k = true) (h' : isTxt k' = true) : k = k' := by
  unfold isTxt at h h'
  rw [beq_iff_eq, Lib.toList_data] at h h'
  exact bytes_of (h.trans h'.symm)
theorem row_all : ∀ (l : List Tree) (p : Option Tree), rowB p l = true → ∀ x ∈ l, formedB x = true
  | [], _, _, x, hx => by cases hx
  | y :: l, p, h, x, hx => by
    simp only [rowB, Bool.and_eq_true] at h
    rcases List.mem_cons.1 hx with e | e
    · subst e; exact h.2.1
    · exact row_all l (some y) h.2.2 x e
/-- The first sign of a node. -/
theorem write_head (x : Tree) (h : formedB x = true) : ∃ c r, writeB x = c :: r ∧ ((isTxt x.kind = true ∧ c = 34) ∨ (isTxt x.kind = false ∧ small c = true)) := by
  obtain ⟨k, t, m, a, l⟩ := x
  cases hk : isTxt k with
  | true => exact ⟨34, escL t.data.toList ++ [34] ++ marksW m, by simp only [writeB, hk, if_true, quoteL, List.cons_append], .inl ⟨hk, rfl⟩⟩
  | false =>
    obtain ⟨h1, _⟩ := node_parts hk h
    have hn := name_ne h1
    have hs := name_small h1
    cases hd : k.data.toList with
    | nil => exact absurd hd hn
    | cons c r =>
      refine ⟨c, r ++ attrsW a ++ 91 :: (writeAllB l ++ [93]), ?_, .inr ⟨hk, hs c (by rw [hd]; simp)⟩⟩
      simp only [writeB, hk, Bool.false_eq_true, if_false, hd, List.cons_append]
theorem small_ne {c : UInt8} (h : small c = true) : c ≠ 34 ∧ c ≠ 93 ∧ c ≠ 60 := by
  refine ⟨?_, ?_, ?_⟩ <;> (rintro rfl; exact absurd h (by decide))
theorem aft_all (l : List Tree) (r : List UInt8) (h : ∀ x ∈ l, formedB x = true) (hr : Aft r) : Aft (writeAllB l ++ r) := by
  cases l with
  | nil => simpa [writeAllB] using hr
  | cons x l =>
    obtain ⟨c, s, e, hc⟩ := write_head x (h x (by simp))
    intro d hd
    simp only [writeAllB, e, List.cons_append, List.head?_cons, Option.some.injEq] at hd
    subst hd
    rcases hc with ⟨_, rfl⟩ | ⟨_, hc⟩
    · decide
    · exact (small_ne hc).2.2
theorem aft_93 (r : List UInt8) : Aft (93 :: r) := by intro c hc; simp at hc; subst hc; decide

mutual
theorem write_inj : ∀ (t t' : Tree) (r r' : List UInt8), formedB t = true → formedB t' = true → Aft r → Aft r' → writeB t ++ r = writeB t' ++ r' → t = t' ∧ r = r'
  | .mk k t m a l, .mk k' t' m' a' l', r, r', h, h', hr, hr', e => by
    cases hk : isTxt k with
    | true =>
      cases hk' : isTxt k' with
      | true =>
        obtain ⟨p1, rfl, rfl⟩ := text_parts hk h
        obtain ⟨q1, rfl, rfl⟩ := text_parts hk' h'
        simp only [writeB, hk, hk', if_true, List.append_assoc] at e
        obtain ⟨e1, e2⟩ := quote_inj e
        obtain ⟨e3, e4⟩ := marks_inj m m' r r' (marks_names p1) (marks_names q1) hr hr' e2
        exact ⟨by rw [txt_eq hk hk', bytes_of e1, e3], e4⟩
      | false =>
        obtain ⟨c, s, e1, e2⟩ := write_head _ h
        obtain ⟨c', s', e3, e4⟩ := write_head _ h'
        rw [e1, e3, List.cons_append, List.cons_append] at e
        have e5 := (List.cons.inj e).1
        rcases e2 with ⟨_, rfl⟩ | ⟨e2, _⟩
        · rcases e4 with ⟨e4, _⟩ | ⟨_, e4⟩
          · rw [show (Tree.mk k' t' m' a' l').kind = k' from rfl, hk'] at e4; cases e4
          · exact absurd e5.symm (small_ne e4).1
        · rw [show (Tree.mk k t m a l).kind = k from rfl, hk] at e2; cases e2
    | false =>
      cases hk' : isTxt k' with
      | true =>
        obtain ⟨c, s, e1, e2⟩ := write_head _ h
        obtain ⟨c', s', e3, e4⟩ := write_head _ h'
        rw [e1, e3, List.cons_append, List.cons_append] at e
        have e5 := (List.cons.inj e).1
        rcases e4 with ⟨_, rfl⟩ | ⟨e4, _⟩
        · rcases e2 with ⟨e2, _⟩ | ⟨_, e2⟩
          · rw [show (Tree.mk k t m a l).kind = k from rfl, hk] at e2; cases e2
          · exact absurd e5 (small_ne e2).1
        · rw [show (Tree.mk k' t' m' a' l').kind = k' from rfl, hk'] at e4; cases e4
      | false =>
        obtain ⟨p1, p2, rfl, p4, p5⟩ := node_parts hk h
        obtain ⟨q1, q2, rfl, q4, q5⟩ := node_parts hk' h'
        simp only [writeB, hk, hk', Bool.false_eq_true, if_false, List.append_assoc, List.cons_append, List.nil_append] at e
        have key : ∀ (b : List (ByteArray × ByteArray)) (s : List UInt8), ∃ x y, small x = false ∧ attrsW b ++ 91 :: s = x :: y := fun b s => by
          unfold attrsW; split
          · exact ⟨91, s, by decide, rfl⟩
          · exact ⟨40, _, by decide, rfl⟩
        obtain ⟨x, y, hx, ex⟩ := key a (writeAllB l ++ 93 :: r)
        obtain ⟨x', y', hx', ex'⟩ := key a' (writeAllB l' ++ 93 :: r')
        have e' := e
        rw [ex, ex'] at e'
        obtain ⟨e1, e2, e3⟩ := letters_inj _ _ _ _ _ _ (name_small p1) (name_small q1) hx hx' e'
        rw [e1] at e
        have e4 := List.append_cancel_left e
        obtain ⟨e5, e6⟩ := attrs_inj a a' _ _ (attrs_names p4) (attrs_names q4) e4
        obtain ⟨e7, e8⟩ := writeAll_inj l l' r r' (row_all l none p5) (row_all l' none q5) e6
        exact ⟨by rw [bytes_of e1, bytes_of (p2.trans q2.symm), e5, e7], e8⟩
theorem writeAll_inj : ∀ (l l' : List Tree) (r r' : List UInt8), (∀ x ∈ l, formedB x = true) → (∀ x ∈ l', formedB x = true) → writeAllB l ++ 93 :: r = writeAllB l' ++ 93 :: r' → l = l' ∧ r = r'
  | [], [], r, r', _, _, e => by simpa [writeAllB] using e
  | [], y :: l', r, r', _, h', e => by
    obtain ⟨c, s, e1, e2⟩ := write_head y (h' y (by simp))
    simp only [writeAllB, e1, List.nil_append, List.cons_append, List.cons.injEq] at e
    rcases e2 with ⟨_, rfl⟩ | ⟨_, e2⟩
    · exact absurd e.1 (by decide)
    · exact absurd e.1.symm (small_ne e2).2.1
  | x :: l, [], r, r', h, _, e => by
    obtain ⟨c, s, e1, e2⟩ := write_head x (h x (by simp))
    simp only [writeAllB, e1, List.nil_append, List.cons_append, List.cons.injEq] at e
    rcases e2 with ⟨_, rfl⟩ | ⟨_, e2⟩
    · exact absurd e.1 (by decide)
    · exact absurd e.1 (small_ne e2).2.1
  | x :: l, y :: l', r, r', h, h', e => by
    simp only [writeAllB, List.append_assoc] at e
    obtain ⟨e1, e2⟩ := write_inj x y _ _ (h x (by simp)) (h' y (by simp)) (aft_all l _ (fun z hz => h z (by simp [hz])) (aft_93 r)) (aft_all l' _ (fun z hz => h' z (by simp [hz])) (aft_93 r')) e
    obtain ⟨e3, e4⟩ := writeAll_inj l l' r r' (fun z hz => h z (by simp [hz])) (fun z hz => h' z (by simp [hz])) e2
    exact ⟨by rw [e1, e3], e4⟩
end
theorem writeB_inj {t t' : Tree} (h : formedB t = true) (h' : formedB t' = true) (e : writeB t = writeB t') : t = t' :=
  (write_inj t t' [] [] h h' (by intro c hc; cases hc) (by intro c hc; cases hc) (by rw [e])).1
end Go.Proofs.Ytmmifednhleggaa
