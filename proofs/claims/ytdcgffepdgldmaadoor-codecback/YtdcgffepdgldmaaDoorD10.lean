/-
  What was written is read back: the parts of a node.
-/
import Derived.Test.YtdcgffepdgldmaaDoorD8
namespace Go.Proofs.YtdcgffepdgldmaaDoor
open Go.RowKit Go.Sort Go.Maps

theorem unq_plain {c : UInt8} (r : List UInt8) (h1 : (c == 34) = false) (h2 : (c == 92) = false) : unq (c :: r) = (unq r).map (fun p => (c :: p.1, p.2)) := by
  rw [unq.eq_def]; simp only [h1, h2]; rfl
theorem unq_esc : ∀ l r : List UInt8, unq (escL l ++ 34 :: r) = some (l, r)
  | [], r => unq_q r
  | c :: l, r => by
    have ih := unq_esc l r
    by_cases hc : (c == 34 || c == 92) = true
    · have e : escL (c :: l) = 92 :: c :: escL l := by rw [escL]; exact if_pos hc
      rw [e, List.cons_append, List.cons_append, unq_s, if_pos hc, ih]; rfl
    · have e : escL (c :: l) = c :: escL l := by rw [escL]; exact if_neg hc
      have h1 : (c == 34) = false := by cases h : (c == 34) <;> simp_all
      have h2 : (c == 92) = false := by cases h : (c == 92) <;> simp_all
      rw [e, List.cons_append, unq_plain _ h1 h2, ih]; rfl
theorem want_one (a : UInt8) (r : List UInt8) : wantL [a] (a :: r) = r := by simp [wantL, Lib.hasPrefix, List.isPrefixOf]
theorem pre_is (a b : UInt8) (r : List UInt8) : Lib.hasPrefix (b :: r) [a] = (a == b) := by simp [Lib.hasPrefix, List.isPrefixOf]
theorem quo_quote (s : ByteArray) (r : List UInt8) : quoL (quoteL s.data.toList ++ r) = (s, some r) := by
  have h : qL (quoteL s.data.toList ++ r) = some (s.data.toList, r) := by
    unfold qL quoteL
    rw [List.cons_append, want_one, List.append_assoc]
    exact unq_esc _ _
  unfold quoL; rw [h]

theorem letters_take : ∀ (a r : List UInt8) (x : UInt8), (∀ c ∈ a, small c = true) → small x = false → (a ++ x :: r).takeWhile small = a ∧ (a ++ x :: r).dropWhile small = x :: r
  | [], r, x, _, hx => by simp [hx]
  | c :: a, r, x, ha, hx => by
    obtain ⟨h1, h2⟩ := letters_take a r x (fun c hc => ha c (by simp [hc])) hx
    have hc := ha c (by simp)
    rw [List.cons_append, List.takeWhile_cons_of_pos hc, List.dropWhile_cons_of_pos hc, h1, h2]
    exact ⟨rfl, rfl⟩

def tailC : List ByteArray → List UInt8
  | [] => []
  | s :: l => 44 :: (s.data.toList ++ tailC l)
theorem commaM_tail : ∀ (s : ByteArray) (l : List ByteArray), commaM (s :: l) = s.data.toList ++ tailC l
  | s, [] => by simp [commaM, tailC]
  | s, t :: l => by rw [commaM, commaM_tail t l]; rfl; simp
theorem tailC_next (l : List ByteArray) (r : List UInt8) : ∃ x q, tailC l ++ 62 :: r = x :: q ∧ small x = false := by
  cases l with
  | nil => exact ⟨62, r, rfl, by decide⟩
  | cons s l => exact ⟨44, _, rfl, by decide⟩
theorem restNames_back : ∀ (l : List ByteArray) (r : List UInt8), (∀ s ∈ l, nameB s = true) → restNames (tailC l ++ 62 :: r) = (l, 62 :: r)
  | [], r, _ => restNames_no (by rw [tailC, List.nil_append, pre_is]; rfl)
  | s :: l, r, h => by
    obtain ⟨x, q, e, hx⟩ := tailC_next l r
    have e2 : tailC (s :: l) ++ 62 :: r = 44 :: (s.data.toList ++ x :: q) := by rw [tailC, List.cons_append, List.append_assoc, e]
    have ih := restNames_back l r (fun s hs => h s (by simp [hs]))
    obtain ⟨t1, t2⟩ := letters_take s.data.toList q x (name_small (h s (by simp))) hx
    rw [e2, restNames_yes (by rw [pre_is]; rfl)]
    rw [List.drop_one, List.tail_cons, t1, t2, ← e, ih]
theorem marks_back (m : List ByteArray) (r : List UInt8) (hm : ∀ s ∈ m, nameB s = true) (hr : Aft r) : marksL (marksW m ++ r) = (m, r, true) := by
  cases m with
  | nil =>
    have : Lib.hasPrefix r [60] = false := by
      cases r with
      | nil => rfl
      | cons c r => rw [pre_is]; exact beq_eq_false_iff_ne.2 fun e => hr c rfl e.symm
    unfold marksL; exact if_neg (by show ¬ Lib.hasPrefix r [60] = true; rw [this]; decide)
  | cons s l =>
    obtain ⟨x, q, e, hx⟩ := tailC_next l r
    have e2 : marksW (s :: l) ++ r = 60 :: (s.data.toList ++ x :: q) := by
      rw [marksW_cons (by simp), commaM_tail, ← e]; simp
    have hb := restNames_back l r (fun s hs => hm s (by simp [hs]))
    obtain ⟨t1, t2⟩ := letters_take s.data.toList q x (name_small (hm s (by simp))) hx
    rw [e2]; unfold marksL
    rw [if_pos (by rw [pre_is]; rfl)]
    rw [List.drop_one, List.tail_cons, t1, t2, ← e, hb]
    show (s :: l, wantL [62] (62 :: r), Lib.hasPrefix (62 :: r) [62]) = _
    rw [want_one, pre_is]; rfl

theorem attr_back (p : ByteArray × ByteArray) (r : List UInt8) (h : nameB p.1 = true) : attrL (attrW p ++ r) = (p, some r) := by
  have e : attrW p ++ r = p.1.data.toList ++ 61 :: (quoteL p.2.data.toList ++ r) := by unfold attrW; simp
  obtain ⟨t1, t2⟩ := letters_take p.1.data.toList (quoteL p.2.data.toList ++ r) 61 (name_small h) (by decide)
  rw [e]; unfold attrL
  rw [t1, t2, want_one, quo_quote]
def tailA : List (ByteArray × ByteArray) → List UInt8
  | [] => []
  | p :: l => 32 :: (attrW p ++ tailA l)
theorem blankA_tail : ∀ (p : ByteArray × ByteArray) (l : List (ByteArray × ByteArray)), blankA (p :: l) = attrW p ++ tailA l
  | p, [] => by simp [blankA, tailA]
  | p, q :: l => by rw [blankA, blankA_tail q l]; rfl; simp
theorem restAttrs_back : ∀ (l : List (ByteArray × ByteArray)) (r : List UInt8), (∀ p ∈ l, nameB p.1 = true) → restAttrs (tailA l ++ 41 :: r) = (l, 41 :: r, false)
  | [], r, _ => restAttrs_no (by rw [tailA, List.nil_append, pre_is]; rfl)
  | p :: l, r, h => by
    have ih := restAttrs_back l r (fun p hp => h p (by simp [hp]))
    have e : tailA (p :: l) ++ 41 :: r = 32 :: (attrW p ++ (tailA l ++ 41 :: r)) := by rw [tailA]; simp
    have hb := attr_back p (tailA l ++ 41 :: r) (h p (by simp))
    rw [e, restAttrs_yes (by rw [pre_is]; rfl), List.drop_one, List.tail_cons, hb]
    show (p :: (restAttrs (tailA l ++ 41 :: r)).1, (restAttrs (tailA l ++ 41 :: r)).2.1, false || (restAttrs (tailA l ++ 41 :: r)).2.2) = _
    rw [ih]; rfl
theorem attrs_back (m : List (ByteArray × ByteArray)) (r : List UInt8) (hm : ∀ p ∈ m, nameB p.1 = true) : attrsL (attrsW m ++ 91 :: r) = (m, 91 :: r, false) := by
  cases m with
  | nil => unfold attrsL; exact if_neg (by show ¬ Lib.hasPrefix (91 :: r) [40] = true; rw [pre_is]; decide)
  | cons p l =>
    have hb := attr_back p (tailA l ++ 41 :: (91 :: r)) (hm p (by simp))
    have hr := restAttrs_back l (91 :: r) (fun p hp => hm p (by simp [hp]))
    have e : attrsW (p :: l) ++ 91 :: r = 40 :: (attrW p ++ (tailA l ++ 41 :: (91 :: r))) := by rw [attrsW_cons (by simp), blankA_tail]; simp
    rw [e]; unfold attrsL
    rw [if_pos (by rw [pre_is]; rfl), List.drop_one, List.tail_cons, hb]
    show (p :: (restAttrs (tailA l ++ 41 :: (91 :: r))).1, wantL [41] (restAttrs (tailA l ++ 41 :: (91 :: r))).2.1, (false || (restAttrs (tailA l ++ 41 :: (91 :: r))).2.2) || !Lib.hasPrefix (restAttrs (tailA l ++ 41 :: (91 :: r))).2.1 [41]) = _
    rw [hr]
    show (p :: l, wantL [41] (41 :: (91 :: r)), (false || false) || !Lib.hasPrefix (41 :: (91 :: r)) [41]) = _
    rw [want_one, pre_is]; rfl

/-- A text that was written is read back. -/
theorem text_back (t : ByteArray) (m : List ByteArray) (r : List UInt8) (hm : ∀ s ∈ m, nameB s = true) (hr : Aft r) : textL (quoteL t.data.toList ++ (marksW m ++ r)) = (.mk TEXT t m [] [], r, false) := by
  unfold textL
  rw [quo_quote]
  show (Tree.mk TEXT t (marksL (marksW m ++ r)).1 [] [], (marksL (marksW m ++ r)).2.1, false || !(marksL (marksW m ++ r)).2.2) = _
  rw [marks_back m r hm hr]; rfl
/-- .. a head. -/
theorem head_back (k : ByteArray) (a : List (ByteArray × ByteArray)) (r : List UInt8) (hk : nameB k = true) (ha : ∀ p ∈ a, nameB p.1 = true) : headL (k.data.toList ++ (attrsW a ++ 91 :: r)) = (.mk k ⟨#[]⟩ [] a [], r, false) := by
  obtain ⟨x, q, e, hx⟩ : ∃ x q, attrsW a ++ 91 :: r = x :: q ∧ small x = false := by
    cases a with
    | nil => exact ⟨91, r, rfl, by decide⟩
    | cons p l => exact ⟨40, _, by rw [attrsW_cons (by simp)]; rfl, by decide⟩
  obtain ⟨t1, t2⟩ := letters_take k.data.toList q x (name_small hk) hx
  unfold headL
  rw [e, t1, t2, ← e, attrs_back a r ha]
  show (Tree.mk k ⟨#[]⟩ [] a [], wantL [91] (91 :: r), false || !Lib.hasPrefix (91 :: r) [91]) = _
  rw [want_one, pre_is]; rfl
end Go.Proofs.YtdcgffepdgldmaaDoor
