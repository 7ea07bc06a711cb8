/-
  What a round of the reader takes: at least one sign; and what it makes weighs no more than eight times what it took.
-/
import Derived.Test.YtdcgffepdgldmaaDoorD12
namespace Go.Proofs.YtdcgffepdgldmaaDoor
open Go.RowKit Go.Sort Go.Maps

theorem takes_len (l : List UInt8) : (⟨(l.takeWhile small).toArray⟩ : ByteArray).size + (l.dropWhile small).length = l.length := by
  have h : (l.takeWhile small).length + (l.dropWhile small).length = l.length := by
    rw [← List.length_append, List.takeWhile_append_dropWhile]
  simpa [ByteArray.size] using h
theorem bytes_size (l : List UInt8) : (⟨l.toArray⟩ : ByteArray).size = l.length := by simp [ByteArray.size]
theorem quo_size (l : List UInt8) (hl : l ≠ []) : (quoL l).1.size + ((quoL l).2.getD []).length < l.length := by
  have h0 : 0 < l.length := List.length_pos_iff.2 hl
  cases hq : qL l with
  | none => unfold quoL; rw [hq]; exact h0
  | some p =>
    obtain ⟨s, r⟩ := p
    have h1 := unq_len _ _ s r (Nat.le_refl _) hq
    have h2 := wantL_le [34] l
    unfold quoL; rw [hq]
    show (⟨s.toArray⟩ : ByteArray).size + r.length < _
    rw [bytes_size]; omega
theorem quo_sizeLe (l : List UInt8) : (quoL l).1.size + ((quoL l).2.getD []).length ≤ l.length := by
  by_cases hl : l = []
  · subst hl
    have hq : qL [] = none := by unfold qL; rw [show wantL [34] [] = [] from rfl]; rw [unq.eq_def]
    unfold quoL; rw [hq]; exact Nat.le_refl _
  · exact Nat.le_of_lt (quo_size l hl)
theorem attr_size (l : List UInt8) : (attrL l).1.1.size + (attrL l).1.2.size + ((attrL l).2.getD []).length ≤ l.length := by
  have h1 := takes_len l
  have h2 := quo_sizeLe (wantL [61] (l.dropWhile small))
  have h3 := wantL_le [61] (l.dropWhile small)
  show (⟨(l.takeWhile small).toArray⟩ : ByteArray).size + (quoL (wantL [61] (l.dropWhile small))).1.size + ((quoL (wantL [61] (l.dropWhile small))).2.getD []).length ≤ l.length
  omega
theorem pre_pos {l : List UInt8} {a : UInt8} (h : Lib.hasPrefix l [a] = true) : (l.drop 1).length + 1 = l.length := by
  cases l with
  | nil => simp [Lib.hasPrefix, List.isPrefixOf] at h
  | cons _ _ => simp
theorem weighL_cons (s : ByteArray) (l : List ByteArray) : weighL (s :: l) = s.size + 1 + weighL l := by simp [weighL]
theorem weighP_cons (p : ByteArray × ByteArray) (l : List (ByteArray × ByteArray)) : weighP (p :: l) = p.1.size + p.2.size + 1 + weighP l := by simp [weighP]
theorem restNames_size : ∀ (n : Nat) (l : List UInt8), l.length ≤ n → weighL (restNames l).1 + (restNames l).2.length ≤ l.length := by
  intro n
  induction n with
  | zero =>
    intro l hl
    obtain rfl : l = [] := List.eq_nil_of_length_eq_zero (by omega)
    rw [restNames.eq_def]; exact Nat.le_refl _
  | succ n ih =>
    intro l hl
    cases hp : Lib.hasPrefix l [44] with
    | false => rw [restNames_no hp]; simp [weighL]
    | true =>
      have h1 := pre_pos hp
      have h2 := takes_len (l.drop 1)
      have h3 := ih ((l.drop 1).dropWhile small) (by omega)
      rw [restNames_yes hp]
      show weighL (_ :: _) + (restNames ((l.drop 1).dropWhile small)).2.length ≤ _
      rw [weighL_cons]; omega
theorem restAttrs_size : ∀ (n : Nat) (l : List UInt8), l.length ≤ n → weighP (restAttrs l).1 + (restAttrs l).2.1.length ≤ l.length := by
  intro n
  induction n with
  | zero =>
    intro l hl
    obtain rfl : l = [] := List.eq_nil_of_length_eq_zero (by omega)
    rw [restAttrs_no rfl]; exact Nat.le_refl _
  | succ n ih =>
    intro l hl
    cases hp : Lib.hasPrefix l [32] with
    | false => rw [restAttrs_no hp]; simp [weighP]
    | true =>
      have h1 := pre_pos hp
      have h2 := attr_size (l.drop 1)
      have h3 := ih ((attrL (l.drop 1)).2.getD []) (by omega)
      rw [restAttrs_yes hp]
      show weighP (_ :: _) + (restAttrs ((attrL (l.drop 1)).2.getD [])).2.1.length ≤ _
      rw [weighP_cons]; omega
theorem marks_size (l : List UInt8) : weighL (marksL l).1 + (marksL l).2.1.length ≤ l.length := by
  unfold marksL
  split
  · rename_i hp
    have h1 := pre_pos hp
    have h2 := takes_len (l.drop 1)
    have h3 := restNames_size _ ((l.drop 1).dropWhile small) (Nat.le_refl _)
    have h4 := wantL_le [62] (restNames ((l.drop 1).dropWhile small)).2
    show weighL (_ :: _) + _ ≤ _
    rw [weighL_cons]
    show _ + (wantL [62] _).length ≤ _
    omega
  · simp [weighL]
theorem attrs_size (l : List UInt8) : weighP (attrsL l).1 + (attrsL l).2.1.length ≤ l.length := by
  unfold attrsL
  split
  · rename_i hp
    have h1 := pre_pos hp
    have h2 := attr_size (l.drop 1)
    have h3 := restAttrs_size _ ((attrL (l.drop 1)).2.getD []) (Nat.le_refl _)
    have h4 := wantL_le [41] (restAttrs ((attrL (l.drop 1)).2.getD [])).2.1
    show weighP (_ :: _) + _ ≤ _
    rw [weighP_cons]
    show _ + (wantL [41] _).length ≤ _
    omega
  · simp [weighP]
theorem text_size (l : List UInt8) (hl : l ≠ []) : weigh (textL l).1 + 8 * (textL l).2.1.length ≤ 8 * l.length ∧ (textL l).2.1.length + 1 ≤ l.length := by
  have h1 := quo_size l hl
  have h2 := marks_size ((quoL l).2.getD [])
  have e1 : weigh (textL l).1 = 4 + (quoL l).1.size + weighL (marksL ((quoL l).2.getD [])).1 + 2 := by
    unfold textL; simp only [weigh, weighP, weighAll, List.map_nil, List.sum_nil]
    rw [show TEXT.size = 4 from rfl]; omega
  have e2 : (textL l).2.1 = (marksL ((quoL l).2.getD [])).2.1 := rfl
  rw [e1, e2]
  omega
theorem want_cases (a : UInt8) (l : List UInt8) : (wantL [a] l).length + 1 ≤ l.length ∨ wantL [a] l = [] := by
  unfold wantL
  split
  · rename_i hp
    left
    have := pre_pos hp
    show (l.drop 1).length + 1 ≤ _
    omega
  · exact .inr rfl
theorem head_size (l : List UInt8) (hl : l ≠ []) : weigh (headL l).1 + 8 * (headL l).2.1.length ≤ 8 * l.length ∧ (headL l).2.1.length + 1 ≤ l.length := by
  have h0 : 0 < l.length := List.length_pos_iff.2 hl
  have h1 := takes_len l
  have h2 := attrs_size (l.dropWhile small)
  have e1 : weigh (headL l).1 = (⟨(l.takeWhile small).toArray⟩ : ByteArray).size + weighP (attrsL (l.dropWhile small)).1 + 2 := by
    unfold headL; simp only [weigh, weighL, weighAll, List.map_nil, List.sum_nil]
    rw [show (⟨#[]⟩ : ByteArray).size = 0 from rfl]; omega
  have e2 : (headL l).2.1 = wantL [91] (attrsL (l.dropWhile small)).2.1 := rfl
  rw [e1, e2]
  rcases want_cases 91 (attrsL (l.dropWhile small)).2.1 with h | h
  · omega
  · rw [h]; simp only [List.length_nil]; omega
theorem weigh_kid (t k : Tree) : weigh (addKid t k) = weigh t + weigh k := by
  obtain ⟨a, b, m, p, l⟩ := t
  simp only [addKid, weigh, Tree.kind, Tree.text, Tree.marks, Tree.attrs, Tree.kids, weighAll_append, weighAll]
  omega
theorem weigh_closed (d : Nat) (t : Tree) : weigh (closedL d t).1 ≤ weigh t := by
  unfold closedL
  split
  · exact Nat.le_refl _
  · obtain ⟨a, b, m, p, l⟩ := t
    simp only [bare, weigh, Tree.kind, Tree.text, Tree.marks, Tree.attrs, weighAll]
    omega
/-- A round makes no more than it takes. -/
theorem round_size (c : UInt8) (l : List UInt8) (x : Bool) (top : Tree) (st : List Tree) :
    weighAll (roundL c l x top st).2.2 + 8 * (roundL c l x top st).1.length ≤ weighAll (top :: st) + 8 * (l.length + 1) ∧ (roundL c l x top st).1.length ≤ l.length := by
  have ht := text_size (c :: l) (by simp)
  have hh := head_size (c :: l) (by simp)
  simp only [List.length_cons] at ht hh
  unfold roundL
  split
  · simp only [weighAll, weigh_kid]; omega
  · split
    · split
      · simp only [weighAll, List.length_nil]; omega
      · rename_i up st'
        have hc := weigh_closed (st'.length + 1) top
        simp only [weighAll, weigh_kid]
        have : (if (closedL (st'.length + 1) top).2 = true then ([] : List UInt8) else l).length ≤ l.length := by split <;> simp
        omega
    · simp only [weighAll]; omega
theorem weigh_two (t : Tree) : 2 ≤ weigh t := by
  obtain ⟨a, b, m, p, l⟩ := t
  rw [weigh]; omega
theorem len_weigh : ∀ l : List Tree, 2 * l.length ≤ weighAll l
  | [] => Nat.le_refl _
  | t :: l => by have := weigh_two t; have := len_weigh l; rw [weighAll, List.length_cons]; omega
end Go.Proofs.YtdcgffepdgldmaaDoor
