/-
  What a round of the reader takes: at least one sign; and what it makes weighs no more than eight times what it took.
  The open nodes of the reader in memory: a row of the call's own, each node's kids a row of the call's own; no two share a block.
  The open row of the reader turned: a kid more, a node more, a node closed.
  The reader's loop: its operations as steps, and what a kid that is appended makes of the open row.
-/
import Derived.Test.YtggoebbfgkebcaaDoorMF
namespace Go.Proofs.YtggoebbfgkebcaaDoor
open Go.RowKit Go.Sort Go.Maps

theorem takes_len (l : List UInt8) : (⟨(l.takeWhile small).toArray⟩ : ByteArray).size + (l.dropWhile small).length = l.length := by
  have h : (l.takeWhile small).length + (l.dropWhile small).length = l.length := by
    rw [← List.length_append, List.takeWhile_append_dropWhile]
  simpa [ByteArray.size] using h
theorem bytes_size (l : List UInt8) : (⟨l.toArray⟩ : ByteArray).size = l.length := by simp [ByteArray.size]
theorem quo_size (l : List UInt8) (hl : l ≠ []) : (quoL l).1.size + ((quoL l).2.getD []).length < l.length := by
  have h0 : 0 < l.length := List.length_pos_iff.2 hl
  cases hq : qL l with
  | none => unfold quoL; rw [hq]; exact h0
  | some p =>
    obtain ⟨s, r⟩ := p
    have h1 := unq_len _ _ s r (Nat.le_refl _) hq
    have h2 := wantL_le [34] l
    unfold quoL; rw [hq]
    show (⟨s.toArray⟩ : ByteArray).size + r.length < _
    rw [bytes_size]; omega
theorem quo_sizeLe (l : List UInt8) : (quoL l).1.size + ((quoL l).2.getD []).length ≤ l.length := by
  by_cases hl : l = []
  · subst hl
    have hq : qL [] = none := by unfold qL; rw [show wantL [34] [] = [] from rfl]; rw [unq.eq_def]
    unfold quoL; rw [hq]; exact Nat.le_refl _
  · exact Nat.le_of_lt (quo_size l hl)
theorem attr_size (l : List UInt8) : (attrL l).1.1.size + (attrL l).1.2.size + ((attrL l).2.getD []).length ≤ l.length := by
  have h1 := takes_len l
  have h2 := quo_sizeLe (wantL [61] (l.dropWhile small))
  have h3 := wantL_le [61] (l.dropWhile small)
  show (⟨(l.takeWhile small).toArray⟩ : ByteArray).size + (quoL (wantL [61] (l.dropWhile small))).1.size + ((quoL (wantL [61] (l.dropWhile small))).2.getD []).length ≤ l.length
  omega
theorem pre_pos {l : List UInt8} {a : UInt8} (h : Lib.hasPrefix l [a] = true) : (l.drop 1).length + 1 = l.length := by
  cases l with
  | nil => simp [Lib.hasPrefix, List.isPrefixOf] at h
  | cons _ _ => simp
theorem weighL_cons (s : ByteArray) (l : List ByteArray) : weighL (s :: l) = s.size + 1 + weighL l := by simp [weighL]
theorem weighP_cons (p : ByteArray × ByteArray) (l : List (ByteArray × ByteArray)) : weighP (p :: l) = p.1.size + p.2.size + 1 + weighP l := by simp [weighP]
theorem restNames_size : ∀ (n : Nat) (l : List UInt8), l.length ≤ n → weighL (restNames l).1 + (restNames l).2.length ≤ l.length := by
  intro n
  induction n with
  | zero =>
    intro l hl
    obtain rfl : l = [] := List.eq_nil_of_length_eq_zero (by omega)
    rw [restNames.eq_def]; exact Nat.le_refl _
  | succ n ih =>
    intro l hl
    cases hp : Lib.hasPrefix l [44] with
    | false => rw [restNames_no hp]; simp [weighL]
    | true =>
      have h1 := pre_pos hp
      have h2 := takes_len (l.drop 1)
      have h3 := ih ((l.drop 1).dropWhile small) (by omega)
      rw [restNames_yes hp]
      show weighL (_ :: _) + (restNames ((l.drop 1).dropWhile small)).2.length ≤ _
      rw [weighL_cons]; omega
theorem restAttrs_size : ∀ (n : Nat) (l : List UInt8), l.length ≤ n → weighP (restAttrs l).1 + (restAttrs l).2.1.length ≤ l.length := by
  intro n
  induction n with
  | zero =>
    intro l hl
    obtain rfl : l = [] := List.eq_nil_of_length_eq_zero (by omega)
    rw [restAttrs_no rfl]; exact Nat.le_refl _
  | succ n ih =>
    intro l hl
    cases hp : Lib.hasPrefix l [32] with
    | false => rw [restAttrs_no hp]; simp [weighP]
    | true =>
      have h1 := pre_pos hp
      have h2 := attr_size (l.drop 1)
      have h3 := ih ((attrL (l.drop 1)).2.getD []) (by omega)
      rw [restAttrs_yes hp]
      show weighP (_ :: _) + (restAttrs ((attrL (l.drop 1)).2.getD [])).2.1.length ≤ _
      rw [weighP_cons]; omega
theorem marks_size (l : List UInt8) : weighL (marksL l).1 + (marksL l).2.1.length ≤ l.length := by
  unfold marksL
  split
  · rename_i hp
    have h1 := pre_pos hp
    have h2 := takes_len (l.drop 1)
    have h3 := restNames_size _ ((l.drop 1).dropWhile small) (Nat.le_refl _)
    have h4 := wantL_le [62] (restNames ((l.drop 1).dropWhile small)).2
    show weighL (_ :: _) + _ ≤ _
    rw [weighL_cons]
    show _ + (wantL [62] _).length ≤ _
    omega
  · simp [weighL]
theorem attrs_size (l : List UInt8) : weighP (attrsL l).1 + (attrsL l).2.1.length ≤ l.length := by
  unfold attrsL
  split
  · rename_i hp
    have h1 := pre_pos hp
    have h2 := attr_size (l.drop 1)
    have h3 := restAttrs_size _ ((attrL (l.drop 1)).2.getD []) (Nat.le_refl _)
    have h4 := wantL_le [41] (restAttrs ((attrL (l.drop 1)).2.getD [])).2.1
    show weighP (_ :: _) + _ ≤ _
    rw [weighP_cons]
    show _ + (wantL [41] _).length ≤ _
    omega
  · simp [weighP]
theorem text_size (l : List UInt8) (hl : l ≠ []) : weigh (textL l).1 + 8 * (textL l).2.1.length ≤ 8 * l.length ∧ (textL l).2.1.length + 1 ≤ l.length := by
  have h1 := quo_size l hl
  have h2 := marks_size ((quoL l).2.getD [])
  have e1 : weigh (textL l).1 = 4 + (quoL l).1.size + weighL (marksL ((quoL l).2.getD [])).1 + 2 := by
    unfold textL; simp only [weigh, weighP, weighAll, List.map_nil, List.sum_nil]
    rw [show TEXT.size = 4 from rfl]; omega
  have e2 : (textL l).2.1 = (marksL ((quoL l).2.getD [])).2.1 := rfl
  rw [e1, e2]
  omega
theorem want_cases (a : UInt8) (l : List UInt8) : (wantL [a] l).length + 1 ≤ l.length ∨ wantL [a] l = [] := by
  unfold wantL
  split
  · rename_i hp
    left
    have := pre_pos hp
    show (l.drop 1).length + 1 ≤ _
    omega
  · exact .inr rfl
theorem head_size (l : List UInt8) (hl : l ≠ []) : weigh (headL l).1 + 8 * (headL l).2.1.length ≤ 8 * l.length ∧ (headL l).2.1.length + 1 ≤ l.length := by
  have h0 : 0 < l.length := List.length_pos_iff.2 hl
  have h1 := takes_len l
  have h2 := attrs_size (l.dropWhile small)
  have e1 : weigh (headL l).1 = (⟨(l.takeWhile small).toArray⟩ : ByteArray).size + weighP (attrsL (l.dropWhile small)).1 + 2 := by
    unfold headL; simp only [weigh, weighL, weighAll, List.map_nil, List.sum_nil]
    rw [show (⟨#[]⟩ : ByteArray).size = 0 from rfl]; omega
  have e2 : (headL l).2.1 = wantL [91] (attrsL (l.dropWhile small)).2.1 := rfl
  rw [e1, e2]
  rcases want_cases 91 (attrsL (l.dropWhile small)).2.1 with h | h
  · omega
  · rw [h]; simp only [List.length_nil]; omega
theorem weigh_kid (t k : Tree) : weigh (addKid t k) = weigh t + weigh k := by
  obtain ⟨a, b, m, p, l⟩ := t
  simp only [addKid, weigh, Tree.kind, Tree.text, Tree.marks, Tree.attrs, Tree.kids, weighAll_append, weighAll]
  omega
theorem weigh_closed (d : Nat) (t : Tree) : weigh (closedL d t).1 ≤ weigh t := by
  unfold closedL
  split
  · exact Nat.le_refl _
  · obtain ⟨a, b, m, p, l⟩ := t
    simp only [bare, weigh, Tree.kind, Tree.text, Tree.marks, Tree.attrs, weighAll]
    omega
/-- A round makes no more than it takes. -/
theorem round_size (c : UInt8) (l : List UInt8) (x : Bool) (top : Tree) (st : List Tree) :
    weighAll (roundL c l x top st).2.2 + 8 * (roundL c l x top st).1.length ≤ weighAll (top :: st) + 8 * (l.length + 1) ∧ (roundL c l x top st).1.length ≤ l.length := by
  have ht := text_size (c :: l) (by simp)
  have hh := head_size (c :: l) (by simp)
  simp only [List.length_cons] at ht hh
  unfold roundL
  split
  · simp only [weighAll, weigh_kid]; omega
  · split
    · split
      · simp only [weighAll, List.length_nil]; omega
      · rename_i up st'
        have hc := weigh_closed (st'.length + 1) top
        simp only [weighAll, weigh_kid]
        have : (if (closedL (st'.length + 1) top).2 = true then ([] : List UInt8) else l).length ≤ l.length := by split <;> simp
        omega
    · simp only [weighAll]; omega
theorem weigh_two (t : Tree) : 2 ≤ weigh t := by
  obtain ⟨a, b, m, p, l⟩ := t
  rw [weigh]; omega
theorem len_weigh : ∀ l : List Tree, 2 * l.length ≤ weighAll l
  | [] => Nat.le_refl _
  | t :: l => by have := weigh_two t; have := len_weigh l; rw [weighAll, List.length_cons]; omega
end Go.Proofs.YtggoebbfgkebcaaDoor

namespace Go.Proofs.YtggoebbfgkebcaaDoor
open Go.RowKit Go.Sort Go.Maps

/-- What lies in open node i, but for the row of its kids. -/
def Part (w : World) (own : Nat → Nat) (i : Nat) : Nat → Prop := fun b => b < w.heap.size ∧ own b = 2 * i + 1
/-- .. with it. -/
def Whole (w : World) (own : Nat → Nat) (i : Nat) : Nat → Prop := fun b => b < w.heap.size ∧ (own b = 2 * i + 1 ∨ own b = 2 * i + 2)
/-- An open node: its three slices. -/
def OpenAt (w : World) (base : Nat) (own : Nat → Nat) (i : Nat) (vm va vk : Value) (t : Tree) : Prop :=
  Strs w (Part w own i) vm t.marks ∧ Pairs w (Part w own i) va t.attrs ∧ Own w base (Part w own i) vk t.kids ∧ ∀ g, vk.ownBlock = some g → own g = 2 * i + 2
/-- The cells of open nodes, the outermost ahead. -/
def OC (w : World) (base : Nat) (own : Nat → Nat) : Nat → List Tree → List Value → Prop
  | _, [], xs => xs = []
  | i, t :: l, xs => ∃ vm va vk ys, xs = .string t.kind :: .string t.text :: vm :: va :: vk :: ys ∧ OpenAt w base own i vm va vk t ∧ OC w base own (i + 1) l ys
/-- The row of open nodes (st: the innermost ahead). -/
def Opens (w : World) (base : Nat) (own : Nat → Nat) (v : Value) (st : List Tree) : Prop :=
  (∃ xs, w.ownsRow base 27 5 v st.length xs ∧ OC w base own 0 st.reverse xs) ∧ (∀ g, v.ownBlock = some g → own g = 0) ∧ ∀ b, w.heap.size ≤ b → own b = 0

theorem ownsRow_block {w w' : World} {base : Nat} {e : TypeId} {size : Nat} {v : Value} {n : Nat} {xs : List Value} (h : w.ownsRow base e size v n xs) (hb : ∀ g, v.ownBlock = some g → w'.heap[g]? = w.heap[g]?) : w'.ownsRow base e size v n xs := by
  refine ⟨h.1, ?_⟩
  rcases h.2 with hn | ⟨g, cap, cur, hv, hB, hg, rest⟩
  · exact .inl hn
  · exact .inr ⟨g, cap, cur, hv, hB, (hb g (by rw [hv]; rfl)).trans hg, rest⟩
theorem Own.lt {w : World} {base : Nat} {S : Nat → Prop} {v : Value} {l : List Tree} (h : Own w base S v l) : ∀ g, v.ownBlock = some g → base ≤ g ∧ g < w.heap.size := by
  obtain ⟨xs, ho, _⟩ := h
  exact ho.lt
theorem OpenAt.keep {w w' : World} {base : Nat} {own own' : Nat → Nat} {i : Nat} {vm va vk : Value} {t : Tree} (h : OpenAt w base own i vm va vk t)
    (hz : w.heap.size ≤ w'.heap.size) (hk : ∀ b, b < w.heap.size → own b = 2 * i + 1 ∨ own b = 2 * i + 2 → w'.heap[b]? = w.heap[b]? ∧ own' b = own b) : OpenAt w' base own' i vm va vk t := by
  obtain ⟨hm, ha, ⟨xs, ho, hc⟩, hg⟩ := h
  have hS : ∀ b, Part w own i b → Part w' own' i b := fun b hb => ⟨Nat.lt_of_lt_of_le hb.1 hz, by rw [(hk b hb.1 (.inl hb.2)).2]; exact hb.2⟩
  have hB : ∀ b, Part w own i b → w'.heap[b]? = w.heap[b]? := fun b hb => (hk b hb.1 (.inl hb.2)).1
  refine ⟨hm.keep hS hB, ha.keep hS hB, ⟨xs, ownsRow_block ho fun g e => (hk g (ho.lt g e).2 (.inr (hg g e))).1, hc.keep hS hB⟩, fun g e => ?_⟩
  rw [(hk g (ho.lt g e).2 (.inr (hg g e))).2]; exact hg g e
theorem OpenAt.node {w : World} {base : Nat} {own : Nat → Nat} {i : Nat} {vm va vk : Value} {t : Tree} (h : OpenAt w base own i vm va vk t) :
    Node w (Whole w own i) (.agg #[.string t.kind, .string t.text, vm, va, vk]) t := by
  obtain ⟨hm, ha, hk, hg⟩ := h
  have hS : ∀ b, Part w own i b → Whole w own i b := fun b hb => ⟨hb.1, .inl hb.2⟩
  exact ⟨vm, va, vk, rfl, hm.keep hS fun _ _ => rfl, ha.keep hS fun _ _ => rfl, hk.kids hS fun g e => ⟨(hk.lt g e).2, .inr (hg g e)⟩⟩

theorem OC.keep {w w' : World} {base : Nat} {own own' : Nat → Nat} (hz : w.heap.size ≤ w'.heap.size) : ∀ {l : List Tree} {i : Nat} {xs : List Value}, OC w base own i l xs →
    (∀ b, b < w.heap.size → 2 * i + 1 ≤ own b → own b ≤ 2 * (i + l.length) → w'.heap[b]? = w.heap[b]? ∧ own' b = own b) → OC w' base own' i l xs
  | [], _, _, h, _ => h
  | t :: l, i, _, ⟨vm, va, vk, ys, e, ho, h⟩, hk => ⟨vm, va, vk, ys, e, ho.keep hz fun b hb hc => hk b hb (by omega) (by simp only [List.length_cons]; omega),
      OC.keep hz h fun b hb h1 h2 => hk b hb (by omega) (by simp only [List.length_cons]; omega)⟩
theorem OC.length {w : World} {base : Nat} {own : Nat → Nat} : ∀ {l : List Tree} {i : Nat} {xs : List Value}, OC w base own i l xs → xs.length = l.length * 5
  | [], _, _, h => by simp only [OC] at h; subst h; rfl
  | t :: l, _, _, ⟨vm, va, vk, ys, e, _, h⟩ => by have := h.length; subst e; simp only [List.length_cons, this]; omega
theorem OC.append {w : World} {base : Nat} {own : Nat → Nat} : ∀ {a b : List Tree} {i : Nat} {xs ys : List Value}, OC w base own i a xs → OC w base own (i + a.length) b ys → OC w base own i (a ++ b) (xs ++ ys)
  | [], _, _, _, _, h, h' => by simp only [OC] at h; subst h; exact h'
  | t :: a, b, i, _, ys, ⟨vm, va, vk, zs, e, ho, h⟩, h' => ⟨vm, va, vk, zs ++ ys, by subst e; rfl, ho, OC.append h (by rw [show i + 1 + a.length = i + (t :: a).length by simp only [List.length_cons]; omega]; exact h')⟩
theorem OC.split {w : World} {base : Nat} {own : Nat → Nat} : ∀ {a b : List Tree} {i : Nat} {xs : List Value}, OC w base own i (a ++ b) xs → ∃ ys zs, xs = ys ++ zs ∧ OC w base own i a ys ∧ OC w base own (i + a.length) b zs
  | [], _, _, xs, h => ⟨[], xs, rfl, rfl, h⟩
  | t :: a, b, i, _, ⟨vm, va, vk, qs, e, ho, h⟩ => by
    obtain ⟨ys, zs, e2, h1, h2⟩ := OC.split (a := a) h
    subst e2
    refine ⟨.string t.kind :: .string t.text :: vm :: va :: vk :: ys, zs, by rw [e]; rfl, ⟨vm, va, vk, ys, rfl, ho, h1⟩, ?_⟩
    rw [show i + (t :: a).length = i + 1 + a.length by simp only [List.length_cons]; omega]; exact h2

/-- The innermost open node, and where it lies. -/
theorem Opens.top {w : World} {base : Nat} {own : Nat → Nat} {v : Value} {top : Tree} {st : List Tree} (h : Opens w base own v (top :: st)) :
    ∃ O cap vm va vk ys, v = .slice (some ⟨O, 0, none⟩) (st.length + 1) cap ∧ base ≤ O ∧ O < w.heap.size ∧ own O = 0 ∧ st.length + 1 ≤ cap ∧ cap ≤ maxLen ∧ OpenAt w base own st.length vm va vk top ∧
      w.ownsRow base 27 5 (.slice (some ⟨O, 0, none⟩) (st.length + 1) cap) (st.length + 1) (ys ++ [.string top.kind, .string top.text, vm, va, vk]) ∧ OC w base own 0 st.reverse ys ∧ ys.length = st.length * 5 := by
  obtain ⟨⟨xs, ho, hc⟩, hO, _⟩ := h
  rw [List.reverse_cons] at hc
  obtain ⟨ys, zs, rfl, h1, h2⟩ := hc.split
  obtain ⟨vm, va, vk, us, rfl, h3, h4⟩ := h2
  simp only [OC] at h4
  subst h4
  simp only [List.length_reverse, Nat.zero_add] at h3
  obtain ⟨hl, hor⟩ := ho
  have hoo := hor
  rcases hor with ⟨_, hn⟩ | ⟨g, cap, cur, rfl, hb, hg, hnc, hcap, hsz, htk⟩
  · simp at hn
  · refine ⟨g, cap, vm, va, vk, ys, rfl, hb, (Array.getElem?_eq_some_iff.1 hg).1, hO g rfl, hnc, hcap, h3, ⟨hl, hoo⟩, h1, ?_⟩
    have := h1.length
    simpa using this
end Go.Proofs.YtggoebbfgkebcaaDoor

namespace Go.Proofs.YtggoebbfgkebcaaDoor
open Go.RowKit Go.Sort Go.Maps

theorem set_last (ys : List Value) (a b c d e f : Value) (n : Nat) (h : ys.length = n) : (ys ++ [a, b, c, d, e]).set (n + 4) f = ys ++ [a, b, c, d, f] := by
  subst h
  rw [List.set_append_right _ _ (by omega)]
  rw [show ys.length + 4 - ys.length = 4 by omega]
  rfl

theorem Opens.pushKid {w w4 : World} {base : Nat} {own : Nat → Nat} {O cap : Nat} {top : Tree} {st : List Tree} {vm va vk : Value} {ys : List Value}
    (hop : OpenAt w base own st.length vm va vk top) (hrow : w.ownsRow base 27 5 (.slice (some ⟨O, 0, none⟩) (st.length + 1) cap) (st.length + 1) (ys ++ [.string top.kind, .string top.text, vm, va, vk]))
    (hoc : OC w base own 0 st.reverse ys) (hys : ys.length = st.length * 5) (hO : own O = 0) (hOz : O < w.heap.size) (hz : ∀ b, w.heap.size ≤ b → own b = 0)
    (k : Tree) (vk' : Value) (zs : List Value) (S : Nat → Prop) (hsz : w.heap.size ≤ w4.heap.size)
    (hkeep : ∀ b, b < w.heap.size → own b ≠ 0 → some b ≠ vk.ownBlock → w4.heap[b]? = w.heap[b]?)
    (hO4 : w4.heap[O]? = (w.setCell ⟨O, st.length * 5 + 4, none⟩ vk').heap[O]?)
    (hk4 : w4.ownsRow base 27 5 vk' (top.kids.length + 1) zs) (hc4 : Cells w4 S (top.kids ++ [k]) zs)
    (hat : ∀ g, vk'.ownBlock = some g → vk.ownBlock = some g ∨ w.heap.size ≤ g)
    (hS : ∀ b, S b → (Part w own st.length b ∨ From w.heap.size w4.heap.size b) ∧ some b ≠ vk'.ownBlock) :
    ∃ own', Opens w4 base own' (.slice (some ⟨O, 0, none⟩) (st.length + 1) cap) (addKid top k :: st) ∧ ∀ b, b < w.heap.size → own' b = own b := by
  obtain ⟨hm, ha, hk, hg⟩ := hop
  refine ⟨fun b => if w.heap.size ≤ b ∧ b < w4.heap.size then (if vk'.ownBlock = some b then 2 * st.length + 2 else 2 * st.length + 1) else own b, ?_, fun b hb => if_neg (by omega)⟩
  have hold : ∀ b, b < w.heap.size → (fun b => if w.heap.size ≤ b ∧ b < w4.heap.size then (if vk'.ownBlock = some b then 2 * st.length + 2 else 2 * st.length + 1) else own b) b = own b := fun b hb => if_neg (by omega)
  have hnew : ∀ b, w.heap.size ≤ b → b < w4.heap.size → (fun b => if w.heap.size ≤ b ∧ b < w4.heap.size then (if vk'.ownBlock = some b then 2 * st.length + 2 else 2 * st.length + 1) else own b) b = if vk'.ownBlock = some b then 2 * st.length + 2 else 2 * st.length + 1 := fun b h1 h2 => if_pos ⟨h1, h2⟩
  have hend : ∀ b, w4.heap.size ≤ b → (fun b => if w.heap.size ≤ b ∧ b < w4.heap.size then (if vk'.ownBlock = some b then 2 * st.length + 2 else 2 * st.length + 1) else own b) b = own b := fun b hb => if_neg (by omega)
  generalize (fun b => if w.heap.size ≤ b ∧ b < w4.heap.size then (if vk'.ownBlock = some b then 2 * st.length + 2 else 2 * st.length + 1) else own b) = own' at *
  have hP : ∀ b, Part w own st.length b → Part w4 own' st.length b := fun b hb => ⟨Nat.lt_of_lt_of_le hb.1 hsz, by rw [hold b hb.1]; exact hb.2⟩
  have hPk : ∀ b, Part w own st.length b → w4.heap[b]? = w.heap[b]? := fun b hb => hkeep b hb.1 (by rw [hb.2]; omega) fun e => by
    have := hg b e.symm
    rw [hb.2] at this; omega
  refine ⟨⟨ys ++ [.string top.kind, .string top.text, vm, va, vk'], ?_, ?_⟩, fun g e => ?_, fun b hb => by rw [hend b hb]; exact hz b (by omega)⟩
  · have h1 := (hrow.stored (st.length * 5 + 4) vk').1
    rw [set_last ys _ _ _ _ _ _ _ hys] at h1
    exact ownsRow_block h1 fun g e => by
      have : O = g := Option.some.inj e
      subst this; exact hO4
  · rw [List.reverse_cons]
    refine OC.append (OC.keep hsz hoc fun b hb h1 h2 => ⟨hkeep b hb (by omega) fun e => ?_, hold b hb⟩) ?_
    · have := hg b e.symm
      rw [this, List.length_reverse] at h2; omega
    · rw [List.length_reverse, Nat.zero_add]
      refine ⟨vm, va, vk', [], rfl, ⟨hm.keep hP hPk, ha.keep hP hPk, ⟨zs, ?_, ?_⟩, fun g e => ?_⟩, rfl⟩
      · show w4.ownsRow base 27 5 vk' (top.kids ++ [k]).length zs
        rw [List.length_append]; exact hk4
      · show Cells w4 (Part w4 own' st.length) (top.kids ++ [k]) zs
        refine hc4.keep (fun b hb => ?_) fun _ _ => rfl
        obtain ⟨h1, h2⟩ := hS b hb
        rcases h1 with h1 | h1
        · exact hP b h1
        · exact ⟨h1.2, by rw [hnew b h1.1 h1.2]; exact if_neg fun e => h2 e.symm⟩
      · rcases hat g e with h1 | h1
        · rw [hold g (hk.lt g h1).2]; exact hg g h1
        · rw [hnew g h1 (hk4.lt g e).2]; exact if_pos e
  · have : O = g := Option.some.inj e
    subst this
    rw [hold O hOz]; exact hO

theorem Opens.pushOpen {w w4 : World} {base : Nat} {own : Nat → Nat} {v v' va : Value} {st : List Tree} {xs : List Value} {k : Tree}
    (hoc : OC w base own 0 st.reverse xs) (hO : ∀ g, v.ownBlock = some g → own g = 0) (hz : ∀ b, w.heap.size ≤ b → own b = 0)
    (hsz : w.heap.size ≤ w4.heap.size) (hkeep : ∀ b, b < w.heap.size → own b ≠ 0 → w4.heap[b]? = w.heap[b]?)
    (hrow : w4.ownsRow base 27 5 v' (st.length + 1) (xs ++ [.string k.kind, .string k.text, .slice none 0 0, va, .slice none 0 0])) (hkm : k.marks = []) (hkk : k.kids = [])
    (S : Nat → Prop) (hva : Pairs w4 S va k.attrs) (hS : ∀ b, S b → From w.heap.size w4.heap.size b ∧ some b ≠ v'.ownBlock)
    (hat : ∀ g, v'.ownBlock = some g → v.ownBlock = some g ∨ w.heap.size ≤ g) :
    ∃ own', Opens w4 base own' v' (k :: st) ∧ ∀ b, b < w.heap.size → own' b = own b := by
  refine ⟨fun b => if w.heap.size ≤ b ∧ b < w4.heap.size ∧ v'.ownBlock ≠ some b then 2 * st.length + 1 else own b, ?_, fun b hb => if_neg (by omega)⟩
  have hold : ∀ b, b < w.heap.size → (fun b => if w.heap.size ≤ b ∧ b < w4.heap.size ∧ v'.ownBlock ≠ some b then 2 * st.length + 1 else own b) b = own b := fun b hb => if_neg (by omega)
  have hnew : ∀ b, w.heap.size ≤ b → b < w4.heap.size → v'.ownBlock ≠ some b → (fun b => if w.heap.size ≤ b ∧ b < w4.heap.size ∧ v'.ownBlock ≠ some b then 2 * st.length + 1 else own b) b = 2 * st.length + 1 := fun b h1 h2 h3 => if_pos ⟨h1, h2, h3⟩
  have hown : ∀ b, v'.ownBlock = some b → (fun b => if w.heap.size ≤ b ∧ b < w4.heap.size ∧ v'.ownBlock ≠ some b then 2 * st.length + 1 else own b) b = own b := fun b hb => if_neg fun h => h.2.2 hb
  have hend : ∀ b, w4.heap.size ≤ b → (fun b => if w.heap.size ≤ b ∧ b < w4.heap.size ∧ v'.ownBlock ≠ some b then 2 * st.length + 1 else own b) b = own b := fun b hb => if_neg (by omega)
  generalize (fun b => if w.heap.size ≤ b ∧ b < w4.heap.size ∧ v'.ownBlock ≠ some b then 2 * st.length + 1 else own b) = own' at *
  refine ⟨⟨_, hrow, ?_⟩, fun g e => ?_, fun b hb => by rw [hend b hb]; exact hz b (by omega)⟩
  · rw [List.reverse_cons]
    refine OC.append (OC.keep hsz hoc fun b hb h1 h2 => ⟨hkeep b hb (by omega), hold b hb⟩) ?_
    rw [List.length_reverse, Nat.zero_add]
    refine ⟨.slice none 0 0, va, .slice none 0 0, [], rfl, ⟨by rw [hkm]; exact strs_nil, hva.keep (fun b hb => ?_) (fun _ _ => rfl), ⟨[], ?_, ?_⟩, fun g e => by cases e⟩, rfl⟩
    · obtain ⟨h1, h2⟩ := hS b hb
      exact ⟨h1.2, hnew b h1.1 h1.2 fun e => h2 e.symm⟩
    · rw [hkk]; exact World.ownsRow_nil _ _ _ _
    · rw [hkk]; rfl
  · rw [hown g e]
    rcases hat g e with h1 | h1
    · exact hO g h1
    · exact hz g h1

/-- The innermost node closed: it is what the next one holds. -/
theorem Opens.close {w : World} {base : Nat} {own : Nat → Nat} {O cap : Nat} {top up : Tree} {st : List Tree} (h : Opens w base own (.slice (some ⟨O, 0, none⟩) (st.length + 2) cap) (top :: up :: st)) :
    ∃ own' vm va vk, Opens w base own' (.slice (some ⟨O, 0, none⟩) (st.length + 1) cap) (up :: st) ∧ Node w (Part w own' st.length) (.agg #[.string top.kind, .string top.text, vm, va, vk]) top ∧
      (∀ j u, [Value.string top.kind, .string top.text, vm, va, vk][j]? = some u → w.cell? ⟨O, (st.length + 1) * 5 + j, none⟩ = some u) ∧ ∀ b, own b = 0 → own' b = 0 := by
  obtain ⟨O', cap', vm, va, vk, ys, e, hb, hlt, hO, hnc, hcap, hop, hrow, hoc, hys⟩ := h.top
  injection e with e1 e2 e3
  have e1 : O = O' := by injection e1 with e1; injection e1
  subst e1; subst e3
  obtain ⟨_, _, hz⟩ := h
  refine ⟨fun b => if own b = 2 * (st.length + 1) + 1 ∨ own b = 2 * (st.length + 1) + 2 then 2 * st.length + 1 else own b, vm, va, vk, ?_, ?_, ?_, fun b hb => ?_⟩
  · have hlow : ∀ b, own b ≤ 2 * (st.length + 1) → (fun b => if own b = 2 * (st.length + 1) + 1 ∨ own b = 2 * (st.length + 1) + 2 then 2 * st.length + 1 else own b) b = own b := fun b hb => if_neg (by omega)
    refine ⟨⟨ys, ?_, ?_⟩, fun g e => ?_, fun b hb => ?_⟩
    · obtain ⟨hl, hor⟩ := hrow
      rcases hor with ⟨h1, _⟩ | ⟨g, c, cur, h1, h2, h3, h4, h5, h6, h7⟩
      · cases h1
      · refine ⟨by simpa using hys, .inr ⟨g, c, cur, ?_, h2, h3, ?_, h5, h6, ?_⟩⟩
        · injection h1 with a1 a2 a3
          rw [a1, a3]; rfl
        · simp only [List.length_cons] at h4 ⊢; omega
        · have : (cur.toList.take (((up :: st).length + 1) * 5)).take ((up :: st).length * 5) = ys := by
            rw [h7, List.take_append_of_le_length (by rw [hys]; exact Nat.le_refl _), List.take_of_length_le (by rw [hys]; exact Nat.le_refl _)]
          rwa [List.take_take, Nat.min_eq_left (by omega)] at this
    · refine OC.keep (Nat.le_refl _) hoc fun b hb h1 h2 => ⟨rfl, hlow b ?_⟩
      simp only [List.length_reverse, List.length_cons] at h2; omega
    · have : O = g := Option.some.inj e
      subst this
      rw [hlow O (by omega)]; exact hO
    · rw [hlow b (by have := hz b hb; omega)]; exact hz b hb
  · refine hop.node.keep (fun b hb => ⟨hb.1, if_pos ?_⟩) fun _ _ => rfl
    simpa using hb.2
  · intro j u hj
    have hj5 : j < 5 := by
      have := (List.getElem?_eq_some_iff.1 hj).1
      simpa using this
    rw [hrow.cellAt _ (by simp only [List.length_cons]; omega), List.getElem?_append_right (by rw [hys]; simp only [List.length_cons]; omega), hys]
    simp only [List.length_cons]
    rw [show (st.length + 1) * 5 + j - (st.length + 1) * 5 = j by omega]
    exact hj
  · exact (if_neg (by omega)).trans hb
end Go.Proofs.YtggoebbfgkebcaaDoor

namespace Go.Proofs.YtggoebbfgkebcaaDoor
open Go.RowKit Go.Sort Go.Maps

section
variable {w : World} {ops : Array Oper} {rest : List Oper} {o : Oper} {a : Act} {K : Act → World → Prop} {Q : Exit → Act → World → Prop} {E : Prop}
/-- A text read, in a region that draws its order. -/
theorem step_text {R : Nat} {l : List UInt8} {x : Bool} (hgd : o.guard = none) (p : Operand) (ho : o.op = .call { callee := .value (.func 21), args := #[p], argTypes := #[53] })
    (hp : a.eval p = .pointer (some ⟨R, 0, none⟩)) (hR : Rd w R l x) (hl : l.length ≤ 10000000)
    (h : ∀ v w', Node w' (From w.heap.size w'.heap.size) v (textL l).1 → Rd w' R (textL l).2.1 (x || (textL l).2.2) → OnlyR R w w' → K (a.put o.dst v) w') :
    if Region.wanted o (yielded ops a.tmps) = true then Oper.wp Tryd.prog o a w K Q else E := by
  have hwn : Region.wanted o (yielded ops a.tmps) = true := by simp [Region.wanted, hgd]
  rw [if_pos hwn]
  have hrun : (execOp a.eval o).run Tryd.prog w = .ok (.enter 21 #[.pointer (some ⟨R, 0, none⟩)]) w := by
    have hf : a.eval (.func 21) = .func (.func 21) #[] #[] := rfl
    obtain ⟨c, hc⟩ : ∃ c, Tryd.f21.body = some c := Option.isSome_iff_exists.1 (by kernel_rfl)
    have hne : ¬ Tryd.f21.name = "runtime.NumGoroutine" := of_decide_eq_false (by kernel_rfl)
    simp [execOp, ho, resolve, invoke, hp, hf, Deferred.ofValue, callFunc, hne, hc]
  unfold Oper.wp
  rw [hrun, Oper.upon_enter]
  refine (rd_text R l x w hR hl).mono fun e w'' hh => ?_
  obtain ⟨v', rfl, h1, h2, h3⟩ := hh
  exact h v' w'' h1 h2 h3
/-- A node closed, in a region that draws its order. -/
theorem step_closed {R : Nat} {l : List UInt8} {x : Bool} {v : Value} {t : Tree} {S : Nat → Prop} {d : Nat} {di : Int} (hgd : o.guard = none) (p q r : Operand) (ho : o.op = .call { callee := .value (.func 25), args := #[p, q, r], argTypes := #[53, 27, 3] })
    (hp : a.eval p = .pointer (some ⟨R, 0, none⟩)) (hq : a.eval q = v) (hr : a.eval r = .int .i64 di) (hdi : di = (d : Int)) (hR : Rd w R l x) (hn : Node w S v t) (hS : ∀ b, S b → b < w.heap.size ∧ b ≠ R) (hd : d ≤ 100000000) (hw : weigh t ≤ 1000000) (hT : Tabs w)
    (h : ∀ v' w', Node w' S v' (closedL d t).1 → Rd w' R (if (closedL d t).2 then [] else l) (x || (closedL d t).2) → OnlyR R w w' → K (a.put o.dst v') w') :
    if Region.wanted o (yielded ops a.tmps) = true then Oper.wp Tryd.prog o a w K Q else E := by
  subst hdi
  have hwn : Region.wanted o (yielded ops a.tmps) = true := by simp [Region.wanted, hgd]
  rw [if_pos hwn]
  have hrun : (execOp a.eval o).run Tryd.prog w = .ok (.enter 25 #[.pointer (some ⟨R, 0, none⟩), v, .int .i64 (d : Int)]) w := by
    have hf : a.eval (.func 25) = .func (.func 25) #[] #[] := rfl
    obtain ⟨c, hc⟩ : ∃ c, Tryd.f25.body = some c := Option.isSome_iff_exists.1 (by kernel_rfl)
    have hne : ¬ Tryd.f25.name = "runtime.NumGoroutine" := of_decide_eq_false (by kernel_rfl)
    simp [execOp, ho, resolve, invoke, hp, hq, hr, hf, Deferred.ofValue, callFunc, hne, hc]
  unfold Oper.wp
  rw [hrun, Oper.upon_enter]
  refine (rd_closed R l x v t S d w hR hn hS hd hw hT).mono fun e w'' hh => ?_
  obtain ⟨v', rfl, h1, h2, h3⟩ := hh
  exact h v' w'' h1 h2 h3
theorem wp_append_raw (s y : Operand) (ho : o.op = .call { callee := .builtin .append, args := #[s, y], argTypes := #[25, 25] })
    (base : Nat) (v : Value) (n : Nat) (xs : List Value) (g c : Nat) (cs : Array Value) (hs : a.eval s = v) (hy : a.eval y = .slice (some ⟨g, 0, none⟩) 1 c) (hown : w.ownsRow base 27 5 v n xs)
    (hlit : w.heap[g]? = some (.cells cs 27)) (hcs : cs.size = 5) (h1 : ∀ u ∈ cs.toList, u.oneCell' = true) (hn : n + 1 ≤ 100000000) (hbase : base ≤ w.heap.size)
    (h : ∀ v' w', w'.ownsRow base 27 5 v' (n + 1) (xs ++ cs.toList) → w.grownBy w' v.ownBlock → (v'.ownBlock = v.ownBlock ∨ v'.ownBlock = some w.heap.size) → K (a.put o.dst v') w') : o.wp Tryd.prog a w K Q := by
  obtain ⟨i, hi, hz0, hz1, hz2⟩ := info_parts node_info
  have hnews : ∀ j u, cs.toList[j]? = some u → w.cell? (Addr.add ⟨g, 0, none⟩ j) = some u := fun j u hj => by
    rw [add_cell, Nat.zero_add, cell_of_row w g j cs _ _ hlit]; simpa using hj
  obtain ⟨v', w', hr, h2, h3, _, h4⟩ := run_append_own_at (P := Tryd.prog) w base 25 o.type 27 i _ 5 104 Tryd.underlying25 hi hz0 hz1 hz2 rfl (by omega) v n xs hown ⟨g, 0, none⟩ 1 c cs.toList (by simpa using hcs) hnews h1 (by unfold maxLen; omega) (Nat.le_trans (Nat.mul_le_mul_right _ hn) (by decide)) hbase
  unfold Oper.wp execOp
  simp only [ho, resolve, invoke, builtin, Sem.run_bind, Sem.run_pure, Result.andThen_ok, List.map_toArray, List.map_cons, List.map_nil, hs, hy, hr]
  exact h v' w' h2 h3 h4
theorem wpList_append_raw (hgd : o.guard = none) (s y : Operand) (ho : o.op = .call { callee := .builtin .append, args := #[s, y], argTypes := #[25, 25] })
    (base : Nat) (v : Value) (n : Nat) (xs : List Value) (g c : Nat) (cs : Array Value) (hs : a.eval s = v) (hy : a.eval y = .slice (some ⟨g, 0, none⟩) 1 c) (hown : w.ownsRow base 27 5 v n xs)
    (hlit : w.heap[g]? = some (.cells cs 27)) (hcs : cs.size = 5) (h1 : ∀ u ∈ cs.toList, u.oneCell' = true) (hn : n + 1 ≤ 100000000) (hbase : base ≤ w.heap.size)
    (h : ∀ v' w', w'.ownsRow base 27 5 v' (n + 1) (xs ++ cs.toList) → w.grownBy w' v.ownBlock → (v'.ownBlock = v.ownBlock ∨ v'.ownBlock = some w.heap.size) → wpList Tryd.prog ops Q rest (a.put o.dst v') w') : wpList Tryd.prog ops Q (o :: rest) a w :=
  wpList_plain hgd fun _ hK => wp_append_raw s y ho base v n xs g c cs hs hy hown hlit hcs h1 hn hbase fun v' w' h1 h2 h3 => hK _ _ (h v' w' h1 h2 h3)
theorem step_append_raw (hgd : o.guard = none) (s y : Operand) (ho : o.op = .call { callee := .builtin .append, args := #[s, y], argTypes := #[25, 25] })
    (base : Nat) (v : Value) (n : Nat) (xs : List Value) (g c : Nat) (cs : Array Value) (hs : a.eval s = v) (hy : a.eval y = .slice (some ⟨g, 0, none⟩) 1 c) (hown : w.ownsRow base 27 5 v n xs)
    (hlit : w.heap[g]? = some (.cells cs 27)) (hcs : cs.size = 5) (h1 : ∀ u ∈ cs.toList, u.oneCell' = true) (hn : n + 1 ≤ 100000000) (hbase : base ≤ w.heap.size)
    (h : ∀ v' w', w'.ownsRow base 27 5 v' (n + 1) (xs ++ cs.toList) → w.grownBy w' v.ownBlock → (v'.ownBlock = v.ownBlock ∨ v'.ownBlock = some w.heap.size) → K (a.put o.dst v') w') :
    if Region.wanted o (yielded ops a.tmps) = true then Oper.wp Tryd.prog o a w K Q else E := by
  have hw : Region.wanted o (yielded ops a.tmps) = true := by simp [Region.wanted, hgd]
  rw [if_pos hw]
  exact wp_append_raw s y ho base v n xs g c cs hs hy hown hlit hcs h1 hn hbase h
end

abbrev zeros5 : Array Value := #[.string ⟨#[]⟩, .string ⟨#[]⟩, .slice none 0 0, .slice none 0 0, .slice none 0 0]
/-- Five cells put at a place of a block. -/
def put5o (w : World) (g o : Nat) (v0 v1 v2 v3 v4 : Value) : World := ((((w.setCell ⟨g, o, none⟩ v0).setCell ⟨g, o + 1, none⟩ v1).setCell ⟨g, o + 2, none⟩ v2).setCell ⟨g, o + 3, none⟩ v3).setCell ⟨g, o + 4, none⟩ v4
theorem put5o_only (w : World) (g o : Nat) (v0 v1 v2 v3 v4 : Value) : OnlyR g w (put5o w g o v0 v1 v2 v3 v4) :=
  ((((OnlyR.set g o w v0).trans (OnlyR.set g (o + 1) _ v1)).trans (OnlyR.set g (o + 2) _ v2)).trans (OnlyR.set g (o + 3) _ v3)).trans (OnlyR.set g (o + 4) _ v4)
theorem put5o_size (w : World) (g o : Nat) (v0 v1 v2 v3 v4 : Value) : (put5o w g o v0 v1 v2 v3 v4).heap.size = w.heap.size := by simp [put5o, World.setCell]
theorem set_five (xs : List Value) (z0 z1 z2 z3 z4 a0 a1 a2 a3 a4 : Value) (o : Nat) (h : xs.length = o) :
    (((((xs ++ [z0, z1, z2, z3, z4]).set o a0).set (o + 1) a1).set (o + 2) a2).set (o + 3) a3).set (o + 4) a4 = xs ++ [a0, a1, a2, a3, a4] := by
  subst h
  have e : ∀ (ys : List Value) (j : Nat) (u : Value), (xs ++ ys).set (xs.length + j) u = xs ++ ys.set j u := fun ys j u => by
    rw [List.set_append_right _ _ (by omega)]
    rw [show xs.length + j - xs.length = j by omega]
  have e0 := e [z0, z1, z2, z3, z4] 0 a0
  rw [Nat.add_zero] at e0
  rw [e0, e, e, e, e]
  rfl
theorem own_put5 {w : World} {base G m c : Nat} {xs : List Value} {z0 z1 z2 z3 z4 : Value} (h : w.ownsRow base 27 5 (.slice (some ⟨G, 0, none⟩) (m + 1) c) (m + 1) (xs ++ [z0, z1, z2, z3, z4])) (hx : xs.length = m * 5) (a0 a1 a2 a3 a4 : Value) :
    (put5o w G (m * 5) a0 a1 a2 a3 a4).ownsRow base 27 5 (.slice (some ⟨G, 0, none⟩) (m + 1) c) (m + 1) (xs ++ [a0, a1, a2, a3, a4]) := by
  have h1 := (((((h.stored (m * 5) a0).1.stored (m * 5 + 1) a1).1.stored (m * 5 + 2) a2).1.stored (m * 5 + 3) a3).1.stored (m * 5 + 4) a4).1
  rw [set_five xs z0 z1 z2 z3 z4 a0 a1 a2 a3 a4 (m * 5) hx] at h1
  exact h1

theorem rd_ne_row {w : World} {R base : Nat} {l : List UInt8} {x : Bool} {v : Value} {n : Nat} {xs : List Value} (h : Rd w R l x) (ho : w.ownsRow base 27 5 v n xs) : ∀ g, v.ownBlock = some g → g ≠ R := by
  intro g hg e
  subst e
  rcases ho.2 with ⟨rfl, _⟩ | ⟨g', cap, cur, rfl, _, hh, _⟩
  · cases hg
  · have : g' = g := Option.some.inj hg
    subst this
    have h' : w.heap[g']? = some (.cells #[.string ⟨l.toArray⟩, .bool x] 53) := h
    rw [h'] at hh
    injection hh with hh; injection hh with _ hh _
    exact absurd hh (by decide)

/-- What lies in memory as a kid is appended to the innermost open node. -/
def KidMid (wr w : World) (own : Nat → Nat) (i R g : Nat) (cs : Array Value) (v : Value) (k : Tree) : Prop :=
  OnlyR R wr w ∧ (∃ S, Node w S v k ∧ ∀ b, S b → (Part wr own i b ∨ wr.heap.size ≤ b) ∧ b < w.heap.size ∧ b ≠ g) ∧ w.heap[g]? = some (.cells cs 27) ∧ wr.heap.size ≤ g

/-- The end of a round in which a kid came. -/
theorem kid_fin {wr w w' w4 : World} {base : Nat} {own : Nat → Nat} {O cap R g : Nat} {top : Tree} {st : List Tree} {vm va vk vk' : Value} {ys ks : List Value} {cs : Array Value} {k : Tree} {k2 k3 k4 : Value}
    (hop : OpenAt wr base own st.length vm va vk top) (hrow : wr.ownsRow base 27 5 (.slice (some ⟨O, 0, none⟩) (st.length + 1) cap) (st.length + 1) (ys ++ [.string top.kind, .string top.text, vm, va, vk]))
    (hoc : OC wr base own 0 st.reverse ys) (hys : ys.length = st.length * 5) (hO : own O = 0) (hOz : O < wr.heap.size) (hz : ∀ b, wr.heap.size ≤ b → own b = 0)
    (hR : own R = 0) (hOR : O ≠ R)
    (hmid : KidMid wr w own st.length R g cs (.agg #[.string k.kind, .string k.text, k2, k3, k4]) k)
    (hks : Cells wr (Part wr own st.length) top.kids ks)
    (hg : w.grownBy w' vk.ownBlock) (hat : vk'.ownBlock = vk.ownBlock ∨ vk'.ownBlock = some w.heap.size)
    (hsz : w4.heap.size = w'.heap.size) (hkeep : ∀ b, b < w'.heap.size → b ≠ O → some b ≠ vk'.ownBlock → w4.heap[b]? = w'.heap[b]?)
    (hO4 : w4.heap[O]? = (w'.setCell ⟨O, st.length * 5 + 4, none⟩ vk').heap[O]?)
    (hk4 : w4.ownsRow base 27 5 vk' (top.kids.length + 1) (ks ++ [.string k.kind, .string k.text, k2, k3, k4])) :
    ∃ own', Opens w4 base own' (.slice (some ⟨O, 0, none⟩) (st.length + 1) cap) (addKid top k :: st) ∧ ∀ b, b < wr.heap.size → own' b = own b := by
  obtain ⟨mo, ⟨S, mn, mS⟩, m3, m4⟩ := hmid
  have m1 := mo.size
  have m2 := mo.block
  have hvk : ∀ b, vk.ownBlock = some b → own b = 2 * st.length + 2 := hop.2.2.2
  have hvlt : ∀ b, vk.ownBlock = some b → b < wr.heap.size := fun b hb => (hop.2.2.1.lt b hb).2
  have hOvk : some O ≠ vk.ownBlock := fun e => by have := hvk O e.symm; omega
  have hvk' : ∀ b, b < wr.heap.size → vk'.ownBlock = some b → vk.ownBlock = some b := fun b hb e => by
    rcases hat with h | h
    · rw [← h]; exact e
    · rw [h] at e; have := Option.some.inj e; omega
  -- blocks of old but R, O and the kids' row
  have hall : ∀ b, b < wr.heap.size → own b ≠ 0 → some b ≠ vk.ownBlock → w4.heap[b]? = wr.heap[b]? := fun b hb h0 hv => by
    have hbO : b ≠ O := fun e => h0 (by rw [e]; exact hO)
    have hbR : b ≠ R := fun e => h0 (by rw [e]; exact hR)
    rw [hkeep b (by have := hg.size; omega) hbO fun e => hv (hvk' b hb e.symm).symm, hg.block b (by omega) hv, m2 b hb hbR]
  have hO' : w'.heap[O]? = wr.heap[O]? := by rw [hg.block O (by omega) hOvk, m2 O hOz hOR]
  obtain ⟨cur, hcur⟩ : ∃ cur, wr.heap[O]? = some (.cells cur 27) := by
    rcases hrow.2 with ⟨h1, _⟩ | ⟨g', c, cur, h1, _, h3, _⟩
    · cases h1
    · injection h1 with a1 _ _
      injection a1 with a1
      injection a1 with a1
      subst a1
      exact ⟨cur, h3⟩
  have hOset : w4.heap[O]? = (wr.setCell ⟨O, st.length * 5 + 4, none⟩ vk').heap[O]? := by
    rw [hO4, heap_setCell_same w' O _ cur _ vk' (hO'.trans hcur), heap_setCell_same wr O _ cur _ vk' hcur]
  have hSw : ∀ b, S b → w4.heap[b]? = w.heap[b]? := fun b hb => by
    obtain ⟨h1, h2, h3⟩ := mS b hb
    have hbO : b ≠ O := by
      rcases h1 with h1 | h1
      · intro e; subst e; have := h1.2; omega
      · omega
    have hbv : some b ≠ vk.ownBlock := by
      rcases h1 with h1 | h1
      · intro e; have := hvk b e.symm; have := h1.2; omega
      · intro e; have := hvlt b e.symm; omega
    have hbv' : some b ≠ vk'.ownBlock := by
      rcases hat with h | h
      · rw [h]; exact hbv
      · rw [h]; intro e; have := Option.some.inj e; omega
    rw [hkeep b (by have := hg.size; omega) hbO hbv', hg.block b h2 hbv]
  have hPw : ∀ b, Part wr own st.length b → w4.heap[b]? = wr.heap[b]? := fun b hb => hall b hb.1 (by rw [hb.2]; omega) fun e => by
    have := hvk b e.symm; have := hb.2; omega
  obtain ⟨um, ua, uk, ue, n1, n2, n3⟩ := mn
  injection ue with ue
  have ue2 : k2 = um ∧ k3 = ua ∧ k4 = uk := by simpa using ue
  obtain ⟨rfl, rfl, rfl⟩ := ue2
  refine Opens.pushKid hop hrow hoc hys hO hOz hz k vk' _ (fun b => Part wr own st.length b ∨ S b) (by have := hg.size; omega) hall hOset hk4 ((hks.keep (fun _ h => .inl h) hPw).append (Cells.one (n1.keep (fun _ h => .inr h) hSw) (n2.keep (fun _ h => .inr h) hSw) (n3.keep (fun _ h => .inr h) hSw))) (fun b e => ?_) fun b hb => ?_
  · rcases hat with h | h
    · exact .inl (by rw [← h]; exact e)
    · rw [h] at e; exact .inr (by have := Option.some.inj e; omega)
  · have hb2 : (Part wr own st.length b ∨ wr.heap.size ≤ b) ∧ b < w.heap.size := by
      rcases hb with hb | hb
      · exact ⟨.inl hb, by have := hb.1; omega⟩
      · exact ⟨(mS b hb).1, (mS b hb).2.1⟩
    refine ⟨?_, fun e => ?_⟩
    · rcases hb2.1 with h | h
      · exact .inl h
      · exact .inr ⟨h, by have := hb2.2; have := hg.size; omega⟩
    · rcases hat with h | h
      · rw [h] at e
        rcases hb2.1 with h1 | h1
        · have := hvk b e.symm; have := h1.2; omega
        · have := hvlt b e.symm; omega
      · rw [h] at e; have := Option.some.inj e; have := hb2.2; omega

/-- All that a round begins with. -/
structure Stage (w0 wr : World) (own : Nat → Nat) (O cap R : Nat) (top : Tree) (st : List Tree) (vm va vk : Value) (ys ks : List Value) : Prop where
  op : OpenAt wr w0.heap.size own st.length vm va vk top
  row : wr.ownsRow w0.heap.size 27 5 (.slice (some ⟨O, 0, none⟩) (st.length + 1) cap) (st.length + 1) (ys ++ [.string top.kind, .string top.text, vm, va, vk])
  oc : OC wr w0.heap.size own 0 st.reverse ys
  ysl : ys.length = st.length * 5
  oO : own O = 0
  Ob : w0.heap.size ≤ O
  Oz : O < wr.heap.size
  z : ∀ b, wr.heap.size ≤ b → own b = 0
  oR : own R = 0
  OR : O ≠ R
  ob : ∀ b, b < w0.heap.size → own b = 0
  B : Below w0.heap.size w0 wr
  bR : w0.heap.size ≤ R
  Rz : R < wr.heap.size
  kc : Cells wr (Part wr own st.length) top.kids ks
  kr : wr.ownsRow w0.heap.size 27 5 vk top.kids.length ks
/-- What a round ends with. -/
def Ready (w0 W : World) (R : Nat) (v : Value) (st : List Tree) (l : List UInt8) (x : Bool) : Prop :=
  ∃ own', Opens W w0.heap.size own' v st ∧ own' R = 0 ∧ (∀ b, b < w0.heap.size → own' b = 0) ∧ Rd W R l x ∧ Below w0.heap.size w0 W

section
variable {w0 wr w w3 : World} {own : Nat → Nat} {O cap R g G c3 : Nat} {top : Tree} {st : List Tree} {vm va vk k2 k3 k4 : Value} {ys ks : List Value} {cs : Array Value} {k : Tree} {l : List UInt8} {x : Bool}
theorem Stage.vkR (S : Stage w0 wr own O cap R top st vm va vk ys ks) : ∀ b, vk.ownBlock = some b → b ≠ R ∧ b ≠ O ∧ b < wr.heap.size ∧ w0.heap.size ≤ b := fun b e => by
  have h1 := S.op.2.2.2 b e
  have h2 := S.oR
  have h3 := S.oO
  have h4 := S.kr.lt b e
  refine ⟨?_, ?_, h4.2, h4.1⟩
  · intro h; subst h; omega
  · intro h; subst h; omega
theorem Stage.kids (S : Stage w0 wr own O cap R top st vm va vk ys ks) (o : OnlyR R wr w) : w.ownsRow w0.heap.size 27 5 vk top.kids.length ks :=
  ownsRow_block S.kr fun b e => o.block b (S.vkR b e).2.2.1 (S.vkR b e).1
theorem Stage.cellO (S : Stage w0 wr own O cap R top st vm va vk ys ks) (o : OnlyR R wr w) : w.cell? ⟨O, st.length * 5 + 4, none⟩ = some vk := by
  rw [World.cell?_of_block (a := ⟨O, st.length * 5 + 4, none⟩) (o.block O S.Oz S.OR), S.row.cellAt _ (by omega), List.getElem?_append_right (by rw [S.ysl]; omega), S.ysl, show st.length * 5 + 4 - st.length * 5 = 4 by omega]; rfl
theorem Stage.blockO (S : Stage w0 wr own O cap R top st vm va vk ys ks) (o : OnlyR R wr w) (hg : w.grownBy w3 vk.ownBlock) : w3.heap[O]? = wr.heap[O]? :=
  (hg.block O (Nat.lt_of_lt_of_le S.Oz o.size) fun e => (S.vkR O e.symm).2.1 rfl).trans (o.block O S.Oz S.OR)
theorem Stage.frozenO (S : Stage w0 wr own O cap R top st vm va vk ys ks) (h : w3.heap[O]? = wr.heap[O]?) : w3.frozen? ⟨O, st.length * 5 + 4, none⟩ = false :=
  (World.frozen?_of_block (a := ⟨O, st.length * 5 + 4, none⟩) h).trans (S.row.frozenAt _)
theorem Stage.neG (S : Stage w0 wr own O cap R top st vm va vk ys ks) (o : OnlyR R wr w) (hat : (some G : Option Nat) = vk.ownBlock ∨ (some G : Option Nat) = some w.heap.size) : G ≠ O ∧ G ≠ R ∧ w0.heap.size ≤ G := by
  have h1 := S.Oz
  have h2 := S.Rz
  have h3 := o.size
  have h4 := S.B.size
  rcases hat with h | h
  · have := S.vkR G h.symm; exact ⟨this.2.1, this.1, this.2.2.2⟩
  · have := Option.some.inj h; omega
/-- The end, whatever the order of the stores. -/
theorem Stage.fin (S : Stage w0 wr own O cap R top st vm va vk ys ks) (hmid : KidMid wr w own st.length R g cs (.agg #[.string k.kind, .string k.text, k2, k3, k4]) k) (hr : Rd w R l x)
    (hg : w.grownBy w3 vk.ownBlock) (hat : (some G : Option Nat) = vk.ownBlock ∨ (some G : Option Nat) = some w.heap.size) {w4 : World}
    (hsz : w4.heap.size = w3.heap.size) (hkeep : ∀ b, b ≠ O → b ≠ G → w4.heap[b]? = w3.heap[b]?) (hos : w4.os = w3.os) (htp : w4.tape = w3.tape) (hout : w4.output = w3.output)
    (hO4 : w4.heap[O]? = (w3.setCell ⟨O, st.length * 5 + 4, none⟩ (.slice (some ⟨G, 0, none⟩) (top.kids.length + 1) c3)).heap[O]?)
    (hk4 : w4.ownsRow w0.heap.size 27 5 (.slice (some ⟨G, 0, none⟩) (top.kids.length + 1) c3) (top.kids.length + 1) (ks ++ [.string k.kind, .string k.text, k2, k3, k4])) :
    Ready w0 w4 R (.slice (some ⟨O, 0, none⟩) (st.length + 1) cap) (addKid top k :: st) l x := by
  have o := hmid.1
  obtain ⟨n1, n2, n3⟩ := S.neG o hat
  obtain ⟨own', h1, h2⟩ := kid_fin (vk' := .slice (some ⟨G, 0, none⟩) (top.kids.length + 1) c3) S.op S.row S.oc S.ysl S.oO S.Oz S.z S.oR S.OR hmid S.kc hg hat hsz (fun b _ h1 h2 => hkeep b h1 fun e => h2 (by rw [e]; rfl)) hO4 hk4
  have hRw : R < w.heap.size := hr.lt
  have hb3 : w3.heap[R]? = w.heap[R]? := hg.block R hRw fun e => (S.vkR R e.symm).1 rfl
  refine ⟨own', h1, by rw [h2 R S.Rz]; exact S.oR, fun b hb => by rw [h2 b (Nat.lt_of_lt_of_le hb S.B.size)]; exact S.ob b hb, ?_, ?_⟩
  · show w4.heap[R]? = _
    rw [hkeep R (Ne.symm S.OR) (Ne.symm n2), hb3]; exact hr
  · have hB1 : Below w0.heap.size w0 w := S.B.trans (o.below S.bR S.B.size)
    refine hB1.trans ⟨hos.trans hg.os, htp.trans hg.tape, hout.trans hg.output, by rw [hsz]; exact hg.size, fun b hb => ?_⟩
    rw [hkeep b (by have := S.Ob; omega) (by omega)]
    exact hg.block b (Nat.lt_of_lt_of_le hb hB1.size) fun e => by have := S.vkR b e.symm; omega
/-- The node put behind the row, then the row put in its place. -/
theorem Stage.gc (S : Stage w0 wr own O cap R top st vm va vk ys ks) (hmid : KidMid wr w own st.length R g zeros5 (.agg #[.string k.kind, .string k.text, k2, k3, k4]) k) (hr : Rd w R l x)
    (hg : w.grownBy w3 vk.ownBlock) (hat : (some G : Option Nat) = vk.ownBlock ∨ (some G : Option Nat) = some w.heap.size)
    (ho : w3.ownsRow w0.heap.size 27 5 (.slice (some ⟨G, 0, none⟩) (top.kids.length + 1) c3) (top.kids.length + 1) (ks ++ zeros5.toList)) :
    Ready w0 ((put5o w3 G (top.kids.length * 5) (.string k.kind) (.string k.text) k2 k3 k4).setCell ⟨O, st.length * 5 + 4, none⟩ (.slice (some ⟨G, 0, none⟩) (top.kids.length + 1) c3)) R (.slice (some ⟨O, 0, none⟩) (st.length + 1) cap) (addKid top k :: st) l x := by
  obtain ⟨n1, n2, n3⟩ := S.neG hmid.1 hat
  have p := put5o_only w3 G (top.kids.length * 5) (.string k.kind) (.string k.text) k2 k3 k4
  have hO3 := S.blockO hmid.1 hg
  have hpO := p.block O (by have := S.Oz; have := hmid.1.size; have := hg.size; omega) (Ne.symm n1)
  have hp := own_put5 ho S.kc.length (.string k.kind) (.string k.text) k2 k3 k4
  have hps := put5o_size w3 G (top.kids.length * 5) (.string k.kind) (.string k.text) k2 k3 k4
  obtain ⟨cur, hcur⟩ : ∃ cur, wr.heap[O]? = some (.cells cur 27) := by
    rcases S.row.2 with ⟨h1, _⟩ | ⟨g', c, cur, h1, _, h3, _⟩
    · cases h1
    · injection h1 with a1 _ _
      injection a1 with a1
      injection a1 with a1
      subst a1
      exact ⟨cur, h3⟩
  generalize put5o w3 G (top.kids.length * 5) (.string k.kind) (.string k.text) k2 k3 k4 = W' at *
  have hother : ∀ b, b ≠ G → W'.heap[b]? = w3.heap[b]? := fun b hb => by
    by_cases hlt : b < w3.heap.size
    · exact p.block b hlt hb
    · rw [Array.getElem?_eq_none (by omega), Array.getElem?_eq_none (by omega)]
  have q := OnlyR.set O (st.length * 5 + 4) W' (.slice (some ⟨G, 0, none⟩) (top.kids.length + 1) c3)
  have hq4 := heap_setCell_same W' O (st.length * 5 + 4) cur _ (.slice (some ⟨G, 0, none⟩) (top.kids.length + 1) c3) (hpO.trans (hO3.trans hcur))
  have hq5 := heap_setCell_same w3 O (st.length * 5 + 4) cur _ (.slice (some ⟨G, 0, none⟩) (top.kids.length + 1) c3) (hO3.trans hcur)
  have hqz : (W'.setCell ⟨O, st.length * 5 + 4, none⟩ (.slice (some ⟨G, 0, none⟩) (top.kids.length + 1) c3)).heap.size = W'.heap.size := by simp [World.setCell]
  have hqo : ∀ b, b ≠ O → (W'.setCell ⟨O, st.length * 5 + 4, none⟩ (.slice (some ⟨G, 0, none⟩) (top.kids.length + 1) c3)).heap[b]? = W'.heap[b]? := fun b hb => Below.heap_setCell _ _ _ _ hb
  have hqr : (W'.setCell ⟨O, st.length * 5 + 4, none⟩ (.slice (some ⟨G, 0, none⟩) (top.kids.length + 1) c3)).ownsRow w0.heap.size 27 5 (.slice (some ⟨G, 0, none⟩) (top.kids.length + 1) c3) (top.kids.length + 1) (ks ++ [.string k.kind, .string k.text, k2, k3, k4]) :=
    ownsRow_block hp fun b e => hqo b (by have := Option.some.inj e; subst this; exact n1)
  generalize W'.setCell ⟨O, st.length * 5 + 4, none⟩ (.slice (some ⟨G, 0, none⟩) (top.kids.length + 1) c3) = W4 at *
  exact S.fin hmid hr hg hat (by omega) (fun b h1 h2 => (hqo b h1).trans (hother b h2)) (q.os.trans p.os) (q.tape.trans p.tape) (q.output.trans p.output) (hq4.trans hq5.symm) hqr
/-- The row put in its place, then the node put behind it. -/
theorem Stage.text (S : Stage w0 wr own O cap R top st vm va vk ys ks) (hmid : KidMid wr w own st.length R g zeros5 (.agg #[.string k.kind, .string k.text, k2, k3, k4]) k) (hr : Rd w R l x)
    (hg : w.grownBy w3 vk.ownBlock) (hat : (some G : Option Nat) = vk.ownBlock ∨ (some G : Option Nat) = some w.heap.size)
    (ho : w3.ownsRow w0.heap.size 27 5 (.slice (some ⟨G, 0, none⟩) (top.kids.length + 1) c3) (top.kids.length + 1) (ks ++ zeros5.toList)) :
    Ready w0 (put5o (w3.setCell ⟨O, st.length * 5 + 4, none⟩ (.slice (some ⟨G, 0, none⟩) (top.kids.length + 1) c3)) G (top.kids.length * 5) (.string k.kind) (.string k.text) k2 k3 k4) R (.slice (some ⟨O, 0, none⟩) (st.length + 1) cap) (addKid top k :: st) l x := by
  obtain ⟨n1, n2, n3⟩ := S.neG hmid.1 hat
  have ho' : (w3.setCell ⟨O, st.length * 5 + 4, none⟩ (.slice (some ⟨G, 0, none⟩) (top.kids.length + 1) c3)).ownsRow w0.heap.size 27 5 (.slice (some ⟨G, 0, none⟩) (top.kids.length + 1) c3) (top.kids.length + 1) (ks ++ zeros5.toList) :=
    ownsRow_block ho fun b e => Below.heap_setCell _ _ _ _ (by have := Option.some.inj e; subst this; exact n1)
  have hz3 : (w3.setCell ⟨O, st.length * 5 + 4, none⟩ (.slice (some ⟨G, 0, none⟩) (top.kids.length + 1) c3)).heap.size = w3.heap.size := by simp [World.setCell]
  have hoth : ∀ b, b ≠ O → (w3.setCell ⟨O, st.length * 5 + 4, none⟩ (.slice (some ⟨G, 0, none⟩) (top.kids.length + 1) c3)).heap[b]? = w3.heap[b]? := fun b hb => Below.heap_setCell _ _ _ _ hb
  have hOz : O < w3.heap.size := by have := S.Oz; have := hmid.1.size; have := hg.size; omega
  have hot : (w3.setCell ⟨O, st.length * 5 + 4, none⟩ (.slice (some ⟨G, 0, none⟩) (top.kids.length + 1) c3)).os = w3.os ∧ (w3.setCell ⟨O, st.length * 5 + 4, none⟩ (.slice (some ⟨G, 0, none⟩) (top.kids.length + 1) c3)).tape = w3.tape ∧ (w3.setCell ⟨O, st.length * 5 + 4, none⟩ (.slice (some ⟨G, 0, none⟩) (top.kids.length + 1) c3)).output = w3.output := ⟨rfl, rfl, rfl⟩
  have key : ∀ W' : World, W' = w3.setCell ⟨O, st.length * 5 + 4, none⟩ (.slice (some ⟨G, 0, none⟩) (top.kids.length + 1) c3) → Ready w0 (put5o W' G (top.kids.length * 5) (.string k.kind) (.string k.text) k2 k3 k4) R (.slice (some ⟨O, 0, none⟩) (st.length + 1) cap) (addKid top k :: st) l x := by
    intro W' hW'
    rw [← hW'] at ho' hz3 hoth hot
    have p := put5o_only W' G (top.kids.length * 5) (.string k.kind) (.string k.text) k2 k3 k4
    have hp := own_put5 ho' S.kc.length (.string k.kind) (.string k.text) k2 k3 k4
    have hps := put5o_size W' G (top.kids.length * 5) (.string k.kind) (.string k.text) k2 k3 k4
    refine S.fin hmid hr hg hat (by rw [hps, hz3]) (fun b h1 h2 => ?_) (p.os.trans hot.1) (p.tape.trans hot.2.1) (p.output.trans hot.2.2) ?_ hp
    · by_cases hlt : b < W'.heap.size
      · exact (p.block b hlt h2).trans (hoth b h1)
      · rw [Array.getElem?_eq_none (by omega), Array.getElem?_eq_none (by omega)]
    · rw [p.block O (by omega) (Ne.symm n1), hW']
  exact key _ rfl
/-- The row put in its place, the node in it already. -/
theorem Stage.plain (S : Stage w0 wr own O cap R top st vm va vk ys ks) (hmid : KidMid wr w own st.length R g cs (.agg #[.string k.kind, .string k.text, k2, k3, k4]) k) (hr : Rd w R l x)
    (hg : w.grownBy w3 vk.ownBlock) (hat : (some G : Option Nat) = vk.ownBlock ∨ (some G : Option Nat) = some w.heap.size)
    (ho : w3.ownsRow w0.heap.size 27 5 (.slice (some ⟨G, 0, none⟩) (top.kids.length + 1) c3) (top.kids.length + 1) (ks ++ [.string k.kind, .string k.text, k2, k3, k4])) :
    Ready w0 (w3.setCell ⟨O, st.length * 5 + 4, none⟩ (.slice (some ⟨G, 0, none⟩) (top.kids.length + 1) c3)) R (.slice (some ⟨O, 0, none⟩) (st.length + 1) cap) (addKid top k :: st) l x := by
  obtain ⟨n1, n2, n3⟩ := S.neG hmid.1 hat
  refine S.fin hmid hr hg hat (by simp [World.setCell]) (fun b h1 _ => Below.heap_setCell _ _ _ _ h1) rfl rfl rfl rfl ?_
  exact ownsRow_block ho fun b e => Below.heap_setCell _ _ _ _ (by have := Option.some.inj e; subst this; exact n1)
end

section
variable {w0 wr w w3 : World} {own : Nat → Nat} {O cap R g G c3 : Nat} {top : Tree} {st : List Tree} {vm va vk k2 k3 k4 : Value} {ys ks : List Value} {k : Tree} {l : List UInt8} {x : Bool}
theorem Stage.gcX (S : Stage w0 wr own O cap R top st vm va vk ys ks) (hmid : KidMid wr w own st.length R g zeros5 (.agg #[.string k.kind, .string k.text, k2, k3, k4]) k) (hr : Rd w R l x)
    (hg : w.grownBy w3 vk.ownBlock) (hat : (some G : Option Nat) = vk.ownBlock ∨ (some G : Option Nat) = some w.heap.size)
    (ho : w3.ownsRow w0.heap.size 27 5 (.slice (some ⟨G, 0, none⟩) (top.kids.length + 1) c3) (top.kids.length + 1) (ks ++ zeros5.toList)) :
    Ready w0 ((((((w3.setCell ⟨G, top.kids.length * 5, none⟩ (.string k.kind)).setCell ⟨G, top.kids.length * 5 + 1, none⟩ (.string k.text)).setCell ⟨G, top.kids.length * 5 + 2, none⟩ k2).setCell ⟨G, top.kids.length * 5 + 3, none⟩ k3).setCell ⟨G, top.kids.length * 5 + 4, none⟩ k4).setCell ⟨O, st.length * 5 + 4, none⟩ (.slice (some ⟨G, 0, none⟩) (top.kids.length + 1) c3)) R (.slice (some ⟨O, 0, none⟩) (st.length + 1) cap) (addKid top k :: st) l x :=
  S.gc hmid hr hg hat ho
theorem Stage.textX (S : Stage w0 wr own O cap R top st vm va vk ys ks) (hmid : KidMid wr w own st.length R g zeros5 (.agg #[.string k.kind, .string k.text, k2, k3, k4]) k) (hr : Rd w R l x)
    (hg : w.grownBy w3 vk.ownBlock) (hat : (some G : Option Nat) = vk.ownBlock ∨ (some G : Option Nat) = some w.heap.size)
    (ho : w3.ownsRow w0.heap.size 27 5 (.slice (some ⟨G, 0, none⟩) (top.kids.length + 1) c3) (top.kids.length + 1) (ks ++ zeros5.toList)) :
    Ready w0 ((((((w3.setCell ⟨O, st.length * 5 + 4, none⟩ (.slice (some ⟨G, 0, none⟩) (top.kids.length + 1) c3)).setCell ⟨G, top.kids.length * 5, none⟩ (.string k.kind)).setCell ⟨G, top.kids.length * 5 + 1, none⟩ (.string k.text)).setCell ⟨G, top.kids.length * 5 + 2, none⟩ k2).setCell ⟨G, top.kids.length * 5 + 3, none⟩ k3).setCell ⟨G, top.kids.length * 5 + 4, none⟩ k4) R (.slice (some ⟨O, 0, none⟩) (st.length + 1) cap) (addKid top k :: st) l x :=
  S.text hmid hr hg hat ho
theorem hat_form {G n c : Nat} {X Y : Option Nat} (h : (Value.slice (some ⟨G, 0, none⟩) n c).ownBlock = X ∨ (Value.slice (some ⟨G, 0, none⟩) n c).ownBlock = Y) : (some G : Option Nat) = X ∨ (some G : Option Nat) = Y := h
end

theorem mid_after {wr W w2 : World} {own : Nat → Nat} {i R : Nat} {v : Value} {k : Tree} (hW : W.heap = wr.heap) (ho : OnlyR R wr W) (hn : Node w2 (From W.heap.size w2.heap.size) v k) (o : OnlyR R W w2) (cs : Array Value) :
    KidMid wr (w2.alloc (.cells cs 27)) own i R w2.heap.size cs v k := by
  have hb : Below w2.heap.size w2 (w2.alloc (.cells cs 27)) := (Below.refl _ _).alloc (Nat.le_refl _) _
  have hz : (w2.alloc (.cells cs 27)).heap.size = w2.heap.size + 1 := by simp
  have ho2 := ho.trans o
  refine ⟨ho2.thenBelow hb ho2.size, ⟨From W.heap.size w2.heap.size, hn.keep (fun _ h => h) fun b hb' => hb.block b hb'.2, fun b hb' => ⟨.inr (by rw [← hW]; exact hb'.1), by have := hb'.2; omega, by have := hb'.2; omega⟩⟩, heap_alloc_new _ _, ho2.size⟩
theorem mid_before {wr W w2 : World} {own : Nat → Nat} {i R : Nat} {v : Value} {k : Tree} {cs : Array Value} (hW : W.heap = (wr.alloc (.cells cs 27)).heap) (hos : W.os = wr.os) (htp : W.tape = wr.tape) (hou : W.output = wr.output) (hR : R < wr.heap.size) (hn : Node w2 (From W.heap.size w2.heap.size) v k) (o : OnlyR R W w2) :
    KidMid wr w2 own i R wr.heap.size cs v k := by
  have hz : W.heap.size = wr.heap.size + 1 := by rw [hW]; simp
  have ho : OnlyR R wr W := ⟨hos, htp, hou, by omega, fun b hb _ => by rw [hW]; exact ((Below.refl wr.heap.size wr).alloc (Nat.le_refl _) (.cells cs 27)).block b hb⟩
  refine ⟨ho.trans o, ⟨From W.heap.size w2.heap.size, hn, fun b hb' => ⟨.inr (by have := hb'.1; omega), hb'.2, by have := hb'.1; omega⟩⟩, ?_, by omega⟩
  rw [o.block _ (by omega) (by omega), hW]; exact heap_alloc_new _ _
theorem mid_after2 {wr W w2 : World} {own : Nat → Nat} {i R : Nat} {v : Value} {k : Tree} (ho : OnlyR R wr W) (hn : Node w2 (Part wr own i) v k) (o : OnlyR R W w2) (cs : Array Value) :
    KidMid wr (w2.alloc (.cells cs 27)) own i R w2.heap.size cs v k := by
  have hb : Below w2.heap.size w2 (w2.alloc (.cells cs 27)) := (Below.refl _ _).alloc (Nat.le_refl _) _
  have hz : (w2.alloc (.cells cs 27)).heap.size = w2.heap.size + 1 := by simp
  have ho2 := ho.trans o
  have hs := ho2.size
  refine ⟨ho2.thenBelow hb ho2.size, ⟨Part wr own i, hn.keep (fun _ h => h) fun b hb' => hb.block b (by have := hb'.1; omega), fun b hb' => ⟨.inl hb', by have := hb'.1; omega, by have := hb'.1; omega⟩⟩, heap_alloc_new _ _, ho2.size⟩
theorem mid_before2 {wr W w2 : World} {own : Nat → Nat} {i R : Nat} {v : Value} {k : Tree} {cs : Array Value} (hW : W.heap = (wr.alloc (.cells cs 27)).heap) (hos : W.os = wr.os) (htp : W.tape = wr.tape) (hou : W.output = wr.output) (hR : R < wr.heap.size) (hn : Node w2 (Part wr own i) v k) (o : OnlyR R W w2) :
    KidMid wr w2 own i R wr.heap.size cs v k := by
  have hz : W.heap.size = wr.heap.size + 1 := by rw [hW]; simp
  have ho : OnlyR R wr W := ⟨hos, htp, hou, by omega, fun b hb _ => by rw [hW]; exact ((Below.refl wr.heap.size wr).alloc (Nat.le_refl _) (.cells cs 27)).block b hb⟩
  have hs := o.size
  refine ⟨ho.trans o, ⟨Part wr own i, hn, fun b hb' => ⟨.inl hb', by have := hb'.1; omega, by have := hb'.1; omega⟩⟩, ?_, by omega⟩
  rw [o.block _ (by omega) (by omega), hW]; exact heap_alloc_new _ _
/-- The end of a round in which a node was opened. -/
theorem ready_open {w0 wr w w3 : World} {own : Nat → Nat} {R g : Nat} {v v' va : Value} {st : List Tree} {xs : List Value} {k : Tree} {l : List UInt8} {x : Bool} {S : Nat → Prop}
    (hO : Opens wr w0.heap.size own v st) (hrow : wr.ownsRow w0.heap.size 27 5 v st.length xs) (hoc : OC wr w0.heap.size own 0 st.reverse xs) (hR : own R = 0) (hob : ∀ b, b < w0.heap.size → own b = 0) (hB : Below w0.heap.size w0 wr) (hbR : w0.heap.size ≤ R) (hvR : ∀ b, v.ownBlock = some b → b ≠ R) (hRz : R < wr.heap.size)
    (o : OnlyR R wr w) (hr : Rd w R l x) (hva : Pairs w S va k.attrs) (hS : ∀ b, S b → wr.heap.size ≤ b ∧ b < w.heap.size ∧ b ≠ g) (hkm : k.marks = []) (hkk : k.kids = [])
    (h3 : w3.ownsRow w0.heap.size 27 5 v' (st.length + 1) (xs ++ [.string k.kind, .string k.text, .slice none 0 0, va, .slice none 0 0])) (hg : w.grownBy w3 v.ownBlock) (hat : v'.ownBlock = v.ownBlock ∨ v'.ownBlock = some w.heap.size) :
    Ready w0 w3 R v' (k :: st) l x := by
  have hvb : ∀ b, v.ownBlock = some b → w0.heap.size ≤ b ∧ b < wr.heap.size := hrow.lt
  have hsz := o.size
  have hgz := hg.size
  have hblk : ∀ b, b < wr.heap.size → b ≠ R → some b ≠ v.ownBlock → w3.heap[b]? = wr.heap[b]? := fun b hb h1 h2 => (hg.block b (by omega) h2).trans (o.block b hb h1)
  have hvb' : ∀ b, S b → some b ≠ v.ownBlock := fun b hb e => by have := hvb b e.symm; have := hS b hb; omega
  obtain ⟨own', h1, h2⟩ := Opens.pushOpen (v := v) (k := k) (w4 := w3) hoc hO.2.1 hO.2.2 (by omega) (fun b hb h0 => hblk b hb (fun e => h0 (by rw [e]; exact hR)) fun e => h0 (hO.2.1 b e.symm)) h3 hkm hkk S (hva.keep (fun _ h => h) fun b hb => hg.block b (hS b hb).2.1 (hvb' b hb))
    (fun b hb => ⟨⟨(hS b hb).1, by have := (hS b hb).2.1; omega⟩, fun e => by
      rcases hat with h | h
      · rw [h] at e; exact hvb' b hb e
      · rw [h] at e; have := Option.some.inj e; have := (hS b hb).2.1; omega⟩)
    (fun b e => by
      rcases hat with h | h
      · exact .inl (by rw [← h]; exact e)
      · rw [h] at e; exact .inr (by have := Option.some.inj e; omega))
  refine ⟨own', h1, by rw [h2 R hRz]; exact hR, fun b hb => by rw [h2 b (Nat.lt_of_lt_of_le hb hB.size)]; exact hob b hb, ?_, ?_⟩
  · show w3.heap[R]? = _
    rw [hg.block R hr.lt fun e => hvR R e.symm rfl]; exact hr
  · have hB1 : Below w0.heap.size w0 w := hB.trans (o.below hbR hB.size)
    exact hB1.trans ⟨hg.os, hg.tape, hg.output, hg.size, fun b hb => hg.block b (Nat.lt_of_lt_of_le hb hB1.size) fun e => by have := hvb b e.symm; omega⟩
end Go.Proofs.YtggoebbfgkebcaaDoor
