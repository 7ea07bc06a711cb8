/-
  The open nodes of the reader in memory: a row of the call's own, each node's kids a row of the call's own; no two share a block.
-/
import Derived.Test.YtdcgffepdgldmaaDoorD13
namespace Go.Proofs.YtdcgffepdgldmaaDoor
open Go.RowKit Go.Sort Go.Maps

/-- What lies in open node i, but for the row of its kids. -/
def Part (w : World) (own : Nat → Nat) (i : Nat) : Nat → Prop := fun b => b < w.heap.size ∧ own b = 2 * i + 1
/-- .. with it. -/
def Whole (w : World) (own : Nat → Nat) (i : Nat) : Nat → Prop := fun b => b < w.heap.size ∧ (own b = 2 * i + 1 ∨ own b = 2 * i + 2)
/-- An open node: its three slices. -/
def OpenAt (w : World) (base : Nat) (own : Nat → Nat) (i : Nat) (vm va vk : Value) (t : Tree) : Prop :=
  Strs w (Part w own i) vm t.marks ∧ Pairs w (Part w own i) va t.attrs ∧ Own w base (Part w own i) vk t.kids ∧ ∀ g, vk.ownBlock = some g → own g = 2 * i + 2
/-- The cells of open nodes, the outermost ahead. -/
def OC (w : World) (base : Nat) (own : Nat → Nat) : Nat → List Tree → List Value → Prop
  | _, [], xs => xs = []
  | i, t :: l, xs => ∃ vm va vk ys, xs = .string t.kind :: .string t.text :: vm :: va :: vk :: ys ∧ OpenAt w base own i vm va vk t ∧ OC w base own (i + 1) l ys
/-- The row of open nodes (st: the innermost ahead). -/
def Opens (w : World) (base : Nat) (own : Nat → Nat) (v : Value) (st : List Tree) : Prop :=
  (∃ xs, w.ownsRow base 27 5 v st.length xs ∧ OC w base own 0 st.reverse xs) ∧ (∀ g, v.ownBlock = some g → own g = 0) ∧ ∀ b, w.heap.size ≤ b → own b = 0

theorem ownsRow_block {w w' : World} {base : Nat} {e : TypeId} {size : Nat} {v : Value} {n : Nat} {xs : List Value} (h : w.ownsRow base e size v n xs) (hb : ∀ g, v.ownBlock = some g → w'.heap[g]? = w.heap[g]?) : w'.ownsRow base e size v n xs := by
  refine ⟨h.1, ?_⟩
  rcases h.2 with hn | ⟨g, cap, cur, hv, hB, hg, rest⟩
  · exact .inl hn
  · exact .inr ⟨g, cap, cur, hv, hB, (hb g (by rw [hv]; rfl)).trans hg, rest⟩
theorem Own.lt {w : World} {base : Nat} {S : Nat → Prop} {v : Value} {l : List Tree} (h : Own w base S v l) : ∀ g, v.ownBlock = some g → base ≤ g ∧ g < w.heap.size := by
  obtain ⟨xs, ho, _⟩ := h
  exact ho.lt
theorem OpenAt.keep {w w' : World} {base : Nat} {own own' : Nat → Nat} {i : Nat} {vm va vk : Value} {t : Tree} (h : OpenAt w base own i vm va vk t)
    (hz : w.heap.size ≤ w'.heap.size) (hk : ∀ b, b < w.heap.size → own b = 2 * i + 1 ∨ own b = 2 * i + 2 → w'.heap[b]? = w.heap[b]? ∧ own' b = own b) : OpenAt w' base own' i vm va vk t := by
  obtain ⟨hm, ha, ⟨xs, ho, hc⟩, hg⟩ := h
  have hS : ∀ b, Part w own i b → Part w' own' i b := fun b hb => ⟨Nat.lt_of_lt_of_le hb.1 hz, by rw [(hk b hb.1 (.inl hb.2)).2]; exact hb.2⟩
  have hB : ∀ b, Part w own i b → w'.heap[b]? = w.heap[b]? := fun b hb => (hk b hb.1 (.inl hb.2)).1
  refine ⟨hm.keep hS hB, ha.keep hS hB, ⟨xs, ownsRow_block ho fun g e => (hk g (ho.lt g e).2 (.inr (hg g e))).1, hc.keep hS hB⟩, fun g e => ?_⟩
  rw [(hk g (ho.lt g e).2 (.inr (hg g e))).2]; exact hg g e
theorem OpenAt.node {w : World} {base : Nat} {own : Nat → Nat} {i : Nat} {vm va vk : Value} {t : Tree} (h : OpenAt w base own i vm va vk t) :
    Node w (Whole w own i) (.agg #[.string t.kind, .string t.text, vm, va, vk]) t := by
  obtain ⟨hm, ha, hk, hg⟩ := h
  have hS : ∀ b, Part w own i b → Whole w own i b := fun b hb => ⟨hb.1, .inl hb.2⟩
  exact ⟨vm, va, vk, rfl, hm.keep hS fun _ _ => rfl, ha.keep hS fun _ _ => rfl, hk.kids hS fun g e => ⟨(hk.lt g e).2, .inr (hg g e)⟩⟩

theorem OC.keep {w w' : World} {base : Nat} {own own' : Nat → Nat} (hz : w.heap.size ≤ w'.heap.size) : ∀ {l : List Tree} {i : Nat} {xs : List Value}, OC w base own i l xs →
    (∀ b, b < w.heap.size → 2 * i + 1 ≤ own b → own b ≤ 2 * (i + l.length) → w'.heap[b]? = w.heap[b]? ∧ own' b = own b) → OC w' base own' i l xs
  | [], _, _, h, _ => h
  | t :: l, i, _, ⟨vm, va, vk, ys, e, ho, h⟩, hk => ⟨vm, va, vk, ys, e, ho.keep hz fun b hb hc => hk b hb (by omega) (by simp only [List.length_cons]; omega),
      OC.keep hz h fun b hb h1 h2 => hk b hb (by omega) (by simp only [List.length_cons]; omega)⟩
theorem OC.length {w : World} {base : Nat} {own : Nat → Nat} : ∀ {l : List Tree} {i : Nat} {xs : List Value}, OC w base own i l xs → xs.length = l.length * 5
  | [], _, _, h => by simp only [OC] at h; subst h; rfl
  | t :: l, _, _, ⟨vm, va, vk, ys, e, _, h⟩ => by have := h.length; subst e; simp only [List.length_cons, this]; omega
theorem OC.append {w : World} {base : Nat} {own : Nat → Nat} : ∀ {a b : List Tree} {i : Nat} {xs ys : List Value}, OC w base own i a xs → OC w base own (i + a.length) b ys → OC w base own i (a ++ b) (xs ++ ys)
  | [], _, _, _, _, h, h' => by simp only [OC] at h; subst h; exact h'
  | t :: a, b, i, _, ys, ⟨vm, va, vk, zs, e, ho, h⟩, h' => ⟨vm, va, vk, zs ++ ys, by subst e; rfl, ho, OC.append h (by rw [show i + 1 + a.length = i + (t :: a).length by simp only [List.length_cons]; omega]; exact h')⟩
theorem OC.split {w : World} {base : Nat} {own : Nat → Nat} : ∀ {a b : List Tree} {i : Nat} {xs : List Value}, OC w base own i (a ++ b) xs → ∃ ys zs, xs = ys ++ zs ∧ OC w base own i a ys ∧ OC w base own (i + a.length) b zs
  | [], _, _, xs, h => ⟨[], xs, rfl, rfl, h⟩
  | t :: a, b, i, _, ⟨vm, va, vk, qs, e, ho, h⟩ => by
    obtain ⟨ys, zs, e2, h1, h2⟩ := OC.split (a := a) h
    subst e2
    refine ⟨.string t.kind :: .string t.text :: vm :: va :: vk :: ys, zs, by rw [e]; rfl, ⟨vm, va, vk, ys, rfl, ho, h1⟩, ?_⟩
    rw [show i + (t :: a).length = i + 1 + a.length by simp only [List.length_cons]; omega]; exact h2

/-- The innermost open node, and where it lies. -/
theorem Opens.top {w : World} {base : Nat} {own : Nat → Nat} {v : Value} {top : Tree} {st : List Tree} (h : Opens w base own v (top :: st)) :
    ∃ O cap vm va vk ys, v = .slice (some ⟨O, 0, none⟩) (st.length + 1) cap ∧ base ≤ O ∧ O < w.heap.size ∧ own O = 0 ∧ st.length + 1 ≤ cap ∧ cap ≤ maxLen ∧ OpenAt w base own st.length vm va vk top ∧
      w.ownsRow base 27 5 (.slice (some ⟨O, 0, none⟩) (st.length + 1) cap) (st.length + 1) (ys ++ [.string top.kind, .string top.text, vm, va, vk]) ∧ OC w base own 0 st.reverse ys ∧ ys.length = st.length * 5 := by
  obtain ⟨⟨xs, ho, hc⟩, hO, _⟩ := h
  rw [List.reverse_cons] at hc
  obtain ⟨ys, zs, rfl, h1, h2⟩ := hc.split
  obtain ⟨vm, va, vk, us, rfl, h3, h4⟩ := h2
  simp only [OC] at h4
  subst h4
  simp only [List.length_reverse, Nat.zero_add] at h3
  obtain ⟨hl, hor⟩ := ho
  have hoo := hor
  rcases hor with ⟨_, hn⟩ | ⟨g, cap, cur, rfl, hb, hg, hnc, hcap, hsz, htk⟩
  · simp at hn
  · refine ⟨g, cap, vm, va, vk, ys, rfl, hb, (Array.getElem?_eq_some_iff.1 hg).1, hO g rfl, hnc, hcap, h3, ⟨hl, hoo⟩, h1, ?_⟩
    have := h1.length
    simpa using this
end Go.Proofs.YtdcgffepdgldmaaDoor
