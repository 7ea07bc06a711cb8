/-
  The open row of the reader turned: a kid more, a node more, a node closed.
-/
import Derived.Test.YtdcgffepdgldmaaDoorD14
namespace Go.Proofs.YtdcgffepdgldmaaDoor
open Go.RowKit Go.Sort Go.Maps

theorem set_last (ys : List Value) (a b c d e f : Value) (n : Nat) (h : ys.length = n) : (ys ++ [a, b, c, d, e]).set (n + 4) f = ys ++ [a, b, c, d, f] := by
  subst h
  rw [List.set_append_right _ _ (by omega)]
  rw [show ys.length + 4 - ys.length = 4 by omega]
  rfl

theorem Opens.pushKid {w w4 : World} {base : Nat} {own : Nat → Nat} {O cap : Nat} {top : Tree} {st : List Tree} {vm va vk : Value} {ys : List Value}
    (hop : OpenAt w base own st.length vm va vk top) (hrow : w.ownsRow base 27 5 (.slice (some ⟨O, 0, none⟩) (st.length + 1) cap) (st.length + 1) (ys ++ [.string top.kind, .string top.text, vm, va, vk]))
    (hoc : OC w base own 0 st.reverse ys) (hys : ys.length = st.length * 5) (hO : own O = 0) (hOz : O < w.heap.size) (hz : ∀ b, w.heap.size ≤ b → own b = 0)
    (k : Tree) (vk' : Value) (zs : List Value) (S : Nat → Prop) (hsz : w.heap.size ≤ w4.heap.size)
    (hkeep : ∀ b, b < w.heap.size → own b ≠ 0 → some b ≠ vk.ownBlock → w4.heap[b]? = w.heap[b]?)
    (hO4 : w4.heap[O]? = (w.setCell ⟨O, st.length * 5 + 4, none⟩ vk').heap[O]?)
    (hk4 : w4.ownsRow base 27 5 vk' (top.kids.length + 1) zs) (hc4 : Cells w4 S (top.kids ++ [k]) zs)
    (hat : ∀ g, vk'.ownBlock = some g → vk.ownBlock = some g ∨ w.heap.size ≤ g)
    (hS : ∀ b, S b → (Part w own st.length b ∨ From w.heap.size w4.heap.size b) ∧ some b ≠ vk'.ownBlock) :
    ∃ own', Opens w4 base own' (.slice (some ⟨O, 0, none⟩) (st.length + 1) cap) (addKid top k :: st) ∧ ∀ b, b < w.heap.size → own' b = own b := by
  obtain ⟨hm, ha, hk, hg⟩ := hop
  refine ⟨fun b => if w.heap.size ≤ b ∧ b < w4.heap.size then (if vk'.ownBlock = some b then 2 * st.length + 2 else 2 * st.length + 1) else own b, ?_, fun b hb => if_neg (by omega)⟩
  have hold : ∀ b, b < w.heap.size → (fun b => if w.heap.size ≤ b ∧ b < w4.heap.size then (if vk'.ownBlock = some b then 2 * st.length + 2 else 2 * st.length + 1) else own b) b = own b := fun b hb => if_neg (by omega)
  have hnew : ∀ b, w.heap.size ≤ b → b < w4.heap.size → (fun b => if w.heap.size ≤ b ∧ b < w4.heap.size then (if vk'.ownBlock = some b then 2 * st.length + 2 else 2 * st.length + 1) else own b) b = if vk'.ownBlock = some b then 2 * st.length + 2 else 2 * st.length + 1 := fun b h1 h2 => if_pos ⟨h1, h2⟩
  have hend : ∀ b, w4.heap.size ≤ b → (fun b => if w.heap.size ≤ b ∧ b < w4.heap.size then (if vk'.ownBlock = some b then 2 * st.length + 2 else 2 * st.length + 1) else own b) b = own b := fun b hb => if_neg (by omega)
  generalize (fun b => if w.heap.size ≤ b ∧ b < w4.heap.size then (if vk'.ownBlock = some b then 2 * st.length + 2 else 2 * st.length + 1) else own b) = own' at *
  have hP : ∀ b, Part w own st.length b → Part w4 own' st.length b := fun b hb => ⟨Nat.lt_of_lt_of_le hb.1 hsz, by rw [hold b hb.1]; exact hb.2⟩
  have hPk : ∀ b, Part w own st.length b → w4.heap[b]? = w.heap[b]? := fun b hb => hkeep b hb.1 (by rw [hb.2]; omega) fun e => by
    have := hg b e.symm
    rw [hb.2] at this; omega
  refine ⟨⟨ys ++ [.string top.kind, .string top.text, vm, va, vk'], ?_, ?_⟩, fun g e => ?_, fun b hb => by rw [hend b hb]; exact hz b (by omega)⟩
  · have h1 := (hrow.stored (st.length * 5 + 4) vk').1
    rw [set_last ys _ _ _ _ _ _ _ hys] at h1
    exact ownsRow_block h1 fun g e => by
      have : O = g := Option.some.inj e
      subst this; exact hO4
  · rw [List.reverse_cons]
    refine OC.append (OC.keep hsz hoc fun b hb h1 h2 => ⟨hkeep b hb (by omega) fun e => ?_, hold b hb⟩) ?_
    · have := hg b e.symm
      rw [this, List.length_reverse] at h2; omega
    · rw [List.length_reverse, Nat.zero_add]
      refine ⟨vm, va, vk', [], rfl, ⟨hm.keep hP hPk, ha.keep hP hPk, ⟨zs, ?_, ?_⟩, fun g e => ?_⟩, rfl⟩
      · show w4.ownsRow base 27 5 vk' (top.kids ++ [k]).length zs
        rw [List.length_append]; exact hk4
      · show Cells w4 (Part w4 own' st.length) (top.kids ++ [k]) zs
        refine hc4.keep (fun b hb => ?_) fun _ _ => rfl
        obtain ⟨h1, h2⟩ := hS b hb
        rcases h1 with h1 | h1
        · exact hP b h1
        · exact ⟨h1.2, by rw [hnew b h1.1 h1.2]; exact if_neg fun e => h2 e.symm⟩
      · rcases hat g e with h1 | h1
        · rw [hold g (hk.lt g h1).2]; exact hg g h1
        · rw [hnew g h1 (hk4.lt g e).2]; exact if_pos e
  · have : O = g := Option.some.inj e
    subst this
    rw [hold O hOz]; exact hO

theorem Opens.pushOpen {w w4 : World} {base : Nat} {own : Nat → Nat} {v v' va : Value} {st : List Tree} {xs : List Value} {k : Tree}
    (hoc : OC w base own 0 st.reverse xs) (hO : ∀ g, v.ownBlock = some g → own g = 0) (hz : ∀ b, w.heap.size ≤ b → own b = 0)
    (hsz : w.heap.size ≤ w4.heap.size) (hkeep : ∀ b, b < w.heap.size → own b ≠ 0 → w4.heap[b]? = w.heap[b]?)
    (hrow : w4.ownsRow base 27 5 v' (st.length + 1) (xs ++ [.string k.kind, .string k.text, .slice none 0 0, va, .slice none 0 0])) (hkm : k.marks = []) (hkk : k.kids = [])
    (S : Nat → Prop) (hva : Pairs w4 S va k.attrs) (hS : ∀ b, S b → From w.heap.size w4.heap.size b ∧ some b ≠ v'.ownBlock)
    (hat : ∀ g, v'.ownBlock = some g → v.ownBlock = some g ∨ w.heap.size ≤ g) :
    ∃ own', Opens w4 base own' v' (k :: st) ∧ ∀ b, b < w.heap.size → own' b = own b := by
  refine ⟨fun b => if w.heap.size ≤ b ∧ b < w4.heap.size ∧ v'.ownBlock ≠ some b then 2 * st.length + 1 else own b, ?_, fun b hb => if_neg (by omega)⟩
  have hold : ∀ b, b < w.heap.size → (fun b => if w.heap.size ≤ b ∧ b < w4.heap.size ∧ v'.ownBlock ≠ some b then 2 * st.length + 1 else own b) b = own b := fun b hb => if_neg (by omega)
  have hnew : ∀ b, w.heap.size ≤ b → b < w4.heap.size → v'.ownBlock ≠ some b → (fun b => if w.heap.size ≤ b ∧ b < w4.heap.size ∧ v'.ownBlock ≠ some b then 2 * st.length + 1 else own b) b = 2 * st.length + 1 := fun b h1 h2 h3 => if_pos ⟨h1, h2, h3⟩
  have hown : ∀ b, v'.ownBlock = some b → (fun b => if w.heap.size ≤ b ∧ b < w4.heap.size ∧ v'.ownBlock ≠ some b then 2 * st.length + 1 else own b) b = own b := fun b hb => if_neg fun h => h.2.2 hb
  have hend : ∀ b, w4.heap.size ≤ b → (fun b => if w.heap.size ≤ b ∧ b < w4.heap.size ∧ v'.ownBlock ≠ some b then 2 * st.length + 1 else own b) b = own b := fun b hb => if_neg (by omega)
  generalize (fun b => if w.heap.size ≤ b ∧ b < w4.heap.size ∧ v'.ownBlock ≠ some b then 2 * st.length + 1 else own b) = own' at *
  refine ⟨⟨_, hrow, ?_⟩, fun g e => ?_, fun b hb => by rw [hend b hb]; exact hz b (by omega)⟩
  · rw [List.reverse_cons]
    refine OC.append (OC.keep hsz hoc fun b hb h1 h2 => ⟨hkeep b hb (by omega), hold b hb⟩) ?_
    rw [List.length_reverse, Nat.zero_add]
    refine ⟨.slice none 0 0, va, .slice none 0 0, [], rfl, ⟨by rw [hkm]; exact strs_nil, hva.keep (fun b hb => ?_) (fun _ _ => rfl), ⟨[], ?_, ?_⟩, fun g e => by cases e⟩, rfl⟩
    · obtain ⟨h1, h2⟩ := hS b hb
      exact ⟨h1.2, hnew b h1.1 h1.2 fun e => h2 e.symm⟩
    · rw [hkk]; exact World.ownsRow_nil _ _ _ _
    · rw [hkk]; rfl
  · rw [hown g e]
    rcases hat g e with h1 | h1
    · exact hO g h1
    · exact hz g h1

/-- The innermost node closed: it is what the next one holds. -/
theorem Opens.close {w : World} {base : Nat} {own : Nat → Nat} {O cap : Nat} {top up : Tree} {st : List Tree} (h : Opens w base own (.slice (some ⟨O, 0, none⟩) (st.length + 2) cap) (top :: up :: st)) :
    ∃ own' vm va vk, Opens w base own' (.slice (some ⟨O, 0, none⟩) (st.length + 1) cap) (up :: st) ∧ Node w (Part w own' st.length) (.agg #[.string top.kind, .string top.text, vm, va, vk]) top ∧
      (∀ j u, [Value.string top.kind, .string top.text, vm, va, vk][j]? = some u → w.cell? ⟨O, (st.length + 1) * 5 + j, none⟩ = some u) ∧ ∀ b, own b = 0 → own' b = 0 := by
  obtain ⟨O', cap', vm, va, vk, ys, e, hb, hlt, hO, hnc, hcap, hop, hrow, hoc, hys⟩ := h.top
  injection e with e1 e2 e3
  have e1 : O = O' := by injection e1 with e1; injection e1
  subst e1; subst e3
  obtain ⟨_, _, hz⟩ := h
  refine ⟨fun b => if own b = 2 * (st.length + 1) + 1 ∨ own b = 2 * (st.length + 1) + 2 then 2 * st.length + 1 else own b, vm, va, vk, ?_, ?_, ?_, fun b hb => ?_⟩
  · have hlow : ∀ b, own b ≤ 2 * (st.length + 1) → (fun b => if own b = 2 * (st.length + 1) + 1 ∨ own b = 2 * (st.length + 1) + 2 then 2 * st.length + 1 else own b) b = own b := fun b hb => if_neg (by omega)
    refine ⟨⟨ys, ?_, ?_⟩, fun g e => ?_, fun b hb => ?_⟩
    · obtain ⟨hl, hor⟩ := hrow
      rcases hor with ⟨h1, _⟩ | ⟨g, c, cur, h1, h2, h3, h4, h5, h6, h7⟩
      · cases h1
      · refine ⟨by simpa using hys, .inr ⟨g, c, cur, ?_, h2, h3, ?_, h5, h6, ?_⟩⟩
        · injection h1 with a1 a2 a3
          rw [a1, a3]; rfl
        · simp only [List.length_cons] at h4 ⊢; omega
        · have : (cur.toList.take (((up :: st).length + 1) * 5)).take ((up :: st).length * 5) = ys := by
            rw [h7, List.take_append_of_le_length (by rw [hys]; exact Nat.le_refl _), List.take_of_length_le (by rw [hys]; exact Nat.le_refl _)]
          rwa [List.take_take, Nat.min_eq_left (by omega)] at this
    · refine OC.keep (Nat.le_refl _) hoc fun b hb h1 h2 => ⟨rfl, hlow b ?_⟩
      simp only [List.length_reverse, List.length_cons] at h2; omega
    · have : O = g := Option.some.inj e
      subst this
      rw [hlow O (by omega)]; exact hO
    · rw [hlow b (by have := hz b hb; omega)]; exact hz b hb
  · refine hop.node.keep (fun b hb => ⟨hb.1, if_pos ?_⟩) fun _ _ => rfl
    simpa using hb.2
  · intro j u hj
    have hj5 : j < 5 := by
      have := (List.getElem?_eq_some_iff.1 hj).1
      simpa using this
    rw [hrow.cellAt _ (by simp only [List.length_cons]; omega), List.getElem?_append_right (by rw [hys]; simp only [List.length_cons]; omega), hys]
    simp only [List.length_cons]
    rw [show (st.length + 1) * 5 + j - (st.length + 1) * 5 = j by omega]
    exact hj
  · exact (if_neg (by omega)).trans hb
end Go.Proofs.YtdcgffepdgldmaaDoor
