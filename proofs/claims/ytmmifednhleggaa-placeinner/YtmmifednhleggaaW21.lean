/-
  node.Copy's closure: its first statement leaves this; what stands behind it.
-/
import Derived.Test.YtmmifednhleggaaW13a
import Derived.Test.YtmmifednhleggaaW19
namespace Go.Proofs.Ytmmifednhleggaa
open Go.RowKit Go.Sort

def CopyMid (w : World) (k t : ByteArray) (m : List ByteArray) (a : List (ByteArray × ByteArray)) (l : List Tree) (wx : World) : Prop :=
  Below w.heap.size w wx ∧ w.heap.size + 2 ≤ wx.heap.size ∧ wx.heap[w.heap.size + 1]? = some (.cells #[.string ⟨#[]⟩, .string ⟨#[]⟩, .slice none 0 0, .slice none 0 0, .slice none 0 0] 31) ∧
  ∃ A1 d1 A2 d2 A3 d3, wx.cell? ⟨w.heap.size, 0, none⟩ = some (.string k) ∧ wx.cell? ⟨w.heap.size, 1, none⟩ = some (.string t) ∧ wx.cell? ⟨w.heap.size, 2, none⟩ = some (.slice A1 m.length d1) ∧ wx.cell? ⟨w.heap.size, 3, none⟩ = some (.slice A2 a.length d2) ∧
    wx.cell? ⟨w.heap.size, 4, none⟩ = some (.slice A3 l.length d3) ∧ ∃ z, w.heap.size + 2 ≤ z ∧ z ≤ wx.heap.size ∧ StrsP wx (From (w.heap.size + 2) z) (.slice A1 m.length d1) m ∧ PairsP wx (From (w.heap.size + 2) z) (.slice A2 a.length d2) a ∧
    (l = [] ∧ d3 ≤ maxLen ∨ Own wx z (Under w.heap.size) (.slice A3 l.length d3) l)

theorem copyMid_of {w W2 w7 : World} {z : Nat} {k t : ByteArray} {m : List ByteArray} {a : List (ByteArray × ByteArray)} {l : List Tree} {A1 A2 A3 : Option Addr} {d1 d2 d3 : Nat} {u2 u3 u4 : Value} (hB : Below w.heap.size w W2) (hz : W2.heap.size = w.heap.size + 2) (hBW : Below W2.heap.size W2 w7)
    (hr : W2.heap[w.heap.size + 1]? = some (.cells #[.string ⟨#[]⟩, .string ⟨#[]⟩, .slice none 0 0, .slice none 0 0, .slice none 0 0] 31)) (c0 : W2.cell? ⟨w.heap.size, 0, none⟩ = some (.string k)) (c1 : W2.cell? ⟨w.heap.size, 1, none⟩ = some (.string t))
    (c2 : w7.cell? ⟨w.heap.size, 2, none⟩ = some u2) (c3 : w7.cell? ⟨w.heap.size, 3, none⟩ = some u3) (c4 : w7.cell? ⟨w.heap.size, 4, none⟩ = some u4)
    (hz1 : W2.heap.size ≤ z) (hz2 : z ≤ w7.heap.size) (h5 : StrsP w7 (From W2.heap.size z) (.slice A1 m.length d1) m) (h6 : PairsP w7 (From W2.heap.size z) (.slice A2 a.length d2) a) (h7 : (l = [] ∧ ∃ A, (.slice A3 l.length d3 : Value) = .slice A 0 0) ∨ Own w7 z (Under w.heap.size) (.slice A3 l.length d3) l) :
    CopyMid w k t m a l (((w7.setCell ⟨w.heap.size, 2, none⟩ (.slice A1 m.length d1)).setCell ⟨w.heap.size, 3, none⟩ (.slice A2 a.length d2)).setCell ⟨w.heap.size, 4, none⟩ (.slice A3 l.length d3)) := by
  obtain ⟨far1, set1, off1, blk1, sz1, os1⟩ := set_one (w := w7) (g := w.heap.size) (o := 2) (v := .slice A1 m.length d1) c2
  obtain ⟨far2, set2, off2, blk2, sz2, os2⟩ := set_one (w := w7.setCell ⟨w.heap.size, 2, none⟩ (.slice A1 m.length d1)) (g := w.heap.size) (o := 3) (v := .slice A2 a.length d2) ((off1 3 (by omega)).trans c3)
  obtain ⟨far3, set3, off3, blk3, sz3, os3⟩ := set_one (w := (w7.setCell ⟨w.heap.size, 2, none⟩ (.slice A1 m.length d1)).setCell ⟨w.heap.size, 3, none⟩ (.slice A2 a.length d2)) (g := w.heap.size) (o := 4) (v := .slice A3 l.length d3) ((off2 4 (by omega)).trans ((off1 4 (by omega)).trans c4))
  generalize ((w7.setCell ⟨w.heap.size, 2, none⟩ (.slice A1 m.length d1)).setCell ⟨w.heap.size, 3, none⟩ (.slice A2 a.length d2)).setCell ⟨w.heap.size, 4, none⟩ (.slice A3 l.length d3) = W9 at *
  generalize (w7.setCell ⟨w.heap.size, 2, none⟩ (.slice A1 m.length d1)).setCell ⟨w.heap.size, 3, none⟩ (.slice A2 a.length d2) = W8 at *
  generalize w7.setCell ⟨w.heap.size, 2, none⟩ (.slice A1 m.length d1) = W7 at *
  have blk : ∀ b, b ≠ w.heap.size → W9.heap[b]? = w7.heap[b]? := fun b hb => (blk3 b hb).trans ((blk2 b hb).trans (blk1 b hb))
  have szz : W9.heap.size = w7.heap.size := sz3.trans (sz2.trans sz1)
  have hs := hBW.size
  have kb : ∀ b, From W2.heap.size z b → W9.heap[b]? = w7.heap[b]? := fun b hb => blk b (by have := hb.1; omega)
  have kf : ∀ b, From W2.heap.size z b → From (w.heap.size + 2) z b := fun b hb => ⟨by have := hb.1; omega, by have := hb.2; omega⟩
  refine ⟨⟨os3.1.trans (os2.1.trans (os1.1.trans (hBW.os.trans hB.os))), os3.2.1.trans (os2.2.1.trans (os1.2.1.trans (hBW.tape.trans hB.tape))), os3.2.2.trans (os2.2.2.trans (os1.2.2.trans (hBW.output.trans hB.output))), by omega, fun b hb => (blk b (by omega)).trans ((hBW.block b (by omega)).trans (hB.block b hb))⟩, by omega,
    (blk _ (by omega)).trans ((hBW.block _ (by omega)).trans hr), A1, d1, A2, d2, A3, d3, ?_, ?_, ?_, ?_, set3, z, by omega, by omega, h5.keep kf kb, h6.keep kf kb, ?_⟩
  · exact (off3 0 (by omega)).trans ((off2 0 (by omega)).trans ((off1 0 (by omega)).trans (cell_kept c0 hBW)))
  · exact (off3 1 (by omega)).trans ((off2 1 (by omega)).trans ((off1 1 (by omega)).trans (cell_kept c1 hBW)))
  · exact (off3 2 (by omega)).trans ((off2 2 (by omega)).trans set1)
  · exact (off3 3 (by omega)).trans set2
  · rcases h7 with ⟨h, A, hA⟩ | ⟨xs, ho, hc⟩
    · injection hA with _ _ hA
      exact .inl ⟨h, by rw [hA]; exact Nat.zero_le _⟩
    · refine .inr ⟨xs, ⟨ho.1, ?_⟩, hc.keep (fun _ h => h) fun b hb => blk b (by unfold Under at hb; omega)⟩
      rcases ho.2 with h | ⟨g, cap, cur, hv, hg, hh, rest⟩
      · exact .inl h
      · exact .inr ⟨g, cap, cur, hv, hg, (blk g (by omega)).trans hh, rest⟩

/-- One more cell of a row set, its block as it lies. -/
theorem heap_set {w : World} {g o : Nat} {cur : Array Value} {T : TypeId} (hh : w.heap[g]? = some (.cells cur T)) (v : Value) : (w.setCell ⟨g, o, none⟩ v).heap[g]? = some (.cells (cur.setIfInBounds o v) T) := by
  simp [World.setCell, Array.getElem?_modify, hh]

/-- A node put into a row: the others of the row stand, and it stands there. -/
theorem row_put {w : World} {g i : Nat} {l : List Tree} {S : Nat → Nat → Prop} {S' : Nat → Prop} {y : Tree} {vm va vk : Value} (hy : l[i]? = some y)
    (hrow : ∀ j x, l[j]? = some x → NodeAt w (S j) x g (j * 5)) (hS : ∀ j b, S j b → b ≠ g) (hS' : ∀ b, S' b → b ≠ g) (hm : Strs w S' vm y.marks) (ha : Pairs w S' va y.attrs) (hk : Kids w S' vk y.kids) (W : World) (hWb : ∀ b, b ≠ g → W.heap[b]? = w.heap[b]?)
    (hW : ∀ o, W.cell? ⟨g, o, none⟩ = if o = i * 5 then some (.string y.kind) else if o = i * 5 + 1 then some (.string y.text) else if o = i * 5 + 2 then some vm else if o = i * 5 + 3 then some va else if o = i * 5 + 4 then some vk else w.cell? ⟨g, o, none⟩) :
    ∀ j x, l[j]? = some x → NodeAt W (fun b => if j = i then S' b else S j b) x g (j * 5) := by
  intro j x hj
  by_cases hji : j = i
  · subst hji
    rw [hy] at hj; injection hj with hj; subst hj
    have e : (fun b => if j = j then S' b else S j b) = S' := by funext b; simp
    rw [e]
    refine (nodeAt_iff y g (j * 5)).2 ⟨vm, va, vk, ?_, ?_, ?_, ?_, ?_, hm.keep (fun _ h => h) fun b hb => hWb b (hS' b hb), ha.keep (fun _ h => h) fun b hb => hWb b (hS' b hb), hk.keep (fun _ h => h) fun b hb => hWb b (hS' b hb)⟩
    · rw [hW, if_pos rfl]
    · rw [hW, if_neg (by omega), if_pos rfl]
    · rw [hW, if_neg (by omega), if_neg (by omega), if_pos rfl]
    · rw [hW, if_neg (by omega), if_neg (by omega), if_neg (by omega), if_pos rfl]
    · rw [hW, if_neg (by omega), if_neg (by omega), if_neg (by omega), if_neg (by omega), if_pos rfl]
  · have e : (fun b => if j = i then S' b else S j b) = S j := by funext b; simp [hji]
    rw [e]
    obtain ⟨xm, xa, xk, c0, c1, c2, c3, c4, h1, h2, h3⟩ := (nodeAt_iff x g (j * 5)).1 (hrow j x hj)
    have same : ∀ d, d < 5 → W.cell? ⟨g, j * 5 + d, none⟩ = w.cell? ⟨g, j * 5 + d, none⟩ := fun d hd => by
      rw [hW, if_neg (by omega), if_neg (by omega), if_neg (by omega), if_neg (by omega), if_neg (by omega)]
    exact (nodeAt_iff x g (j * 5)).2 ⟨xm, xa, xk, (same 0 (by omega)).trans c0, (same 1 (by omega)).trans c1, (same 2 (by omega)).trans c2, (same 3 (by omega)).trans c3, (same 4 (by omega)).trans c4,
      h1.keep (fun _ h => h) fun b hb => hWb b (hS j b hb), h2.keep (fun _ h => h) fun b hb => hWb b (hS j b hb), h3.keep (fun _ h => h) fun b hb => hWb b (hS j b hb)⟩

/-- What the row of the copies is behind k of them. -/
def CopyRow (w : World) (g : Nat) (l : List Tree) (k : Nat) (wr : World) : Prop :=
  (∃ cur, wr.heap[g]? = some (.cells cur 31) ∧ l.length * 5 ≤ cur.size) ∧ ∀ j x, l[j]? = some x → NodeAt wr (fun b => if j < k then (w.heap.size + 2 ≤ b ∧ b < wr.heap.size ∧ b ≠ g) else b < w.heap.size) x g (j * 5)

theorem CopyRow.below {w wr w2 : World} {g k : Nat} {l : List Tree} (h : CopyRow w g l k wr) (hw : w.heap.size ≤ wr.heap.size) (hb : Below wr.heap.size wr w2) : CopyRow w g l k w2 := by
  obtain ⟨⟨cur, hc, hs⟩, hr⟩ := h
  have hg : g < wr.heap.size := (Array.getElem?_eq_some_iff.1 hc).1
  refine ⟨⟨cur, (hb.block g hg).trans hc, hs⟩, fun j x hj => ?_⟩
  refine nodeAt_keep (fun b hb' => ?_) (fun b hb' => hb.block b ?_) x g (j * 5) (hb.block g hg) (hr j x hj)
  · by_cases hjk : j < k
    · simp only [hjk, if_true] at hb' ⊢
      exact ⟨hb'.1, Nat.lt_of_lt_of_le hb'.2.1 hb.size, hb'.2.2⟩
    · simp only [hjk, if_false] at hb' ⊢
      exact hb'
  · by_cases hjk : j < k
    · simp only [hjk, if_true] at hb'; exact hb'.2.1
    · simp only [hjk, if_false] at hb'; omega

theorem copyRow_put {w w2 : World} {g i : Nat} {l : List Tree} {y : Tree} {vm va vk : Value} (h : CopyRow w g l i w2) (hwg : w.heap.size ≤ g) (hy : l[i]? = some y) {n : Nat} (hn : w.heap.size + 2 ≤ n) (hgn : g < n) (hN : Strs w2 (From n w2.heap.size) vm y.marks ∧ Pairs w2 (From n w2.heap.size) va y.attrs ∧ Kids w2 (From n w2.heap.size) vk y.kids) :
    CopyRow w g l (i + 1) (((((w2.setCell ⟨g, i * 5, none⟩ (.string y.kind)).setCell ⟨g, i * 5 + 1, none⟩ (.string y.text)).setCell ⟨g, i * 5 + 2, none⟩ vm).setCell ⟨g, i * 5 + 3, none⟩ va).setCell ⟨g, i * 5 + 4, none⟩ vk) := by
  obtain ⟨⟨cur, hc, hs⟩, hr⟩ := h
  have hi : i < l.length := (List.getElem?_eq_some_iff.1 hy).1
  have h1 := heap_set (o := i * 5) hc (.string y.kind)
  have h2 := heap_set (o := i * 5 + 1) h1 (.string y.text)
  have h3 := heap_set (o := i * 5 + 2) h2 vm
  have h4 := heap_set (o := i * 5 + 3) h3 va
  have h5 := heap_set (o := i * 5 + 4) h4 vk
  have hblk : ∀ b, b ≠ g → (((((w2.setCell ⟨g, i * 5, none⟩ (.string y.kind)).setCell ⟨g, i * 5 + 1, none⟩ (.string y.text)).setCell ⟨g, i * 5 + 2, none⟩ vm).setCell ⟨g, i * 5 + 3, none⟩ va).setCell ⟨g, i * 5 + 4, none⟩ vk).heap[b]? = w2.heap[b]? := fun b hb => by
    rw [Below.heap_setCell _ _ _ _ hb, Below.heap_setCell _ _ _ _ hb, Below.heap_setCell _ _ _ _ hb, Below.heap_setCell _ _ _ _ hb, Below.heap_setCell _ _ _ _ hb]
  have hsz : (((((w2.setCell ⟨g, i * 5, none⟩ (.string y.kind)).setCell ⟨g, i * 5 + 1, none⟩ (.string y.text)).setCell ⟨g, i * 5 + 2, none⟩ vm).setCell ⟨g, i * 5 + 3, none⟩ va).setCell ⟨g, i * 5 + 4, none⟩ vk).heap.size = w2.heap.size := by simp [World.setCell]
  generalize ((((w2.setCell ⟨g, i * 5, none⟩ (.string y.kind)).setCell ⟨g, i * 5 + 1, none⟩ (.string y.text)).setCell ⟨g, i * 5 + 2, none⟩ vm).setCell ⟨g, i * 5 + 3, none⟩ va).setCell ⟨g, i * 5 + 4, none⟩ vk = W at *
  refine ⟨⟨_, h5, by simp; omega⟩, fun j x hj => ?_⟩
  have hput := row_put (S := fun j b => if j < i then (w.heap.size + 2 ≤ b ∧ b < w2.heap.size ∧ b ≠ g) else b < w.heap.size) (S' := From n w2.heap.size) hy hr
    (fun j b hb => by
      by_cases hji : j < i
      · simp only [hji, if_true] at hb; exact hb.2.2
      · simp only [hji, if_false] at hb; omega)
    (fun b hb => by have := hb.1; omega) hN.1 hN.2.1 hN.2.2 W hblk (fun o => by
      simp only [World.cell?, h5, hc]
      simp only [Array.getElem?_setIfInBounds, Array.size_setIfInBounds]
      by_cases e0 : o = i * 5
      · subst e0; simp; omega
      · by_cases e1 : o = i * 5 + 1
        · subst e1; simp; omega
        · by_cases e2 : o = i * 5 + 2
          · subst e2; simp; omega
          · by_cases e3 : o = i * 5 + 3
            · subst e3; simp; omega
            · by_cases e4 : o = i * 5 + 4
              · subst e4; simp; omega
              · simp [e0, e1, e2, e3, e4, Ne.symm e0, Ne.symm e1, Ne.symm e2, Ne.symm e3, Ne.symm e4]) j x hj
  refine nodeAt_keep (fun b hb => ?_) (fun _ _ => rfl) x g (j * 5) rfl hput
  by_cases hji : j = i
  · subst hji
    simp only [if_true] at hb
    simp only [Nat.lt_succ_self, if_true, hsz]
    exact ⟨Nat.le_trans hn hb.1, hb.2, by have := hb.1; omega⟩
  · simp only [hji, if_false] at hb
    by_cases hj2 : j < i
    · simp only [hj2, if_true] at hb
      simp only [show j < i + 1 by omega, if_true, hsz]
      exact hb
    · simp only [hj2, if_false] at hb
      simp only [show ¬ j < i + 1 by omega, if_false]
      exact hb

/-- The copies that are made, each in blocks of its own, one behind the other. -/
def RowPart (w : World) (g : Nat) (l : List Tree) (k n : Nat) : Prop := ∃ cur, w.heap[g]? = some (.cells cur 31) ∧ l.length * 5 ≤ cur.size ∧ RowP w (l.take k) (g + 1) n cur 0
theorem RowPart.keep {w w' : World} {g k n n' : Nat} {l : List Tree} (h : RowPart w g l k n) (hg : w'.heap[g]? = w.heap[g]?) (hb : ∀ b, b < n → b ≠ g → w'.heap[b]? = w.heap[b]?) (hn : n ≤ n') : RowPart w' g l k n' := by
  obtain ⟨cur, hc, hs, hr⟩ := h
  exact ⟨cur, hg.trans hc, hs, RowP.keep _ _ _ _ _ _ hn (fun b hb' => hb b hb'.2 (by have := hb'.1; omega)) hr⟩
theorem RowPart.start {w : World} {g n : Nat} {l : List Tree} {cur : Array Value} (hc : w.heap[g]? = some (.cells cur 31)) (hs : l.length * 5 ≤ cur.size) (hg : g < n) : RowPart w g l 0 n :=
  ⟨cur, hc, hs, by rw [List.take_zero, RowP]; omega⟩
theorem rowPart_put {w2 : World} {g i n : Nat} {l : List Tree} {y : Tree} {vm va vk : Value} (h : RowPart w2 g l i n) (hy : l[i]? = some y) (hgn : g < n) (hn : n ≤ w2.heap.size) (hN : NodeP w2 y n w2.heap.size (.agg #[.string y.kind, .string y.text, vm, va, vk])) :
    RowPart (((((w2.setCell ⟨g, i * 5, none⟩ (.string y.kind)).setCell ⟨g, i * 5 + 1, none⟩ (.string y.text)).setCell ⟨g, i * 5 + 2, none⟩ vm).setCell ⟨g, i * 5 + 3, none⟩ va).setCell ⟨g, i * 5 + 4, none⟩ vk) g l (i + 1)
      (((((w2.setCell ⟨g, i * 5, none⟩ (.string y.kind)).setCell ⟨g, i * 5 + 1, none⟩ (.string y.text)).setCell ⟨g, i * 5 + 2, none⟩ vm).setCell ⟨g, i * 5 + 3, none⟩ va).setCell ⟨g, i * 5 + 4, none⟩ vk).heap.size := by
  obtain ⟨cur, hc, hs, hr⟩ := h
  have hi : i < l.length := (List.getElem?_eq_some_iff.1 hy).1
  have h1 := heap_set (o := i * 5) hc (.string y.kind)
  have h2 := heap_set (o := i * 5 + 1) h1 (.string y.text)
  have h3 := heap_set (o := i * 5 + 2) h2 vm
  have h4 := heap_set (o := i * 5 + 3) h3 va
  have h5 := heap_set (o := i * 5 + 4) h4 vk
  have hblk : ∀ b, b ≠ g → (((((w2.setCell ⟨g, i * 5, none⟩ (.string y.kind)).setCell ⟨g, i * 5 + 1, none⟩ (.string y.text)).setCell ⟨g, i * 5 + 2, none⟩ vm).setCell ⟨g, i * 5 + 3, none⟩ va).setCell ⟨g, i * 5 + 4, none⟩ vk).heap[b]? = w2.heap[b]? := fun b hb => by
    rw [Below.heap_setCell _ _ _ _ hb, Below.heap_setCell _ _ _ _ hb, Below.heap_setCell _ _ _ _ hb, Below.heap_setCell _ _ _ _ hb, Below.heap_setCell _ _ _ _ hb]
  have hsz : (((((w2.setCell ⟨g, i * 5, none⟩ (.string y.kind)).setCell ⟨g, i * 5 + 1, none⟩ (.string y.text)).setCell ⟨g, i * 5 + 2, none⟩ vm).setCell ⟨g, i * 5 + 3, none⟩ va).setCell ⟨g, i * 5 + 4, none⟩ vk).heap.size = w2.heap.size := by simp [World.setCell]
  generalize ((((w2.setCell ⟨g, i * 5, none⟩ (.string y.kind)).setCell ⟨g, i * 5 + 1, none⟩ (.string y.text)).setCell ⟨g, i * 5 + 2, none⟩ vm).setCell ⟨g, i * 5 + 3, none⟩ va).setCell ⟨g, i * 5 + 4, none⟩ vk = W at *
  refine ⟨_, h5, by simp; omega, ?_⟩
  have ht : l.take (i + 1) = l.take i ++ [y] := by
    rw [List.take_succ_eq_append_getElem hi]
    rw [(List.getElem?_eq_some_iff.1 hy).2]
  have hlen : (l.take i).length = i := by rw [List.length_take]; omega
  rw [ht, hsz]
  refine RowP.snoc (mid := n) (l.take i) (g + 1) 0 ?_ hn (NodeP.keep y n w2.heap.size n w2.heap.size _ (Nat.le_refl _) (Nat.le_refl _) (fun b hb => hblk b (by have := hb.1; omega)) hN) ⟨_, _, _, _, _, rfl, ?_, ?_, ?_, ?_, ?_⟩
  · refine RowP.cur _ _ _ cur _ _ (fun j _ hj => ?_) (RowP.keep _ _ n n _ _ (Nat.le_refl _) (fun b hb => hblk b (by have := hb.1; omega)) hr)
    rw [hlen] at hj
    rw [Array.getElem?_setIfInBounds_ne (by omega), Array.getElem?_setIfInBounds_ne (by omega), Array.getElem?_setIfInBounds_ne (by omega), Array.getElem?_setIfInBounds_ne (by omega), Array.getElem?_setIfInBounds_ne (by omega)]
  all_goals
    rw [hlen, Nat.zero_add]
    simp only [Array.getElem?_setIfInBounds, Array.size_setIfInBounds]
    simp
    try omega
end Go.Proofs.Ytmmifednhleggaa
