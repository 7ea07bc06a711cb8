/-
  A node whose blocks are its own, each part in blocks behind those of the part ahead: what Copy makes.
-/
import Derived.Test.YtmmifednhleggaaTree
namespace Go.Proofs.Ytmmifednhleggaa
open Go.RowKit

/-- Five cells of a block. -/
def Five (cur : Array Value) (o : Nat) (v : Value) : Prop :=
  ∃ v0 v1 v2 v3 v4, v = .agg #[v0, v1, v2, v3, v4] ∧ cur[o]? = some v0 ∧ cur[o + 1]? = some v1 ∧ cur[o + 2]? = some v2 ∧ cur[o + 3]? = some v3 ∧ cur[o + 4]? = some v4

/-- A slice of strings whose cells, if there are any, lie in a block that can be written. -/
def StrsP (w : World) (S : Nat → Prop) (v : Value) (l : List ByteArray) : Prop := Strs w S v l ∧ (l = [] ∨ ∃ b o n c cs T, v = .slice (some ⟨b, o, none⟩) n c ∧ w.heap[b]? = some (.cells cs T))
def PairsP (w : World) (S : Nat → Prop) (v : Value) (l : List (ByteArray × ByteArray)) : Prop := Pairs w S v l ∧ (l = [] ∨ ∃ b o n c cs T, v = .slice (some ⟨b, o, none⟩) n c ∧ w.heap[b]? = some (.cells cs T))
theorem StrsP.keep {w w' : World} {S S' : Nat → Prop} {v : Value} {l : List ByteArray} (h : StrsP w S v l) (hS : ∀ b, S b → S' b) (hk : ∀ b, S b → w'.heap[b]? = w.heap[b]?) : StrsP w' S' v l := by
  refine ⟨h.1.keep hS hk, ?_⟩
  rcases h.2 with h2 | ⟨b, o, n, c, cs, T, rfl, hb⟩
  · exact .inl h2
  · obtain ⟨A, c', hv, _, _, h3⟩ := h.1
    rcases h3 with h3 | ⟨b', o', rfl, hs, _⟩
    · exact .inl h3
    · injection hv with hv _ _
      injection hv with hv
      injection hv with hv _ _
      subst hv
      exact .inr ⟨b, o, n, c, cs, T, rfl, (hk b hs).trans hb⟩
theorem PairsP.keep {w w' : World} {S S' : Nat → Prop} {v : Value} {l : List (ByteArray × ByteArray)} (h : PairsP w S v l) (hS : ∀ b, S b → S' b) (hk : ∀ b, S b → w'.heap[b]? = w.heap[b]?) : PairsP w' S' v l := by
  refine ⟨h.1.keep hS hk, ?_⟩
  rcases h.2 with h2 | ⟨b, o, n, c, cs, T, rfl, hb⟩
  · exact .inl h2
  · obtain ⟨A, c', hv, _, _, h3⟩ := h.1
    rcases h3 with h3 | ⟨b', o', rfl, hs, _⟩
    · exact .inl h3
    · injection hv with hv _ _
      injection hv with hv
      injection hv with hv _ _
      subst hv
      exact .inr ⟨b, o, n, c, cs, T, rfl, (hk b hs).trans hb⟩
theorem StrsP.form {w : World} {S : Nat → Prop} {v : Value} {l : List ByteArray} (h : StrsP w S v l) : ∃ A c, v = .slice A l.length c ∧ l.length ≤ c := by
  obtain ⟨A, c, rfl, hc, _⟩ := h.1; exact ⟨A, c, rfl, hc⟩
theorem PairsP.form {w : World} {S : Nat → Prop} {v : Value} {l : List (ByteArray × ByteArray)} (h : PairsP w S v l) : ∃ A c, v = .slice A l.length c ∧ l.length ≤ c := by
  obtain ⟨A, c, rfl, hc, _⟩ := h.1; exact ⟨A, c, rfl, hc⟩

mutual
/-- A node as a value, its lists in the blocks from lo on, below hi: its marks and attributes first, then the row of its kids, then what is theirs, one behind the other. -/
def NodeP (w : World) : Tree → Nat → Nat → Value → Prop
  | .mk k t m a l, lo, hi, v => ∃ vm va A c, v = .agg #[.string k, .string t, vm, va, .slice A l.length c] ∧ l.length ≤ c ∧ c ≤ maxLen ∧ ∃ z, lo ≤ z ∧ z ≤ hi ∧ StrsP w (From lo z) vm m ∧ PairsP w (From lo z) va a ∧
      (l = [] ∨ ∃ g cur, A = some ⟨g, 0, none⟩ ∧ z ≤ g ∧ g < hi ∧ w.heap[g]? = some (.cells cur 31) ∧ l.length * 5 ≤ cur.size ∧ RowP w l (g + 1) hi cur 0)
def RowP (w : World) : List Tree → Nat → Nat → Array Value → Nat → Prop
  | [], lo, hi, _, _ => lo ≤ hi
  | t :: l, lo, hi, cur, o => ∃ mid v, lo ≤ mid ∧ mid ≤ hi ∧ NodeP w t lo mid v ∧ Five cur o v ∧ RowP w l mid hi cur (o + 5)
end

theorem nodeP_iff {w : World} (t : Tree) (lo hi : Nat) (v : Value) : NodeP w t lo hi v ↔ ∃ vm va A c, v = .agg #[.string t.kind, .string t.text, vm, va, .slice A t.kids.length c] ∧ t.kids.length ≤ c ∧ c ≤ maxLen ∧ ∃ z, lo ≤ z ∧ z ≤ hi ∧ StrsP w (From lo z) vm t.marks ∧ PairsP w (From lo z) va t.attrs ∧
      (t.kids = [] ∨ ∃ g cur, A = some ⟨g, 0, none⟩ ∧ z ≤ g ∧ g < hi ∧ w.heap[g]? = some (.cells cur 31) ∧ t.kids.length * 5 ≤ cur.size ∧ RowP w t.kids (g + 1) hi cur 0) := by
  obtain ⟨k, t, m, a, l⟩ := t
  rw [NodeP]
  exact Iff.rfl

theorem rowP_le {w : World} : ∀ (l : List Tree) (lo hi : Nat) (cur : Array Value) (o : Nat), RowP w l lo hi cur o → lo ≤ hi
  | [], lo, hi, cur, o, h => by rw [RowP] at h; exact h
  | t :: l, lo, hi, cur, o, h => by
    rw [RowP] at h
    obtain ⟨mid, v, h1, h2, _⟩ := h
    exact Nat.le_trans h1 h2

mutual
theorem NodeP.keep {w w' : World} : ∀ (t : Tree) (lo hi lo' hi' : Nat) (v : Value), lo' ≤ lo → hi ≤ hi' → (∀ b, From lo hi b → w'.heap[b]? = w.heap[b]?) → NodeP w t lo hi v → NodeP w' t lo' hi' v
  | .mk k t m a l, lo, hi, lo', hi', v, h1, h2, hk, h => by
    rw [NodeP] at h ⊢
    obtain ⟨vm, va, A, c, rfl, hc, hx, z, hz1, hz2, hm, ha, hl⟩ := h
    refine ⟨vm, va, A, c, rfl, hc, hx, z, Nat.le_trans h1 hz1, Nat.le_trans hz2 h2, ?_, ?_, ?_⟩
    · exact hm.keep (fun b hb => ⟨Nat.le_trans h1 hb.1, hb.2⟩) (fun b hb => hk b ⟨hb.1, Nat.lt_of_lt_of_le hb.2 hz2⟩)
    · exact ha.keep (fun b hb => ⟨Nat.le_trans h1 hb.1, hb.2⟩) (fun b hb => hk b ⟨hb.1, Nat.lt_of_lt_of_le hb.2 hz2⟩)
    · rcases hl with hl | ⟨g, cur, rfl, hg1, hg2, hh, hsz, hr⟩
      · exact .inl hl
      · exact .inr ⟨g, cur, rfl, hg1, Nat.lt_of_lt_of_le hg2 h2, (hk g ⟨Nat.le_trans hz1 hg1, hg2⟩).trans hh, hsz, RowP.keep l (g + 1) hi hi' cur 0 h2 (fun b hb => hk b ⟨by have := hb.1; omega, hb.2⟩) hr⟩
theorem RowP.keep {w w' : World} : ∀ (l : List Tree) (lo hi hi' : Nat) (cur : Array Value) (o : Nat), hi ≤ hi' → (∀ b, From lo hi b → w'.heap[b]? = w.heap[b]?) → RowP w l lo hi cur o → RowP w' l lo hi' cur o
  | [], lo, hi, hi', cur, o, h2, hk, h => by rw [RowP] at h ⊢; exact Nat.le_trans h h2
  | t :: l, lo, hi, hi', cur, o, h2, hk, h => by
    rw [RowP] at h ⊢
    obtain ⟨mid, v, m1, m2, hn, hf, hr⟩ := h
    exact ⟨mid, v, m1, Nat.le_trans m2 h2, NodeP.keep t lo mid lo mid v (Nat.le_refl _) (Nat.le_refl _) (fun b hb => hk b ⟨hb.1, Nat.lt_of_lt_of_le hb.2 m2⟩) hn, hf, RowP.keep l mid hi hi' cur (o + 5) h2 (fun b hb => hk b ⟨Nat.le_trans m1 hb.1, hb.2⟩) hr⟩
end
/-- The row's cells ahead of what is read of them may be what they will. -/
theorem RowP.cur {w : World} : ∀ (l : List Tree) (lo hi : Nat) (cur cur' : Array Value) (o : Nat), (∀ j, o ≤ j → j < o + l.length * 5 → cur'[j]? = cur[j]?) → RowP w l lo hi cur o → RowP w l lo hi cur' o
  | [], lo, hi, cur, cur', o, _, h => by rw [RowP] at h ⊢; exact h
  | t :: l, lo, hi, cur, cur', o, hc, h => by
    rw [RowP] at h ⊢
    simp only [List.length_cons] at hc
    obtain ⟨mid, v, m1, m2, hn, ⟨v0, v1, v2, v3, v4, hv, f0, f1, f2, f3, f4⟩, hr⟩ := h
    refine ⟨mid, v, m1, m2, hn, ⟨v0, v1, v2, v3, v4, hv, ?_, ?_, ?_, ?_, ?_⟩, RowP.cur l mid hi cur cur' (o + 5) (fun j h1 h2 => hc j (by omega) (by omega)) hr⟩
    · rw [hc o (by omega) (by omega)]; exact f0
    · rw [hc (o + 1) (by omega) (by omega)]; exact f1
    · rw [hc (o + 2) (by omega) (by omega)]; exact f2
    · rw [hc (o + 3) (by omega) (by omega)]; exact f3
    · rw [hc (o + 4) (by omega) (by omega)]; exact f4
/-- One more node at the end of a row. -/
theorem RowP.snoc {w : World} {x : Tree} {v : Value} {mid hi : Nat} {cur : Array Value} : ∀ (l : List Tree) (lo o : Nat), RowP w l lo mid cur o → mid ≤ hi → NodeP w x mid hi v → Five cur (o + l.length * 5) v → RowP w (l ++ [x]) lo hi cur o
  | [], lo, o, h, hm, hn, hf => by
    rw [RowP] at h
    rw [List.nil_append, RowP]
    refine ⟨hi, v, Nat.le_trans h hm, Nat.le_refl _, NodeP.keep x mid hi lo hi v h (Nat.le_refl _) (fun _ _ => rfl) hn, by simpa using hf, ?_⟩
    rw [RowP]; exact Nat.le_refl _
  | t :: l, lo, o, h, hm, hn, hf => by
    rw [RowP] at h
    obtain ⟨m2, v2, a1, a2, a3, a4, a5⟩ := h
    rw [List.cons_append, RowP]
    refine ⟨m2, v2, a1, Nat.le_trans a2 hm, a3, a4, RowP.snoc l m2 (o + 5) a5 hm hn ?_⟩
    rw [List.length_cons] at hf
    rw [show o + 5 + l.length * 5 = o + (l.length + 1) * 5 by omega]; exact hf

/-- What lies at five cells, as a node. -/
theorem nodeAt_five {w : World} {S : Nat → Prop} {t : Tree} {g o : Nat} {v : Value} {cur : Array Value} {T : TypeId} (hg : w.heap[g]? = some (.cells cur T)) (hf : Five cur o v) (hn : Node w S v t) : NodeAt w S t g o := by
  obtain ⟨v0, v1, v2, v3, v4, rfl, f0, f1, f2, f3, f4⟩ := hf
  obtain ⟨vm, va, vk, he, hm, ha, hk⟩ := hn
  injection he with he
  have h4 : v0 = .string t.kind ∧ v1 = .string t.text ∧ v2 = vm ∧ v3 = va ∧ v4 = vk := by simpa using he
  obtain ⟨rfl, rfl, rfl, rfl, rfl⟩ := h4
  exact (nodeAt_iff t g o).2 ⟨_, _, _, by simpa [World.cell?, hg] using f0, by simpa [World.cell?, hg] using f1, by simpa [World.cell?, hg] using f2, by simpa [World.cell?, hg] using f3, by simpa [World.cell?, hg] using f4, hm, ha, hk⟩

mutual
theorem NodeP.node {w : World} : ∀ (t : Tree) (lo hi : Nat) (v : Value), NodeP w t lo hi v → Node w (From lo hi) v t
  | .mk k t m a l, lo, hi, v, h => by
    rw [NodeP] at h
    obtain ⟨vm, va, A, c, rfl, hc, hx, z, hz1, hz2, hm, ha, hl⟩ := h
    refine ⟨vm, va, _, rfl, hm.1.keep (fun b hb => ⟨hb.1, Nat.lt_of_lt_of_le hb.2 hz2⟩) (fun _ _ => rfl), ha.1.keep (fun b hb => ⟨hb.1, Nat.lt_of_lt_of_le hb.2 hz2⟩) (fun _ _ => rfl), A, c, rfl, hc, hx, ?_⟩
    rcases hl with hl | ⟨g, cur, rfl, hg1, hg2, hh, hsz, hr⟩
    · exact .inl hl
    · refine .inr ⟨g, 0, rfl, ⟨Nat.le_trans hz1 hg1, hg2⟩, ?_⟩
      exact RowP.row l (g + 1) hi lo cur 0 g (by omega) hh hr
theorem RowP.row {w : World} : ∀ (l : List Tree) (lo hi lo' : Nat) (cur : Array Value) (o g : Nat), lo' ≤ lo → w.heap[g]? = some (.cells cur 31) → RowP w l lo hi cur o → RowAt w (From lo' hi) l g o
  | [], lo, hi, lo', cur, o, g, _, _, _ => by rw [RowAt]; trivial
  | t :: l, lo, hi, lo', cur, o, g, hlo, hg, h => by
    rw [RowP] at h
    obtain ⟨mid, v, m1, m2, hn, hf, hr⟩ := h
    rw [RowAt]
    exact ⟨nodeAt_five hg hf ((NodeP.node t lo mid v hn).keep (fun b hb => ⟨Nat.le_trans hlo hb.1, Nat.lt_of_lt_of_le hb.2 m2⟩) (fun _ _ => rfl)), RowP.row l mid hi lo' cur (o + 5) g (by omega) hg hr⟩
end

/-- Five cells that stand, and the blocks behind them: the node stands. -/
theorem nodeAt_cellsKeep {w W : World} {S S' : Nat → Prop} {t : Tree} {g o : Nat} (hS : ∀ b, S b → S' b) (hk : ∀ b, S b → W.heap[b]? = w.heap[b]?) (hc : ∀ j, o ≤ j → j < o + 5 → W.cell? ⟨g, j, none⟩ = w.cell? ⟨g, j, none⟩) (h : NodeAt w S t g o) : NodeAt W S' t g o := by
  obtain ⟨vm, va, vk, e0, e1, e2, e3, e4, hm, ha, hl⟩ := (nodeAt_iff t g o).1 h
  exact (nodeAt_iff t g o).2 ⟨vm, va, vk, (hc o (by omega) (by omega)).trans e0, (hc (o + 1) (by omega) (by omega)).trans e1, (hc (o + 2) (by omega) (by omega)).trans e2, (hc (o + 3) (by omega) (by omega)).trans e3, (hc (o + 4) (by omega) (by omega)).trans e4, hm.keep hS hk, ha.keep hS hk, hl.keep hS hk⟩
theorem rowAt_cellsKeep {w W : World} {S S' : Nat → Prop} (hS : ∀ b, S b → S' b) (hk : ∀ b, S b → W.heap[b]? = w.heap[b]?) : ∀ (l : List Tree) (g o : Nat), (∀ j, o ≤ j → W.cell? ⟨g, j, none⟩ = w.cell? ⟨g, j, none⟩) → RowAt w S l g o → RowAt W S' l g o
  | [], g, o, _, _ => by rw [RowAt]; trivial
  | t :: l, g, o, hc, h => by
    rw [RowAt] at h ⊢
    exact ⟨nodeAt_cellsKeep hS hk (fun j h1 _ => hc j h1) h.1, rowAt_cellsKeep hS hk l g (o + 5) (fun j h1 => hc j (by omega)) h.2⟩

/-- One node of a row: it has blocks of its own, and what lies beside them may change without the others. -/
theorem RowP.get {w : World} : ∀ (l : List Tree) (lo hi : Nat) (cur : Array Value) (o i : Nat) (x : Tree), RowP w l lo hi cur o → l[i]? = some x → ∃ a b v, lo ≤ a ∧ a ≤ b ∧ b ≤ hi ∧ NodeP w x a b v ∧ Five cur (o + i * 5) v ∧
    ∀ (S' : Nat → Prop) (W : World) (g lo' : Nat), lo' ≤ lo → g < lo → (∀ d, From lo' hi d → S' d) → (∀ d, From lo' hi d → ¬ From a b d → d ≠ g → W.heap[d]? = w.heap[d]?) → w.heap[g]? = some (.cells cur 31) → (∀ j, ¬ (o + i * 5 ≤ j ∧ j < o + i * 5 + 5) → W.cell? ⟨g, j, none⟩ = w.cell? ⟨g, j, none⟩) →
      ∀ y, NodeAt W S' y g (o + i * 5) → RowAt W S' (l.set i y) g o
  | [], lo, hi, cur, o, i, x, h, hx => by simp at hx
  | t :: l, lo, hi, cur, o, 0, x, h, hx => by
    simp at hx; subst hx
    rw [RowP] at h
    obtain ⟨mid, v, m1, m2, hn, hf, hr⟩ := h
    refine ⟨lo, mid, v, Nat.le_refl _, m1, m2, hn, by simpa using hf, fun S' W g lo' hlo hg hS hk hc hj y hy => ?_⟩
    rw [List.set_cons_zero, RowAt]
    refine ⟨by simpa using hy, ?_⟩
    refine rowAt_cellsKeep (w := w) (S := From mid hi) (fun b hb => hS b ⟨by have := hb.1; omega, hb.2⟩) (fun b hb => hk b ⟨by have := hb.1; omega, hb.2⟩ (fun h => by have := hb.1; have := h.2; omega) (by have := hb.1; omega)) l g (o + 5) (fun j h1 => hj j (by omega)) ?_
    exact RowP.row l mid hi mid cur (o + 5) g (Nat.le_refl _) hc hr
  | t :: l, lo, hi, cur, o, i + 1, x, h, hx => by
    rw [RowP] at h
    obtain ⟨mid, v, m1, m2, hn, hf, hr⟩ := h
    obtain ⟨a, b, v', ha, hab, hb, hn', hf', key⟩ := RowP.get l mid hi cur (o + 5) i x hr (by simpa using hx)
    refine ⟨a, b, v', Nat.le_trans m1 ha, hab, hb, hn', by rw [show o + (i + 1) * 5 = o + 5 + i * 5 by omega]; exact hf', fun S' W g lo' hlo hg hS hk hc hj y hy => ?_⟩
    rw [List.set_cons_succ, RowAt]
    refine ⟨?_, key S' W g lo' (by omega) (by omega) hS hk hc (fun j h1 => hj j (by omega)) y (by rw [show o + 5 + i * 5 = o + (i + 1) * 5 by omega]; exact hy)⟩
    have h0 := nodeAt_five (S := From lo mid) hc hf (NodeP.node t lo mid v hn)
    exact nodeAt_cellsKeep (fun d hd => hS d ⟨by have := hd.1; omega, by have := hd.2; omega⟩) (fun d hd => hk d ⟨by have := hd.1; omega, by have := hd.2; omega⟩ (fun h => by have := hd.2; have := h.1; omega) (by have := hd.1; omega)) (fun j h1 h2 => hj j (by omega)) h0
end Go.Proofs.Ytmmifednhleggaa
