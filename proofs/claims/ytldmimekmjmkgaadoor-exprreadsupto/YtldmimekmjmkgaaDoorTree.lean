/-
  What a document tree is, as plain data, and what it is for memory to hold one (no program is named here).
-/
import Derived.Below
import Derived.Laws.OwnMore
import Derived.Deep.Draws
namespace Go.Proofs.YtldmimekmjmkgaaDoor
open Go.RowKit

inductive Tree where
  | mk (kind text : ByteArray) (marks : List ByteArray) (attrs : List (ByteArray × ByteArray)) (kids : List Tree)

namespace Tree
def kind : Tree → ByteArray | .mk k _ _ _ _ => k
def text : Tree → ByteArray | .mk _ t _ _ _ => t
def marks : Tree → List ByteArray | .mk _ _ m _ _ => m
def attrs : Tree → List (ByteArray × ByteArray) | .mk _ _ _ a _ => a
def kids : Tree → List Tree | .mk _ _ _ _ l => l

mutual
theorem induct_one {P : Tree → Prop} (h : ∀ k t m a l, (∀ x, x ∈ l → P x) → P (.mk k t m a l)) : ∀ t, P t
  | .mk k t m a l => h k t m a l (induct_all h l)
theorem induct_all {P : Tree → Prop} (h : ∀ k t m a l, (∀ x, x ∈ l → P x) → P (.mk k t m a l)) : ∀ (l : List Tree) (x : Tree), x ∈ l → P x
  | [], _, hx => by cases hx
  | y :: l, x, hx => by
    rcases List.mem_cons.1 hx with e | e
    · rw [e]; exact induct_one h y
    · exact induct_all h l x e
end
end Tree

/-- A slice of strings, in the blocks that S lets. -/
def Strs (w : World) (S : Nat → Prop) (v : Value) (l : List ByteArray) : Prop :=
  ∃ A c, v = .slice A l.length c ∧ l.length ≤ c ∧ c ≤ maxLen ∧ (l = [] ∨ ∃ b o, A = some ⟨b, o, none⟩ ∧ S b ∧ ∀ i s, l[i]? = some s → w.cell? ⟨b, o + i, none⟩ = some (.string s))

/-- A slice of pairs of strings. -/
def Pairs (w : World) (S : Nat → Prop) (v : Value) (l : List (ByteArray × ByteArray)) : Prop :=
  ∃ A c, v = .slice A l.length c ∧ l.length ≤ c ∧ c ≤ maxLen ∧ (l = [] ∨ ∃ b o, A = some ⟨b, o, none⟩ ∧ S b ∧
    ∀ i p, l[i]? = some p → w.cell? ⟨b, o + i * 2, none⟩ = some (.string p.1) ∧ w.cell? ⟨b, o + i * 2 + 1, none⟩ = some (.string p.2))

mutual
/-- The five cells of a node at block b, offset o. -/
def NodeAt (w : World) (S : Nat → Prop) : Tree → Nat → Nat → Prop
  | .mk k t m a l, b, o => w.cell? ⟨b, o, none⟩ = some (.string k) ∧ w.cell? ⟨b, o + 1, none⟩ = some (.string t) ∧
      ∃ vm va A c, w.cell? ⟨b, o + 2, none⟩ = some vm ∧ w.cell? ⟨b, o + 3, none⟩ = some va ∧ w.cell? ⟨b, o + 4, none⟩ = some (.slice A l.length c) ∧
        Strs w S vm m ∧ Pairs w S va a ∧ l.length ≤ c ∧ c ≤ maxLen ∧ (l = [] ∨ ∃ b' o', A = some ⟨b', o', none⟩ ∧ S b' ∧ RowAt w S l b' o')
def RowAt (w : World) (S : Nat → Prop) : List Tree → Nat → Nat → Prop
  | [], _, _ => True
  | t :: l, b, o => NodeAt w S t b o ∧ RowAt w S l b (o + 5)
end

/-- A slice of nodes. -/
def Kids (w : World) (S : Nat → Prop) (v : Value) (l : List Tree) : Prop :=
  ∃ A c, v = .slice A l.length c ∧ l.length ≤ c ∧ c ≤ maxLen ∧ (l = [] ∨ ∃ b o, A = some ⟨b, o, none⟩ ∧ S b ∧ RowAt w S l b o)

/-- A node as a value: its five parts. -/
def Node (w : World) (S : Nat → Prop) (v : Value) (t : Tree) : Prop :=
  ∃ vm va vk, v = .agg #[.string t.kind, .string t.text, vm, va, vk] ∧ Strs w S vm t.marks ∧ Pairs w S va t.attrs ∧ Kids w S vk t.kids

section
variable {w w' : World} {S S' : Nat → Prop}

theorem nodeAt_iff (t : Tree) (b o : Nat) : NodeAt w S t b o ↔ ∃ vm va vk, w.cell? ⟨b, o, none⟩ = some (.string t.kind) ∧ w.cell? ⟨b, o + 1, none⟩ = some (.string t.text) ∧
    w.cell? ⟨b, o + 2, none⟩ = some vm ∧ w.cell? ⟨b, o + 3, none⟩ = some va ∧ w.cell? ⟨b, o + 4, none⟩ = some vk ∧ Strs w S vm t.marks ∧ Pairs w S va t.attrs ∧ Kids w S vk t.kids := by
  obtain ⟨k, t, m, a, l⟩ := t
  simp only [NodeAt, Tree.kind, Tree.text, Tree.marks, Tree.attrs, Tree.kids, Kids]
  constructor
  · rintro ⟨h0, h1, vm, va, A, c, h2, h3, h4, hm, ha, hc, hx, hk⟩
    exact ⟨vm, va, _, h0, h1, h2, h3, h4, hm, ha, A, c, rfl, hc, hx, hk⟩
  · rintro ⟨vm, va, vk, h0, h1, h2, h3, h4, hm, ha, A, c, rfl, hc, hx, hk⟩
    exact ⟨h0, h1, vm, va, A, c, h2, h3, h4, hm, ha, hc, hx, hk⟩

theorem rowAt_get : ∀ (l : List Tree) (b o : Nat), RowAt w S l b o → ∀ i t, l[i]? = some t → NodeAt w S t b (o + i * 5)
  | [], _, _, _, i, t, h => by simp at h
  | x :: l, b, o, hr, i, t, h => by
    simp only [RowAt] at hr
    cases i with
    | zero => simp at h; subst h; simpa using hr.1
    | succ i =>
      have := rowAt_get l b (o + 5) hr.2 i t (by simpa using h)
      rw [show o + (i + 1) * 5 = o + 5 + i * 5 by omega]
      exact this

theorem rowAt_of : ∀ (l : List Tree) (b o : Nat), (∀ i t, l[i]? = some t → NodeAt w S t b (o + i * 5)) → RowAt w S l b o
  | [], _, _, _ => by simp [RowAt]
  | x :: l, b, o, h => by
    simp only [RowAt]
    refine ⟨by simpa using h 0 x (by simp), rowAt_of l b (o + 5) fun i t hi => ?_⟩
    have := h (i + 1) t (by simpa using hi)
    rw [show o + (i + 1) * 5 = o + 5 + i * 5 by omega] at this
    exact this

theorem Strs.keep {v : Value} {l : List ByteArray} (h : Strs w S v l) (hS : ∀ b, S b → S' b) (hk : ∀ b, S b → w'.heap[b]? = w.heap[b]?) : Strs w' S' v l := by
  obtain ⟨A, c, rfl, hc, hx, h⟩ := h
  refine ⟨A, c, rfl, hc, hx, ?_⟩
  rcases h with h | ⟨b, o, rfl, hb, h⟩
  · exact .inl h
  · exact .inr ⟨b, o, rfl, hS b hb, fun i s hi => (World.cell?_of_block (a := ⟨b, o + i, none⟩) (hk b hb)).trans (h i s hi)⟩

theorem Pairs.keep {v : Value} {l : List (ByteArray × ByteArray)} (h : Pairs w S v l) (hS : ∀ b, S b → S' b) (hk : ∀ b, S b → w'.heap[b]? = w.heap[b]?) : Pairs w' S' v l := by
  obtain ⟨A, c, rfl, hc, hx, h⟩ := h
  refine ⟨A, c, rfl, hc, hx, ?_⟩
  rcases h with h | ⟨b, o, rfl, hb, h⟩
  · exact .inl h
  · exact .inr ⟨b, o, rfl, hS b hb, fun i p hi => ⟨(World.cell?_of_block (a := ⟨b, o + i * 2, none⟩) (hk b hb)).trans (h i p hi).1, (World.cell?_of_block (a := ⟨b, o + i * 2 + 1, none⟩) (hk b hb)).trans (h i p hi).2⟩⟩

theorem nodeAt_keep (hS : ∀ b, S b → S' b) (hk : ∀ b, S b → w'.heap[b]? = w.heap[b]?) : ∀ (t : Tree) (b o : Nat), w'.heap[b]? = w.heap[b]? → NodeAt w S t b o → NodeAt w' S' t b o := by
  intro t
  induction t using Tree.induct_one with
  | h k t m a l ih =>
    intro b o hb h
    simp only [NodeAt] at h ⊢
    obtain ⟨h0, h1, vm, va, A, c, h2, h3, h4, hm, ha, hc, hx, hl⟩ := h
    refine ⟨(World.cell?_of_block (a := ⟨b, o, none⟩) hb).trans h0, (World.cell?_of_block (a := ⟨b, o + 1, none⟩) hb).trans h1, vm, va, A, c, (World.cell?_of_block (a := ⟨b, o + 2, none⟩) hb).trans h2,
      (World.cell?_of_block (a := ⟨b, o + 3, none⟩) hb).trans h3, (World.cell?_of_block (a := ⟨b, o + 4, none⟩) hb).trans h4, hm.keep hS hk, ha.keep hS hk, hc, hx, ?_⟩
    rcases hl with hl | ⟨b', o', rfl, hb', hr⟩
    · exact .inl hl
    · refine .inr ⟨b', o', rfl, hS b' hb', rowAt_of l b' o' fun i x hi => ?_⟩
      exact ih x (List.mem_of_getElem? hi) b' (o' + i * 5) (hk b' hb') (rowAt_get l b' o' hr i x hi)

theorem rowAt_keep (hS : ∀ b, S b → S' b) (hk : ∀ b, S b → w'.heap[b]? = w.heap[b]?) (l : List Tree) (b o : Nat) (hb : w'.heap[b]? = w.heap[b]?) (h : RowAt w S l b o) : RowAt w' S' l b o :=
  rowAt_of l b o fun i t hi => nodeAt_keep hS hk t b _ hb (rowAt_get l b o h i t hi)

theorem Kids.keep {v : Value} {l : List Tree} (h : Kids w S v l) (hS : ∀ b, S b → S' b) (hk : ∀ b, S b → w'.heap[b]? = w.heap[b]?) : Kids w' S' v l := by
  obtain ⟨A, c, rfl, hc, hx, h⟩ := h
  refine ⟨A, c, rfl, hc, hx, ?_⟩
  rcases h with h | ⟨b, o, rfl, hb, h⟩
  · exact .inl h
  · exact .inr ⟨b, o, rfl, hS b hb, rowAt_keep hS hk l b o (hk b hb) h⟩

theorem Node.keep {v : Value} {t : Tree} (h : Node w S v t) (hS : ∀ b, S b → S' b) (hk : ∀ b, S b → w'.heap[b]? = w.heap[b]?) : Node w' S' v t := by
  obtain ⟨vm, va, vk, rfl, hm, ha, hl⟩ := h
  exact ⟨vm, va, vk, rfl, hm.keep hS hk, ha.keep hS hk, hl.keep hS hk⟩

end

/-- All blocks below a number. -/
def Under (n : Nat) : Nat → Prop := fun b => b < n
/-- All blocks from a number on, below another. -/
def From (m n : Nat) : Nat → Prop := fun b => m ≤ b ∧ b < n

section
variable {w w' : World} {B : Nat}
theorem Strs.below {v : Value} {l : List ByteArray} (h : Strs w (Under B) v l) (hb : Below B w w') : Strs w' (Under B) v l := h.keep (fun _ h => h) fun b h => hb.block b h
theorem Pairs.below {v : Value} {l : List (ByteArray × ByteArray)} (h : Pairs w (Under B) v l) (hb : Below B w w') : Pairs w' (Under B) v l := h.keep (fun _ h => h) fun b h => hb.block b h
theorem Kids.below {v : Value} {l : List Tree} (h : Kids w (Under B) v l) (hb : Below B w w') : Kids w' (Under B) v l := h.keep (fun _ h => h) fun b h => hb.block b h
theorem Node.below {v : Value} {t : Tree} (h : Node w (Under B) v t) (hb : Below B w w') : Node w' (Under B) v t := h.keep (fun _ h => h) fun b h => hb.block b h
theorem Strs.more {B' : Nat} {v : Value} {l : List ByteArray} (h : Strs w (Under B) v l) (hB : B ≤ B') : Strs w (Under B') v l := h.keep (fun _ h => Nat.lt_of_lt_of_le h hB) fun _ _ => rfl
theorem Pairs.more {B' : Nat} {v : Value} {l : List (ByteArray × ByteArray)} (h : Pairs w (Under B) v l) (hB : B ≤ B') : Pairs w (Under B') v l := h.keep (fun _ h => Nat.lt_of_lt_of_le h hB) fun _ _ => rfl
theorem Kids.more {B' : Nat} {v : Value} {l : List Tree} (h : Kids w (Under B) v l) (hB : B ≤ B') : Kids w (Under B') v l := h.keep (fun _ h => Nat.lt_of_lt_of_le h hB) fun _ _ => rfl
theorem Node.more {B' : Nat} {v : Value} {t : Tree} (h : Node w (Under B) v t) (hB : B ≤ B') : Node w (Under B') v t := h.keep (fun _ h => Nat.lt_of_lt_of_le h hB) fun _ _ => rfl
end
end Go.Proofs.YtldmimekmjmkgaaDoor
