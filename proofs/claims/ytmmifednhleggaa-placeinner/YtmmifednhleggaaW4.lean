/-
  What alike and wellFormed answer.
-/
import Derived.Test.YtmmifednhleggaaW3
import Derived.Laws.EntriesVeiled
namespace Go.Proofs.Ytmmifednhleggaa
open Go.RowKit Go.Sort

theorem box55 {w w1 : World} {v0 v1 v2 v3 v4 u0 u1 u2 u3 u4 : Value} {T : TypeId}
    (hb : Below ((w.alloc (.cells #[v0, v1, v2, v3, v4] T)).alloc (.cells #[u0, u1, u2, u3, u4] T)).heap.size ((w.alloc (.cells #[v0, v1, v2, v3, v4] T)).alloc (.cells #[u0, u1, u2, u3, u4] T)) w1) :
    w1.cell? ⟨w.heap.size, 0, none⟩ = some v0 ∧ w1.cell? ⟨w.heap.size, 1, none⟩ = some v1 ∧ w1.cell? ⟨w.heap.size, 2, none⟩ = some v2 ∧ w1.cell? ⟨w.heap.size, 3, none⟩ = some v3 ∧ w1.cell? ⟨w.heap.size, 4, none⟩ = some v4 ∧
    w1.cell? ⟨w.heap.size + 1, 0, none⟩ = some u0 ∧ w1.cell? ⟨w.heap.size + 1, 1, none⟩ = some u1 ∧ w1.cell? ⟨w.heap.size + 1, 2, none⟩ = some u2 ∧ w1.cell? ⟨w.heap.size + 1, 3, none⟩ = some u3 ∧
      w1.cell? ⟨w.heap.size + 1, 4, none⟩ = some u4 ∧ Below w.heap.size w w1 := by
  have hs : (w.alloc (.cells #[v0, v1, v2, v3, v4] T)).heap.size = w.heap.size + 1 := by simp
  obtain ⟨d0, d1, d2, d3, d4, hB, _⟩ := box5 hb
  rw [hs] at d0 d1 d2 d3 d4
  obtain ⟨c0, c1, c2, c3, c4, hB', _⟩ := box5 hB
  exact ⟨c0, c1, c2, c3, c4, d0, d1, d2, d3, d4, hB'⟩

theorem RowAt.node {w : World} {S : Nat → Prop} {l : List Tree} {b o : Nat} (h : RowAt w S l b o) {i : Nat} {t : Tree} (hi : l[i]? = some t) :
    ∃ vm va vk, w.cell? ⟨b, o + i * 5, none⟩ = some (.string t.kind) ∧ w.cell? ⟨b, o + i * 5 + 1, none⟩ = some (.string t.text) ∧ w.cell? ⟨b, o + i * 5 + 2, none⟩ = some vm ∧
      w.cell? ⟨b, o + i * 5 + 3, none⟩ = some va ∧ w.cell? ⟨b, o + i * 5 + 4, none⟩ = some vk ∧ Strs w S vm t.marks ∧ Pairs w S va t.attrs ∧ Kids w S vk t.kids :=
  (nodeAt_iff t b (o + i * 5)).1 (rowAt_get l b o h i t hi)

theorem Kids.get {w : World} {S : Nat → Prop} {A : Option Addr} {n c : Nat} {l : List Tree} (h : Kids w S (.slice A n c) l) {k : Nat} (hk : k < l.length) :
    ∃ b o, A = some ⟨b, o, none⟩ ∧ S b ∧ RowAt w S l b o := by
  obtain ⟨A', c', hv, _, _, h⟩ := h
  injection hv with hA _ _
  subst hA
  rcases h with h | ⟨b, o, rfl, hb, h⟩
  · subst h; simp at hk
  · exact ⟨b, o, rfl, hb, h⟩

theorem Kids.form {w : World} {S : Nat → Prop} {v : Value} {l : List Tree} (h : Kids w S v l) : ∃ A c, v = .slice A l.length c ∧ l.length ≤ c := by
  obtain ⟨A, c, rfl, hc, _⟩ := h; exact ⟨A, c, rfl, hc⟩

/-- A closure that holds itself in the variable p. -/
def SelfAt (w : World) (f : FuncId) (p : Nat) : Prop := w.cell? ⟨p, 0, none⟩ = some (.func (.func f) #[] #[.pointer (some ⟨p, 0, none⟩)])

theorem formedB_text {k t m a l} (h : isTxt k = true) : formedB (.mk k t m a l) = textB (.mk k t m a l) := by simp [formedB, h]
theorem formedB_node {k t m a l} (h : isTxt k = false) : formedB (.mk k t m a l) = (headB (.mk k t m a l) && rowB none l) := by simp [formedB, h]

theorem step_kid {l : List Tree} {k : Nat} (h : ∀ j, j < k → kidOk l j) (hk : kidOk l k) : ∀ j, j < k + 1 → kidOk l j := fun j hj => by
  by_cases e : j < k
  · exact h j e
  · obtain rfl : j = k := by omega
    exact hk
theorem walk_res {P : Program} {f : FuncId} {args : Array Value} {w : World} {x y : Bool} (h : Calls P f args w fun e w' => e = .returned (.bool x) ∧ Below w.heap.size w w') (hx : x = y) :
    Calls P f args w fun e w' => e = .returned (.bool y) ∧ Below w.heap.size w w' := by subst hx; exact h

end Go.Proofs.Ytmmifednhleggaa
