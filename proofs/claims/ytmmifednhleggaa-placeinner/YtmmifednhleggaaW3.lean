/-
  What the calls on one node's parts answer: Value, attrsFormed, textFormed, headFormed, alike.
-/
import Derived.Test.YtmmifednhleggaaV
import Derived.Lib.QuietBelow
namespace Go.Proofs.Ytmmifednhleggaa
open Go.RowKit Go.Sort

theorem cell_lt {w : World} {g o : Nat} {v : Value} (hc : w.cell? ⟨g, o, none⟩ = some v) : g < w.heap.size := by
  rcases Nat.lt_or_ge g w.heap.size with hlt | hge
  · exact hlt
  · simp [World.cell?, Array.getElem?_eq_none hge] at hc
theorem cell_kept {w w' : World} {g o : Nat} {v : Value} (hc : w.cell? ⟨g, o, none⟩ = some v) (hb : Below w.heap.size w w') : w'.cell? ⟨g, o, none⟩ = some v :=
  (hb.cell (p := ⟨g, o, none⟩) (cell_lt hc)).trans hc
theorem belowNext {w a b : World} (h : Below w.heap.size w a) (k : Below a.heap.size a b) : Below w.heap.size w b := h.trans (k.mono h.size)
theorem box5 {w w1 : World} {v0 v1 v2 v3 v4 : Value} {T : TypeId} (hb : Below (w.alloc (.cells #[v0, v1, v2, v3, v4] T)).heap.size (w.alloc (.cells #[v0, v1, v2, v3, v4] T)) w1) :
    w1.cell? ⟨w.heap.size, 0, none⟩ = some v0 ∧ w1.cell? ⟨w.heap.size, 1, none⟩ = some v1 ∧ w1.cell? ⟨w.heap.size, 2, none⟩ = some v2 ∧ w1.cell? ⟨w.heap.size, 3, none⟩ = some v3 ∧
      w1.cell? ⟨w.heap.size, 4, none⟩ = some v4 ∧ Below w.heap.size w w1 ∧ w.heap.size < w1.heap.size := by
  have hc : ∀ j, w1.cell? ⟨w.heap.size, j, none⟩ = #[v0, v1, v2, v3, v4][j]? := fun j => by
    rw [hb.cell (p := ⟨w.heap.size, j, none⟩) (by simp)]
    have hn : (w.alloc (.cells #[v0, v1, v2, v3, v4] T)).heap[w.heap.size]? = some (.cells #[v0, v1, v2, v3, v4] T) := by show (w.heap.push _)[w.heap.size]? = _; simp
    simp only [World.cell?, hn]; rfl
  refine ⟨hc 0, hc 1, hc 2, hc 3, hc 4, belowNext ((Below.refl _ _).alloc (Nat.le_refl _) _) hb, ?_⟩
  have := hb.size; simp at this; omega

theorem regrown_same {P : Program} {f : FuncId} {args : Array Value} {w : World} {v : Value} (h : ∀ W, Calls P f args W fun e w' => e = .returned v ∧ w' = W) :
    ∀ (d : Nat) (os : Array Obj), Calls P f args (grow (redrawn w d) os) fun e w'' => e = .returned v ∧ ∃ p : Regrown, w'' = grow (redrawn w p.d) p.os :=
  fun d os => (h _).mono fun _ _ ⟨he, hw⟩ => ⟨he, ⟨d, os⟩, hw⟩
theorem regrown_any {P : Program} {f : FuncId} {args : Array Value} {w : World} {v : Value} (h : ∀ W, Below w.heap.size w W → Calls P f args W fun e w' => e = .returned v ∧ Below W.heap.size W w') :
    ∀ (d : Nat) (os : Array Obj), Calls P f args (grow (redrawn w d) os) fun e w'' => e = .returned v ∧ ∃ p : Regrown, w'' = grow (redrawn w p.d) p.os :=
  fun d os => Calls.regrown_of (h _ (below_regrown w d os))

theorem weighP_get {l : List (ByteArray × ByteArray)} {i : Nat} {p : ByteArray × ByteArray} (h : l[i]? = some p) : p.1.size + p.2.size < weighP l := by
  unfold weighP
  have hm := List.mem_of_getElem? h
  clear h
  induction l with
  | nil => cases hm
  | cons x l ih =>
    simp only [List.map_cons, List.sum_cons]
    rcases List.mem_cons.1 hm with e | e
    · subst e; omega
    · have := ih e; omega
theorem length_le_weighP : ∀ l : List (ByteArray × ByteArray), l.length ≤ weighP l
  | [] => by simp [weighP]
  | s :: l => by have := length_le_weighP l; simp only [weighP, List.map_cons, List.sum_cons, List.length_cons] at this ⊢; omega

theorem Pairs.get {w : World} {S : Nat → Prop} {A : Option Addr} {n c : Nat} {l : List (ByteArray × ByteArray)} (h : Pairs w S (.slice A n c) l) {k : Nat} (hk : k < l.length) :
    ∃ b o, A = some ⟨b, o, none⟩ ∧ S b ∧ ∀ i, i < l.length → w.cell? ⟨b, o + i * 2, none⟩ = some (.string (pairAt l i).1) ∧ w.cell? ⟨b, o + i * 2 + 1, none⟩ = some (.string (pairAt l i).2) := by
  obtain ⟨A', c', hv, _, _, h⟩ := h
  injection hv with hA _ _
  subst hA
  rcases h with h | ⟨b, o, rfl, hb, h⟩
  · subst h; simp at hk
  · exact ⟨b, o, rfl, hb, fun i hi => h i _ (getD_some _ hi)⟩
theorem Pairs.form {w : World} {S : Nat → Prop} {v : Value} {l : List (ByteArray × ByteArray)} (h : Pairs w S v l) : ∃ A c, v = .slice A l.length c ∧ l.length ≤ c := by
  obtain ⟨A, c, rfl, hc, _⟩ := h; exact ⟨A, c, rfl, hc⟩

end Go.Proofs.Ytmmifednhleggaa
