/-
  How much made gives; rows of nodes appended, in a region that draws its order; one cell set.
-/
import Derived.Test.YtmmifednhleggaaW12
namespace Go.Proofs.Ytmmifednhleggaa
open Go.RowKit Go.Sort

theorem madeB_weigh (l : List Cel) : weighAll (madeB l) ≤ 760 := by
  have h1 := joinB_weigh (madeTo l 19)
  have h2 := madeTo_weigh l 19
  unfold madeB; omega

theorem pairs_two {w : World} {S : Nat → Prop} {g : Nat} {s t u v : ByteArray} (h0 : w.cell? ⟨g, 0, none⟩ = some (.string s)) (h1 : w.cell? ⟨g, 1, none⟩ = some (.string t)) (h2 : w.cell? ⟨g, 2, none⟩ = some (.string u)) (h3 : w.cell? ⟨g, 3, none⟩ = some (.string v)) (hS : S g) :
    Pairs w S (.slice (some ⟨g, 0, none⟩) 2 2) [(s, t), (u, v)] :=
  ⟨_, 2, rfl, Nat.le_refl _, by unfold maxLen; omega, .inr ⟨g, 0, rfl, hS, fun i p hi => by
    match i, hi with
    | 0, hi => simp at hi; subst hi; exact ⟨h0, h1⟩
    | 1, hi => simp at hi; subst hi; exact ⟨h2, h3⟩
    | i + 2, hi => simp at hi⟩⟩
theorem kids_block {w : World} {S : Nat → Prop} {g n : Nat} {arr : Array Value} {T : TypeId} {l : List Tree} (hh : w.heap[g]? = some (.cells arr T)) (hc : Cells w S l arr.toList) (hn : l.length = n) (hS : S g) (hm : n ≤ 1000000 := by decide) : Kids w S (.slice (some ⟨g, 0, none⟩) n n) l := by
  subst hn
  refine ⟨_, l.length, rfl, Nat.le_refl _, by unfold maxLen; omega, .inr ⟨g, 0, rfl, hS, rowAt_cells hc fun j u hj => ?_⟩⟩
  simp only [World.cell?, hh]
  simpa using hj

section
variable {ops : Array Oper} {o : Oper} {a : Act} {K : Act → World → Prop} {Q : Exit → Act → World → Prop} {E : Prop}
/-- append([]Node, l...) -/
theorem step_app1 {B : Nat} {W3 W : World} (hBB : B ≤ W3.heap.size) {e : Nat} {x : Value} {L : List Tree} (hgd : o.guard = none) (s xo : Operand) (ho : o.op = .call { callee := .builtin .append, args := #[s, xo], argTypes := #[29, 29] })
    (hv : a.eval s = .slice (some ⟨e, 0, none⟩) 0 0) (hx : a.eval xo = x) (hE : W.heap[e]? = some (.cells #[] 31)) (he : W3.heap.size ≤ e) (hB : Below W3.heap.size W3 W) (hK : Kids W3 (Under B) x L) (hlen : L.length ≤ 1000000)
    (h : ∀ v' w', Own w' W3.heap.size (Under B) v' L → Below W3.heap.size W3 w' → (∀ g, g < W.heap.size → g ≠ e → w'.heap[g]? = W.heap[g]?) → K (a.put o.dst v') w') :
    if Region.wanted o (yielded ops a.tmps) = true then Oper.wp Try.prog o a W K Q else E := by
  refine step_append_nodes hgd s xo ho W3.heap.size (Under B) _ _ [] L hv hx (own_empty hE he) (hK.below (hB.mono hBB)).src (fun b hb => ⟨Nat.lt_of_lt_of_le hb (Nat.le_trans hBB hB.size), fun h => ?_⟩) (by simpa using hlen) hB.size ?_
  · simp [Value.ownBlock] at h; unfold Under at hb; omega
  · intro v' w' h1 h2 _
    have h2' : W.grownBy w' (some e) := h2
    exact h v' w' (by simpa using h1) (hB.grown h2' hB.size (fun k hk => by injection hk with hk; omega)) fun g hg hn => h2'.block g hg (fun h => hn (Option.some.inj h))
/-- append(.., a, b) -/
theorem step_app2 {B : Nat} {W3 W : World} (hBB : B ≤ W3.heap.size) {v x : Value} {L L2 : List Tree} (hgd : o.guard = none) (s xo : Operand) (ho : o.op = .call { callee := .builtin .append, args := #[s, xo], argTypes := #[29, 29] })
    (hv : a.eval s = v) (hx : a.eval xo = x) (hO : Own W W3.heap.size (Under B) v L) (hB : Below W3.heap.size W3 W) (hsrc : Src W (Under B) x L2) (hlen : L.length + L2.length ≤ 1000000)
    (h : ∀ v' w', Own w' W3.heap.size (Under B) v' (L ++ L2) → Below W3.heap.size W3 w' → K (a.put o.dst v') w') :
    if Region.wanted o (yielded ops a.tmps) = true then Oper.wp Try.prog o a W K Q else E := by
  refine step_append_nodes hgd s xo ho W3.heap.size (Under B) _ _ L L2 hv hx hO hsrc (fun b hb => ⟨Nat.lt_of_lt_of_le hb (Nat.le_trans hBB hB.size), fun h => ?_⟩) hlen hB.size ?_
  · have := (hO.base_le b h.symm).1; unfold Under at hb; omega
  · intro v' w' h1 h2 _
    exact h v' w' h1 (hB.grown h2 hB.size (fun k hk => (hO.base_le k hk).1))
end
theorem set_one {w : World} {g o : Nat} {u v : Value} (c : w.cell? ⟨g, o, none⟩ = some u) :
    (∀ b j, b ≠ g → (w.setCell ⟨g, o, none⟩ v).cell? ⟨b, j, none⟩ = w.cell? ⟨b, j, none⟩) ∧ (w.setCell ⟨g, o, none⟩ v).cell? ⟨g, o, none⟩ = some v ∧ (∀ j, j ≠ o → (w.setCell ⟨g, o, none⟩ v).cell? ⟨g, j, none⟩ = w.cell? ⟨g, j, none⟩) ∧
      (∀ b, b ≠ g → (w.setCell ⟨g, o, none⟩ v).heap[b]? = w.heap[b]?) ∧ (w.setCell ⟨g, o, none⟩ v).heap.size = w.heap.size ∧ (w.setCell ⟨g, o, none⟩ v).os = w.os ∧ (w.setCell ⟨g, o, none⟩ v).tape = w.tape ∧ (w.setCell ⟨g, o, none⟩ v).output = w.output :=
  ⟨fun b j h => World.cell?_setCell_other w _ _ _ (fun e => h (congrArg Addr.block e).symm), cell_set c v, fun j h => World.cell?_setCell_other w _ _ _ (fun e => h (congrArg Addr.off e).symm), fun b h => Below.heap_setCell _ _ _ _ h, by simp [World.setCell], rfl, rfl, rfl⟩
end Go.Proofs.Ytmmifednhleggaa
