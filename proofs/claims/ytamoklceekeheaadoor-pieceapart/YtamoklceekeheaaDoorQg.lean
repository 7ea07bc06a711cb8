/-
  A copy appended to a row of the call's own: what memory holds behind it.
-/
import Derived.Test.YtamoklceekeheaaDoorQf
import Derived.Test.YtamoklceekeheaaDoorPlV
namespace Go.Proofs.YtamoklceekeheaaDoor
open Go.RowKit Go.Sort

def zeroT : Tree := .mk ⟨#[]⟩ ⟨#[]⟩ [] [] []
abbrev ZNode : Obj := .cells #[.string ⟨#[]⟩, .string ⟨#[]⟩, .slice none 0 0, .slice none 0 0, .slice none 0 0] 28

section
variable {w : World} {ops : Array Oper} {o : Oper} {a : Act} {K : Act → World → Prop} {Q : Exit → Act → World → Prop} {E : Prop}
/-- Copy, in a region that draws its order. -/
theorem step_copy {v : Value} {t : Tree} (hgd : o.guard = none) (p : Operand) (ho : o.op = .call { callee := .value (.func 45), args := #[p], argTypes := #[28] })
    (hp : a.eval p = v) (hn : Node w (Under w.heap.size) v t) (hw : weigh t ≤ 1000000)
    (h : ∀ A1 n1 c1 A2 n2 c2 A3 c3 w', Node w' (From w.heap.size w'.heap.size) (.agg #[.string t.kind, .string t.text, .slice A1 n1 c1, .slice A2 n2 c2, .slice A3 t.kids.length c3]) t → Below w.heap.size w w' → K (a.put o.dst (.agg #[.string t.kind, .string t.text, .slice A1 n1 c1, .slice A2 n2 c2, .slice A3 t.kids.length c3])) w') :
    if Region.wanted o (yielded ops a.tmps) = true then Oper.wp Tryd.prog o a w K Q else E := by
  have hwn : Region.wanted o (yielded ops a.tmps) = true := by simp [Region.wanted, hgd]
  rw [if_pos hwn]
  have hrun : (execOp a.eval o).run Tryd.prog w = .ok (.enter 45 #[v]) w := by
    have hf : a.eval (.func 45) = .func (.func 45) #[] #[] := rfl
    obtain ⟨c, hc⟩ : ∃ c, Tryd.f45.body = some c := Option.isSome_iff_exists.1 (by kernel_rfl)
    have hne : ¬ Tryd.f45.name = "runtime.NumGoroutine" := of_decide_eq_false (by kernel_rfl)
    simp [execOp, ho, resolve, invoke, hp, hf, Deferred.ofValue, callFunc, hne, hc]
  unfold Oper.wp
  rw [hrun, Oper.upon_enter]
  refine (copy_any v t w hn hw).mono fun e w'' hh => ?_
  obtain ⟨v', rfl, hn', hb⟩ := hh
  obtain ⟨A1, n1, c1, A2, n2, c2, A3, c3, rfl⟩ := hn'.forms
  exact h A1 n1 c1 A2 n2 c2 A3 c3 w'' hn' hb
end

/-- A row of the call's own with an empty node at its end, and a copy that is not in it yet. -/
structure Pushed (w3 wf : World) (base : Nat) (S : Nat → Prop) (vA : Value) (a : List Tree) (x : Tree) (g' c' : Nat) (v0 v1 v2 v3 v4 : Value) : Prop where
  own : Own wf base S (.slice (some ⟨g', 0, none⟩) (a.length + 1) c') (a ++ [zeroT])
  hS : ∀ b, S b → b < wf.heap.size ∧ b ≠ g'
  copy : Node wf (fun b => w3.heap.size ≤ b ∧ b < wf.heap.size ∧ b ≠ g') (.agg #[v0, v1, v2, v3, v4]) x
  row : base ≤ g' ∧ g' < wf.heap.size ∧ (vA.ownBlock = some g' ∨ w3.heap.size ≤ g')
  old : ∀ b, b < w3.heap.size → some b ≠ vA.ownBlock → wf.heap[b]? = w3.heap[b]?
  size : w3.heap.size ≤ wf.heap.size
  env : wf.os = w3.os ∧ wf.tape = w3.tape ∧ wf.output = w3.output

theorem Own.last {w : World} {base : Nat} {S : Nat → Prop} {g c n : Nat} {a : List Tree} {x : Tree} (h : Own w base S (.slice (some ⟨g, 0, none⟩) n c) (a ++ [x])) :
    ∃ cur vm va vk, w.heap[g]? = some (.cells cur 28) ∧ a.length * 5 + 5 ≤ cur.size ∧ Five cur (a.length * 5) (.agg #[.string x.kind, .string x.text, vm, va, vk]) := by
  obtain ⟨xs, ⟨hl, ho⟩, hc⟩ := h
  rcases ho with ⟨hv, hn⟩ | ⟨g', cap, cur, hv, hb, hg, hnc, hcm, hsz, htk⟩
  · rw [List.length_append] at hn; simp at hn
  · injection hv with hv hn hcp
    injection hv with hv
    injection hv with hv _
    subst hv
    have hsplit : ∀ (a : List Tree) (xs : List Value), Cells w S (a ++ [x]) xs → ∃ ys vm va vk, ys.length = a.length * 5 ∧ xs = ys ++ [.string x.kind, .string x.text, vm, va, vk] := by
      intro a
      induction a with
      | nil =>
        rintro xs ⟨vm, va, vk, ys, rfl, _, _, _, hy⟩
        simp only [Cells] at hy
        subst hy
        exact ⟨[], vm, va, vk, rfl, rfl⟩
      | cons t a ih =>
        rintro xs ⟨vm, va, vk, ys, rfl, _, _, _, hy⟩
        obtain ⟨zs, vm', va', vk', hz, rfl⟩ := ih ys hy
        exact ⟨_ :: _ :: _ :: _ :: _ :: zs, vm', va', vk', by simp [hz]; omega, rfl⟩
    obtain ⟨ys, vm, va, vk, hy, hxs⟩ := hsplit a xs hc
    rw [List.length_append, List.length_singleton] at htk hl hnc
    have hge : (a.length + 1) * 5 ≤ cur.size := by rw [hsz]; exact Nat.mul_le_mul_right 5 hnc
    refine ⟨cur, vm, va, vk, hg, by omega, _, _, _, _, _, rfl, ?_, ?_, ?_, ?_, ?_⟩
    all_goals
      rw [← Array.getElem?_toList]
      have hd : ∀ d, d < 5 → cur.toList[a.length * 5 + d]? = [Value.string x.kind, .string x.text, vm, va, vk][d]? := fun d hd => by
        rw [← List.getElem?_take_of_lt (show a.length * 5 + d < (a.length + 1) * 5 by omega), htk, hxs, List.getElem?_append_right (by omega), hy]
        congr 1; omega
      first
        | exact hd 0 (by omega)
        | exact hd 1 (by omega)
        | exact hd 2 (by omega)
        | exact hd 3 (by omega)
        | exact hd 4 (by omega)

/-- The copy put where the empty node is. -/
theorem Own.fill {w : World} {base : Nat} {S S' : Nat → Prop} {g c n : Nat} {a : List Tree} {z x : Tree} {v2 v3 v4 : Value} (h : Own w base S (.slice (some ⟨g, 0, none⟩) n c) (a ++ [z])) (hS : ∀ b, S b → b ≠ g ∧ S' b) (hN : ∀ b, S' b → b ≠ g)
    (hn : Node w S' (.agg #[.string x.kind, .string x.text, v2, v3, v4]) x) : Own (put5o w g (a.length * 5) (.string x.kind) (.string x.text) v2 v3 v4) base S' (.slice (some ⟨g, 0, none⟩) n c) (a ++ [x]) := by
  obtain ⟨xs, ⟨hl, ho⟩, hc⟩ := h
  obtain ⟨vm, va, vk, he, hm, ha, hk⟩ := hn
  injection he with he
  have h4 : v2 = vm ∧ v3 = va ∧ v4 = vk := by simpa using he
  obtain ⟨rfl, rfl, rfl⟩ := h4
  rcases ho with ⟨hv, hn⟩ | ⟨g', cap, cur, hv, hb, hg, hnc, hcm, hsz, htk⟩
  · rw [List.length_append] at hn; simp at hn
  · injection hv with hv hn hcp
    injection hv with hv
    injection hv with hv _
    subst hv
    have hsplit : ∀ (a : List Tree) (xs : List Value), Cells w S (a ++ [z]) xs → ∃ ys zs, ys.length = a.length * 5 ∧ zs.length = 5 ∧ xs = ys ++ zs ∧ Cells w S a ys := by
      intro a
      induction a with
      | nil =>
        rintro xs ⟨vm, va, vk, ys, rfl, _, _, _, hy⟩
        simp only [Cells] at hy
        subst hy
        exact ⟨[], _, rfl, rfl, rfl, rfl⟩
      | cons t a ih =>
        rintro xs ⟨vm, va, vk, ys, rfl, h1, h2, h3, hy⟩
        obtain ⟨zs, us, hz, hu, rfl, hcz⟩ := ih ys hy
        exact ⟨_ :: _ :: _ :: _ :: _ :: zs, us, by simp [hz]; omega, hu, rfl, vm, va, vk, zs, rfl, h1, h2, h3, hcz⟩
    obtain ⟨ys, zs, hy, hzs, hxs, hcy⟩ := hsplit a xs hc
    rw [List.length_append, List.length_singleton] at htk hl hnc hn
    have hge : (a.length + 1) * 5 ≤ cur.size := by rw [hsz]; exact Nat.mul_le_mul_right 5 hnc
    have hset : ∀ (W : World) (i : Nat) (c : Array Value) (u : Value), W.heap[g]? = some (.cells c 28) → (W.setCell ⟨g, i, none⟩ u).heap[g]? = some (.cells (c.setIfInBounds i u) 28) := fun W i c u h => by simp [World.setCell, Array.getElem?_modify, h]
    have hcell := hset _ (a.length * 5 + 4) _ v4 (hset _ (a.length * 5 + 3) _ v3 (hset _ (a.length * 5 + 2) _ v2 (hset _ (a.length * 5 + 1) _ (.string x.text) (hset _ (a.length * 5) _ (.string x.kind) hg))))
    have keep : Cells (put5o w g (a.length * 5) (.string x.kind) (.string x.text) v2 v3 v4) S' a ys := hcy.keep (fun b hb => (hS b hb).2) (fun b hb => put5o_other (hS b hb).1)
    have kN : ∀ b, S' b → (put5o w g (a.length * 5) (.string x.kind) (.string x.text) v2 v3 v4).heap[b]? = w.heap[b]? := fun b hb => put5o_other (hN b hb)
    refine ⟨ys ++ [.string x.kind, .string x.text, v2, v3, v4], ⟨by simp [hy]; omega, .inr ⟨g, cap, _, by rw [List.length_append, List.length_singleton, hn, hcp], hb, hcell, by rw [List.length_append, List.length_singleton]; exact hnc, hcm, by simp [hsz], ?_⟩⟩, keep.append (Cells.one (hm.keep (fun _ h => h) kN) (ha.keep (fun _ h => h) kN) (hk.keep (fun _ h => h) kN))⟩
    rw [List.length_append, List.length_singleton]
    apply List.ext_getElem?
    intro j
    by_cases hj : j < (a.length + 1) * 5
    · rw [List.getElem?_take_of_lt hj]
      have hj0 : cur.toList[j]? = (ys ++ zs)[j]? := by rw [← hxs, ← htk, List.getElem?_take_of_lt hj]
      rw [Array.getElem?_toList]
      simp only [Array.getElem?_setIfInBounds, Array.size_setIfInBounds]
      by_cases h1 : j < a.length * 5
      · rw [if_neg (by omega), if_neg (by omega), if_neg (by omega), if_neg (by omega), if_neg (by omega), ← Array.getElem?_toList, hj0, List.getElem?_append_left (by omega), List.getElem?_append_left (by omega)]
      · rw [List.getElem?_append_right (by omega), hy]
        obtain ⟨d, rfl⟩ : ∃ d, j = a.length * 5 + d := ⟨j - a.length * 5, by omega⟩
        rw [show a.length * 5 + d - a.length * 5 = d by omega]
        match d, hj with
        | 0, _ => simp; omega
        | 1, _ => simp; omega
        | 2, _ => simp; omega
        | 3, _ => simp; omega
        | 4, _ => simp; omega
        | d + 5, hj => omega
    · rw [List.getElem?_take_eq_none (by omega), List.getElem?_eq_none (by simp [hy]; omega)]

/-- The empty node that is appended, in its block. -/
theorem zero_src {W : World} {S : Nat → Prop} {g : Nat} (h : W.heap[g]? = some ZNode) : Src W S (.slice (some ⟨g, 0, none⟩) 1 1) [zeroT] := by
  have hc : ∀ j, W.cell? ⟨g, j, none⟩ = (#[.string ⟨#[]⟩, .string ⟨#[]⟩, .slice none 0 0, .slice none 0 0, .slice none 0 0] : Array Value)[j]? := fun j => by simp [World.cell?, h]
  exact src_one (x := zeroT) strs_nil pairs_nil kids_nil (hc 0) (hc 1) (hc 2) (hc 3) (hc 4)

/-- What an append of the empty node leaves. -/
structure Grown (w3 W wA : World) (base : Nat) (S : Nat → Prop) (vA : Value) (a : List Tree) (g' c' : Nat) : Prop where
  own : Own wA base S (.slice (some ⟨g', 0, none⟩) (a.length + 1) c') (a ++ [zeroT])
  hS : ∀ b, S b → b < wA.heap.size ∧ b ≠ g'
  row : base ≤ g' ∧ g' < wA.heap.size ∧ (vA.ownBlock = some g' ∨ W.heap.size ≤ g')
  old : ∀ b, b < W.heap.size → some b ≠ vA.ownBlock → wA.heap[b]? = W.heap[b]?
  size : w3.heap.size ≤ W.heap.size ∧ W.heap.size ≤ wA.heap.size
  env : wA.os = W.os ∧ wA.tape = W.tape ∧ wA.output = W.output
theorem grown_of {w3 W wA : World} {base : Nat} {S : Nat → Prop} {vA v' : Value} {a : List Tree} (hown : Own wA base S v' (a ++ [zeroT])) (hg : W.grownBy wA vA.ownBlock) (hat : v'.ownBlock = vA.ownBlock ∨ v'.ownBlock = some W.heap.size)
    (hS : ∀ b, S b → b < W.heap.size ∧ some b ≠ vA.ownBlock) (hz : w3.heap.size ≤ W.heap.size) : ∃ g' c', v' = .slice (some ⟨g', 0, none⟩) (a.length + 1) c' ∧ Grown w3 W wA base S vA a g' c' := by
  obtain ⟨A, c', rfl, hc, hA⟩ := hown.form
  rcases hA with ⟨_, h⟩ | ⟨g', rfl, h1, h2⟩
  · simp at h
  · rw [List.length_append, List.length_singleton] at *
    have hob : (Value.slice (some ⟨g', 0, none⟩) (a.length + 1) c').ownBlock = some g' := rfl
    rw [hob] at hat
    refine ⟨g', c', rfl, hown, fun b hb => ⟨Nat.lt_of_lt_of_le (hS b hb).1 hg.size, fun e => ?_⟩, ⟨h1, h2, ?_⟩, hg.block, ⟨hz, hg.size⟩, hg.os, hg.tape, hg.output⟩
    · subst e
      rcases hat with h | h
      · exact (hS b hb).2 h
      · have := Option.some.inj h; have := (hS b hb).1; omega
    · rcases hat with h | h
      · exact .inl h.symm
      · have := Option.some.inj h; exact .inr (by omega)
/-- Appended first, then copied. -/
theorem pushed_after {w3 W wA wf : World} {base : Nat} {S : Nat → Prop} {vA : Value} {a : List Tree} {x : Tree} {g' c' : Nat} {v0 v1 v2 v3 v4 : Value} (h : Grown w3 W wA base S vA a g' c') (hW : Below w3.heap.size w3 W)
    (hb : Below wA.heap.size wA wf) (hn : Node wf (From wA.heap.size wf.heap.size) (.agg #[v0, v1, v2, v3, v4]) x) : Pushed w3 wf base S vA a x g' c' v0 v1 v2 v3 v4 := by
  have hz := h.size
  have hz2 := hb.size
  obtain ⟨r1, r2, r3⟩ := h.row
  refine ⟨h.own.later hb (fun b hb' => (h.hS b hb').1), fun b hb' => ⟨Nat.lt_of_lt_of_le (h.hS b hb').1 hz2, (h.hS b hb').2⟩, hn.keep (fun b hb' => ⟨by have := hb'.1; omega, hb'.2, by have := hb'.1; omega⟩) (fun _ _ => rfl), ⟨r1, by omega, r3.imp id (fun h => by omega)⟩, fun b hb' hne => ?_, by omega, ?_⟩
  · exact (hb.block b (by omega)).trans ((h.old b (by omega) hne).trans (hW.block b hb'))
  · exact ⟨hb.os.trans (h.env.1.trans hW.os), hb.tape.trans (h.env.2.1.trans hW.tape), hb.output.trans (h.env.2.2.trans hW.output)⟩
/-- Copied first, then appended. -/
theorem pushed_before {w3 W0 wC W wf : World} {base : Nat} {S : Nat → Prop} {vA : Value} {a : List Tree} {x : Tree} {g' c' : Nat} {v0 v1 v2 v3 v4 : Value} (h : Grown w3 W wf base S vA a g' c') (hv : ∀ k, vA.ownBlock = some k → k < w3.heap.size)
    (hW0 : Below w3.heap.size w3 W0) (hb : Below W0.heap.size W0 wC) (hW : Below wC.heap.size wC W) (hn : Node wC (From W0.heap.size wC.heap.size) (.agg #[v0, v1, v2, v3, v4]) x) : Pushed w3 wf base S vA a x g' c' v0 v1 v2 v3 v4 := by
  have hz := h.size
  have h0 := hW0.size
  have h1 := hb.size
  have h2 := hW.size
  obtain ⟨r1, r2, r3⟩ := h.row
  have hne : ∀ b, From W0.heap.size wC.heap.size b → some b ≠ vA.ownBlock := fun b hb' e => by have := hv b e.symm; have := hb'.1; omega
  refine ⟨h.own, h.hS, hn.keep (fun b hb' => ⟨by have := hb'.1; omega, by have := hb'.2; omega, fun e => ?_⟩) (fun b hb' => (h.old b (by have := hb'.2; omega) (hne b hb')).trans (hW.block b hb'.2)), ⟨r1, r2, r3.imp id (fun h => by omega)⟩, fun b hb' hx => ?_, by omega, ?_⟩
  · subst e
    rcases r3 with h | h
    · exact hne b hb' h.symm
    · have := hb'.2; omega
  · exact (h.old b (by omega) hx).trans ((hW.block b (by omega)).trans ((hb.block b (by omega)).trans (hW0.block b hb')))
  · exact ⟨h.env.1.trans (hW.os.trans (hb.os.trans hW0.os)), h.env.2.1.trans (hW.tape.trans (hb.tape.trans hW0.tape)), h.env.2.2.trans (hW.output.trans (hb.output.trans hW0.output))⟩
end Go.Proofs.YtamoklceekeheaaDoor
