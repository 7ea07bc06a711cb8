/-
  NodeTurns: the walk.
-/
import Derived.Test.YtjfjmcdfomanfaaDoorW27
import Derived.Test.YtjfjmcdfomanfaaDoorCutP
namespace Go.Proofs.YtjfjmcdfomanfaaDoor
open Go.RowKit Go.Sort

/-- string(r[j:j+1]) -/
theorem run_piece (w : World) (g j c r : Nat) (h : w.cell? ⟨g, j, none⟩ = some (.int .i32 (r : Int))) :
    (convert 49 9 (.slice (some ⟨g, j, none⟩) 1 c)).run Tryd.prog w = .ok (.string ⟨(encL r).toArray⟩) w := by
  rw [run_convert_runes_string w 49 9 21 (some ⟨g, j, none⟩) 1 c Tryd.underlying49 Tryd.underlying21 Tryd.underlying9]
  have hl : (loadCells ⟨g, j, none⟩ 1).run Tryd.prog w = .ok ([(r : Int)].map (Value.int .i32)).toArray w := by
    simp [loadCells, loadCellsFrom, add_cell, h]
  rw [run_runesToString w ⟨g, j, none⟩ 1 c [(r : Int)] hl]
  have hd : (runesBytes [(r : Int)]).data.toList = encL r := by
    have := runesBytes_data [r]
    simpa using this
  rw [show runesBytes [(r : Int)] = ⟨(encL r).toArray⟩ from ByteArray.ext (Array.ext' (by simpa using hd))]

theorem Own.drew {w : World} {base : Nat} {S : Nat → Prop} {v : Value} {l : List Tree} (h : Own w base S v l) : Own w.drew base S v l := by
  obtain ⟨xs, ⟨hl, ho⟩, hc⟩ := h
  exact ⟨xs, ⟨hl, ho⟩, hc.keep (fun _ h => h) fun _ _ => rfl⟩
theorem Src.drew {w : World} {S : Nat → Prop} {v : Value} {l : List Tree} (h : Src w S v l) : Src w.drew S v l := by
  obtain ⟨A, c, xs, hv, hc, h⟩ := h
  exact ⟨A, c, xs, hv, hc.keep (fun _ h => h) fun _ _ => rfl, h⟩
theorem undrew_grown {w w' : World} {b : Option Nat} (h : w.drew.grownBy w' b) : w.grownBy w' b := ⟨h.os, h.tape, h.output, h.size, h.block⟩
theorem turn_push {W3 wq : World} {v vm : Value} {L : List Tree} {t : Tree} (ho : Own wq W3.heap.size (Under W3.heap.size) v L) (hbr : Below W3.heap.size W3 wq) (hm : Strs W3 (Under W3.heap.size) vm t.marks) (ha : t.attrs = []) (hk : t.kids = []) :
    Own ((wq.alloc (.cells #[.string t.kind, .string t.text, vm, .slice none 0 0, .slice none 0 0] 26)).drew) W3.heap.size (Under W3.heap.size) v L ∧
    Src ((wq.alloc (.cells #[.string t.kind, .string t.text, vm, .slice none 0 0, .slice none 0 0] 26)).drew) (Under W3.heap.size) (.slice (some ⟨wq.heap.size, 0, none⟩) 1 1) [t] ∧
    (∀ b, Under W3.heap.size b → b < ((wq.alloc (.cells #[.string t.kind, .string t.text, vm, .slice none 0 0, .slice none 0 0] 26)).drew).heap.size ∧ some b ≠ v.ownBlock) ∧
    W3.heap.size ≤ ((wq.alloc (.cells #[.string t.kind, .string t.text, vm, .slice none 0 0, .slice none 0 0] 26)).drew).heap.size ∧
    (∀ (v' : Value) (w' : World), ((wq.alloc (.cells #[.string t.kind, .string t.text, vm, .slice none 0 0, .slice none 0 0] 26)).drew).grownBy w' v.ownBlock → (v'.ownBlock = v.ownBlock ∨ v'.ownBlock = some ((wq.alloc (.cells #[.string t.kind, .string t.text, vm, .slice none 0 0, .slice none 0 0] 26)).drew).heap.size) →
      Below W3.heap.size W3 w' ∧ wq.heap.size ≤ w'.heap.size ∧ ∀ g, g < wq.heap.size → v.ownBlock ≠ some g → w'.heap[g]? = wq.heap[g]? ∧ v'.ownBlock ≠ some g) := by
  obtain ⟨h1, h2, h3, h4, h5⟩ := own_push (W := wq) (x := t) (vm := vm) (va := .slice none 0 0) (vk := .slice none 0 0) (S := Under W3.heap.size) (fun _ h => h) ho hbr (Below.refl _ _) (hm.stay hbr (fun _ h => h)) (by rw [ha]; exact pairs_none) (by rw [hk]; exact kids_none)
  refine ⟨h1.drew, h2.drew, h3, h4, fun v' w' hg hv => ?_⟩
  have hg' : (wq.alloc (.cells #[.string t.kind, .string t.text, vm, .slice none 0 0, .slice none 0 0] 26)).grownBy w' v.ownBlock := undrew_grown hg
  have hz : (wq.alloc (.cells #[.string t.kind, .string t.text, vm, .slice none 0 0, .slice none 0 0] 26)).heap.size = wq.heap.size + 1 := by simp
  have hsz := hg'.size
  refine ⟨h5 w' hg', by omega, fun g hgl hgo => ⟨?_, ?_⟩⟩
  · rw [hg'.block g (by omega) (fun e => hgo e.symm)]
    exact Below.heap_alloc _ _ g hgl
  · rcases hv with hv | hv
    · rw [hv]; exact hgo
    · rw [hv]; intro e
      have e' := Option.some.inj e
      have : ((wq.alloc (.cells #[.string t.kind, .string t.text, vm, .slice none 0 0, .slice none 0 0] 26)).drew).heap.size = wq.heap.size + 1 := hz
      omega

section
variable {w : World} {ops : Array Oper} {o : Oper} {a : Act} {K : Act → World → Prop} {Q : Exit → Act → World → Prop} {E : Prop}
/-- Join, in a region that draws its order. -/
theorem step_join5 {W5 : World} {l : List Tree} (hgd : o.guard = none) (x : Operand) (ho : o.op = .call { callee := .value (.func 27), args := #[x], argTypes := #[24] }) (v : Value) (hx : a.eval x = v)
    (hX : Below W5.heap.size W5 w) (hK : Kids W5 (Under W5.heap.size) v l) (hw : weighAll l ≤ 1000000)
    (h : ∀ v' w', Kids w' (fun b => Under W5.heap.size b ∨ From w.heap.size w'.heap.size b) v' (joinB l) → Below w.heap.size w w' → K (a.put o.dst v') w') :
    if Region.wanted o (yielded ops a.tmps) = true then Oper.wp Tryd.prog o a w K Q else E := by
  have hwn : Region.wanted o (yielded ops a.tmps) = true := by simp [Region.wanted, hgd]
  rw [if_pos hwn]
  have hrun : (execOp a.eval o).run Tryd.prog w = .ok (.enter 27 #[v]) w := by
    have hf : a.eval (.func 27) = .func (.func 27) #[] #[] := rfl
    obtain ⟨c, hc⟩ : ∃ c, Tryd.f27.body = some c := Option.isSome_iff_exists.1 (by kernel_rfl)
    have hne : ¬ Tryd.f27.name = "runtime.NumGoroutine" := of_decide_eq_false (by kernel_rfl)
    simp [execOp, ho, resolve, invoke, hx, hf, Deferred.ofValue, callFunc, hne, hc]
  unfold Oper.wp
  rw [hrun, Oper.upon_enter]
  refine (joinS_any v l (Under W5.heap.size) w (hK.below hX) (fun b hb => Nat.lt_of_lt_of_le hb hX.size) hw).mono fun e w'' hh => ?_
  obtain ⟨v', rfl, hk, hb⟩ := hh
  exact h v' w'' hk hb
/-- append of nodes to an empty row. -/
theorem step_app5 {W5 : World} {e : Nat} {x : Value} {L : List Tree} {S : Nat → Prop} (hgd : o.guard = none) (s xo : Operand) (ho : o.op = .call { callee := .builtin .append, args := #[s, xo], argTypes := #[24, 24] })
    (hv : a.eval s = .slice (some ⟨e, 0, none⟩) 0 0) (hx : a.eval xo = x) (hE : w.heap[e]? = some (.cells #[] 26)) (he : W5.heap.size ≤ e) (hX : Below W5.heap.size W5 w) (hK : Kids w S x L) (hS : ∀ b, S b → b < w.heap.size ∧ b ≠ e) (hlen : L.length ≤ 1000000)
    (h : ∀ v' w', Own w' W5.heap.size S v' L → Below W5.heap.size W5 w' → w.grownBy w' (some e) → (v'.ownBlock = some e ∨ v'.ownBlock = some w.heap.size) → K (a.put o.dst v') w') :
    if Region.wanted o (yielded ops a.tmps) = true then Oper.wp Tryd.prog o a w K Q else E := by
  refine step_append_nodes hgd s xo ho W5.heap.size S _ _ [] L hv hx (own_empty hE he) hK.src (fun b hb => ⟨(hS b hb).1, fun h => (hS b hb).2 (Option.some.inj h)⟩) (by simpa using hlen) hX.size ?_
  intro v' w' h1 h2 h3
  have h2' : w.grownBy w' (some e) := h2
  exact h v' w' (by simpa using h1) (hX.grown h2' hX.size (fun k hk => by have := Option.some.inj hk; omega)) h2' h3
/-- append of nodes to a row of the call's own. -/
theorem step_app6 {W5 : World} {v x : Value} {L L2 : List Tree} {S S2 : Nat → Prop} (hgd : o.guard = none) (s xo : Operand) (ho : o.op = .call { callee := .builtin .append, args := #[s, xo], argTypes := #[24, 24] })
    (hv : a.eval s = v) (hx : a.eval xo = x) (hO : Own w W5.heap.size S v L) (hX : Below W5.heap.size W5 w) (hK : Kids w S2 x L2) (hS : ∀ b, S b → b < w.heap.size ∧ some b ≠ v.ownBlock) (hS2 : ∀ b, S2 b → b < w.heap.size ∧ some b ≠ v.ownBlock) (hlen : L.length + L2.length ≤ 1000000)
    (h : ∀ v' w', TwiceMid W5 (L ++ L2) v' w' → K (a.put o.dst v') w') :
    if Region.wanted o (yielded ops a.tmps) = true then Oper.wp Tryd.prog o a w K Q else E := by
  refine step_append_nodes hgd s xo ho W5.heap.size (fun b => S b ∨ S2 b) _ _ L L2 hv hx (hO.widen fun _ h => .inl h) (hK.keep (fun _ h => .inr h) fun _ _ => rfl).src (fun b hb => hb.elim (hS b) (hS2 b)) hlen hX.size ?_
  intro v' w' h1 h2 _
  have hB := hX.grown h2 hX.size (fun k hk => (hO.block_ge k hk).1)
  refine h v' w' ?_
  have hk := h1.kids (S' := Under w'.heap.size) (fun b hb' => Nat.lt_of_lt_of_le ((hb'.elim (hS b) (hS2 b)).1) h2.size) (fun g hg => (h1.block_ge g hg).2)
  obtain ⟨A, c, rfl, _⟩ := h1.form
  exact ⟨A, c, rfl, hk, hB⟩
end

/-- Nodes v6 beside an empty row at e. -/
def One (W5 X : World) (e : Nat) (v6 : Value) (J1 : List Tree) : Prop := ∃ S6, Kids X S6 v6 J1 ∧ (∀ b, S6 b → b < X.heap.size ∧ b ≠ e) ∧ X.heap[e]? = some (.cells #[] 26) ∧ W5.heap.size ≤ e
def Two (W5 X : World) (e : Nat) (v6 v7 : Value) (J1 J2 : List Tree) : Prop := ∃ S7, One W5 X e v6 J1 ∧ Kids X S7 v7 J2 ∧ ∀ b, S7 b → b < X.heap.size ∧ b ≠ e
def OwnY (W5 X : World) (v8 : Value) (J1 : List Tree) : Prop := ∃ S8, Own X W5.heap.size S8 v8 J1 ∧ ∀ b, S8 b → b < X.heap.size ∧ some b ≠ v8.ownBlock
def FinX (W5 X : World) (v8 v7 : Value) (J1 J2 : List Tree) : Prop := ∃ S7, OwnY W5 X v8 J1 ∧ Kids X S7 v7 J2 ∧ ∀ b, S7 b → b < X.heap.size ∧ some b ≠ v8.ownBlock
def New (W5 X Y : World) : Nat → Prop := fun b => Under W5.heap.size b ∨ From X.heap.size Y.heap.size b

theorem Kids.stays {w w' : World} {S : Nat → Prop} {v : Value} {l : List Tree} (h : Kids w S v l) (hS : ∀ b, S b → b < w.heap.size) (hb : Below w.heap.size w w') : Kids w' S v l := h.keep (fun _ h => h) fun b hb' => hb.block b (hS b hb')
theorem one_alloc {W5 w6 X : World} {v6 : Value} {J1 : List Tree} (h : Kids w6 (New W5 X w6) v6 J1) (hX : Below W5.heap.size W5 w6) : One W5 (w6.alloc (.cells #[] 26)) w6.heap.size v6 J1 := by
  have hS : ∀ b, New W5 X w6 b → b < w6.heap.size := fun b hb => hb.elim (fun h => Nat.lt_of_lt_of_le h hX.size) (fun h => h.2)
  refine ⟨New W5 X w6, h.stays hS ((Below.refl _ _).alloc (Nat.le_refl _) _), fun b hb => ⟨?_, fun e => ?_⟩, heap_new _ _, hX.size⟩
  · have := hS b hb; simp; omega
  · have := hS b hb; omega
theorem one_before {W5 X w6 : World} {v6 : Value} {J1 : List Tree} (h : Kids w6 (New W5 X w6) v6 J1) (hX : Below W5.heap.size W5 w6) (hz : W5.heap.size < X.heap.size) (hE : w6.heap[W5.heap.size]? = some (.cells #[] 26)) : One W5 w6 W5.heap.size v6 J1 := by
  refine ⟨New W5 X w6, h, fun b hb => ?_, hE, Nat.le_refl _⟩
  have hs := hX.size
  rcases hb with hb | hb
  · unfold Under at hb; omega
  · exact ⟨hb.2, by have := hb.1; omega⟩
theorem two_of_one {W5 Y w7 : World} {e : Nat} {v6 v7 : Value} {J1 J2 : List Tree} (h : One W5 Y e v6 J1) (hX : Below W5.heap.size W5 Y) (hb : Below Y.heap.size Y w7) (hk : Kids w7 (New W5 Y w7) v7 J2) : Two W5 w7 e v6 v7 J1 J2 := by
  obtain ⟨S6, h1, h2, h3, h4⟩ := h
  have he : e < Y.heap.size := (Array.getElem?_eq_some_iff.1 h3).1
  have hs := hX.size
  have hs7 := hb.size
  refine ⟨_, ⟨S6, h1.stays (fun b hb => (h2 b hb).1) hb, fun b hb => ⟨by have := (h2 b hb).1; omega, (h2 b hb).2⟩, (hb.block e he).trans h3, h4⟩, hk, fun b hb => ?_⟩
  rcases hb with hb | hb
  · unfold Under at hb; omega
  · exact ⟨hb.2, by have := hb.1; omega⟩
theorem two_alloc {W5 X w6 w7 : World} {v6 v7 : Value} {J1 J2 : List Tree} (h : Kids w6 (New W5 X w6) v6 J1) (hX : Below W5.heap.size W5 w6) (hb : Below w6.heap.size w6 w7) (hk : Kids w7 (New W5 w6 w7) v7 J2) : Two W5 (w7.alloc (.cells #[] 26)) w7.heap.size v6 v7 J1 J2 := by
  have hS : ∀ b, New W5 X w6 b → b < w6.heap.size := fun b hb => hb.elim (fun h => Nat.lt_of_lt_of_le h hX.size) (fun h => h.2)
  have hs := hX.size
  have hs7 := hb.size
  have hS7 : ∀ b, New W5 w6 w7 b → b < w7.heap.size := fun b hb => hb.elim (fun h => by unfold Under at h; omega) (fun h => h.2)
  have hba : Below w7.heap.size w7 (w7.alloc (.cells #[] 26)) := (Below.refl _ _).alloc (Nat.le_refl _) _
  have hz : (w7.alloc (.cells #[] 26)).heap.size = w7.heap.size + 1 := by simp
  refine ⟨New W5 w6 w7, ⟨New W5 X w6, h.stays hS (belowNext hb hba), fun b hb => ⟨?_, fun e => ?_⟩, heap_new _ _, by omega⟩, hk.stays hS7 hba, fun b hb => ⟨?_, fun e => ?_⟩⟩
  · have := hS b hb; omega
  · have := hS b hb; omega
  · have := hS7 b hb; omega
  · have := hS7 b hb; omega
theorem fin_join {W5 w8 w7 : World} {v8 v7 : Value} {J1 J2 : List Tree} (h : OwnY W5 w8 v8 J1) (hX : Below W5.heap.size W5 w8) (hb : Below w8.heap.size w8 w7) (hk : Kids w7 (New W5 w8 w7) v7 J2) : FinX W5 w7 v8 v7 J1 J2 := by
  obtain ⟨S8, h1, h2⟩ := h
  have hs := hX.size
  have hs7 := hb.size
  have hg := h1.block_ge
  refine ⟨_, ⟨S8, h1.later hb (fun b hb => (h2 b hb).1), fun b hb => ⟨by have := (h2 b hb).1; omega, (h2 b hb).2⟩⟩, hk, fun b hb => ⟨?_, fun e => ?_⟩⟩
  · rcases hb with hb | hb
    · unfold Under at hb; omega
    · exact hb.2
  · have := hg b e.symm
    rcases hb with hb | hb
    · unfold Under at hb; omega
    · have := hb.1; omega

section
variable {w : World} {ops : Array Oper} {o : Oper} {a : Act} {K : Act → World → Prop} {Q : Exit → Act → World → Prop} {E : Prop}
theorem step_one {W5 : World} {e : Nat} {x : Value} {L : List Tree} (hgd : o.guard = none) (s xo : Operand) (ho : o.op = .call { callee := .builtin .append, args := #[s, xo], argTypes := #[24, 24] })
    (hv : a.eval s = .slice (some ⟨e, 0, none⟩) 0 0) (hx : a.eval xo = x) (hO : One W5 w e x L) (hX : Below W5.heap.size W5 w) (hlen : L.length ≤ 1000000)
    (h : ∀ v' w', OwnY W5 w' v' L → Below W5.heap.size W5 w' → K (a.put o.dst v') w') :
    if Region.wanted o (yielded ops a.tmps) = true then Oper.wp Tryd.prog o a w K Q else E := by
  obtain ⟨S6, h1, h2, h3, h4⟩ := hO
  refine step_app5 hgd s xo ho hv hx h3 h4 hX h1 h2 hlen fun v' w' k1 k2 k3 k4 => h v' w' ⟨S6, k1, fun b hb => ⟨Nat.lt_of_lt_of_le (h2 b hb).1 k3.size, fun e => ?_⟩⟩ k2
  rcases k4 with k4 | k4
  · rw [k4] at e; exact (h2 b hb).2 (Option.some.inj e)
  · rw [k4] at e; have := Option.some.inj e; have := (h2 b hb).1; omega
theorem step_two {W5 : World} {e : Nat} {x v7 : Value} {L L2 : List Tree} (hgd : o.guard = none) (s xo : Operand) (ho : o.op = .call { callee := .builtin .append, args := #[s, xo], argTypes := #[24, 24] })
    (hv : a.eval s = .slice (some ⟨e, 0, none⟩) 0 0) (hx : a.eval xo = x) (hO : Two W5 w e x v7 L L2) (hX : Below W5.heap.size W5 w) (hlen : L.length ≤ 1000000)
    (h : ∀ v' w', FinX W5 w' v' v7 L L2 → Below W5.heap.size W5 w' → K (a.put o.dst v') w') :
    if Region.wanted o (yielded ops a.tmps) = true then Oper.wp Tryd.prog o a w K Q else E := by
  obtain ⟨S7, ⟨S6, h1, h2, h3, h4⟩, h5, h6⟩ := hO
  have kk : ∀ {S : Nat → Prop} {v' : Value} {w' : World}, (∀ b, S b → b < w.heap.size ∧ b ≠ e) → w.grownBy w' (some e) → (v'.ownBlock = some e ∨ v'.ownBlock = some w.heap.size) → ∀ b, S b → b < w'.heap.size ∧ some b ≠ v'.ownBlock := fun hS k3 k4 b hb => ⟨Nat.lt_of_lt_of_le (hS b hb).1 k3.size, fun e => by
    rcases k4 with k4 | k4
    · rw [k4] at e; exact (hS b hb).2 (Option.some.inj e)
    · rw [k4] at e; have := Option.some.inj e; have := (hS b hb).1; omega⟩
  exact step_app5 hgd s xo ho hv hx h3 h4 hX h1 h2 hlen fun v' w' k1 k2 k3 k4 => h v' w' ⟨S7, ⟨S6, k1, kk h2 k3 k4⟩, h5.keep (fun _ h => h) (fun b hb => k3.block b (h6 b hb).1 (fun e => (h6 b hb).2 (Option.some.inj e))), kk h6 k3 k4⟩ k2
theorem step_fin {W5 : World} {v x : Value} {L L2 : List Tree} (hgd : o.guard = none) (s xo : Operand) (ho : o.op = .call { callee := .builtin .append, args := #[s, xo], argTypes := #[24, 24] })
    (hv : a.eval s = v) (hx : a.eval xo = x) (hO : FinX W5 w v x L L2) (hX : Below W5.heap.size W5 w) (hlen : L.length + L2.length ≤ 1000000)
    (h : ∀ v' w', TwiceMid W5 (L ++ L2) v' w' → K (a.put o.dst v') w') :
    if Region.wanted o (yielded ops a.tmps) = true then Oper.wp Tryd.prog o a w K Q else E := by
  obtain ⟨S7, ⟨S8, h1, h2⟩, h3, h4⟩ := hO
  exact step_app6 hgd s xo ho hv hx h1 hX h3 h2 h4 hlen h
theorem step_joinN {W5 : World} {l : List Tree} (hgd : o.guard = none) (x : Operand) (ho : o.op = .call { callee := .value (.func 27), args := #[x], argTypes := #[24] }) (v : Value) (hx : a.eval x = v)
    (hX : Below W5.heap.size W5 w) (hK : Kids W5 (Under W5.heap.size) v l) (hw : weighAll l ≤ 1000000)
    (h : ∀ v' w', Kids w' (New W5 w w') v' (joinB l) → Below w.heap.size w w' → Below W5.heap.size W5 w' → K (a.put o.dst v') w') :
    if Region.wanted o (yielded ops a.tmps) = true then Oper.wp Tryd.prog o a w K Q else E :=
  step_join5 hgd x ho v hx hX hK hw fun v' w' h1 h2 => h v' w' h1 h2 (belowNext hX h2)
end

/-- What a round of the inner loop holds. -/
def TurnIn (W3 : World) (g : Nat) (ps : List Nat) (L : List Tree) (v : Value) (wq : World) : Prop :=
  Own wq W3.heap.size (Under W3.heap.size) v L ∧ Below W3.heap.size W3 wq ∧ (∀ i (r : Nat), ps[i]? = some r → wq.cell? ⟨g, i, none⟩ = some (.int .i32 (r : Int))) ∧ v.ownBlock ≠ some g ∧ g < wq.heap.size

set_option maxHeartbeats 8000000 in
set_option maxRecDepth 100000 in
theorem nodeTurns_walk (v : Value) (l : List Cel) (at' : Int) (w : World) (h : Cels w (Under w.heap.size) v l) (h0 : -9223372036854775808 ≤ at') (h1 : at' ≤ 9223372036854775807) (hT : Tabs w) :
    Calls Tryd.prog 8 #[v, .int .i64 at'] w fun e w' => e = .returned (.bool true) ∧ Below w.heap.size w w' := by
  have HL := Lib.hid h
  have HT := Lib.hid hT
  clear h hT
  go_enter Tryd.func8, Tryd.ntmps8
  go_wp2_with fail
  refine (shown_any _ HT.out).mono ?_
  rintro e w1 ⟨rfl, hb1⟩
  go_wp2_with fail
  refine (made_any _ l _ ((HL.out.below hb1).more hb1.size)).mono ?_
  rintro e W3 ⟨v3, rfl, hk3, hb3⟩
  have hB3 := belowNext hb1 hb3
  have HK3 := Lib.hid (hk3.keep (S' := Under W3.heap.size) (fun _ h => h.2) (fun _ _ => rfl))
  obtain ⟨A4, c4, rfl, hc4⟩ := hk3.form
  have hw3 := madeB_weigh l
  have hl3 := length_le_weigh (madeB l)
  have HROW := Lib.hid (madeB_ok l)
  generalize madeB l = ks at *
  clear hk3 hb1 hb3
  have hcw : weighAll (cutB ks) ≤ 600000 := by
    have h1 := cutB_weigh 760 ks hw3
    have h2 : weighAll ks * (760 + 10) ≤ 760 * (760 + 10) := Nat.mul_le_mul_right _ hw3
    omega
  go_wp2
  go_loopw [7, 8] (fun v i wr => ∃ k : Nat, k ≤ ks.length ∧ i = .int .i64 k ∧ JoinRel W3 (Under W3.heap.size) (cutB (ks.take k)) v wr) (fun _ i _ => ks.length - (intOf i).toNat)
  case atStart => exact ⟨0, by omega, rfl, own_nil _ _ _, Below.refl _ _⟩
  case round =>
    obtain ⟨i, hi, rfl, hown, hbr⟩ := hrel
    have hcl := length_le_weigh (cutB (ks.take i))
    have hct := cutB_take_le ks i
    by_cases hlt : i < ks.length
    · obtain ⟨b, o, rfl, hub, hrow⟩ := HK3.out.get hlt
      have hlx : ks[i]? = some ks[i] := List.getElem?_eq_getElem hlt
      have HTK : Hid (ks.take (i + 1) = ks.take i ++ [ks[i]]) := Lib.hid (List.take_succ_eq_append_getElem hlt)
      generalize hx : ks[i] = x at *
      have HCT := Lib.hid (cutB_take ks i x HTK.out)
      have hxw := weigh_mem (List.mem_of_getElem? hlx)
      obtain ⟨xm, xa, xk, e0, e1, e2, e3, e4, exm, exa, exk⟩ := hrow.node hlx
      have f0 := (hbr.cell (p := ⟨b, o + i * 5, none⟩) hub).trans e0
      have f1 := (hbr.cell (p := ⟨b, o + i * 5 + 1, none⟩) hub).trans e1
      have f2 := (hbr.cell (p := ⟨b, o + i * 5 + 2, none⟩) hub).trans e2
      have f3 := (hbr.cell (p := ⟨b, o + i * 5 + 3, none⟩) hub).trans e3
      have f4 := (hbr.cell (p := ⟨b, o + i * 5 + 4, none⟩) hub).trans e4
      have HX0 := Lib.hid exm
      have E2 := Lib.hid e2
      have HXP := Lib.hid (And.intro (exm.stay hbr (fun _ h => h)) (And.intro (exa.stay hbr (fun _ h => h)) (exk.stay hbr (fun _ h => h))))
      obtain ⟨A1, c1, rfl, hc1l⟩ := exm.form
      obtain ⟨A2, c2, rfl, _⟩ := exa.form
      obtain ⟨A3, c3, rfl, _⟩ := exk.form
      have HCW := Lib.hid (cutB_take_le ks (i + 1))
      generalize cutB (ks.take i) = out at *
      obtain ⟨Ao, co, rfl, hoc, hao⟩ := hown.form
      have HO := Lib.hid hown
      have hbl := cell_lt f0
      clear e0 e1 e2 e3 e4 exm exa exk hx hlx hrow hown hao
      cases hk : isTxt x.kind with
      | false =>
        have hk' : (x.kind.toList == [116, 101, 120, 116]) = false := hk
        have HST : Hid (cutOne x = [x]) := Lib.hid (by simp [cutOne, hk])
        have HLT := Lib.hid (own_push (W := wr) (fun _ h => h) HO.out hbr (Below.refl _ _) HXP.out.1 HXP.out.2.1 HXP.out.2.2)
        clear hk
        go_wp2_with (at_builtin; refine wpList_append_nodes rfl (.tmp 30) (.tmp 35) rfl W3.heap.size (Under W3.heap.size) _ _ out [x] rfl rfl HLT.out.1 HLT.out.2.1 HLT.out.2.2.1 (by simp only [List.length_cons, List.length_nil]; omega) HLT.out.2.2.2.1 ?_; intro v' w4 hown' hg hat; have hB4 := HLT.out.2.2.2.2 w4 hg; clear hg hat)
        exact ⟨⟨i + 1, by omega, by go_num, by rw [HCT.out, HST.out]; exact hown', hB4⟩, by simp [intOf]; omega⟩
      | true =>
        have hk' : (x.kind.toList == [116, 101, 120, 116]) = true := hk
        have hxt := text_le_weigh x
        obtain ⟨cr, obj, hrun, hcr, hcell⟩ := run_runes wr x.text (by omega)
        have HST : Hid (cutOne x = (pts x.text.data.toList).map (pieceT x.marks)) := Lib.hid (by simp [cutOne, hk])
        have hpl := pts_le x.text.data.toList
        have hpz := Lib.size_eq x.text
        have hpl2 : (pts x.text.data.toList).length ≤ 1000 := by omega
        generalize pts x.text.data.toList = ps at *
        have HXM : Hid (Strs W3 (Under W3.heap.size) (.slice A1 x.marks.length c1) x.marks) := HX0
        have HIN : Hid (TurnIn W3 wr.heap.size ps out (.slice Ao out.length co) (wr.alloc obj).drew) := Lib.hid ⟨HO.out.later ((Below.refl _ _).alloc (Nat.le_refl _) _).drew (fun b hb => Nat.lt_of_lt_of_le hb hbr.size), (hbr.alloc hbr.size _).drew, hcell, fun e => by have := (HO.out.block_ge _ e).2; omega, by show wr.heap.size < (wr.heap.push _).size; simp⟩
        clear hk hcell hpl hpz
        go_wp2
        clear hrun
        generalize hgg : wr.heap.size = g at *
        generalize (wr.alloc obj).drew = W4 at *
        clear hgg f0 f1 f2 f3 f4 hbl
        go_loopw [7, 10] (fun v j wq => ∃ n : Nat, n ≤ ps.length ∧ j = .int .i64 n ∧ TurnIn W3 g ps (out ++ (ps.take n).map (pieceT x.marks)) v wq) (fun _ j _ => ps.length - (intOf j).toNat)
        case atStart => exact ⟨0, by omega, rfl, by simpa using HIN.out⟩
        case round =>
          obtain ⟨n, hn, rfl, hown2, hbq, hcell, hog, hgl⟩ := hrel
          have hpt : ((ps.take n).map (pieceT x.marks)).length ≤ 1000 := by rw [List.length_map, List.length_take]; omega
          by_cases hlt2 : n < ps.length
          · have hpr : ps[n]? = some ps[n] := List.getElem?_eq_getElem hlt2
            have HPK : Hid (ps.take (n + 1) = ps.take n ++ [ps[n]]) := Lib.hid (List.take_succ_eq_append_getElem hlt2)
            generalize hr : ps[n] = r at *
            have hc1 := hcell n r hpr
            have f2 := (hbq.cell (p := ⟨b, o + i * 5 + 2, none⟩) hub).trans E2.out
            have hbl := cell_lt f2
            have HCELL := Lib.hid hcell
            have HTP := Lib.hid (turn_push (t := pieceT x.marks r) hown2 hbq HXM.out rfl rfl)
            have HLL : Hid (out ++ (ps.take (n + 1)).map (pieceT x.marks) = (out ++ (ps.take n).map (pieceT x.marks)) ++ [pieceT x.marks r]) := Lib.hid (by rw [HPK.out]; simp)
            have hLL : (out ++ (ps.take n).map (pieceT x.marks)).length + 1 ≤ 1000000 := by rw [List.length_append]; omega
            generalize out ++ (ps.take n).map (pieceT x.marks) = LL at *
            obtain ⟨Aq, cq, hvq, hqc, _⟩ := hown2.form
            subst hvq
            clear hcell hr hpr
            have hcv2 := fun c => run_piece wr.drew g n c r hc1
            have hn1 : IntKind.i64.wrap ((n : Int) + 1) = (n : Int) + 1 := IntWalk.i64_in _ (by omega)
            have hn2 : ((n : Int) + 1).toNat = n + 1 := by omega
            have hn3 : n + 1 ≤ cr := by omega
            have hn4 : n ≤ cr := by omega
            have hn5 : ¬ cr = n := by omega
            have hn6 : (0 : Int) ≤ (n : Int) + 1 := by omega
            have hn7 : (n : Int) + 1 ≤ (cr : Int) := by omega
            go_wp2_with fail
            go_region_law (refine step_append_nodes rfl (.tmp 49) (.tmp 62) rfl W3.heap.size (Under W3.heap.size) _ _ _ [pieceT x.marks r] rfl rfl HTP.out.1 HTP.out.2.1 HTP.out.2.2.1 (by simp only [List.length_cons, List.length_nil]; omega) HTP.out.2.2.2.1 ?_; intro v' w5 hown' hg hat; have hB5 := HTP.out.2.2.2.2 v' w5 hg hat; clear hg hat)
            all_goals
              go_wp2
              refine ⟨⟨n + 1, by omega, by go_num, ?_⟩, by simp [intOf]; omega⟩
              rw [HLL.out]
              have hk5 := hB5.2.2 g hgl hog
              exact ⟨hown', hB5.1, fun i r hr => (World.cell?_of_block (a := ⟨g, i, none⟩) hk5.1).trans (HCELL.out i r hr), hk5.2, by have := hB5.2.1; omega⟩
          · have hnn : n = ps.length := by omega
            subst hnn
            rw [List.take_length] at hown2
            have HOW2 := Lib.hid hown2
            obtain ⟨Aq, cq, hvq, hqc, _⟩ := hown2.form
            subst hvq
            clear hown2 hcell
            generalize hLL : out ++ ps.map (pieceT x.marks) = LL at *
            have HLL := Lib.hid hLL
            clear hLL
            go_wp2
            exact ⟨⟨i + 1, by omega, by go_num, by rw [HCT.out, HST.out, HLL.out]; exact ⟨HOW2.out, hbq⟩⟩, by simp [intOf]; omega⟩
    · have hii : i = ks.length := by omega
      subst hii
      rw [List.take_length] at hown hcl
      have HOW := Lib.hid hown
      obtain ⟨Ac, cc, rfl, hcc, hac⟩ := hown.form
      have HKC : Hid (Kids wr (Under wr.heap.size) (.slice Ac (cutB ks).length cc) (cutB ks)) := Lib.hid (hown.kids (fun b hb => Nat.lt_of_lt_of_le hb hbr.size) (fun g hg => (hown.block_ge g hg).2))
      have HJC := Lib.hid (cutB_join ks HROW.out)
      have HACA := Lib.hid hac
      clear hown hct hac
      generalize hC : cutB ks = C at *
      clear hC
      go_wp2_with fail
      refine (pick_any _ _ _ (by omega) (by omega) (by omega) (by omega)).mono ?_
      rintro e w' ⟨rfl, rfl⟩
      have p0 := pickN_lo at' ((C.length : Int) + 1) (by omega)
      have p1 := pickN_hi at' ((C.length : Int) + 1) (by omega)
      obtain ⟨t, ht⟩ : ∃ t : Nat, pickN at' ((C.length : Int) + 1) = t := ⟨(pickN at' ((C.length : Int) + 1)).toNat, by omega⟩
      have htl : t ≤ C.length := by omega
      rw [ht]
      clear ht p0 p1
      go_wp2_with fail
      have HXA : Hid (Below wr.heap.size wr wr.drew) := Lib.hid (Below.refl _ _).drew
      have HXB : Hid (Below wr.heap.size wr ((wr.alloc (Obj.cells #[] 26)).drew)) := Lib.hid ((Below.refl _ _).alloc (Nat.le_refl _) _).drew
      have HZB : Hid (wr.heap.size < ((wr.alloc (Obj.cells #[] 26)).drew).heap.size) := Lib.hid (by show wr.heap.size < (wr.heap.push _).size; simp)
      have HEB : Hid (((wr.alloc (Obj.cells #[] 26)).drew).heap[wr.heap.size]? = some (Obj.cells #[] 26)) := Lib.hid (heap_new _ _)
      have hwf : weighAll (C.take t) ≤ 1000000 := by have := weighAll_take C t; omega
      have hwb : weighAll (C.drop t) ≤ 1000000 := by have := weighAll_dropLe C t; omega
      have hwfb := weighAll_append (C.take t) (C.drop t)
      rw [List.take_append_drop] at hwfb
      have hj1 := joinB_weigh (C.take t)
      have hj2 := joinB_weigh (C.drop t)
      have hj3 := length_le_weigh (joinB (C.take t))
      have hj4 := length_le_weigh (joinB (C.drop t))
      have hl1 : (joinB (C.take t)).length ≤ 1000000 := by omega
      have hl2 : (joinB (C.take t)).length + (joinB (C.drop t)).length ≤ 1000000 := by omega
      have HPARTS : Hid (joinB (joinB (C.take t) ++ joinB (C.drop t)) = ks) := Lib.hid (by rw [joinB_parts, List.take_append_drop]; exact HJC.out)
      have HWP : Hid (weighAll (joinB (C.take t) ++ joinB (C.drop t)) ≤ 1000000) := Lib.hid (by rw [weighAll_append]; omega)
      clear hwfb hj1 hj2 hj3 hj4
      go_cut [12] (fun s12 wx => TwiceMid wr (joinB (C.take t) ++ joinB (C.drop t)) s12 wx)
      case first =>
        rcases HACA.out with ⟨hA0, hC0⟩ | ⟨g0, hA0, hg1, hg2⟩
        · subst hA0
          subst hC0
          obtain rfl : t = 0 := by simpa using htl
          have hcm : cc ≤ maxLen := by obtain ⟨_, _, hv, _, h, _⟩ := HKC.out; injection hv with _ _ hv; rw [hv]; exact h
          have HFk : Hid (Kids wr (Under wr.heap.size) (.slice none 0 cc) (([] : List Tree).take 0)) := Lib.hid ⟨_, cc, rfl, Nat.zero_le _, hcm, .inl rfl⟩
          have HBk : Hid (Kids wr (Under wr.heap.size) (.slice none 0 cc) (([] : List Tree).drop 0)) := Lib.hid ⟨_, cc, rfl, Nat.zero_le _, hcm, .inl rfl⟩
          rw [show (([] : List Tree).length : Int) = 0 from rfl, show ([] : List Tree).length = 0 from rfl, show ((0 : Nat) : Int) = 0 from rfl]
          clear hcm HKC htl
          go_region_law (first
            | ((with_reducible refine step_joinN (W5 := wr) (l := ([] : List Tree).take 0) rfl (.tmp 72) rfl (.slice none 0 cc) rfl HXA.out HFk.out hwf ?_); intro v6 w6 hk6 hb6 hB6; have HK6 := Lib.hid hk6; have HO6 := Lib.hid (one_alloc hk6 hB6); have hB6a := hB6.alloc hB6.size (.cells #[] 26); clear hk6 hb6)
            | ((with_reducible refine step_joinN (W5 := wr) (l := ([] : List Tree).take 0) rfl (.tmp 72) rfl (.slice none 0 cc) rfl HXB.out HFk.out hwf ?_); intro v6 w6 hk6 hb6 hB6; have HO6b := Lib.hid (one_before hk6 hB6 HZB.out ((hb6.block _ HZB.out).trans HEB.out)); clear hk6 hb6)
            | ((with_reducible refine step_one (W5 := wr) (x := v6) (L := joinB (([] : List Tree).take 0)) rfl (.tmp 69) (.tmp 73) rfl rfl rfl HO6.out hB6a hl1 ?_); intro v8 w8 hy8 hB8; have HO8 := Lib.hid hy8; clear hy8)
            | ((with_reducible refine step_one (W5 := wr) (x := v6) (L := joinB (([] : List Tree).take 0)) rfl (.tmp 69) (.tmp 73) rfl rfl rfl HO6b.out hB6 hl1 ?_); intro v8 w8 hy8 hB8; have HO8 := Lib.hid hy8; clear hy8)
            | ((with_reducible refine step_joinN (W5 := wr) (l := ([] : List Tree).drop 0) rfl (.tmp 77) rfl (.slice none 0 cc) rfl hB8 HBk.out hwb ?_); intro v7 w7 hk7 hb7 hB7; have HFIN := Lib.hid (fin_join HO8.out hB8 hb7 hk7); have hBF := hB7; clear hk7 hb7)
            | ((with_reducible refine step_joinN (W5 := wr) (l := ([] : List Tree).drop 0) rfl (.tmp 77) rfl (.slice none 0 cc) rfl hB6a HBk.out hwb ?_); intro v7 w7 hk7 hb7 hB7; have HT7 := Lib.hid (two_of_one HO6.out hB6a hb7 hk7); have hBT := hB7; clear hk7 hb7)
            | ((with_reducible refine step_joinN (W5 := wr) (l := ([] : List Tree).drop 0) rfl (.tmp 77) rfl (.slice none 0 cc) rfl hB6 HBk.out hwb ?_); intro v7 w7 hk7 hb7 hB7; have hBT := hB7; first | (have HT7 := Lib.hid (two_of_one HO6b.out hB6 hb7 hk7); clear hk7 hb7) | (have HT7a := Lib.hid (two_alloc HK6.out hB6 hb7 hk7); have hB7a := hB7.alloc hB7.size (.cells #[] 26); clear hk7 hb7))
            | ((with_reducible refine step_two (W5 := wr) (x := v6) (L := joinB (([] : List Tree).take 0)) rfl (.tmp 69) (.tmp 73) rfl rfl rfl HT7.out hBT hl1 ?_); intro v8 w8 hy8 hB8; have HFIN := Lib.hid hy8; have hBF := hB8; clear hy8)
            | ((with_reducible refine step_two (W5 := wr) (x := v6) (L := joinB (([] : List Tree).take 0)) rfl (.tmp 69) (.tmp 73) rfl rfl rfl HT7a.out hB7a hl1 ?_); intro v8 w8 hy8 hB8; have HFIN := Lib.hid hy8; have hBF := hB8; clear hy8)
            | ((with_reducible refine step_fin (W5 := wr) (v := v8) (x := v7) rfl (.tmp 74) (.tmp 78) rfl rfl rfl HFIN.out hBF hl2 ?_); intro v9 w9 hM; have HM := Lib.hid hM; clear hM))
          all_goals
            go_wp2_with fail
            go_meet
            exact HM.out
        · subst hA0
          have HFk : Hid (Kids wr (Under wr.heap.size) (.slice (some ⟨g0, 0, none⟩) t cc) (C.take t)) := Lib.hid (HKC.out.front htl)
          by_cases htc : t = cc
          · subst htc
            have HBk : Hid (Kids wr (Under wr.heap.size) (.slice (some ⟨g0, 0, none⟩) 0 0) (C.drop t)) := Lib.hid (by rw [List.drop_of_length_le (by omega)]; exact kids_empty _)
            go_region_law (first
              | ((with_reducible refine step_joinN (W5 := wr) (l := C.take t) rfl (.tmp 72) rfl (.slice (some ⟨g0, 0, none⟩) t t) rfl HXA.out HFk.out hwf ?_); intro v6 w6 hk6 hb6 hB6; have HK6 := Lib.hid hk6; have HO6 := Lib.hid (one_alloc hk6 hB6); have hB6a := hB6.alloc hB6.size (.cells #[] 26); clear hk6 hb6)
              | ((with_reducible refine step_joinN (W5 := wr) (l := C.take t) rfl (.tmp 72) rfl (.slice (some ⟨g0, 0, none⟩) t t) rfl HXB.out HFk.out hwf ?_); intro v6 w6 hk6 hb6 hB6; have HO6b := Lib.hid (one_before hk6 hB6 HZB.out ((hb6.block _ HZB.out).trans HEB.out)); clear hk6 hb6)
              | ((with_reducible refine step_one (W5 := wr) (x := v6) (L := joinB (C.take t)) rfl (.tmp 69) (.tmp 73) rfl rfl rfl HO6.out hB6a hl1 ?_); intro v8 w8 hy8 hB8; have HO8 := Lib.hid hy8; clear hy8)
              | ((with_reducible refine step_one (W5 := wr) (x := v6) (L := joinB (C.take t)) rfl (.tmp 69) (.tmp 73) rfl rfl rfl HO6b.out hB6 hl1 ?_); intro v8 w8 hy8 hB8; have HO8 := Lib.hid hy8; clear hy8)
              | ((with_reducible refine step_joinN (W5 := wr) (l := C.drop t) rfl (.tmp 77) rfl (.slice (some ⟨g0, 0, none⟩) 0 0) rfl hB8 HBk.out hwb ?_); intro v7 w7 hk7 hb7 hB7; have HFIN := Lib.hid (fin_join HO8.out hB8 hb7 hk7); have hBF := hB7; clear hk7 hb7)
              | ((with_reducible refine step_joinN (W5 := wr) (l := C.drop t) rfl (.tmp 77) rfl (.slice (some ⟨g0, 0, none⟩) 0 0) rfl hB6a HBk.out hwb ?_); intro v7 w7 hk7 hb7 hB7; have HT7 := Lib.hid (two_of_one HO6.out hB6a hb7 hk7); have hBT := hB7; clear hk7 hb7)
              | ((with_reducible refine step_joinN (W5 := wr) (l := C.drop t) rfl (.tmp 77) rfl (.slice (some ⟨g0, 0, none⟩) 0 0) rfl hB6 HBk.out hwb ?_); intro v7 w7 hk7 hb7 hB7; have hBT := hB7; first | (have HT7 := Lib.hid (two_of_one HO6b.out hB6 hb7 hk7); clear hk7 hb7) | (have HT7a := Lib.hid (two_alloc HK6.out hB6 hb7 hk7); have hB7a := hB7.alloc hB7.size (.cells #[] 26); clear hk7 hb7))
              | ((with_reducible refine step_two (W5 := wr) (x := v6) (L := joinB (C.take t)) rfl (.tmp 69) (.tmp 73) rfl rfl rfl HT7.out hBT hl1 ?_); intro v8 w8 hy8 hB8; have HFIN := Lib.hid hy8; have hBF := hB8; clear hy8)
              | ((with_reducible refine step_two (W5 := wr) (x := v6) (L := joinB (C.take t)) rfl (.tmp 69) (.tmp 73) rfl rfl rfl HT7a.out hB7a hl1 ?_); intro v8 w8 hy8 hB8; have HFIN := Lib.hid hy8; have hBF := hB8; clear hy8)
              | ((with_reducible refine step_fin (W5 := wr) (v := v8) (x := v7) rfl (.tmp 74) (.tmp 78) rfl rfl rfl HFIN.out hBF hl2 ?_); intro v9 w9 hM; have HM := Lib.hid hM; clear hM))
            all_goals
              go_wp2_with fail
              go_meet
              exact HM.out
          · have htc' : t < cc := by omega
            have hif : ¬ cc = t := by omega
            have htc2 : t ≤ cc := by omega
            have HBk : Hid (Kids wr (Under wr.heap.size) (.slice (some ⟨g0, t * 5, none⟩) (C.length - t) (cc - t)) (C.drop t)) := Lib.hid (by have h := HKC.out.back htl; rw [Nat.zero_add] at h; exact h)
            go_region_law (first
              | ((with_reducible refine step_joinN (W5 := wr) (l := C.take t) rfl (.tmp 72) rfl (.slice (some ⟨g0, 0, none⟩) t cc) rfl HXA.out HFk.out hwf ?_); intro v6 w6 hk6 hb6 hB6; have HK6 := Lib.hid hk6; have HO6 := Lib.hid (one_alloc hk6 hB6); have hB6a := hB6.alloc hB6.size (.cells #[] 26); clear hk6 hb6)
              | ((with_reducible refine step_joinN (W5 := wr) (l := C.take t) rfl (.tmp 72) rfl (.slice (some ⟨g0, 0, none⟩) t cc) rfl HXB.out HFk.out hwf ?_); intro v6 w6 hk6 hb6 hB6; have HO6b := Lib.hid (one_before hk6 hB6 HZB.out ((hb6.block _ HZB.out).trans HEB.out)); clear hk6 hb6)
              | ((with_reducible refine step_one (W5 := wr) (x := v6) (L := joinB (C.take t)) rfl (.tmp 69) (.tmp 73) rfl rfl rfl HO6.out hB6a hl1 ?_); intro v8 w8 hy8 hB8; have HO8 := Lib.hid hy8; clear hy8)
              | ((with_reducible refine step_one (W5 := wr) (x := v6) (L := joinB (C.take t)) rfl (.tmp 69) (.tmp 73) rfl rfl rfl HO6b.out hB6 hl1 ?_); intro v8 w8 hy8 hB8; have HO8 := Lib.hid hy8; clear hy8)
              | ((with_reducible refine step_joinN (W5 := wr) (l := C.drop t) rfl (.tmp 77) rfl (.slice (some ⟨g0, t * 5, none⟩) (C.length - t) (cc - t)) rfl hB8 HBk.out hwb ?_); intro v7 w7 hk7 hb7 hB7; have HFIN := Lib.hid (fin_join HO8.out hB8 hb7 hk7); have hBF := hB7; clear hk7 hb7)
              | ((with_reducible refine step_joinN (W5 := wr) (l := C.drop t) rfl (.tmp 77) rfl (.slice (some ⟨g0, t * 5, none⟩) (C.length - t) (cc - t)) rfl hB6a HBk.out hwb ?_); intro v7 w7 hk7 hb7 hB7; have HT7 := Lib.hid (two_of_one HO6.out hB6a hb7 hk7); have hBT := hB7; clear hk7 hb7)
              | ((with_reducible refine step_joinN (W5 := wr) (l := C.drop t) rfl (.tmp 77) rfl (.slice (some ⟨g0, t * 5, none⟩) (C.length - t) (cc - t)) rfl hB6 HBk.out hwb ?_); intro v7 w7 hk7 hb7 hB7; have hBT := hB7; first | (have HT7 := Lib.hid (two_of_one HO6b.out hB6 hb7 hk7); clear hk7 hb7) | (have HT7a := Lib.hid (two_alloc HK6.out hB6 hb7 hk7); have hB7a := hB7.alloc hB7.size (.cells #[] 26); clear hk7 hb7))
              | ((with_reducible refine step_two (W5 := wr) (x := v6) (L := joinB (C.take t)) rfl (.tmp 69) (.tmp 73) rfl rfl rfl HT7.out hBT hl1 ?_); intro v8 w8 hy8 hB8; have HFIN := Lib.hid hy8; have hBF := hB8; clear hy8)
              | ((with_reducible refine step_two (W5 := wr) (x := v6) (L := joinB (C.take t)) rfl (.tmp 69) (.tmp 73) rfl rfl rfl HT7a.out hB7a hl1 ?_); intro v8 w8 hy8 hB8; have HFIN := Lib.hid hy8; have hBF := hB8; clear hy8)
              | ((with_reducible refine step_fin (W5 := wr) (v := v8) (x := v7) rfl (.tmp 74) (.tmp 78) rfl rfl rfl HFIN.out hBF hl2 ?_); intro v9 w9 hM; have HM := Lib.hid hM; clear hM))
            all_goals
              go_wp2_with fail
              go_meet
              exact HM.out
      case rest =>
        obtain ⟨A9, c9, rfl, hk9, hb9⟩ := hcut
        have HK9 := Lib.hid hk9
        have hB9 : Below W3.heap.size W3 wc := belowNext hbr hb9
        generalize joinB (C.take t) ++ joinB (C.drop t) = P at *
        clear hk9
        go_wp2_with fail
        refine (join_any _ C wc ((HKC.out.below hb9).more hb9.size) (by omega)).mono ?_
        rintro e w6 ⟨v6, rfl, hk6, hb6⟩
        rw [HJC.out] at hk6
        have HK6 := Lib.hid hk6
        obtain ⟨A6, c6, rfl, _⟩ := hk6.form
        clear hk6
        have hB6 : Below W3.heap.size W3 w6 := belowNext hB9 hb6
        go_wp2_with fail
        refine (sameAll_any _ _ ks w6 HK6.out ((HK3.out.below hB6).more hB6.size) (by omega)).mono ?_
        rintro e w7 ⟨rfl, hb7⟩
        have hA7 := belowNext hb6 hb7
        go_wp2_with fail
        refine (join_any _ P w7 ((HK9.out.below hA7).more hA7.size) HWP.out).mono ?_
        rintro e w8 ⟨v8, rfl, hk8, hb8⟩
        rw [HPARTS.out] at hk8
        have HK8 := Lib.hid hk8
        obtain ⟨A8, c8, rfl, _⟩ := hk8.form
        clear hk8
        have hB8 : Below W3.heap.size W3 w8 := belowNext hB9 (belowNext hA7 hb8)
        go_wp2_with fail
        refine (sameAll_any _ _ ks w8 HK8.out ((HK3.out.below hB8).more hB8.size) (by omega)).mono ?_
        rintro e w10 ⟨rfl, hb10⟩
        have hBF := belowNext hB3 (belowNext hB8 hb10)
        go_wp2
        go_ret
        exact ⟨rfl, hBF⟩
end Go.Proofs.YtjfjmcdfomanfaaDoor
