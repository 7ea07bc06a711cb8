/-
  What the document's own Join answers.
-/
import Derived.Test.YtmmifednhleggaaW7
import Derived.Deep.RegionLaw
import Derived.Deep.DeepCutAuto
namespace Go.Proofs.Ytmmifednhleggaa
open Go.RowKit Go.Sort

def setText (t : Tree) (s : ByteArray) : Tree := .mk t.kind s t.marks t.attrs t.kids
def joinsOn (z n : Tree) : Bool := isTxt z.kind && sameL z.marks n.marks
def joinStep (out : List Tree) (n : Tree) : List Tree :=
  if isTxt n.kind && n.text.toList.isEmpty then out
  else match out.getLast? with
    | some z => if isTxt n.kind && joinsOn z n then out.dropLast ++ [setText n (z.text ++ n.text)] else out ++ [n]
    | none => out ++ [n]
def joinB (l : List Tree) : List Tree := l.foldl joinStep []

theorem joinB_snoc (l : List Tree) (x : Tree) : joinB (l ++ [x]) = joinStep (joinB l) x := by simp [joinB, List.foldl_append]
theorem weigh_setText (n : Tree) (s : ByteArray) : weigh (setText n s) + n.text.size = weigh n + s.size := by
  obtain ⟨k, t, m, a, l⟩ := n; simp only [setText, weigh, Tree.kind, Tree.text, Tree.marks, Tree.attrs, Tree.kids]; omega
theorem text_le_weigh (n : Tree) : n.text.size ≤ weigh n := by obtain ⟨k, t, m, a, l⟩ := n; simp only [weigh, Tree.text]; omega
theorem dropLast_getLast? {α : Type} {l : List α} {z : α} (h : l.getLast? = some z) : l = l.dropLast ++ [z] := by
  obtain ⟨l', rfl⟩ := List.getLast?_eq_some_iff.1 h
  simp
theorem joinStep_weigh (out : List Tree) (n : Tree) : weighAll (joinStep out n) ≤ weighAll out + weigh n := by
  unfold joinStep
  split
  · omega
  · split
    · rename_i z hz
      split
      · have h := dropLast_getLast? hz
        have h1 := congrArg weighAll h
        rw [weighAll_append] at h1 ⊢
        simp only [weighAll] at h1 ⊢
        have h2 := weigh_setText n (z.text ++ n.text)
        have h3 := text_le_weigh z
        have h4 : (z.text ++ n.text).size = z.text.size + n.text.size := ByteArray.size_append
        omega
      · rw [weighAll_append]; simp only [weighAll]; omega
    · rw [weighAll_append]; simp only [weighAll]; omega
theorem joinFold_weigh : ∀ (l out : List Tree), weighAll (l.foldl joinStep out) ≤ weighAll out + weighAll l
  | [], out => by simp [weighAll]
  | x :: l, out => by
    have h := joinFold_weigh l (joinStep out x)
    have h2 := joinStep_weigh out x
    simp only [List.foldl_cons, weighAll]; omega
theorem joinB_weigh (l : List Tree) : weighAll (joinB l) ≤ weighAll l := by have := joinFold_weigh l []; simp only [weighAll] at this; unfold joinB; omega

def JoinPost (w : World) (S : Nat → Prop) (l : List Tree) (e : Ending) (w' : World) : Prop := ∃ v', e = .returned v' ∧ Own w' w.heap.size S v' l ∧ Below w.heap.size w w'

/-- What a round of Join holds: the row so far. -/
def JoinRel (w : World) (S : Nat → Prop) (l : List Tree) (v : Value) (wr : World) : Prop := Own wr w.heap.size S v l ∧ Below w.heap.size w wr

theorem own_nil (w : World) (base : Nat) (S : Nat → Prop) : Own w base S (.slice none 0 0) [] := ⟨[], ⟨rfl, .inl ⟨rfl, rfl⟩⟩, rfl⟩
theorem Own.form {w : World} {base : Nat} {S : Nat → Prop} {v : Value} {l : List Tree} (h : Own w base S v l) :
    ∃ A c, v = .slice A l.length c ∧ l.length ≤ c ∧ (A = none ∧ l = [] ∨ ∃ g, A = some ⟨g, 0, none⟩ ∧ base ≤ g ∧ g < w.heap.size) := by
  obtain ⟨xs, ⟨_, ho⟩, hc⟩ := h
  rcases ho with ⟨rfl, hn⟩ | ⟨g, cap, cur, rfl, hb, hh, hnc, _⟩
  · have : l = [] := List.eq_nil_of_length_eq_zero hn
    subst this
    exact ⟨none, 0, rfl, Nat.le_refl _, .inl ⟨rfl, rfl⟩⟩
  · refine ⟨_, cap, rfl, hnc, .inr ⟨g, rfl, hb, ?_⟩⟩
    rcases Nat.lt_or_ge g w.heap.size with h | h
    · exact h
    · rw [Array.getElem?_eq_none h] at hh; cases hh

theorem Own.later {w w' : World} {base : Nat} {S : Nat → Prop} {v : Value} {l : List Tree} (h : Own w base S v l) (hb : Below w.heap.size w w') (hS : ∀ b, S b → b < w.heap.size) : Own w' base S v l := by
  obtain ⟨xs, ⟨hl, ho⟩, hc⟩ := h
  refine ⟨xs, ⟨hl, ?_⟩, hc.keep (fun _ h => h) fun b hb' => hb.block b (hS b hb')⟩
  rcases ho with h | ⟨g, cap, cur, rfl, hg, hh, hr⟩
  · exact .inl h
  · refine .inr ⟨g, cap, cur, rfl, hg, ?_, hr⟩
    rw [hb.block g, hh]
    rcases Nat.lt_or_ge g w.heap.size with h | h
    · exact h
    · rw [Array.getElem?_eq_none h] at hh; cases hh
theorem src_one {w : World} {S : Nat → Prop} {x : Tree} {vm va vk : Value} {g c : Nat} (hm : Strs w S vm x.marks) (ha : Pairs w S va x.attrs) (hk : Kids w S vk x.kids)
    (c0 : w.cell? ⟨g, 0, none⟩ = some (.string x.kind)) (c1 : w.cell? ⟨g, 1, none⟩ = some (.string x.text)) (c2 : w.cell? ⟨g, 2, none⟩ = some vm) (c3 : w.cell? ⟨g, 3, none⟩ = some va) (c4 : w.cell? ⟨g, 4, none⟩ = some vk) :
    Src w S (.slice (some ⟨g, 0, none⟩) 1 c) [x] :=
  ⟨_, c, _, rfl, Cells.one hm ha hk, .inr ⟨g, 0, rfl, fun j u hj => by
    match j, hj with
    | 0, hj => simp at hj; subst hj; exact c0
    | 1, hj => simp at hj; subst hj; exact c1
    | 2, hj => simp at hj; subst hj; exact c2
    | 3, hj => simp at hj; subst hj; exact c3
    | 4, hj => simp at hj; subst hj; exact c4
    | j + 5, hj => simp at hj⟩⟩

theorem joinStep_empty {out : List Tree} {n : Tree} (h : isTxt n.kind = true) (ht : n.text.toList.isEmpty = true) : joinStep out n = out := by
  unfold joinStep; rw [h, ht]; rfl
theorem joinStep_first {n : Tree} (ht : n.text.toList.isEmpty = false) : joinStep [] n = [n] := by
  unfold joinStep; rw [ht]; simp
theorem joinStep_other {out : List Tree} {n z : Tree} (hz : out.getLast? = some z) (ht : n.text.toList.isEmpty = false) (h : joinsOn z n = false) : joinStep out n = out ++ [n] := by
  unfold joinStep; rw [ht, hz]; simp [h]
theorem joinStep_on {out : List Tree} {n z : Tree} (hz : out.getLast? = some z) (hk : isTxt n.kind = true) (ht : n.text.toList.isEmpty = false) (h : joinsOn z n = true) : joinStep out n = out.dropLast ++ [setText n (z.text ++ n.text)] := by
  unfold joinStep; rw [ht, hz, hk]; simp [h]
theorem joinStep_plain {out : List Tree} {n : Tree} (h : isTxt n.kind = false) : joinStep out n = out ++ [n] := by
  unfold joinStep; rw [h]; cases out.getLast? <;> simp

theorem same_drawn {W : World} {S S' : Nat → Prop} {va vb : Value} {a b : List ByteArray} (ha : Strs W S va a) (hb : Strs W S' vb b) (hwa : weighL a ≤ 1000000) (n : Nat) :
    Calls Try.prog 31 #[va, vb] (W.drewN n) fun e w' => e = .returned (.bool (sameL a b)) ∧ ∃ m, w' = (W.drewN n).drewN m :=
  sameNames_any va vb a b S S' (W.drewN n) (ha.keep (fun _ h => h) fun _ _ => rfl) (hb.keep (fun _ h => h) fun _ _ => rfl) hwa
theorem sameNames_res {P : Program} {f : FuncId} {args : Array Value} {w : World} {x y : Bool} (h : Calls P f args w fun e w' => e = .returned (.bool x) ∧ ∃ m, w' = w.drewN m) (hx : x = y) :
    Calls P f args w fun e w' => e = .returned (.bool y) ∧ ∃ m, w' = w.drewN m := by subst hx; exact h

theorem cell_set {w : World} {g o : Nat} {v : Value} (h : w.cell? ⟨g, o, none⟩ = some v) (u : Value) : (w.setCell ⟨g, o, none⟩ u).cell? ⟨g, o, none⟩ = some u := by
  unfold World.cell? at h ⊢
  simp only [World.setCell, Array.getElem?_modify]
  cases hh : w.heap[g]? with
  | none => simp [hh] at h
  | some x =>
    cases x with
    | cells c e f =>
      simp [hh] at h
      have hlt : o < c.size := by
        rcases Nat.lt_or_ge o c.size with h' | h'
        · exact h'
        · rw [Array.getElem?_eq_none h'] at h; cases h
      simp [hlt]
    | _ => simp [hh] at h

/-- What stands at 'append(out, n)', n just laid as a literal. -/
theorem Strs.stay {B : Nat} {w w' : World} {S : Nat → Prop} {v : Value} {l : List ByteArray} (h : Strs w S v l) (hb : Below B w w') (hS : ∀ b, S b → b < B) : Strs w' S v l := h.keep (fun _ h => h) fun b h => hb.block b (hS b h)
theorem Pairs.stay {B : Nat} {w w' : World} {S : Nat → Prop} {v : Value} {l : List (ByteArray × ByteArray)} (h : Pairs w S v l) (hb : Below B w w') (hS : ∀ b, S b → b < B) : Pairs w' S v l := h.keep (fun _ h => h) fun b h => hb.block b (hS b h)
theorem Kids.stay {B : Nat} {w w' : World} {S : Nat → Prop} {v : Value} {l : List Tree} (h : Kids w S v l) (hb : Below B w w') (hS : ∀ b, S b → b < B) : Kids w' S v l := h.keep (fun _ h => h) fun b h => hb.block b (hS b h)
theorem own_push {S : Nat → Prop} {w wr W : World} (hS : ∀ b, S b → b < w.heap.size) {v : Value} {out : List Tree} {x : Tree} {vm va vk : Value} (ho : Own wr w.heap.size S v out) (hbr : Below w.heap.size w wr) (hb : Below wr.heap.size wr W)
    (hm : Strs wr S vm x.marks) (ha : Pairs wr S va x.attrs) (hk : Kids wr S vk x.kids) :
    Own (W.alloc (.cells #[.string x.kind, .string x.text, vm, va, vk] 31)) w.heap.size S v out ∧
    Src (W.alloc (.cells #[.string x.kind, .string x.text, vm, va, vk] 31)) S (.slice (some ⟨W.heap.size, 0, none⟩) 1 1) [x] ∧
    (∀ b, S b → b < (W.alloc (.cells #[.string x.kind, .string x.text, vm, va, vk] 31)).heap.size ∧ some b ≠ v.ownBlock) ∧
    w.heap.size ≤ (W.alloc (.cells #[.string x.kind, .string x.text, vm, va, vk] 31)).heap.size ∧
    (∀ (w' : World), (W.alloc (.cells #[.string x.kind, .string x.text, vm, va, vk] 31)).grownBy w' v.ownBlock → Below w.heap.size w w') := by
  have hB : Below wr.heap.size wr (W.alloc (.cells #[.string x.kind, .string x.text, vm, va, vk] 31)) := hb.alloc hb.size _
  have hBw : Below w.heap.size w (W.alloc (.cells #[.string x.kind, .string x.text, vm, va, vk] 31)) := belowNext hbr hB
  have hB' : Below w.heap.size wr (W.alloc (.cells #[.string x.kind, .string x.text, vm, va, vk] 31)) := hB.mono hbr.size
  obtain ⟨c0, c1, c2, c3, c4, _, _⟩ := box5 (w := W) (Below.refl _ (W.alloc (.cells #[.string x.kind, .string x.text, vm, va, vk] 31)))
  have hv : ∀ k, v.ownBlock = some k → w.heap.size ≤ k := fun k hk => by
    obtain ⟨A, c, rfl, _, hA⟩ := ho.form
    rcases hA with ⟨rfl, _⟩ | ⟨g, rfl, hg, _⟩
    · cases hk
    · simp [Value.ownBlock] at hk; omega
  refine ⟨ho.later hB (fun b hb' => Nat.lt_of_lt_of_le (hS b hb') hbr.size), src_one (hm.stay hB' hS) (ha.stay hB' hS) (hk.stay hB' hS) c0 c1 c2 c3 c4, fun b hb' => ⟨Nat.lt_of_lt_of_le (hS b hb') hBw.size, fun e => ?_⟩, hBw.size, fun w' hg => hBw.grown hg hBw.size hv⟩
  have := hv b e.symm
  have := hS b hb'; omega

theorem Cells.take {w : World} {S : Nat → Prop} : ∀ {l : List Tree} {xs : List Value} (k : Nat), Cells w S l xs → Cells w S (l.take k) (xs.take (k * 5))
  | [], _, k, h => by simp only [Cells] at h; subst h; simp [Cells]
  | t :: l, _, 0, _ => by simp [Cells]
  | t :: l, _, k + 1, ⟨vm, va, vk, ys, e, hm, ha, hk, h⟩ => by
    subst e
    rw [show (k + 1) * 5 = k * 5 + 5 by omega]
    exact ⟨vm, va, vk, ys.take (k * 5), rfl, hm, ha, hk, Cells.take k h⟩
theorem Own.pre {w : World} {base : Nat} {S : Nat → Prop} {g n co : Nat} {l : List Tree} (h : Own w base S (.slice (some ⟨g, 0, none⟩) n co) l) (k : Nat) (hk : k ≤ l.length) : Src w S (.slice (some ⟨g, 0, none⟩) k co) (l.take k) := by
  obtain ⟨xs, ⟨hl, ho⟩, hc⟩ := h
  rcases ho with ⟨h, _⟩ | ⟨g', cap, cur, hv, _, hh, _, _, _, htk⟩
  · cases h
  · injection hv with h1 h2 h3
    injection h1 with h1
    injection h1 with h1 _ _
    subst h1 h3
    refine ⟨_, co, xs.take (k * 5), by rw [List.length_take, Nat.min_eq_left hk], hc.take k, .inr ⟨g, 0, rfl, fun j u hj => ?_⟩⟩
    have hj1 : j < k * 5 := by
      have := (List.getElem?_eq_some_iff.1 hj).1
      simp at this; omega
    rw [List.getElem?_take_of_lt hj1] at hj
    subst htk
    rw [List.getElem?_take_of_lt (by have := Nat.mul_le_mul_right 5 hk; omega)] at hj
    simp only [World.cell?, hh]
    simpa using hj
theorem own_empty {W : World} {base e : Nat} {S : Nat → Prop} (hE : W.heap[e]? = some (.cells #[] 31)) (he : base ≤ e) : Own W base S (.slice (some ⟨e, 0, none⟩) 0 0) [] :=
  ⟨[], ⟨rfl, .inr ⟨e, 0, #[], rfl, he, hE, Nat.le_refl _, by unfold maxLen; omega, rfl, rfl⟩⟩, rfl⟩

section
variable {ops : Array Oper} {o : Oper} {a : Act} {K : Act → World → Prop} {Q : Exit → Act → World → Prop} {E : Prop}
/-- append([]Node, out[:last]...) -/
theorem step_first {S : Nat → Prop} {w wr W : World} {g e co : Nat} {out : List Tree} (hS : ∀ b, S b → b < w.heap.size) (hgd : o.guard = none) (s x : Operand) (ho : o.op = .call { callee := .builtin .append, args := #[s, x], argTypes := #[29, 29] })
    (hv : a.eval s = .slice (some ⟨e, 0, none⟩) 0 0) (hx : a.eval x = .slice (some ⟨g, 0, none⟩) (out.length - 1) co)
    (hE : W.heap[e]? = some (.cells #[] 31)) (he : wr.heap.size ≤ e) (hB : Below wr.heap.size wr W) (hbr : Below w.heap.size w wr)
    (hO : Own wr w.heap.size S (.slice (some ⟨g, 0, none⟩) out.length co) out) (hlen : out.length ≤ 1000000)
    (h : ∀ v' w', Own w' w.heap.size S v' out.dropLast → Below wr.heap.size wr w' → (∀ g o v, W.cell? ⟨g, o, none⟩ = some v → g ≠ e → w'.cell? ⟨g, o, none⟩ = some v) → K (a.put o.dst v') w') :
    if Region.wanted o (yielded ops a.tmps) = true then Oper.wp Try.prog o a W K Q else E := by
  have hsz := hbr.size
  have hBw := belowNext hbr hB
  refine step_append_nodes hgd s x ho w.heap.size S _ _ [] out.dropLast hv hx (own_empty hE (by omega)) ?_ (fun b hb => ⟨Nat.lt_of_lt_of_le (hS b hb) hBw.size, fun h => ?_⟩) ?_ hBw.size ?_
  · have := (hO.later hB (fun b hb => Nat.lt_of_lt_of_le (hS b hb) hsz)).pre (out.length - 1) (by omega)
    rwa [← List.dropLast_eq_take] at this
  · have := hS b hb; simp [Value.ownBlock] at h; omega
  · simp; omega
  · intro v' w' h1 h2 _
    have h2' : W.grownBy w' (some e) := h2
    refine h v' w' (by simpa using h1) (hB.grown h2' hB.size (fun k hk => by injection hk with hk; omega)) fun g o v hc hn => ?_
    exact (World.cell?_of_block (a := ⟨g, o, none⟩) (h2'.block g (cell_lt hc) (fun h => hn (Option.some.inj h)))).trans hc
/-- append(.., n) -/
theorem step_second {S : Nat → Prop} {w wr W : World} {xb : Nat} {v vm va vk : Value} {l : List Tree} {t : Tree} {kd tx : ByteArray} (hS : ∀ b, S b → b < w.heap.size) (hkd : t.kind = kd) (htx : t.text = tx) (hgd : o.guard = none) (s x : Operand) (ho : o.op = .call { callee := .builtin .append, args := #[s, x], argTypes := #[29, 29] })
    (hv : a.eval s = v) (hx : a.eval x = .slice (some ⟨xb, 0, none⟩) 1 1) (hO : Own W w.heap.size S v l) (hB : Below wr.heap.size wr W) (hbr : Below w.heap.size w wr)
    (hm : Strs wr S vm t.marks) (ha : Pairs wr S va t.attrs) (hk : Kids wr S vk t.kids)
    (c0 : W.cell? ⟨xb, 0, none⟩ = some (.string kd)) (c1 : W.cell? ⟨xb, 1, none⟩ = some (.string tx)) (c2 : W.cell? ⟨xb, 2, none⟩ = some vm) (c3 : W.cell? ⟨xb, 3, none⟩ = some va) (c4 : W.cell? ⟨xb, 4, none⟩ = some vk)
    (hlen : l.length + 1 ≤ 1000000) (h : ∀ v' w', Own w' w.heap.size S v' (l ++ [t]) → Below w.heap.size w w' → K (a.put o.dst v') w') :
    if Region.wanted o (yielded ops a.tmps) = true then Oper.wp Try.prog o a W K Q else E := by
  subst hkd htx
  have hBw := belowNext hbr hB
  have hB' : Below w.heap.size wr W := hB.mono hbr.size
  have hown : ∀ k, v.ownBlock = some k → w.heap.size ≤ k := fun k hk => by
    obtain ⟨A, c, rfl, _, hA⟩ := hO.form
    rcases hA with ⟨rfl, _⟩ | ⟨g, rfl, hg, _⟩
    · cases hk
    · simp [Value.ownBlock] at hk; omega
  refine step_append_nodes hgd s x ho w.heap.size S _ _ l [t] hv hx hO (src_one (hm.stay hB' hS) (ha.stay hB' hS) (hk.stay hB' hS) c0 c1 c2 c3 c4) (fun b hb => ⟨Nat.lt_of_lt_of_le (hS b hb) hBw.size, fun h => ?_⟩) (by simpa using hlen) hBw.size ?_
  · have := hown b h.symm; have := hS b hb; omega
  · intro v' w' h1 h2 _
    exact h v' w' h1 (hBw.grown h2 hBw.size hown)
end

section
variable {ops : Array Oper} {o : Oper} {a : Act} {K : Act → World → Prop} {Q : Exit → Act → World → Prop} {E : Prop}
/-- append(.., n), n just laid. -/
theorem step_second_new {S : Nat → Prop} {w wr W : World} {v vm va vk : Value} {l : List Tree} {t : Tree} {kd tx : ByteArray} (hS : ∀ b, S b → b < w.heap.size) (hkd : t.kind = kd) (htx : t.text = tx) (hgd : o.guard = none) (s x : Operand) (ho : o.op = .call { callee := .builtin .append, args := #[s, x], argTypes := #[29, 29] })
    (hv : a.eval s = v) (hx : a.eval x = .slice (some ⟨W.heap.size, 0, none⟩) 1 1) (hO : Own W w.heap.size S v l) (hB : Below wr.heap.size wr W) (hbr : Below w.heap.size w wr)
    (hm : Strs wr S vm t.marks) (ha : Pairs wr S va t.attrs) (hk : Kids wr S vk t.kids)
    (hlen : l.length + 1 ≤ 1000000) (h : ∀ v' w', Own w' w.heap.size S v' (l ++ [t]) → Below w.heap.size w w' → K (a.put o.dst v') w') :
    if Region.wanted o (yielded ops a.tmps) = true then Oper.wp Try.prog o a (W.alloc (.cells #[.string kd, .string tx, vm, va, vk] 31)) K Q else E := by
  obtain ⟨c0, c1, c2, c3, c4, hb, _⟩ := box5 (w := W) (Below.refl _ (W.alloc (.cells #[.string kd, .string tx, vm, va, vk] 31)))
  exact step_second hS hkd htx hgd s x ho hv hx (hO.later hb (fun b hb' => Nat.lt_of_lt_of_le (hS b hb') (Nat.le_trans hbr.size hB.size))) (hB.alloc hB.size _) hbr hm ha hk c0 c1 c2 c3 c4 hlen h
end

theorem boxAt {W : World} {g : Nat} {v0 v1 v2 v3 v4 : Value} {T : TypeId} (hg : W.heap.size = g) :
    (W.alloc (.cells #[v0, v1, v2, v3, v4] T)).cell? ⟨g, 0, none⟩ = some v0 ∧ (W.alloc (.cells #[v0, v1, v2, v3, v4] T)).cell? ⟨g, 1, none⟩ = some v1 ∧ (W.alloc (.cells #[v0, v1, v2, v3, v4] T)).cell? ⟨g, 2, none⟩ = some v2 ∧
      (W.alloc (.cells #[v0, v1, v2, v3, v4] T)).cell? ⟨g, 3, none⟩ = some v3 ∧ (W.alloc (.cells #[v0, v1, v2, v3, v4] T)).cell? ⟨g, 4, none⟩ = some v4 := by
  subst hg
  obtain ⟨c0, c1, c2, c3, c4, _, _⟩ := box5 (w := W) (Below.refl _ (W.alloc (.cells #[v0, v1, v2, v3, v4] T)))
  exact ⟨c0, c1, c2, c3, c4⟩
theorem boxAt_under {W : World} {g : Nat} {v0 v1 v2 v3 v4 : Value} {T : TypeId} (hg : W.heap.size = g) (ob : Obj) :
    ((W.alloc (.cells #[v0, v1, v2, v3, v4] T)).alloc ob).cell? ⟨g, 0, none⟩ = some v0 ∧ ((W.alloc (.cells #[v0, v1, v2, v3, v4] T)).alloc ob).cell? ⟨g, 1, none⟩ = some v1 ∧ ((W.alloc (.cells #[v0, v1, v2, v3, v4] T)).alloc ob).cell? ⟨g, 2, none⟩ = some v2 ∧
      ((W.alloc (.cells #[v0, v1, v2, v3, v4] T)).alloc ob).cell? ⟨g, 3, none⟩ = some v3 ∧ ((W.alloc (.cells #[v0, v1, v2, v3, v4] T)).alloc ob).cell? ⟨g, 4, none⟩ = some v4 := by
  obtain ⟨c0, c1, c2, c3, c4⟩ := boxAt (v0 := v0) (v1 := v1) (v2 := v2) (v3 := v3) (v4 := v4) (T := T) hg
  have hb : Below (W.alloc (.cells #[v0, v1, v2, v3, v4] T)).heap.size (W.alloc (.cells #[v0, v1, v2, v3, v4] T)) ((W.alloc (.cells #[v0, v1, v2, v3, v4] T)).alloc ob) := (Below.refl _ _).alloc (Nat.le_refl _) _
  exact ⟨cell_kept c0 hb, cell_kept c1 hb, cell_kept c2 hb, cell_kept c3 hb, cell_kept c4 hb⟩

theorem heap_new (W : World) (ob : Obj) : (W.alloc ob).heap[W.heap.size]? = some ob := by show (W.heap.push _)[W.heap.size]? = _; simp
theorem heap_new' (W : World) (ob : Obj) {g : Nat} (hg : W.heap.size = g) : (W.alloc ob).heap[g]? = some ob := by subst hg; exact heap_new W ob
theorem heap_old (W : World) (ob x : Obj) {g : Nat} (h : W.heap[g]? = some x) : (W.alloc ob).heap[g]? = some x :=
  (Below.heap_alloc W ob g (by rcases Nat.lt_or_ge g W.heap.size with h' | h'; exact h'; rw [Array.getElem?_eq_none h'] at h; cases h)).trans h

set_option maxHeartbeats 2000000 in
theorem refJoin_any (v : Value) (l : List Tree) (S : Nat → Prop) (w : World) (h : Kids w S v l) (hS : ∀ b, S b → b < w.heap.size) (hw : weighAll l ≤ 1000000) :
    Calls Try.prog 34 #[v] w (JoinPost w S (joinB l)) := by
  have hlen : l.length ≤ 1000000 := by have := length_le_weigh l; omega
  obtain ⟨A, c, rfl, hlc⟩ := h.form
  have HL := Lib.hid h
  have HS := Lib.hid hS
  clear h hS
  go_enter Try.func34, Try.ntmps34
  go_wp2
  go_loopw [3, 4] (fun v i wr => ∃ k : Nat, k ≤ l.length ∧ i = .int .i64 k ∧ JoinRel w S (joinB (l.take k)) v wr) (fun _ i _ => l.length - (intOf i).toNat)
  case atStart => exact ⟨0, by omega, rfl, own_nil _ _ _, Below.refl _ _⟩
  case round =>
    obtain ⟨i, hi, rfl, hown, hbr⟩ := hrel
    by_cases hlt : i < l.length
    · obtain ⟨b, o, rfl, hub, hrow⟩ := HL.out.get hlt
      have hub := HS.out b hub
      have hlx : l[i]? = some l[i] := List.getElem?_eq_getElem hlt
      have HTK : Hid (l.take (i + 1) = l.take i ++ [l[i]]) := Lib.hid (List.take_succ_eq_append_getElem hlt)
      generalize hx : l[i] = x at *
      have hwx := weighAll_take_get l i x HTK.out
      obtain ⟨xm, xa, xk, e0, e1, e2, e3, e4, exm, exa, exk⟩ := hrow.node hlx
      have f0 := (hbr.cell (p := ⟨b, o + i * 5, none⟩) hub).trans e0
      have f1 := (hbr.cell (p := ⟨b, o + i * 5 + 1, none⟩) hub).trans e1
      have f2 := (hbr.cell (p := ⟨b, o + i * 5 + 2, none⟩) hub).trans e2
      have f3 := (hbr.cell (p := ⟨b, o + i * 5 + 3, none⟩) hub).trans e3
      have f4 := (hbr.cell (p := ⟨b, o + i * 5 + 4, none⟩) hub).trans e4
      have HXP := Lib.hid (And.intro (exm.stay hbr HS.out) (And.intro (exa.stay hbr HS.out) (exk.stay hbr HS.out)))
      obtain ⟨A1, c1, rfl, _⟩ := exm.form
      obtain ⟨A2, c2, rfl, _⟩ := exa.form
      obtain ⟨A3, c3, rfl, _⟩ := exk.form
      have hjw := joinB_weigh (l.take i)
      have hjl := length_le_weigh (joinB (l.take i))
      have hwt := weighAll_take l i
      have HJ : Hid (joinB (l.take (i + 1)) = joinStep (joinB (l.take i)) x) := Lib.hid (by rw [HTK.out, joinB_snoc])
      generalize joinB (l.take i) = out at *
      obtain ⟨Ao, co, rfl, hoc, hao⟩ := hown.form
      have HO := Lib.hid hown
      have HAO := Lib.hid hao
      clear e0 e1 e2 e3 e4 exm exa exk hx hlx hrow hown hao
      have HBX := Lib.hid (box5 (w := wr) (Below.refl _ (wr.alloc (.cells #[.string x.kind, .string x.text, .slice A1 x.marks.length c1, .slice A2 x.attrs.length c2, .slice A3 x.kids.length c3] 31))))
      have HFZ : Hid ((wr.alloc (.cells #[.string x.kind, .string x.text, .slice A1 x.marks.length c1, .slice A2 x.attrs.length c2, .slice A3 x.kids.length c3] 31)).frozen? ⟨wr.heap.size, 1, none⟩ = false) := Lib.hid (by simp [go_sem])
      cases hk : isTxt x.kind with
      | false =>
        have hk' : (x.kind.toList == [116, 101, 120, 116]) = false := hk
        have HST : Hid (joinStep out x = out ++ [x]) := Lib.hid (joinStep_plain hk)
        go_wp2
        generalize hW1 : wr.alloc (.cells #[.string x.kind, .string x.text, .slice A1 x.marks.length c1, .slice A2 x.attrs.length c2, .slice A3 x.kids.length c3] 31) = W1 at *
        obtain ⟨x0, x1, x2, x3, x4, hbw, hzw⟩ := HBX.out
        clear hW1 f0 f1 f2 f3 f4 HBX
        go_quiet (fail)
        have hb2 : Below wr.heap.size wr (W1.drewN nq) := ⟨hbw.os, hbw.tape, hbw.output, hbw.size, hbw.block⟩
        have y0 : (W1.drewN nq).cell? ⟨wr.heap.size, 0, none⟩ = _ := x0
        have y1 : (W1.drewN nq).cell? ⟨wr.heap.size, 1, none⟩ = _ := x1
        have y2 : (W1.drewN nq).cell? ⟨wr.heap.size, 2, none⟩ = _ := x2
        have y3 : (W1.drewN nq).cell? ⟨wr.heap.size, 3, none⟩ = _ := x3
        have y4 : (W1.drewN nq).cell? ⟨wr.heap.size, 4, none⟩ = _ := x4
        have hz2 : wr.heap.size < (W1.drewN nq).heap.size := hzw
        generalize W1.drewN nq = W2 at *
        clear x0 x1 x2 x3 x4 hbw hzw
        have HLT := Lib.hid (own_push (W := W2) HS.out HO.out hbr hb2 HXP.out.1 HXP.out.2.1 HXP.out.2.2)
        clear hk hk'
        go_wp2_with (at_builtin; refine wpList_append_nodes rfl (.tmp 70) (.tmp 72) rfl w.heap.size S _ _ out [x] rfl rfl HLT.out.1 HLT.out.2.1 HLT.out.2.2.1 (by simp only [List.length_cons, List.length_nil]; omega) HLT.out.2.2.2.1 ?_; intro v' w3 hown' hg hat; have hB3 := HLT.out.2.2.2.2 w3 hg; clear hg hat)
        exact ⟨⟨i + 1, by omega, by go_num, by rw [HJ.out, HST.out]; exact hown', hB3⟩, by simp [intOf]; omega⟩
      | true =>
        have hk' : (x.kind.toList == [116, 101, 120, 116]) = true := hk
        cases ht : x.text.toList.isEmpty with
        | true =>
          have HST : Hid (joinStep out x = out) := Lib.hid (joinStep_empty hk ht)
          go_wp2
          obtain ⟨_, _, _, _, _, hbw, _⟩ := HBX.out
          exact ⟨⟨i + 1, by omega, by go_num, by rw [HJ.out, HST.out]; exact HO.out.later hbw (fun b hb' => Nat.lt_of_lt_of_le (HS.out b hb') hbr.size), belowNext hbr hbw⟩, by simp [intOf]; omega⟩
        | false =>
          cases hz : out.getLast? with
          | none =>
            have hout : out = [] := List.getLast?_eq_none_iff.1 hz
            have HST : Hid (joinStep out x = out ++ [x]) := Lib.hid (by rw [hout]; exact joinStep_first ht)
            have hl0 : out.length = 0 := by rw [hout]; rfl
            have q0 : decide (1 ≤ (out.length : Int)) = false := by simp; omega
            have q1 : decide (0 ≤ (out.length : Int) - 1) = false := by simp; omega
            clear hout hz
            have HL0 := Lib.hid hl0
            clear hl0
            go_wp2
            generalize hW1 : wr.alloc (.cells #[.string x.kind, .string x.text, .slice A1 x.marks.length c1, .slice A2 x.attrs.length c2, .slice A3 x.kids.length c3] 31) = W1 at *
            obtain ⟨x0, x1, x2, x3, x4, hbw, hzw⟩ := HBX.out
            clear hW1 f0 f1 f2 f3 f4 HBX
            go_quiet (fail)
            have hb2 : Below wr.heap.size wr (W1.drewN nq) := ⟨hbw.os, hbw.tape, hbw.output, hbw.size, hbw.block⟩
            have y0 : (W1.drewN nq).cell? ⟨wr.heap.size, 0, none⟩ = _ := x0
            have y1 : (W1.drewN nq).cell? ⟨wr.heap.size, 1, none⟩ = _ := x1
            have y2 : (W1.drewN nq).cell? ⟨wr.heap.size, 2, none⟩ = _ := x2
            have y3 : (W1.drewN nq).cell? ⟨wr.heap.size, 3, none⟩ = _ := x3
            have y4 : (W1.drewN nq).cell? ⟨wr.heap.size, 4, none⟩ = _ := x4
            have hz2 : wr.heap.size < (W1.drewN nq).heap.size := hzw
            generalize W1.drewN nq = W2 at *
            clear x0 x1 x2 x3 x4 hbw hzw
            clear hk hk'
            have HLT := Lib.hid (own_push (W := W2) HS.out HO.out hbr hb2 HXP.out.1 HXP.out.2.1 HXP.out.2.2)
            go_wp2_with (at_builtin; refine wpList_append_nodes rfl (.tmp 70) (.tmp 72) rfl w.heap.size S _ _ out [x] rfl rfl HLT.out.1 HLT.out.2.1 HLT.out.2.2.1 (by simp only [List.length_cons, List.length_nil]; omega) HLT.out.2.2.2.1 ?_; intro v' w3 hown' hg hat; have hB3 := HLT.out.2.2.2.2 w3 hg; clear hg hat)
            exact ⟨⟨i + 1, by omega, by go_num, by rw [HJ.out, HST.out]; exact hown', hB3⟩, by simp [intOf]; omega⟩
          | some z =>
            have hne : 0 < out.length := by rcases out with _ | ⟨y, r⟩ <;> simp at hz ⊢
            obtain ⟨g, rfl, hgb, hgl⟩ : ∃ g, Ao = some ⟨g, 0, none⟩ ∧ w.heap.size ≤ g ∧ g < wr.heap.size := by
              rcases HAO.out with ⟨_, h⟩ | h
              · subst h; simp at hne
              · exact h
            have hzi : out[out.length - 1]? = some z := by rw [← List.getLast?_eq_getElem?]; exact hz
            have hKd : Kids wr (Under wr.heap.size) (.slice (some ⟨g, 0, none⟩) out.length co) out := HO.out.kids (fun b h => Nat.lt_of_lt_of_le (HS.out b h) hbr.size) (fun g' h => by simp [Value.ownBlock] at h; unfold Under; omega)
            obtain ⟨b', o', hA', _, hrow'⟩ := hKd.get (k := out.length - 1) (by omega)
            injection hA' with hA'
            injection hA' with hA1 hA2 _
            subst hA1 hA2
            obtain ⟨zm, za, zk, z0, z1, z2, z3, z4, ezm, eza, ezk⟩ := hrow'.node hzi
            rw [Nat.zero_add] at z0 z1 z2 z3 z4
            have HZM := Lib.hid ezm
            have q0 : decide (1 ≤ (out.length : Int)) = true := by simp; omega
            have g1 : ((out.length : Int) - 1).toNat = out.length - 1 := by omega
            have n1 : (1 : Int) ≤ (out.length : Int) := by omega
            have n2 : (0 : Int) ≤ (out.length : Int) - 1 := by omega
            have n3 : (out.length : Int) - 1 < (out.length : Int) := by omega
            have n4 : 1 ≤ out.length := hne
            have hwz : weigh z ≤ weighAll out := weigh_mem (List.mem_of_getElem? hzi)
            cases hzk : isTxt z.kind with
            | false =>
              have hzk' : (z.kind.toList == [116, 101, 120, 116]) = false := hzk
              have HST : Hid (joinStep out x = out ++ [x]) := Lib.hid (joinStep_other hz ht (by unfold joinsOn; rw [hzk]; rfl))
              clear hz
              go_wp2
              generalize hW1 : wr.alloc (.cells #[.string x.kind, .string x.text, .slice A1 x.marks.length c1, .slice A2 x.attrs.length c2, .slice A3 x.kids.length c3] 31) = W1 at *
              obtain ⟨x0, x1, x2, x3, x4, hbw, hzw⟩ := HBX.out
              clear hW1 f0 f1 f2 f3 f4 HBX
              have u0 := cell_kept z0 hbw
              go_quiet (fail)
              have hb2 : Below wr.heap.size wr (W1.drewN nq) := ⟨hbw.os, hbw.tape, hbw.output, hbw.size, hbw.block⟩
              have y0 : (W1.drewN nq).cell? ⟨wr.heap.size, 0, none⟩ = _ := x0
              have y1 : (W1.drewN nq).cell? ⟨wr.heap.size, 1, none⟩ = _ := x1
              have y2 : (W1.drewN nq).cell? ⟨wr.heap.size, 2, none⟩ = _ := x2
              have y3 : (W1.drewN nq).cell? ⟨wr.heap.size, 3, none⟩ = _ := x3
              have y4 : (W1.drewN nq).cell? ⟨wr.heap.size, 4, none⟩ = _ := x4
              have hz2 : wr.heap.size < (W1.drewN nq).heap.size := hzw
              generalize W1.drewN nq = W2 at *
              clear x0 x1 x2 x3 x4 hbw hzw
              clear hk hk' hzk hzk' u0
              have HLT := Lib.hid (own_push (W := W2) HS.out HO.out hbr hb2 HXP.out.1 HXP.out.2.1 HXP.out.2.2)
              go_wp2_with (at_builtin; refine wpList_append_nodes rfl (.tmp 70) (.tmp 72) rfl w.heap.size S _ _ out [x] rfl rfl HLT.out.1 HLT.out.2.1 HLT.out.2.2.1 (by simp only [List.length_cons, List.length_nil]; omega) HLT.out.2.2.2.1 ?_; intro v' w3 hown' hg hat; have hB3 := HLT.out.2.2.2.2 w3 hg; clear hg hat)
              exact ⟨⟨i + 1, by omega, by go_num, by rw [HJ.out, HST.out]; exact hown', hB3⟩, by simp [intOf]; omega⟩
            | true =>
              have hzk' : (z.kind.toList == [116, 101, 120, 116]) = true := hzk
              obtain ⟨Az, cz, rfl, _⟩ := ezm.form
              have hwzm : weighL z.marks ≤ 1000000 := by obtain ⟨k, t, m, a, l⟩ := z; simp only [weigh] at hwz; simp only [Tree.marks]; omega
              cases hsm : sameL z.marks x.marks with
              | false =>
                have HST : Hid (joinStep out x = out ++ [x]) := Lib.hid (joinStep_other hz ht (by unfold joinsOn; rw [hsm]; simp))
                clear hz
                go_wp2
                generalize hW1 : wr.alloc (.cells #[.string x.kind, .string x.text, .slice A1 x.marks.length c1, .slice A2 x.attrs.length c2, .slice A3 x.kids.length c3] 31) = W1 at *
                obtain ⟨x0, x1, x2, x3, x4, hbw, hzw⟩ := HBX.out
                clear hW1 f0 f1 f2 f3 f4 HBX
                have u0 := cell_kept z0 hbw
                have u2 := cell_kept z2 hbw
                have HSN := Lib.hid (fun n => sameNames_res (same_drawn (W := W1) (HZM.out.below hbw) (HXP.out.1.stay hbw (fun b hb => Nat.lt_of_lt_of_le (HS.out b hb) hbr.size)) hwzm n) hsm)
                clear hsm
                go_quiet ((go_at_call 31; exact Calls.quiet_of (HSN.out _)))
                have hb2 : Below wr.heap.size wr (W1.drewN nq) := ⟨hbw.os, hbw.tape, hbw.output, hbw.size, hbw.block⟩
                have y0 : (W1.drewN nq).cell? ⟨wr.heap.size, 0, none⟩ = _ := x0
                have y1 : (W1.drewN nq).cell? ⟨wr.heap.size, 1, none⟩ = _ := x1
                have y2 : (W1.drewN nq).cell? ⟨wr.heap.size, 2, none⟩ = _ := x2
                have y3 : (W1.drewN nq).cell? ⟨wr.heap.size, 3, none⟩ = _ := x3
                have y4 : (W1.drewN nq).cell? ⟨wr.heap.size, 4, none⟩ = _ := x4
                have hz2 : wr.heap.size < (W1.drewN nq).heap.size := hzw
                generalize W1.drewN nq = W2 at *
                clear x0 x1 x2 x3 x4 hbw hzw
                clear hk hk' hzk hzk' u0 u2
                have HLT := Lib.hid (own_push (W := W2) HS.out HO.out hbr hb2 HXP.out.1 HXP.out.2.1 HXP.out.2.2)
                go_wp2_with (at_builtin; refine wpList_append_nodes rfl (.tmp 70) (.tmp 72) rfl w.heap.size S _ _ out [x] rfl rfl HLT.out.1 HLT.out.2.1 HLT.out.2.2.1 (by simp only [List.length_cons, List.length_nil]; omega) HLT.out.2.2.2.1 ?_; intro v' w3 hown' hg hat; have hB3 := HLT.out.2.2.2.2 w3 hg; clear hg hat)
                exact ⟨⟨i + 1, by omega, by go_num, by rw [HJ.out, HST.out]; exact hown', hB3⟩, by simp [intOf]; omega⟩
              | true =>
                have HST := Lib.hid (joinStep_on hz hk ht (by unfold joinsOn; rw [hsm, hzk]; rfl))
                have HZZ := Lib.hid hz
                clear hz
                go_wp2
                generalize hW1 : wr.alloc (.cells #[.string x.kind, .string x.text, .slice A1 x.marks.length c1, .slice A2 x.attrs.length c2, .slice A3 x.kids.length c3] 31) = W1 at *
                obtain ⟨x0, x1, x2, x3, x4, hbw, hzw⟩ := HBX.out
                clear hW1 f0 f1 f2 f3 f4 HBX
                have u0 := cell_kept z0 hbw
                have u1 := cell_kept z1 hbw
                have u2 := cell_kept z2 hbw
                have HSN := Lib.hid (fun n => sameNames_res (same_drawn (W := W1) (HZM.out.below hbw) (HXP.out.1.stay hbw (fun b hb => Nat.lt_of_lt_of_le (HS.out b hb) hbr.size)) hwzm n) hsm)
                clear hsm
                go_quiet ((go_at_call 31; exact Calls.quiet_of (HSN.out _)))
                have v1 : (W1.drewN nq).cell? ⟨g, (out.length - 1) * 5 + 1, none⟩ = _ := u1
                have vz : (W1.drewN nq).frozen? ⟨wr.heap.size, 1, none⟩ = false := HFZ.out
                have hb2 : Below wr.heap.size wr (W1.drewN nq) := ⟨hbw.os, hbw.tape, hbw.output, hbw.size, hbw.block⟩
                have y0 : (W1.drewN nq).cell? ⟨wr.heap.size, 0, none⟩ = _ := x0
                have y1 : (W1.drewN nq).cell? ⟨wr.heap.size, 1, none⟩ = _ := x1
                have y2 : (W1.drewN nq).cell? ⟨wr.heap.size, 2, none⟩ = _ := x2
                have y3 : (W1.drewN nq).cell? ⟨wr.heap.size, 3, none⟩ = _ := x3
                have y4 : (W1.drewN nq).cell? ⟨wr.heap.size, 4, none⟩ = _ := x4
                have hz2 : wr.heap.size < (W1.drewN nq).heap.size := hzw
                generalize W1.drewN nq = W2 at *
                clear x0 x1 x2 x3 x4 hbw hzw
                clear hk hk' hzk hzk' u0 u1 u2
                go_wp2
                have hsum : ¬ 9223372036854775807 < z.text.size + x.text.size := by
                  have := text_le_weigh z
                  have := text_le_weigh x
                  omega
                go_region
                have hb3 : Below wr.heap.size wr ((W2.setCell ⟨wr.heap.size, 1, none⟩ (.string (z.text ++ x.text))).drew) := (hb2.setCell (Nat.le_refl _) _).drew
                have s0 : ((W2.setCell ⟨wr.heap.size, 1, none⟩ (.string (z.text ++ x.text))).drew).cell? ⟨wr.heap.size, 0, none⟩ = some (.string x.kind) := (World.cell?_setCell_other W2 _ ⟨wr.heap.size, 0, none⟩ _ (by simp)).trans y0
                have s1 : ((W2.setCell ⟨wr.heap.size, 1, none⟩ (.string (z.text ++ x.text))).drew).cell? ⟨wr.heap.size, 1, none⟩ = some (.string (z.text ++ x.text)) := cell_set y1 _
                have s2 : ((W2.setCell ⟨wr.heap.size, 1, none⟩ (.string (z.text ++ x.text))).drew).cell? ⟨wr.heap.size, 2, none⟩ = _ := (World.cell?_setCell_other W2 _ ⟨wr.heap.size, 2, none⟩ _ (by simp)).trans y2
                have s3 : ((W2.setCell ⟨wr.heap.size, 1, none⟩ (.string (z.text ++ x.text))).drew).cell? ⟨wr.heap.size, 3, none⟩ = _ := (World.cell?_setCell_other W2 _ ⟨wr.heap.size, 3, none⟩ _ (by simp)).trans y3
                have s4 : ((W2.setCell ⟨wr.heap.size, 1, none⟩ (.string (z.text ++ x.text))).drew).cell? ⟨wr.heap.size, 4, none⟩ = _ := (World.cell?_setCell_other W2 _ ⟨wr.heap.size, 4, none⟩ _ (by simp)).trans y4
                have hz3 : wr.heap.size < ((W2.setCell ⟨wr.heap.size, 1, none⟩ (.string (z.text ++ x.text))).drew).heap.size := cell_lt s0
                clear y0 y1 y2 y3 y4 vz v1 hb2 hz2 HSN
                go_wp2
                generalize (W2.setCell ⟨wr.heap.size, 1, none⟩ (.string (z.text ++ x.text))).drew = W3 at *
                clear z0 z1 z2 z3 z4 hsum ht q0 hzi HZM ezm eza ezk hrow' hKd HFZ hwzm hwz HZZ hne n3
                have n5 : (out.length : Int) - 1 ≤ (co : Int) := by omega
                have n6 : out.length - 1 ≤ co := by omega
                have hol : out.length ≤ 1000000 := by omega
                have HEA : Hid (((W3.alloc (Obj.cells #[] 31)).drew).heap[W3.heap.size]? = some (Obj.cells #[] 31)) := Lib.hid (heap_new _ _)
                have HEB : Hid ((((W3.alloc (Obj.cells #[] 31)).alloc (Obj.cells #[.string x.kind, .string (z.text ++ x.text), .slice A1 x.marks.length c1, .slice A2 x.attrs.length c2, .slice A3 x.kids.length c3] 31)).drew).heap[W3.heap.size]? = some (Obj.cells #[] 31)) := Lib.hid (heap_old _ _ _ (heap_new _ _))
                have HEC : Hid ((((W3.alloc (Obj.cells #[.string x.kind, .string (z.text ++ x.text), .slice A1 x.marks.length c1, .slice A2 x.attrs.length c2, .slice A3 x.kids.length c3] 31)).alloc (Obj.cells #[] 31)).drew).heap[W3.heap.size + 1]? = some (Obj.cells #[] 31)) := Lib.hid (heap_new' _ _ (by simp))
                have HBA : Hid (Below wr.heap.size wr ((W3.alloc (Obj.cells #[] 31)).drew)) := Lib.hid (hb3.alloc hb3.size _).drew
                have HBB : Hid (Below wr.heap.size wr (((W3.alloc (Obj.cells #[] 31)).alloc (Obj.cells #[.string x.kind, .string (z.text ++ x.text), .slice A1 x.marks.length c1, .slice A2 x.attrs.length c2, .slice A3 x.kids.length c3] 31)).drew)) := Lib.hid ((hb3.alloc hb3.size _).alloc (by simp; omega) _).drew
                have HBC : Hid (Below wr.heap.size wr (((W3.alloc (Obj.cells #[.string x.kind, .string (z.text ++ x.text), .slice A1 x.marks.length c1, .slice A2 x.attrs.length c2, .slice A3 x.kids.length c3] 31)).alloc (Obj.cells #[] 31)).drew)) := Lib.hid ((hb3.alloc hb3.size _).alloc (by simp; omega) _).drew
                have HWA : Hid (Below W3.heap.size W3 ((W3.alloc (Obj.cells #[] 31)).drew)) := Lib.hid ((Below.refl _ _).alloc (Nat.le_refl _) _).drew
                have HWB : Hid (Below W3.heap.size W3 (((W3.alloc (Obj.cells #[] 31)).alloc (Obj.cells #[.string x.kind, .string (z.text ++ x.text), .slice A1 x.marks.length c1, .slice A2 x.attrs.length c2, .slice A3 x.kids.length c3] 31)).drew)) := Lib.hid (((Below.refl _ _).alloc (Nat.le_refl _) _).alloc (by simp) _).drew
                have HWC : Hid (Below W3.heap.size W3 (((W3.alloc (Obj.cells #[.string x.kind, .string (z.text ++ x.text), .slice A1 x.marks.length c1, .slice A2 x.attrs.length c2, .slice A3 x.kids.length c3] 31)).alloc (Obj.cells #[] 31)).drew)) := Lib.hid (((Below.refl _ _).alloc (Nat.le_refl _) _).alloc (by simp) _).drew
                have hne3 : wr.heap.size ≠ W3.heap.size := by omega
                have hne4 : wr.heap.size ≠ W3.heap.size + 1 := by omega
                have hne5 : W3.heap.size + 1 ≠ W3.heap.size := by omega
                have hne6 : W3.heap.size ≠ W3.heap.size + 1 := by omega
                have HKD : Hid ((setText x (z.text ++ x.text)).kind = x.kind) := Lib.hid rfl
                have HTX : Hid ((setText x (z.text ++ x.text)).text = z.text ++ x.text) := Lib.hid rfl
                have HPM : Hid (Strs wr S (.slice A1 x.marks.length c1) (setText x (z.text ++ x.text)).marks) := Lib.hid HXP.out.1
                have HPA : Hid (Pairs wr S (.slice A2 x.attrs.length c2) (setText x (z.text ++ x.text)).attrs) := Lib.hid HXP.out.2.1
                have HPK : Hid (Kids wr S (.slice A3 x.kids.length c3) (setText x (z.text ++ x.text)).kids) := Lib.hid HXP.out.2.2
                have HDL : Hid (out.dropLast.length + 1 ≤ 1000000) := Lib.hid (by rw [List.length_dropLast]; omega)
                have HXB : Hid ((((W3.alloc (Obj.cells #[] 31)).alloc (Obj.cells #[.string x.kind, .string (z.text ++ x.text), .slice A1 x.marks.length c1, .slice A2 x.attrs.length c2, .slice A3 x.kids.length c3] 31)).drew).cell? ⟨W3.heap.size + 1, 0, none⟩ = some (.string x.kind) ∧ (((W3.alloc (Obj.cells #[] 31)).alloc (Obj.cells #[.string x.kind, .string (z.text ++ x.text), .slice A1 x.marks.length c1, .slice A2 x.attrs.length c2, .slice A3 x.kids.length c3] 31)).drew).cell? ⟨W3.heap.size + 1, 1, none⟩ = some (.string (z.text ++ x.text)) ∧ (((W3.alloc (Obj.cells #[] 31)).alloc (Obj.cells #[.string x.kind, .string (z.text ++ x.text), .slice A1 x.marks.length c1, .slice A2 x.attrs.length c2, .slice A3 x.kids.length c3] 31)).drew).cell? ⟨W3.heap.size + 1, 2, none⟩ = some (.slice A1 x.marks.length c1) ∧ (((W3.alloc (Obj.cells #[] 31)).alloc (Obj.cells #[.string x.kind, .string (z.text ++ x.text), .slice A1 x.marks.length c1, .slice A2 x.attrs.length c2, .slice A3 x.kids.length c3] 31)).drew).cell? ⟨W3.heap.size + 1, 3, none⟩ = some (.slice A2 x.attrs.length c2) ∧ (((W3.alloc (Obj.cells #[] 31)).alloc (Obj.cells #[.string x.kind, .string (z.text ++ x.text), .slice A1 x.marks.length c1, .slice A2 x.attrs.length c2, .slice A3 x.kids.length c3] 31)).drew).cell? ⟨W3.heap.size + 1, 4, none⟩ = some (.slice A3 x.kids.length c3)) := Lib.hid (boxAt (by simp))
                have HXC : Hid ((((W3.alloc (Obj.cells #[.string x.kind, .string (z.text ++ x.text), .slice A1 x.marks.length c1, .slice A2 x.attrs.length c2, .slice A3 x.kids.length c3] 31)).alloc (Obj.cells #[] 31)).drew).cell? ⟨W3.heap.size, 0, none⟩ = some (.string x.kind) ∧ (((W3.alloc (Obj.cells #[.string x.kind, .string (z.text ++ x.text), .slice A1 x.marks.length c1, .slice A2 x.attrs.length c2, .slice A3 x.kids.length c3] 31)).alloc (Obj.cells #[] 31)).drew).cell? ⟨W3.heap.size, 1, none⟩ = some (.string (z.text ++ x.text)) ∧ (((W3.alloc (Obj.cells #[.string x.kind, .string (z.text ++ x.text), .slice A1 x.marks.length c1, .slice A2 x.attrs.length c2, .slice A3 x.kids.length c3] 31)).alloc (Obj.cells #[] 31)).drew).cell? ⟨W3.heap.size, 2, none⟩ = some (.slice A1 x.marks.length c1) ∧ (((W3.alloc (Obj.cells #[.string x.kind, .string (z.text ++ x.text), .slice A1 x.marks.length c1, .slice A2 x.attrs.length c2, .slice A3 x.kids.length c3] 31)).alloc (Obj.cells #[] 31)).drew).cell? ⟨W3.heap.size, 3, none⟩ = some (.slice A2 x.attrs.length c2) ∧ (((W3.alloc (Obj.cells #[.string x.kind, .string (z.text ++ x.text), .slice A1 x.marks.length c1, .slice A2 x.attrs.length c2, .slice A3 x.kids.length c3] 31)).alloc (Obj.cells #[] 31)).drew).cell? ⟨W3.heap.size, 4, none⟩ = some (.slice A3 x.kids.length c3)) := Lib.hid (boxAt_under rfl _)
                go_region_law (first
                  | ((with_reducible refine step_first HS.out rfl (.tmp 62) (.tmp 65) rfl rfl rfl HEA.out (by omega) HBA.out hbr HO.out hol ?_); intro v6 w6 hown6 hB6 hk6; have HO6 := Lib.hid hown6; have r0 := hk6 _ _ _ (cell_kept s0 HWA.out) hne3; have r1 := hk6 _ _ _ (cell_kept s1 HWA.out) hne3; have r2 := hk6 _ _ _ (cell_kept s2 HWA.out) hne3; have r3 := hk6 _ _ _ (cell_kept s3 HWA.out) hne3; have r4 := hk6 _ _ _ (cell_kept s4 HWA.out) hne3; clear hk6 hown6)
                  | ((with_reducible refine step_first HS.out rfl (.tmp 62) (.tmp 65) rfl rfl rfl HEB.out (by omega) HBB.out hbr HO.out hol ?_); intro v6 w6 hown6 hB6 hk6; have HO6 := Lib.hid hown6; have r0 := hk6 _ _ _ (cell_kept s0 HWB.out) hne3; have r1 := hk6 _ _ _ (cell_kept s1 HWB.out) hne3; have r2 := hk6 _ _ _ (cell_kept s2 HWB.out) hne3; have r3 := hk6 _ _ _ (cell_kept s3 HWB.out) hne3; have r4 := hk6 _ _ _ (cell_kept s4 HWB.out) hne3; have p0 := hk6 _ _ _ HXB.out.1 hne5; have p1 := hk6 _ _ _ HXB.out.2.1 hne5; have p2 := hk6 _ _ _ HXB.out.2.2.1 hne5; have p3 := hk6 _ _ _ HXB.out.2.2.2.1 hne5; have p4 := hk6 _ _ _ HXB.out.2.2.2.2 hne5; clear hk6 hown6)
                  | ((with_reducible refine step_first HS.out rfl (.tmp 62) (.tmp 65) rfl rfl rfl HEC.out (by omega) HBC.out hbr HO.out hol ?_); intro v6 w6 hown6 hB6 hk6; have HO6 := Lib.hid hown6; have r0 := hk6 _ _ _ (cell_kept s0 HWC.out) hne4; have r1 := hk6 _ _ _ (cell_kept s1 HWC.out) hne4; have r2 := hk6 _ _ _ (cell_kept s2 HWC.out) hne4; have r3 := hk6 _ _ _ (cell_kept s3 HWC.out) hne4; have r4 := hk6 _ _ _ (cell_kept s4 HWC.out) hne4; have p0 := hk6 _ _ _ HXC.out.1 hne6; have p1 := hk6 _ _ _ HXC.out.2.1 hne6; have p2 := hk6 _ _ _ HXC.out.2.2.1 hne6; have p3 := hk6 _ _ _ HXC.out.2.2.2.1 hne6; have p4 := hk6 _ _ _ HXC.out.2.2.2.2 hne6; clear hk6 hown6)
                  | (refine step_second_new (v := v6) HS.out HKD.out HTX.out rfl (.tmp 66) (.tmp 68) rfl rfl rfl HO6.out hB6 hbr HPM.out HPA.out HPK.out HDL.out ?_; intro v9 w9 hown9 hB9)
                  | (refine step_second (v := v6) HS.out HKD.out HTX.out rfl (.tmp 66) (.tmp 68) rfl rfl rfl HO6.out hB6 hbr HPM.out HPA.out HPK.out p0 p1 p2 p3 p4 HDL.out ?_; intro v9 w9 hown9 hB9))
                all_goals
                  go_wp2
                  exact ⟨⟨i + 1, by omega, by go_num, by rw [HJ.out, HST.out]; exact hown9, hB9⟩, by simp [intOf]; omega⟩
    · go_wp2
      go_ret
      refine ⟨_, rfl, ?_, hbr⟩
      rw [List.take_of_length_le (by omega)] at hown
      exact hown
end Go.Proofs.Ytmmifednhleggaa
