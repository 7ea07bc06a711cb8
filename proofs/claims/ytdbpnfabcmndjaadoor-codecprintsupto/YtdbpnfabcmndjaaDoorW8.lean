/-
  What the document's own Join answers.
-/
import Derived.Test.YtdbpnfabcmndjaaDoorW7
import Derived.Deep.RegionLaw
import Derived.Deep.DeepCutAuto
namespace Go.Proofs.YtdbpnfabcmndjaaDoor
open Go.RowKit Go.Sort

def setText (t : Tree) (s : ByteArray) : Tree := .mk t.kind s t.marks t.attrs t.kids
def joinsOn (z n : Tree) : Bool := isTxt z.kind && sameL z.marks n.marks
def joinStep (out : List Tree) (n : Tree) : List Tree :=
  if isTxt n.kind && n.text.toList.isEmpty then out
  else match out.getLast? with
    | some z => if isTxt n.kind && joinsOn z n then out.dropLast ++ [setText n (z.text ++ n.text)] else out ++ [n]
    | none => out ++ [n]
def joinB (l : List Tree) : List Tree := l.foldl joinStep []

theorem joinB_snoc (l : List Tree) (x : Tree) : joinB (l ++ [x]) = joinStep (joinB l) x := by simp [joinB, List.foldl_append]
theorem weigh_setText (n : Tree) (s : ByteArray) : weigh (setText n s) + n.text.size = weigh n + s.size := by
  obtain ⟨k, t, m, a, l⟩ := n; simp only [setText, weigh, Tree.kind, Tree.text, Tree.marks, Tree.attrs, Tree.kids]; omega
theorem text_le_weigh (n : Tree) : n.text.size ≤ weigh n := by obtain ⟨k, t, m, a, l⟩ := n; simp only [weigh, Tree.text]; omega
theorem dropLast_getLast? {α : Type} {l : List α} {z : α} (h : l.getLast? = some z) : l = l.dropLast ++ [z] := by
  obtain ⟨l', rfl⟩ := List.getLast?_eq_some_iff.1 h
  simp
theorem joinStep_weigh (out : List Tree) (n : Tree) : weighAll (joinStep out n) ≤ weighAll out + weigh n := by
  unfold joinStep
  split
  · omega
  · split
    · rename_i z hz
      split
      · have h := dropLast_getLast? hz
        have h1 := congrArg weighAll h
        rw [weighAll_append] at h1 ⊢
        simp only [weighAll] at h1 ⊢
        have h2 := weigh_setText n (z.text ++ n.text)
        have h3 := text_le_weigh z
        have h4 : (z.text ++ n.text).size = z.text.size + n.text.size := ByteArray.size_append
        omega
      · rw [weighAll_append]; simp only [weighAll]; omega
    · rw [weighAll_append]; simp only [weighAll]; omega
theorem joinFold_weigh : ∀ (l out : List Tree), weighAll (l.foldl joinStep out) ≤ weighAll out + weighAll l
  | [], out => by simp [weighAll]
  | x :: l, out => by
    have h := joinFold_weigh l (joinStep out x)
    have h2 := joinStep_weigh out x
    simp only [List.foldl_cons, weighAll]; omega
theorem joinB_weigh (l : List Tree) : weighAll (joinB l) ≤ weighAll l := by have := joinFold_weigh l []; simp only [weighAll] at this; unfold joinB; omega

def JoinPost (w : World) (S : Nat → Prop) (l : List Tree) (e : Ending) (w' : World) : Prop := ∃ v', e = .returned v' ∧ Own w' w.heap.size S v' l ∧ Below w.heap.size w w'

/-- What a round of Join holds: the row so far. -/
def JoinRel (w : World) (S : Nat → Prop) (l : List Tree) (v : Value) (wr : World) : Prop := Own wr w.heap.size S v l ∧ Below w.heap.size w wr

theorem own_nil (w : World) (base : Nat) (S : Nat → Prop) : Own w base S (.slice none 0 0) [] := ⟨[], ⟨rfl, .inl ⟨rfl, rfl⟩⟩, rfl⟩
theorem Own.form {w : World} {base : Nat} {S : Nat → Prop} {v : Value} {l : List Tree} (h : Own w base S v l) :
    ∃ A c, v = .slice A l.length c ∧ l.length ≤ c ∧ (A = none ∧ l = [] ∨ ∃ g, A = some ⟨g, 0, none⟩ ∧ base ≤ g ∧ g < w.heap.size) := by
  obtain ⟨xs, ⟨_, ho⟩, hc⟩ := h
  rcases ho with ⟨rfl, hn⟩ | ⟨g, cap, cur, rfl, hb, hh, hnc, _⟩
  · have : l = [] := List.eq_nil_of_length_eq_zero hn
    subst this
    exact ⟨none, 0, rfl, Nat.le_refl _, .inl ⟨rfl, rfl⟩⟩
  · refine ⟨_, cap, rfl, hnc, .inr ⟨g, rfl, hb, ?_⟩⟩
    rcases Nat.lt_or_ge g w.heap.size with h | h
    · exact h
    · rw [Array.getElem?_eq_none h] at hh; cases hh

theorem Own.later {w w' : World} {base : Nat} {S : Nat → Prop} {v : Value} {l : List Tree} (h : Own w base S v l) (hb : Below w.heap.size w w') (hS : ∀ b, S b → b < w.heap.size) : Own w' base S v l := by
  obtain ⟨xs, ⟨hl, ho⟩, hc⟩ := h
  refine ⟨xs, ⟨hl, ?_⟩, hc.keep (fun _ h => h) fun b hb' => hb.block b (hS b hb')⟩
  rcases ho with h | ⟨g, cap, cur, rfl, hg, hh, hr⟩
  · exact .inl h
  · refine .inr ⟨g, cap, cur, rfl, hg, ?_, hr⟩
    rw [hb.block g, hh]
    rcases Nat.lt_or_ge g w.heap.size with h | h
    · exact h
    · rw [Array.getElem?_eq_none h] at hh; cases hh
theorem src_one {w : World} {S : Nat → Prop} {x : Tree} {vm va vk : Value} {g c : Nat} (hm : Strs w S vm x.marks) (ha : Pairs w S va x.attrs) (hk : Kids w S vk x.kids)
    (c0 : w.cell? ⟨g, 0, none⟩ = some (.string x.kind)) (c1 : w.cell? ⟨g, 1, none⟩ = some (.string x.text)) (c2 : w.cell? ⟨g, 2, none⟩ = some vm) (c3 : w.cell? ⟨g, 3, none⟩ = some va) (c4 : w.cell? ⟨g, 4, none⟩ = some vk) :
    Src w S (.slice (some ⟨g, 0, none⟩) 1 c) [x] :=
  ⟨_, c, _, rfl, Cells.one hm ha hk, .inr ⟨g, 0, rfl, fun j u hj => by
    match j, hj with
    | 0, hj => simp at hj; subst hj; exact c0
    | 1, hj => simp at hj; subst hj; exact c1
    | 2, hj => simp at hj; subst hj; exact c2
    | 3, hj => simp at hj; subst hj; exact c3
    | 4, hj => simp at hj; subst hj; exact c4
    | j + 5, hj => simp at hj⟩⟩

theorem joinStep_empty {out : List Tree} {n : Tree} (h : isTxt n.kind = true) (ht : n.text.toList.isEmpty = true) : joinStep out n = out := by
  unfold joinStep; rw [h, ht]; rfl
theorem joinStep_first {n : Tree} (ht : n.text.toList.isEmpty = false) : joinStep [] n = [n] := by
  unfold joinStep; rw [ht]; simp
theorem joinStep_other {out : List Tree} {n z : Tree} (hz : out.getLast? = some z) (ht : n.text.toList.isEmpty = false) (h : joinsOn z n = false) : joinStep out n = out ++ [n] := by
  unfold joinStep; rw [ht, hz]; simp [h]
theorem joinStep_on {out : List Tree} {n z : Tree} (hz : out.getLast? = some z) (hk : isTxt n.kind = true) (ht : n.text.toList.isEmpty = false) (h : joinsOn z n = true) : joinStep out n = out.dropLast ++ [setText n (z.text ++ n.text)] := by
  unfold joinStep; rw [ht, hz, hk]; simp [h]
theorem joinStep_plain {out : List Tree} {n : Tree} (h : isTxt n.kind = false) : joinStep out n = out ++ [n] := by
  unfold joinStep; rw [h]; cases out.getLast? <;> simp

theorem same_drawn {W : World} {S S' : Nat → Prop} {va vb : Value} {a b : List ByteArray} (ha : Strs W S va a) (hb : Strs W S' vb b) (hwa : weighL a ≤ 1100000) (n : Nat) :
    Calls Tryd.prog 56 #[va, vb] (W.drewN n) fun e w' => e = .returned (.bool (sameL a b)) ∧ ∃ m, w' = (W.drewN n).drewN m :=
  sameNames_any va vb a b S S' (W.drewN n) (ha.keep (fun _ h => h) fun _ _ => rfl) (hb.keep (fun _ h => h) fun _ _ => rfl) hwa
theorem sameNames_res {P : Program} {f : FuncId} {args : Array Value} {w : World} {x y : Bool} (h : Calls P f args w fun e w' => e = .returned (.bool x) ∧ ∃ m, w' = w.drewN m) (hx : x = y) :
    Calls P f args w fun e w' => e = .returned (.bool y) ∧ ∃ m, w' = w.drewN m := by subst hx; exact h

theorem cell_set {w : World} {g o : Nat} {v : Value} (h : w.cell? ⟨g, o, none⟩ = some v) (u : Value) : (w.setCell ⟨g, o, none⟩ u).cell? ⟨g, o, none⟩ = some u := by
  unfold World.cell? at h ⊢
  simp only [World.setCell, Array.getElem?_modify]
  cases hh : w.heap[g]? with
  | none => simp [hh] at h
  | some x =>
    cases x with
    | cells c e f =>
      simp [hh] at h
      have hlt : o < c.size := by
        rcases Nat.lt_or_ge o c.size with h' | h'
        · exact h'
        · rw [Array.getElem?_eq_none h'] at h; cases h
      simp [hlt]
    | _ => simp [hh] at h

/-- What stands at 'append(out, n)', n just laid as a literal. -/
theorem Strs.stay {B : Nat} {w w' : World} {S : Nat → Prop} {v : Value} {l : List ByteArray} (h : Strs w S v l) (hb : Below B w w') (hS : ∀ b, S b → b < B) : Strs w' S v l := h.keep (fun _ h => h) fun b h => hb.block b (hS b h)
theorem Pairs.stay {B : Nat} {w w' : World} {S : Nat → Prop} {v : Value} {l : List (ByteArray × ByteArray)} (h : Pairs w S v l) (hb : Below B w w') (hS : ∀ b, S b → b < B) : Pairs w' S v l := h.keep (fun _ h => h) fun b h => hb.block b (hS b h)
theorem Kids.stay {B : Nat} {w w' : World} {S : Nat → Prop} {v : Value} {l : List Tree} (h : Kids w S v l) (hb : Below B w w') (hS : ∀ b, S b → b < B) : Kids w' S v l := h.keep (fun _ h => h) fun b h => hb.block b (hS b h)
theorem own_push {S : Nat → Prop} {w wr W : World} (hS : ∀ b, S b → b < w.heap.size) {v : Value} {out : List Tree} {x : Tree} {vm va vk : Value} (ho : Own wr w.heap.size S v out) (hbr : Below w.heap.size w wr) (hb : Below wr.heap.size wr W)
    (hm : Strs wr S vm x.marks) (ha : Pairs wr S va x.attrs) (hk : Kids wr S vk x.kids) :
    Own (W.alloc (.cells #[.string x.kind, .string x.text, vm, va, vk] 26)) w.heap.size S v out ∧
    Src (W.alloc (.cells #[.string x.kind, .string x.text, vm, va, vk] 26)) S (.slice (some ⟨W.heap.size, 0, none⟩) 1 1) [x] ∧
    (∀ b, S b → b < (W.alloc (.cells #[.string x.kind, .string x.text, vm, va, vk] 26)).heap.size ∧ some b ≠ v.ownBlock) ∧
    w.heap.size ≤ (W.alloc (.cells #[.string x.kind, .string x.text, vm, va, vk] 26)).heap.size ∧
    (∀ (w' : World), (W.alloc (.cells #[.string x.kind, .string x.text, vm, va, vk] 26)).grownBy w' v.ownBlock → Below w.heap.size w w') := by
  have hB : Below wr.heap.size wr (W.alloc (.cells #[.string x.kind, .string x.text, vm, va, vk] 26)) := hb.alloc hb.size _
  have hBw : Below w.heap.size w (W.alloc (.cells #[.string x.kind, .string x.text, vm, va, vk] 26)) := belowNext hbr hB
  have hB' : Below w.heap.size wr (W.alloc (.cells #[.string x.kind, .string x.text, vm, va, vk] 26)) := hB.mono hbr.size
  obtain ⟨c0, c1, c2, c3, c4, _, _⟩ := box5 (w := W) (Below.refl _ (W.alloc (.cells #[.string x.kind, .string x.text, vm, va, vk] 26)))
  have hv : ∀ k, v.ownBlock = some k → w.heap.size ≤ k := fun k hk => by
    obtain ⟨A, c, rfl, _, hA⟩ := ho.form
    rcases hA with ⟨rfl, _⟩ | ⟨g, rfl, hg, _⟩
    · cases hk
    · simp [Value.ownBlock] at hk; omega
  refine ⟨ho.later hB (fun b hb' => Nat.lt_of_lt_of_le (hS b hb') hbr.size), src_one (hm.stay hB' hS) (ha.stay hB' hS) (hk.stay hB' hS) c0 c1 c2 c3 c4, fun b hb' => ⟨Nat.lt_of_lt_of_le (hS b hb') hBw.size, fun e => ?_⟩, hBw.size, fun w' hg => hBw.grown hg hBw.size hv⟩
  have := hv b e.symm
  have := hS b hb'; omega

theorem Cells.take {w : World} {S : Nat → Prop} : ∀ {l : List Tree} {xs : List Value} (k : Nat), Cells w S l xs → Cells w S (l.take k) (xs.take (k * 5))
  | [], _, k, h => by simp only [Cells] at h; subst h; simp [Cells]
  | t :: l, _, 0, _ => by simp [Cells]
  | t :: l, _, k + 1, ⟨vm, va, vk, ys, e, hm, ha, hk, h⟩ => by
    subst e
    rw [show (k + 1) * 5 = k * 5 + 5 by omega]
    exact ⟨vm, va, vk, ys.take (k * 5), rfl, hm, ha, hk, Cells.take k h⟩
theorem Own.pre {w : World} {base : Nat} {S : Nat → Prop} {g n co : Nat} {l : List Tree} (h : Own w base S (.slice (some ⟨g, 0, none⟩) n co) l) (k : Nat) (hk : k ≤ l.length) : Src w S (.slice (some ⟨g, 0, none⟩) k co) (l.take k) := by
  obtain ⟨xs, ⟨hl, ho⟩, hc⟩ := h
  rcases ho with ⟨h, _⟩ | ⟨g', cap, cur, hv, _, hh, _, _, _, htk⟩
  · cases h
  · injection hv with h1 h2 h3
    injection h1 with h1
    injection h1 with h1 _ _
    subst h1 h3
    refine ⟨_, co, xs.take (k * 5), by rw [List.length_take, Nat.min_eq_left hk], hc.take k, .inr ⟨g, 0, rfl, fun j u hj => ?_⟩⟩
    have hj1 : j < k * 5 := by
      have := (List.getElem?_eq_some_iff.1 hj).1
      simp at this; omega
    rw [List.getElem?_take_of_lt hj1] at hj
    subst htk
    rw [List.getElem?_take_of_lt (by have := Nat.mul_le_mul_right 5 hk; omega)] at hj
    simp only [World.cell?, hh]
    simpa using hj
theorem own_empty {W : World} {base e : Nat} {S : Nat → Prop} (hE : W.heap[e]? = some (.cells #[] 26)) (he : base ≤ e) : Own W base S (.slice (some ⟨e, 0, none⟩) 0 0) [] :=
  ⟨[], ⟨rfl, .inr ⟨e, 0, #[], rfl, he, hE, Nat.le_refl _, by unfold maxLen; omega, rfl, rfl⟩⟩, rfl⟩

section
variable {ops : Array Oper} {o : Oper} {a : Act} {K : Act → World → Prop} {Q : Exit → Act → World → Prop} {E : Prop}
/-- append([]Node, out[:last]...) -/
theorem step_first {S : Nat → Prop} {w wr W : World} {g e co : Nat} {out : List Tree} (hS : ∀ b, S b → b < w.heap.size) (hgd : o.guard = none) (s x : Operand) (ho : o.op = .call { callee := .builtin .append, args := #[s, x], argTypes := #[24, 24] })
    (hv : a.eval s = .slice (some ⟨e, 0, none⟩) 0 0) (hx : a.eval x = .slice (some ⟨g, 0, none⟩) (out.length - 1) co)
    (hE : W.heap[e]? = some (.cells #[] 26)) (he : wr.heap.size ≤ e) (hB : Below wr.heap.size wr W) (hbr : Below w.heap.size w wr)
    (hO : Own wr w.heap.size S (.slice (some ⟨g, 0, none⟩) out.length co) out) (hlen : out.length ≤ 1100000)
    (h : ∀ v' w', Own w' w.heap.size S v' out.dropLast → Below wr.heap.size wr w' → (∀ g o v, W.cell? ⟨g, o, none⟩ = some v → g ≠ e → w'.cell? ⟨g, o, none⟩ = some v) → K (a.put o.dst v') w') :
    if Region.wanted o (yielded ops a.tmps) = true then Oper.wp Tryd.prog o a W K Q else E := by
  have hsz := hbr.size
  have hBw := belowNext hbr hB
  refine step_append_nodes hgd s x ho w.heap.size S _ _ [] out.dropLast hv hx (own_empty hE (by omega)) ?_ (fun b hb => ⟨Nat.lt_of_lt_of_le (hS b hb) hBw.size, fun h => ?_⟩) ?_ hBw.size ?_
  · have := (hO.later hB (fun b hb => Nat.lt_of_lt_of_le (hS b hb) hsz)).pre (out.length - 1) (by omega)
    rwa [← List.dropLast_eq_take] at this
  · have := hS b hb; simp [Value.ownBlock] at h; omega
  · simp; omega
  · intro v' w' h1 h2 _
    have h2' : W.grownBy w' (some e) := h2
    refine h v' w' (by simpa using h1) (hB.grown h2' hB.size (fun k hk => by injection hk with hk; omega)) fun g o v hc hn => ?_
    exact (World.cell?_of_block (a := ⟨g, o, none⟩) (h2'.block g (cell_lt hc) (fun h => hn (Option.some.inj h)))).trans hc
/-- append(.., n) -/
theorem step_second {S : Nat → Prop} {w wr W : World} {xb : Nat} {v vm va vk : Value} {l : List Tree} {t : Tree} {kd tx : ByteArray} (hS : ∀ b, S b → b < w.heap.size) (hkd : t.kind = kd) (htx : t.text = tx) (hgd : o.guard = none) (s x : Operand) (ho : o.op = .call { callee := .builtin .append, args := #[s, x], argTypes := #[24, 24] })
    (hv : a.eval s = v) (hx : a.eval x = .slice (some ⟨xb, 0, none⟩) 1 1) (hO : Own W w.heap.size S v l) (hB : Below wr.heap.size wr W) (hbr : Below w.heap.size w wr)
    (hm : Strs wr S vm t.marks) (ha : Pairs wr S va t.attrs) (hk : Kids wr S vk t.kids)
    (c0 : W.cell? ⟨xb, 0, none⟩ = some (.string kd)) (c1 : W.cell? ⟨xb, 1, none⟩ = some (.string tx)) (c2 : W.cell? ⟨xb, 2, none⟩ = some vm) (c3 : W.cell? ⟨xb, 3, none⟩ = some va) (c4 : W.cell? ⟨xb, 4, none⟩ = some vk)
    (hlen : l.length + 1 ≤ 1100000) (h : ∀ v' w', Own w' w.heap.size S v' (l ++ [t]) → Below w.heap.size w w' → K (a.put o.dst v') w') :
    if Region.wanted o (yielded ops a.tmps) = true then Oper.wp Tryd.prog o a W K Q else E := by
  subst hkd htx
  have hBw := belowNext hbr hB
  have hB' : Below w.heap.size wr W := hB.mono hbr.size
  have hown : ∀ k, v.ownBlock = some k → w.heap.size ≤ k := fun k hk => by
    obtain ⟨A, c, rfl, _, hA⟩ := hO.form
    rcases hA with ⟨rfl, _⟩ | ⟨g, rfl, hg, _⟩
    · cases hk
    · simp [Value.ownBlock] at hk; omega
  refine step_append_nodes hgd s x ho w.heap.size S _ _ l [t] hv hx hO (src_one (hm.stay hB' hS) (ha.stay hB' hS) (hk.stay hB' hS) c0 c1 c2 c3 c4) (fun b hb => ⟨Nat.lt_of_lt_of_le (hS b hb) hBw.size, fun h => ?_⟩) (by simpa using hlen) hBw.size ?_
  · have := hown b h.symm; have := hS b hb; omega
  · intro v' w' h1 h2 _
    exact h v' w' h1 (hBw.grown h2 hBw.size hown)
end

section
variable {ops : Array Oper} {o : Oper} {a : Act} {K : Act → World → Prop} {Q : Exit → Act → World → Prop} {E : Prop}
/-- append(.., n), n just laid. -/
theorem step_second_new {S : Nat → Prop} {w wr W : World} {v vm va vk : Value} {l : List Tree} {t : Tree} {kd tx : ByteArray} (hS : ∀ b, S b → b < w.heap.size) (hkd : t.kind = kd) (htx : t.text = tx) (hgd : o.guard = none) (s x : Operand) (ho : o.op = .call { callee := .builtin .append, args := #[s, x], argTypes := #[24, 24] })
    (hv : a.eval s = v) (hx : a.eval x = .slice (some ⟨W.heap.size, 0, none⟩) 1 1) (hO : Own W w.heap.size S v l) (hB : Below wr.heap.size wr W) (hbr : Below w.heap.size w wr)
    (hm : Strs wr S vm t.marks) (ha : Pairs wr S va t.attrs) (hk : Kids wr S vk t.kids)
    (hlen : l.length + 1 ≤ 1100000) (h : ∀ v' w', Own w' w.heap.size S v' (l ++ [t]) → Below w.heap.size w w' → K (a.put o.dst v') w') :
    if Region.wanted o (yielded ops a.tmps) = true then Oper.wp Tryd.prog o a (W.alloc (.cells #[.string kd, .string tx, vm, va, vk] 26)) K Q else E := by
  obtain ⟨c0, c1, c2, c3, c4, hb, _⟩ := box5 (w := W) (Below.refl _ (W.alloc (.cells #[.string kd, .string tx, vm, va, vk] 26)))
  exact step_second hS hkd htx hgd s x ho hv hx (hO.later hb (fun b hb' => Nat.lt_of_lt_of_le (hS b hb') (Nat.le_trans hbr.size hB.size))) (hB.alloc hB.size _) hbr hm ha hk c0 c1 c2 c3 c4 hlen h
end

theorem boxAt {W : World} {g : Nat} {v0 v1 v2 v3 v4 : Value} {T : TypeId} (hg : W.heap.size = g) :
    (W.alloc (.cells #[v0, v1, v2, v3, v4] T)).cell? ⟨g, 0, none⟩ = some v0 ∧ (W.alloc (.cells #[v0, v1, v2, v3, v4] T)).cell? ⟨g, 1, none⟩ = some v1 ∧ (W.alloc (.cells #[v0, v1, v2, v3, v4] T)).cell? ⟨g, 2, none⟩ = some v2 ∧
      (W.alloc (.cells #[v0, v1, v2, v3, v4] T)).cell? ⟨g, 3, none⟩ = some v3 ∧ (W.alloc (.cells #[v0, v1, v2, v3, v4] T)).cell? ⟨g, 4, none⟩ = some v4 := by
  subst hg
  obtain ⟨c0, c1, c2, c3, c4, _, _⟩ := box5 (w := W) (Below.refl _ (W.alloc (.cells #[v0, v1, v2, v3, v4] T)))
  exact ⟨c0, c1, c2, c3, c4⟩
theorem boxAt_under {W : World} {g : Nat} {v0 v1 v2 v3 v4 : Value} {T : TypeId} (hg : W.heap.size = g) (ob : Obj) :
    ((W.alloc (.cells #[v0, v1, v2, v3, v4] T)).alloc ob).cell? ⟨g, 0, none⟩ = some v0 ∧ ((W.alloc (.cells #[v0, v1, v2, v3, v4] T)).alloc ob).cell? ⟨g, 1, none⟩ = some v1 ∧ ((W.alloc (.cells #[v0, v1, v2, v3, v4] T)).alloc ob).cell? ⟨g, 2, none⟩ = some v2 ∧
      ((W.alloc (.cells #[v0, v1, v2, v3, v4] T)).alloc ob).cell? ⟨g, 3, none⟩ = some v3 ∧ ((W.alloc (.cells #[v0, v1, v2, v3, v4] T)).alloc ob).cell? ⟨g, 4, none⟩ = some v4 := by
  obtain ⟨c0, c1, c2, c3, c4⟩ := boxAt (v0 := v0) (v1 := v1) (v2 := v2) (v3 := v3) (v4 := v4) (T := T) hg
  have hb : Below (W.alloc (.cells #[v0, v1, v2, v3, v4] T)).heap.size (W.alloc (.cells #[v0, v1, v2, v3, v4] T)) ((W.alloc (.cells #[v0, v1, v2, v3, v4] T)).alloc ob) := (Below.refl _ _).alloc (Nat.le_refl _) _
  exact ⟨cell_kept c0 hb, cell_kept c1 hb, cell_kept c2 hb, cell_kept c3 hb, cell_kept c4 hb⟩

theorem heap_new (W : World) (ob : Obj) : (W.alloc ob).heap[W.heap.size]? = some ob := by show (W.heap.push _)[W.heap.size]? = _; simp
theorem heap_new' (W : World) (ob : Obj) {g : Nat} (hg : W.heap.size = g) : (W.alloc ob).heap[g]? = some ob := by subst hg; exact heap_new W ob
theorem heap_old (W : World) (ob x : Obj) {g : Nat} (h : W.heap[g]? = some x) : (W.alloc ob).heap[g]? = some x :=
  (Below.heap_alloc W ob g (by rcases Nat.lt_or_ge g W.heap.size with h' | h'; exact h'; rw [Array.getElem?_eq_none h'] at h; cases h)).trans h

end Go.Proofs.YtdbpnfabcmndjaaDoor
