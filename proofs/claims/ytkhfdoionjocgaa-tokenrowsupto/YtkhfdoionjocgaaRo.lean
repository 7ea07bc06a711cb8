/-
  Rows of the document's tokens; its Head in a region that draws; `short`.
-/
import Derived.Test.YtkhfdoionjocgaaK6
import Derived.Test.YtkhfdoionjocgaaR2
import Derived.Test.YtkhfdoionjocgaaRuns
import Derived.Test.YtkhfdoionjocgaaArgN
namespace Go.Proofs.Ytkhfdoionjocgaa
open Go.RowKit Go.Sort Go.Maps

/-- A row of the document's tokens of the call's own. -/
def RRow (w : World) (base : Nat) (v : Value) (l : List Tok) : Prop := w.ownsRow base 48 3 v l.length (l.flatMap tokCells)
theorem RRow.block {w : World} {base : Nat} {v : Value} {l : List Tok} (h : RRow w base v l) {g : Nat} (hg : v.ownBlock = some g) : base ≤ g ∧ ∃ cur, w.heap[g]? = some (.cells cur 48) := by
  rcases h.2 with ⟨rfl, _⟩ | ⟨g', cap, cur, rfl, hb, hg', _⟩
  · cases hg
  · injection hg with hg; subst hg; exact ⟨hb, cur, hg'⟩
theorem RRow.later {w w' : World} {base : Nat} {v : Value} {l : List Tok} (h : RRow w base v l) (hb : Below w.heap.size w w') : RRow w' base v l :=
  ownsRow_keep h fun g hg => hb.block _ (by obtain ⟨_, cur, hc⟩ := h.block hg; exact heap_lt hc)
/-- What is no row of the document's tokens stays. -/
def KeepR (w w' : World) : Prop := ∀ (b : Nat) (cs : Array Value) (T : TypeId), w.heap[b]? = some (Obj.cells cs T) → T ≠ 48 → w'.heap[b]? = some (Obj.cells cs T)
theorem KeepR.refl (w : World) : KeepR w w := fun _ _ _ h _ => h
theorem KeepR.trans {a b c : World} (h : KeepR a b) (k : KeepR b c) : KeepR a c := fun g cs T hg hT => k g cs T (h g cs T hg hT) hT
theorem KeepR.below {w w' : World} (h : Below w.heap.size w w') : KeepR w w' := fun b _ _ hb _ => (h.block b (heap_lt hb)).trans hb
theorem KeepR.grown {w w' : World} {base : Nat} {v : Value} {l : List Tok} (ho : RRow w base v l) (h : w.grownBy w' v.ownBlock) : KeepR w w' := fun b cs T hb hT => by
  refine (h.block b (heap_lt hb) fun e => ?_).trans hb
  obtain ⟨_, cur, hc⟩ := ho.block e.symm
  have := Option.some.inj (hb.symm.trans hc)
  injection this with _ h2 _
  exact hT h2
theorem RRow.below {w w' : World} {base : Nat} {v : Value} {l : List Tok} (h : RRow w base v l) (hg : w.grownBy w' v.ownBlock) (hbw : base ≤ w.heap.size) : Below base w w' :=
  (Below.refl _ _).grown hg hbw fun _ hk => (h.block hk).1
theorem rrow_nil (w : World) (base : Nat) : RRow w base (.slice none 0 0) [] := ⟨rfl, .inl ⟨rfl, rfl⟩⟩
theorem rrow_push {w' : World} {base : Nat} {v' : Value} {l : List Tok} {t : Tok} (h : w'.ownsRow base 48 3 v' (l.length + 1) (l.flatMap tokCells ++ tokCells t)) : RRow w' base v' (l ++ [t]) := by
  unfold RRow; rw [List.length_append, List.flatMap_append]; simpa using h
/-- append of the document's tokens to a row of the call's own. -/
theorem run_append_rtoks {w : World} {base : Nat} {S : Nat → Prop} {v x : Value} {l l' : List Tok} (ty : TypeId) (hown : RRow w base v l) (hsrc : Toks w S x l')
    (hn : l.length + l'.length ≤ 1000000) (hbase : base ≤ w.heap.size) :
    ∃ v' w', (Builtin.append_ #[34, 34] ty #[v, x]).run Try.prog w = .ok v' w' ∧ RRow w' base v' (l ++ l') ∧ w.grownBy w' v.ownBlock := by
  have fget : ∀ (l : List Tok) (j : Nat) (u : Value), (l.flatMap tokCells)[j]? = some u → ∃ i t k, j = i * 3 + k ∧ k < 3 ∧ l[i]? = some t ∧ (tokCells t)[k]? = some u := by
    intro l
    induction l with
    | nil => intro j u h; simp at h
    | cons t l ih =>
      intro j u h
      rw [List.flatMap_cons] at h
      by_cases hj : j < 3
      · rw [List.getElem?_append_left (by rw [tokCells_len]; exact hj)] at h
        exact ⟨0, t, j, by omega, hj, rfl, h⟩
      · rw [List.getElem?_append_right (by rw [tokCells_len]; omega), tokCells_len] at h
        obtain ⟨i, t', k, e, hk, hi, hu⟩ := ih _ u h
        exact ⟨i + 1, t', k, by omega, hk, by simpa using hi, hu⟩
  have flen : ∀ l : List Tok, (l.flatMap tokCells).length = l.length * 3 := by
    intro l
    induction l with
    | nil => rfl
    | cons t l ih => rw [List.flatMap_cons, List.length_append, ih, tokCells_len, List.length_cons]; omega
  obtain ⟨A, c, rfl, _, _, hsrc⟩ := hsrc
  obtain ⟨i, hi, hz0, hz1, hz2⟩ := info_parts rtok_info
  cases A with
  | none =>
    have hl : l' = [] := by
      rcases hsrc with h | ⟨b, o, h, _⟩
      · exact h
      · cases h
    subst hl
    refine ⟨v, w, ?_, by simpa using hown, ⟨rfl, rfl, rfl, Nat.le_refl _, fun _ _ _ => rfl⟩⟩
    rcases hown.2 with ⟨rfl, h0⟩ | ⟨g, cap, cur, rfl, _, _, hnc, _⟩
    · simp [Builtin.append_, run_underlying Try.underlying34, sizeOf, typeInfo, hi, Builtin.lenOf, Builtin.firstCells]
    · simp [Builtin.append_, run_underlying Try.underlying34, sizeOf, typeInfo, hi, Builtin.lenOf, Builtin.firstCells, hnc, storeCells]
  | some a =>
    have ha : ∀ j u, (l'.flatMap tokCells)[j]? = some u → w.cell? (a.add j) = some u := by
      rcases hsrc with h | ⟨b, o, h, _, hx⟩
      · subst h; intro j u h; simp at h
      · injection h with h; subst h
        intro j u hj
        obtain ⟨q, t, k, rfl, hk, hq, hu⟩ := fget l' j u hj
        obtain ⟨x0, x1, x2⟩ := hx q t hq
        rw [add_cell]
        have hu' : u = [(.int .u8 (t.kind : Int) : Value), .string t.text, .string t.head].getD k (.bool false) := by
          rw [List.getD_eq_getElem?_getD]; unfold tokCells at hu; rw [hu]; rfl
        match k, hk with
        | 0, _ => rw [← Nat.add_assoc, hu']; exact x0
        | 1, _ => rw [← Nat.add_assoc, hu']; exact x1
        | 2, _ => rw [← Nat.add_assoc, hu']; exact x2
    have hone : ∀ u ∈ l'.flatMap tokCells, u.oneCell' = true := by
      intro u hu
      obtain ⟨t, _, ht⟩ := List.mem_flatMap.1 hu
      exact tok_one t u ht
    obtain ⟨v', w', hr, h1, h2, _, h4⟩ := run_append_own_at (P := Try.prog) w base 34 ty 48 i _ 3 40 Try.underlying34 hi hz0 hz1 hz2 rfl (by omega) v l.length _ hown a l'.length c _ (flen l') ha hone (by unfold maxLen; omega) (by omega) hbase
    exact ⟨v', w', hr, by unfold RRow; rw [List.length_append, List.flatMap_append]; exact h1, h2⟩

section
variable {w : World} {ops : Array Oper} {rest : List Oper} {o : Oper} {a : Act} {Q : Exit → Act → World → Prop}
theorem wpList_append_rtoks (hgd : o.guard = none) (s x : Operand) (ho : o.op = .call { callee := .builtin .append, args := #[s, x], argTypes := #[34, 34] })
    (base : Nat) (S : Nat → Prop) (v u : Value) (l l' : List Tok) (hs : a.eval s = v) (hx : a.eval x = u) (hown : RRow w base v l) (hsrc : Toks w S u l')
    (hn : l.length + l'.length ≤ 1000000) (hbase : base ≤ w.heap.size)
    (h : ∀ v' w', RRow w' base v' (l ++ l') → w.grownBy w' v.ownBlock → wpList Try.prog ops Q rest (a.put o.dst v') w') : wpList Try.prog ops Q (o :: rest) a w :=
  wpList_plain hgd fun _ hK => by
    obtain ⟨v', w', hr, h1, h2⟩ := run_append_rtoks o.type hown hsrc hn hbase
    unfold Oper.wp execOp
    simp only [ho, resolve, invoke, builtin, Sem.run_bind, Sem.run_pure, Result.andThen_ok, List.map_toArray, List.map_cons, List.map_nil, hs, hx, hr]
    exact hK _ _ (h v' w' h1 h2)
/-- The document's Head, in a region that draws its order. -/
theorem step_rhead {K : Act → World → Prop} {E : Prop} (hgd : o.guard = none) (x : Operand) (ho : o.op = .call { callee := .value (.func 15), args := #[x], argTypes := #[27] }) {v : Value} {t : Tree} (hx : a.eval x = v)
    (hN : Node w (Under w.heap.size) v t) (hw : weigh t ≤ 100000)
    (h : ∀ w', Below w.heap.size w w' → K (a.put o.dst (.string (headT t))) w') :
    if Region.wanted o (yielded ops a.tmps) = true then Oper.wp Try.prog o a w K Q else E := by
  have hwn : Region.wanted o (yielded ops a.tmps) = true := by simp [Region.wanted, hgd]
  rw [if_pos hwn]
  have hrun : (execOp a.eval o).run Try.prog w = .ok (.enter 15 #[v]) w := by
    have hf : a.eval (.func 15) = .func (.func 15) #[] #[] := rfl
    obtain ⟨c, hc⟩ : ∃ c, Try.f15.body = some c := Option.isSome_iff_exists.1 (by kernel_rfl)
    have hne : ¬ Try.f15.name = "runtime.NumGoroutine" := of_decide_eq_false (by kernel_rfl)
    simp [execOp, ho, resolve, invoke, hx, hf, Deferred.ofValue, callFunc, hne, hc]
  unfold Oper.wp
  rw [hrun, Oper.upon_enter]
  refine (rhead_any v t w hN hw).mono fun e w'' hh => ?_
  obtain ⟨q, rfl, hq, hb⟩ := hh
  have : q = headT t := ByteArray.ext (Array.ext' (by rw [hq]; unfold headT; simp))
  subst this
  exact h w'' hb
end
end Go.Proofs.Ytkhfdoionjocgaa
