/-
  Rows of spots, and of whole numbers, that a call makes.
-/
import Derived.Test.YtmmifednhleggaaPlG
import Derived.Maps.AppendAt
namespace Go.Proofs.Ytmmifednhleggaa
open Go.RowKit Go.Sort Go.Maps

/-- The blocks of whole numbers. -/
def IB (w : World) : Nat → Prop := fun b => ∃ cs, w.heap[b]? = some (.cells cs 3)
/-- The cells of spots, three a spot. -/
def SCells (w : World) : List Spt → List Value → Prop
  | [], xs => xs = []
  | s :: l, xs => ∃ vp ys, xs = vp :: .int .i64 (s.2.1 : Int) :: .int .i64 (s.2.2 : Int) :: ys ∧ Ints w (IB w) vp s.1 ∧ SCells w l ys

section
variable {w w' : World}
theorem ints_ib {v : Value} {l : List Int} (h : Ints w (IB w) v l) (hk : ∀ (b : Nat) (cs : Array Value), w.heap[b]? = some (.cells cs 3) → w'.heap[b]? = some (.cells cs 3)) : Ints w' (IB w') v l :=
  h.keep (fun _ ⟨cs, hc⟩ => ⟨cs, hk _ cs hc⟩) fun _ ⟨cs, hc⟩ => (hk _ cs hc).trans hc.symm
theorem ib_below {B : Nat} (hB : w.heap.size ≤ B) (hb : Below B w w') (b : Nat) (cs : Array Value) (hc : w.heap[b]? = some (.cells cs 3)) : w'.heap[b]? = some (.cells cs 3) :=
  (hb.block b (Nat.lt_of_lt_of_le (Array.getElem?_eq_some_iff.1 hc).1 hB)).trans hc
theorem SCells.keep (hk : ∀ (b : Nat) (cs : Array Value), w.heap[b]? = some (.cells cs 3) → w'.heap[b]? = some (.cells cs 3)) : ∀ {l : List Spt} {xs : List Value}, SCells w l xs → SCells w' l xs
  | [], _, h => h
  | _ :: _, _, ⟨vp, ys, e, hp, h⟩ => ⟨vp, ys, e, ints_ib hp hk, SCells.keep hk h⟩
theorem SCells.length : ∀ {l : List Spt} {xs : List Value}, SCells w l xs → xs.length = l.length * 3
  | [], _, h => by simp only [SCells] at h; subst h; rfl
  | t :: l, _, ⟨vp, ys, e, _, h⟩ => by have := h.length; subst e; simp only [List.length_cons, this]; omega
theorem SCells.append : ∀ {l l' : List Spt} {xs ys : List Value}, SCells w l xs → SCells w l' ys → SCells w (l ++ l') (xs ++ ys)
  | [], _, _, _, h, h' => by simp only [SCells] at h; subst h; exact h'
  | t :: l, l', _, _, ⟨vp, zs, e, hp, h⟩, h' => ⟨vp, zs ++ _, by subst e; rfl, hp, SCells.append h h'⟩
theorem SCells.one {vp : Value} {p : List Int} {i j : Nat} (hp : Ints w (IB w) vp p) : SCells w [(p, i, j)] [vp, .int .i64 (i : Int), .int .i64 (j : Int)] := ⟨vp, [], rfl, hp, rfl⟩
theorem SCells.oneCell : ∀ {l : List Spt} {xs : List Value}, SCells w l xs → ∀ u ∈ xs, u.oneCell' = true
  | [], _, h, u, hu => by simp only [SCells] at h; subst h; cases hu
  | t :: l, _, ⟨vp, ys, e, hp, h⟩, u, hu => by
    subst e
    obtain ⟨_, _, rfl, _⟩ := hp.form
    simp only [List.mem_cons] at hu
    rcases hu with rfl | rfl | rfl | hu
    · rfl
    · rfl
    · rfl
    · exact h.oneCell u hu
theorem SCells.get : ∀ {l : List Spt} {xs : List Value} {k : Nat} {s : Spt}, SCells w l xs → l[k]? = some s →
    ∃ vp, xs[k * 3]? = some vp ∧ xs[k * 3 + 1]? = some (.int .i64 (s.2.1 : Int)) ∧ xs[k * 3 + 2]? = some (.int .i64 (s.2.2 : Int)) ∧ Ints w (IB w) vp s.1
  | [], _, k, s, _, h => by simp at h
  | t :: l, _, k, s, ⟨vp, ys, e, hp, hc⟩, h => by
    subst e
    cases k with
    | zero => simp only [List.getElem?_cons_zero, Option.some.injEq] at h; subst h; exact ⟨vp, rfl, rfl, rfl, hp⟩
    | succ k =>
      obtain ⟨vp', h0, h1, h2, h3⟩ := hc.get (k := k) (by simpa using h)
      refine ⟨vp', ?_, ?_, ?_, h3⟩
      · rw [show (k + 1) * 3 = k * 3 + 3 by omega]; simpa using h0
      · rw [show (k + 1) * 3 + 1 = k * 3 + 1 + 3 by omega]; simpa using h1
      · rw [show (k + 1) * 3 + 2 = k * 3 + 2 + 3 by omega]; simpa using h2
end

/-- A row of spots that the call owns from block 'base' on. -/
def SOwn (w : World) (base : Nat) (v : Value) (l : List Spt) : Prop := ∃ xs, w.ownsRow base 36 3 v l.length xs ∧ SCells w l xs
theorem spot_info : (Try.prog.info? 36).map (fun i => (i.zero, i.size, i.bytes)) = some (some (.agg #[.slice none 0 0, .int .i64 0, .int .i64 0]), 3, 40) := by kernel_rfl
/-- A slice of spots, wherever it lies. -/
def SSrc (w : World) (v : Value) (l : List Spt) : Prop :=
  ∃ A c xs, v = .slice A l.length c ∧ SCells w l xs ∧ (l = [] ∨ ∃ b o, A = some ⟨b, o, none⟩ ∧ ∀ j u, xs[j]? = some u → w.cell? ⟨b, o + j, none⟩ = some u)
theorem SOwn.nil (w : World) (base : Nat) : SOwn w base (.slice none 0 0) [] := ⟨[], World.ownsRow_nil _ _ _ _, rfl⟩
theorem SOwn.form {w : World} {base : Nat} {v : Value} {l : List Spt} (h : SOwn w base v l) : ∃ A c, v = .slice A l.length c ∧ l.length ≤ c := by
  obtain ⟨xs, h, _⟩ := h
  obtain ⟨A, c, e, hc, _⟩ := row_form h
  exact ⟨A, c, e, hc⟩
theorem SOwn.src {w : World} {base : Nat} {v : Value} {l : List Spt} (h : SOwn w base v l) : SSrc w v l := by
  obtain ⟨xs, ho, hc⟩ := h
  obtain ⟨A, c, rfl, _, ha⟩ := row_form ho
  refine ⟨A, c, xs, rfl, hc, ?_⟩
  cases l with
  | nil => exact .inl rfl
  | cons s l =>
    obtain ⟨g, rfl⟩ := ha (by simp)
    refine .inr ⟨g, 0, rfl, fun j u hj => ?_⟩
    obtain ⟨hl, ho⟩ := ho
    rcases ho with ⟨h, _⟩ | ⟨g', cap, cur, hv, hb, hg, hn, hcp, hs, ht⟩
    · cases h
    · injection hv with h1 _ _
      injection h1 with h1
      injection h1 with h1
      subst h1; subst ht
      have hj' := (List.getElem?_eq_some_iff.1 hj).1
      rw [List.length_take] at hj'
      rw [List.getElem?_take_of_lt (by omega)] at hj
      simp only [World.cell?, hg]
      simpa using hj
theorem SOwn.keep {w w' : World} {base : Nat} {v : Value} {l : List Spt} (h : SOwn w base v l) (hv : ∀ g, v.ownBlock = some g → w'.heap[g]? = w.heap[g]?) (hk : ∀ (b : Nat) (cs : Array Value), w.heap[b]? = some (.cells cs 3) → w'.heap[b]? = some (.cells cs 3)) : SOwn w' base v l := by
  obtain ⟨xs, ho, hc⟩ := h
  exact ⟨xs, row_hold ho hv, hc.keep hk⟩
theorem SOwn.below {w w' : World} {base : Nat} {v : Value} {l : List Spt} (h : SOwn w base v l) (hb : Below w.heap.size w w') : SOwn w' base v l := by
  refine h.keep (fun g hg => ?_) (ib_below (Nat.le_refl _) hb)
  obtain ⟨xs, ho, _⟩ := h
  exact hb.block g (row_ty ho hg).2.1
/-- The k-th spot of a row, as it is read. -/
theorem SSrc.get {w : World} {A : Option Addr} {n c k : Nat} {l : List Spt} {s : Spt} (h : SSrc w (.slice A n c) l) (hk : l[k]? = some s) :
    ∃ b o vp, A = some ⟨b, o, none⟩ ∧ w.cell? ⟨b, o + k * 3, none⟩ = some vp ∧ w.cell? ⟨b, o + k * 3 + 1, none⟩ = some (.int .i64 (s.2.1 : Int)) ∧ w.cell? ⟨b, o + k * 3 + 2, none⟩ = some (.int .i64 (s.2.2 : Int)) ∧ Ints w (IB w) vp s.1 := by
  obtain ⟨A', c', xs, hv, hc, h⟩ := h
  injection hv with hA _ _
  subst hA
  rcases h with h | ⟨b, o, rfl, hx⟩
  · subst h; simp at hk
  · obtain ⟨vp, h0, h1, h2, h3⟩ := hc.get hk
    exact ⟨b, o, vp, rfl, hx _ _ h0, hx _ _ h1, hx _ _ h2, h3⟩

/-- append of spots to a row of the call's own. -/
theorem run_append_spots {w : World} {base : Nat} {v x : Value} {l l' : List Spt} (ty : TypeId) (hown : SOwn w base v l) (hsrc : SSrc w x l')
    (hn : l.length + l'.length ≤ 10000000) (hbase : base ≤ w.heap.size) :
    ∃ v' w', (Builtin.append_ #[55, 55] ty #[v, x]).run Try.prog w = .ok v' w' ∧ SOwn w' base v' (l ++ l') ∧ w.grownBy w' v.ownBlock := by
  obtain ⟨xs, ho, hc⟩ := hown
  obtain ⟨A, c, ys, rfl, hc', hsrc⟩ := hsrc
  obtain ⟨i, hi, hz0, hz1, hz2⟩ := info_parts spot_info
  cases A with
  | none =>
    have hl : l' = [] := by
      rcases hsrc with h | ⟨b, o, h, _⟩
      · exact h
      · cases h
    subst hl
    simp only [SCells] at hc'
    subst hc'
    refine ⟨v, w, ?_, ⟨xs, by simpa using ho, by simpa using hc⟩, ⟨rfl, rfl, rfl, Nat.le_refl _, fun _ _ _ => rfl⟩⟩
    rcases ho.2 with ⟨rfl, h0⟩ | ⟨g, cap, cur, rfl, _, _, hnc, _⟩
    · simp [Builtin.append_, run_underlying Try.underlying55, sizeOf, typeInfo, hi, Builtin.lenOf, Builtin.firstCells]
    · simp [Builtin.append_, run_underlying Try.underlying55, sizeOf, typeInfo, hi, Builtin.lenOf, Builtin.firstCells, hnc, storeCells]
  | some a =>
    have ha : ∀ j u, ys[j]? = some u → w.cell? (a.add j) = some u := by
      rcases hsrc with h | ⟨b, o, h, hx⟩
      · subst h; simp only [SCells] at hc'; subst hc'; intro j u h; simp at h
      · injection h with h; subst h
        intro j u hj; rw [add_cell]; exact hx j u hj
    obtain ⟨v', w', hr, h1, h2, _, h4⟩ := run_append_own_at (P := Try.prog) w base 55 ty 36 i _ 3 40 Try.underlying55 hi hz0 hz1 hz2 rfl (by omega) v l.length xs ho a l'.length c ys hc'.length ha hc'.oneCell (by unfold maxLen; omega) (by omega) hbase
    refine ⟨v', w', hr, ⟨xs ++ ys, by rw [List.length_append]; exact h1, (hc.append hc').keep fun b cs hb => ?_⟩, h2⟩
    exact (h2.block b (Array.getElem?_eq_some_iff.1 hb).1 (row_ne ho hb (by decide))).trans hb

/-- append of whole numbers to a row of the call's own. -/
theorem run_append_ints {w : World} {base : Nat} {S : Nat → Prop} {v x : Value} {l l' : List Int} (ty : TypeId) (ho : w.ownsRow base 3 1 v l.length (l.map (Value.int .i64))) (hsrc : Ints w S x l')
    (hn : l.length + l'.length ≤ 10000000) (hbase : base ≤ w.heap.size) :
    ∃ v' w', (Builtin.append_ #[23, 23] ty #[v, x]).run Try.prog w = .ok v' w' ∧ w'.ownsRow base 3 1 v' (l ++ l').length ((l ++ l').map (Value.int .i64)) ∧ w.grownBy w' v.ownBlock := by
  obtain ⟨A, c, rfl, _, _, hsrc⟩ := hsrc
  obtain ⟨i, hi, hz0, hz1, hz2⟩ := info_parts int_info
  cases A with
  | none =>
    have hl : l' = [] := by
      rcases hsrc with h | ⟨b, o, h, _⟩
      · exact h
      · cases h
    subst hl
    refine ⟨v, w, ?_, by simpa using ho, ⟨rfl, rfl, rfl, Nat.le_refl _, fun _ _ _ => rfl⟩⟩
    rcases ho.2 with ⟨rfl, h0⟩ | ⟨g, cap, cur, rfl, _, _, hnc, _⟩
    · simp [Builtin.append_, run_underlying Try.underlying23, sizeOf, typeInfo, hi, Builtin.lenOf, Builtin.firstCells]
    · simp [Builtin.append_, run_underlying Try.underlying23, sizeOf, typeInfo, hi, Builtin.lenOf, Builtin.firstCells, hnc, storeCells]
  | some a =>
    have ha : ∀ j u, (l'.map (Value.int .i64))[j]? = some u → w.cell? (a.add j) = some u := by
      intro j u hj
      rw [List.getElem?_map, Option.map_eq_some_iff] at hj
      obtain ⟨s, hs, rfl⟩ := hj
      rcases hsrc with h | ⟨b, o, h, _, hx⟩
      · subst h; simp at hs
      · injection h with h; subst h; rw [add_cell]; exact hx j s hs
    have hone : ∀ u ∈ l'.map (Value.int .i64), u.oneCell' = true := by
      intro u hu
      obtain ⟨s, _, rfl⟩ := List.mem_map.1 hu
      rfl
    obtain ⟨v', w', hr, h1, h2, _, h4⟩ := run_append_own_at (P := Try.prog) w base 23 ty 3 i _ 1 8 Try.underlying23 hi hz0 hz1 hz2 rfl (by omega) v l.length _ ho a l'.length c _ (by simp) ha hone (by unfold maxLen; omega) (by omega) hbase
    exact ⟨v', w', hr, by rw [List.length_append, List.map_append]; exact h1, h2⟩

section
variable {w : World} {ops : Array Oper} {rest : List Oper} {o : Oper} {a : Act} {Q : Exit → Act → World → Prop}
theorem wp_append_spots {K : Act → World → Prop} (s x : Operand) (ho : o.op = .call { callee := .builtin .append, args := #[s, x], argTypes := #[55, 55] })
    (base : Nat) (v u : Value) (l l' : List Spt) (hs : a.eval s = v) (hx : a.eval x = u) (hown : SOwn w base v l) (hsrc : SSrc w u l')
    (hn : l.length + l'.length ≤ 10000000) (hbase : base ≤ w.heap.size)
    (h : ∀ v' w', SOwn w' base v' (l ++ l') → w.grownBy w' v.ownBlock → K (a.put o.dst v') w') : o.wp Try.prog a w K Q := by
  obtain ⟨v', w', hr, h1, h2⟩ := run_append_spots o.type hown hsrc hn hbase
  unfold Oper.wp execOp
  simp only [ho, resolve, invoke, builtin, Sem.run_bind, Sem.run_pure, Result.andThen_ok, List.map_toArray, List.map_cons, List.map_nil, hs, hx, hr]
  exact h v' w' h1 h2
theorem wpList_append_spots (hgd : o.guard = none) (s x : Operand) (ho : o.op = .call { callee := .builtin .append, args := #[s, x], argTypes := #[55, 55] })
    (base : Nat) (v u : Value) (l l' : List Spt) (hs : a.eval s = v) (hx : a.eval x = u) (hown : SOwn w base v l) (hsrc : SSrc w u l')
    (hn : l.length + l'.length ≤ 10000000) (hbase : base ≤ w.heap.size)
    (h : ∀ v' w', SOwn w' base v' (l ++ l') → w.grownBy w' v.ownBlock → wpList Try.prog ops Q rest (a.put o.dst v') w') : wpList Try.prog ops Q (o :: rest) a w :=
  wpList_plain hgd fun _ hK => wp_append_spots s x ho base v u l l' hs hx hown hsrc hn hbase fun v' w' h1 h2 => hK _ _ (h v' w' h1 h2)
theorem step_append_spots {K : Act → World → Prop} {E : Prop} (hgd : o.guard = none) (s x : Operand) (ho : o.op = .call { callee := .builtin .append, args := #[s, x], argTypes := #[55, 55] })
    (base : Nat) (v u : Value) (l l' : List Spt) (hs : a.eval s = v) (hx : a.eval x = u) (hown : SOwn w base v l) (hsrc : SSrc w u l')
    (hn : l.length + l'.length ≤ 10000000) (hbase : base ≤ w.heap.size)
    (h : ∀ v' w', SOwn w' base v' (l ++ l') → w.grownBy w' v.ownBlock → K (a.put o.dst v') w') :
    if Region.wanted o (yielded ops a.tmps) = true then Oper.wp Try.prog o a w K Q else E := by
  have hw : Region.wanted o (yielded ops a.tmps) = true := by simp [Region.wanted, hgd]
  rw [if_pos hw]
  exact wp_append_spots s x ho base v u l l' hs hx hown hsrc hn hbase h
theorem wp_append_ints {K : Act → World → Prop} (s x : Operand) (ho : o.op = .call { callee := .builtin .append, args := #[s, x], argTypes := #[23, 23] })
    (base : Nat) (S : Nat → Prop) (v u : Value) (l l' : List Int) (hs : a.eval s = v) (hx : a.eval x = u) (hown : w.ownsRow base 3 1 v l.length (l.map (Value.int .i64))) (hsrc : Ints w S u l')
    (hn : l.length + l'.length ≤ 10000000) (hbase : base ≤ w.heap.size)
    (h : ∀ v' w', w'.ownsRow base 3 1 v' (l ++ l').length ((l ++ l').map (Value.int .i64)) → w.grownBy w' v.ownBlock → K (a.put o.dst v') w') : o.wp Try.prog a w K Q := by
  obtain ⟨v', w', hr, h1, h2⟩ := run_append_ints o.type hown hsrc hn hbase
  unfold Oper.wp execOp
  simp only [ho, resolve, invoke, builtin, Sem.run_bind, Sem.run_pure, Result.andThen_ok, List.map_toArray, List.map_cons, List.map_nil, hs, hx, hr]
  exact h v' w' h1 h2
theorem step_append_ints {K : Act → World → Prop} {E : Prop} (hgd : o.guard = none) (s x : Operand) (ho : o.op = .call { callee := .builtin .append, args := #[s, x], argTypes := #[23, 23] })
    (base : Nat) (S : Nat → Prop) (v u : Value) (l l' : List Int) (hs : a.eval s = v) (hx : a.eval x = u) (hown : w.ownsRow base 3 1 v l.length (l.map (Value.int .i64))) (hsrc : Ints w S u l')
    (hn : l.length + l'.length ≤ 10000000) (hbase : base ≤ w.heap.size)
    (h : ∀ v' w', w'.ownsRow base 3 1 v' (l ++ l').length ((l ++ l').map (Value.int .i64)) → w.grownBy w' v.ownBlock → K (a.put o.dst v') w') :
    if Region.wanted o (yielded ops a.tmps) = true then Oper.wp Try.prog o a w K Q else E := by
  have hw : Region.wanted o (yielded ops a.tmps) = true := by simp [Region.wanted, hgd]
  rw [if_pos hw]
  exact wp_append_ints s x ho base S v u l l' hs hx hown hsrc hn hbase h
end
end Go.Proofs.Ytmmifednhleggaa
