/-
  append of tokens, however many, to a row of the call's own; TokenLens walked.
-/
import Derived.Test.YtdcgffepdgldmaaK6
namespace Go.Proofs.Ytdcgffepdgldmaa
open Go.RowKit Go.Sort Go.Maps

theorem TRow.form {w : World} {base : Nat} {v : Value} {l : List Tok} (h : TRow w base v l) : (v = .slice none 0 0 ∧ l = []) ∨ ∃ g c, v = .slice (some ⟨g, 0, none⟩) l.length c ∧ l.length ≤ c := by
  rcases h.2 with ⟨rfl, hm⟩ | ⟨g, cap, cur, rfl, hb, hg, hnc, _⟩
  · exact .inl ⟨rfl, List.eq_nil_of_length_eq_zero hm⟩
  · exact .inr ⟨g, cap, rfl, hnc⟩
theorem flat_get : ∀ (l : List Tok) (j : Nat) (u : Value), (l.flatMap tokCells)[j]? = some u → ∃ i t k, j = i * 3 + k ∧ k < 3 ∧ l[i]? = some t ∧ (tokCells t)[k]? = some u
  | [], j, u, h => by simp at h
  | t :: l, j, u, h => by
    rw [List.flatMap_cons] at h
    by_cases hj : j < 3
    · rw [List.getElem?_append_left (by rw [tokCells_len]; exact hj)] at h
      exact ⟨0, t, j, by omega, hj, rfl, h⟩
    · rw [List.getElem?_append_right (by rw [tokCells_len]; omega), tokCells_len] at h
      obtain ⟨i, t', k, e, hk, hi, hu⟩ := flat_get l _ u h
      exact ⟨i + 1, t', k, by omega, hk, by simpa using hi, hu⟩
theorem flat_len (l : List Tok) : (l.flatMap tokCells).length = l.length * 3 := by
  induction l with
  | nil => rfl
  | cons t l ih => rw [List.flatMap_cons, List.length_append, ih, tokCells_len, List.length_cons]; omega
/-- append of tokens to a row of the call's own. -/
theorem run_append_toks {w : World} {base : Nat} {S : Nat → Prop} {v x : Value} {l l' : List Tok} (ty : TypeId) (hown : TRow w base v l) (hsrc : Toks w S x l')
    (hn : l.length + l'.length ≤ 1000000) (hbase : base ≤ w.heap.size) :
    ∃ v' w', (Builtin.append_ #[31, 31] ty #[v, x]).run Try.prog w = .ok v' w' ∧ TRow w' base v' (l ++ l') ∧ w.grownBy w' v.ownBlock := by
  obtain ⟨A, c, rfl, _, _, hsrc⟩ := hsrc
  obtain ⟨i, hi, hz0, hz1, hz2⟩ := info_parts tok_info
  cases A with
  | none =>
    have hl : l' = [] := by
      rcases hsrc with h | ⟨b, o, h, _⟩
      · exact h
      · cases h
    subst hl
    refine ⟨v, w, ?_, by simpa using hown, ⟨rfl, rfl, rfl, Nat.le_refl _, fun _ _ _ => rfl⟩⟩
    rcases hown.2 with ⟨rfl, h0⟩ | ⟨g, cap, cur, rfl, _, _, hnc, _⟩
    · simp [Builtin.append_, run_underlying Try.underlying31, sizeOf, typeInfo, hi, Builtin.lenOf, Builtin.firstCells]
    · simp [Builtin.append_, run_underlying Try.underlying31, sizeOf, typeInfo, hi, Builtin.lenOf, Builtin.firstCells, hnc, storeCells]
  | some a =>
    have ha : ∀ j u, (l'.flatMap tokCells)[j]? = some u → w.cell? (a.add j) = some u := by
      rcases hsrc with h | ⟨b, o, h, _, hx⟩
      · subst h; intro j u h; simp at h
      · injection h with h; subst h
        intro j u hj
        obtain ⟨q, t, k, rfl, hk, hq, hu⟩ := flat_get l' j u hj
        obtain ⟨x0, x1, x2⟩ := hx q t hq
        rw [add_cell]
        match k, hk, hu with
        | 0, _, hu => rw [← Nat.add_assoc]; injection hu with hu; rw [← hu]; exact x0
        | 1, _, hu => rw [← Nat.add_assoc]; injection hu with hu; rw [← hu]; exact x1
        | 2, _, hu => rw [← Nat.add_assoc]; injection hu with hu; rw [← hu]; exact x2
    have hone : ∀ u ∈ l'.flatMap tokCells, u.oneCell' = true := by
      intro u hu
      obtain ⟨t, _, ht⟩ := List.mem_flatMap.1 hu
      exact tok_one t u ht
    obtain ⟨v', w', hr, h1, h2, _, h4⟩ := run_append_own_at (P := Try.prog) w base 31 ty 40 i _ 3 40 Try.underlying31 hi hz0 hz1 hz2 rfl (by omega) v l.length _ hown a l'.length c _ (flat_len l') ha hone (by unfold maxLen; omega) (by omega) hbase
    exact ⟨v', w', hr, by unfold TRow; rw [List.length_append, List.flatMap_append]; exact h1, h2⟩

section
variable {w : World} {ops : Array Oper} {rest : List Oper} {o : Oper} {a : Act} {Q : Exit → Act → World → Prop}
theorem wp_append_toks {K : Act → World → Prop} (s x : Operand) (ho : o.op = .call { callee := .builtin .append, args := #[s, x], argTypes := #[31, 31] })
    (base : Nat) (S : Nat → Prop) (v u : Value) (l l' : List Tok) (hs : a.eval s = v) (hx : a.eval x = u) (hown : TRow w base v l) (hsrc : Toks w S u l')
    (hn : l.length + l'.length ≤ 1000000) (hbase : base ≤ w.heap.size)
    (h : ∀ v' w', TRow w' base v' (l ++ l') → w.grownBy w' v.ownBlock → K (a.put o.dst v') w') : o.wp Try.prog a w K Q := by
  obtain ⟨v', w', hr, h1, h2⟩ := run_append_toks o.type hown hsrc hn hbase
  unfold Oper.wp execOp
  simp only [ho, resolve, invoke, builtin, Sem.run_bind, Sem.run_pure, Result.andThen_ok, List.map_toArray, List.map_cons, List.map_nil, hs, hx, hr]
  exact h v' w' h1 h2
theorem wpList_append_toks (hgd : o.guard = none) (s x : Operand) (ho : o.op = .call { callee := .builtin .append, args := #[s, x], argTypes := #[31, 31] })
    (base : Nat) (S : Nat → Prop) (v u : Value) (l l' : List Tok) (hs : a.eval s = v) (hx : a.eval x = u) (hown : TRow w base v l) (hsrc : Toks w S u l')
    (hn : l.length + l'.length ≤ 1000000) (hbase : base ≤ w.heap.size)
    (h : ∀ v' w', TRow w' base v' (l ++ l') → w.grownBy w' v.ownBlock → wpList Try.prog ops Q rest (a.put o.dst v') w') : wpList Try.prog ops Q (o :: rest) a w :=
  wpList_plain hgd fun _ hK => wp_append_toks s x ho base S v u l l' hs hx hown hsrc hn hbase fun v' w' h1 h2 => hK _ _ (h v' w' h1 h2)
theorem step_append_toks {K : Act → World → Prop} {E : Prop} (hgd : o.guard = none) (s x : Operand) (ho : o.op = .call { callee := .builtin .append, args := #[s, x], argTypes := #[31, 31] })
    (base : Nat) (S : Nat → Prop) (v u : Value) (l l' : List Tok) (hs : a.eval s = v) (hx : a.eval x = u) (hown : TRow w base v l) (hsrc : Toks w S u l')
    (hn : l.length + l'.length ≤ 1000000) (hbase : base ≤ w.heap.size)
    (h : ∀ v' w', TRow w' base v' (l ++ l') → w.grownBy w' v.ownBlock → K (a.put o.dst v') w') :
    if Region.wanted o (yielded ops a.tmps) = true then Oper.wp Try.prog o a w K Q else E := by
  have hw : Region.wanted o (yielded ops a.tmps) = true := by simp [Region.wanted, hgd]
  rw [if_pos hw]
  exact wp_append_toks s x ho base S v u l l' hs hx hown hsrc hn hbase h
end

theorem same_symm : ∀ a b : List Tok, sameN a b = sameN b a
  | [], b => by cases b <;> rfl
  | a :: x, [] => rfl
  | a :: x, b :: y => by
    rw [sameN, sameN, same_symm x y]
    by_cases h : a = b
    · rw [if_pos h, if_pos h.symm]
    · rw [if_neg h, if_neg (Ne.symm h)]
theorem back_symm (a b : List Tok) : backN a b = backN b a := by
  unfold backN; rw [same_symm a b, same_symm a.reverse b.reverse, Nat.min_comm a.length]
theorem take_same (x y : List Tok) : x.take (sameN x y) = y.take (sameN x y) := by
  apply List.ext_getElem?
  intro i
  by_cases h : i < sameN x y
  · rw [List.getElem?_take_of_lt h, List.getElem?_take_of_lt h]; exact same_at x y i h
  · rw [List.getElem?_take_eq_none (by omega), List.getElem?_take_eq_none (by omega)]
theorem drop_same (x y : List Tok) : x.drop (x.length - backN x y) = y.drop (y.length - backN x y) := by
  have hs := back_sum x y
  apply List.ext_getElem?
  intro i
  rw [List.getElem?_drop, List.getElem?_drop]
  by_cases h : i < backN x y
  · have := back_at x y (backN x y - 1 - i) (by omega)
    rw [show x.length - 1 - (backN x y - 1 - i) = x.length - backN x y + i by omega, show y.length - 1 - (backN x y - 1 - i) = y.length - backN x y + i by omega] at this
    exact this
  · rw [List.getElem?_eq_none (by omega), List.getElem?_eq_none (by omega)]
/-- What both begin with, what is left between, and what both end with. -/
theorem lens_all (x y : List Tok) : [] ++ x.take (sameN x y) ++ (y.drop (sameN x y)).take (y.length - backN x y - sameN x y) ++ x.drop (x.length - backN x y) = y := by
  have hs := back_sum x y
  rw [List.nil_append, take_same, drop_same]
  have h1 : (y.drop (sameN x y)).drop (y.length - backN x y - sameN x y) = y.drop (y.length - backN x y) := by
    rw [List.drop_drop]; congr 1; omega
  rw [← h1, List.append_assoc, List.take_append_drop, List.take_append_drop]
end Go.Proofs.Ytdcgffepdgldmaa
