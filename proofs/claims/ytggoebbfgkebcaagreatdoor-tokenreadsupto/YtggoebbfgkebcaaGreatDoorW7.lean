/-
  What the document's own sameNames answers; rows of nodes that a call makes.
-/
import Derived.Test.YtggoebbfgkebcaaGreatDoorW6
import Derived.Maps.AppendAt
import Derived.Laws.AppendOwnNone
namespace Go.Proofs.YtggoebbfgkebcaaGreatDoor
open Go.RowKit Go.Sort

set_option maxHeartbeats 400000 in
theorem sameNames_any (va vb : Value) (a b : List ByteArray) (S S' : Nat → Prop) (w : World) (ha : Strs w S va a) (hb : Strs w S' vb b) (hwa : weighL a ≤ 1000000) :
    Calls Tryz.prog 46 #[va, vb] w fun e w' => e = .returned (.bool (sameL a b)) ∧ ∃ n, w' = w.drewN n := by
  have hla := length_le_weighL a
  obtain ⟨A, c, rfl, hc⟩ := ha.form
  obtain ⟨A', c', rfl, hc'⟩ := hb.form
  have HA := Lib.hid ha
  have HB := Lib.hid hb
  clear ha hb
  by_cases hl : a.length = b.length
  · have HL := Lib.hid hl
    have hl' : ((a.length : Int) != (b.length : Int)) = false := by simp [hl]
    clear hl
    go_enter Tryz.func46, Tryz.ntmps46
    go_wp2
    go_loopw [5] (fun i wr => ∃ k n : Nat, k ≤ a.length ∧ i = .int .i64 k ∧ wr = w.drewN n ∧ Hid (∀ j, j < k → ((a.getD j ByteArray.empty).toList == (b.getD j ByteArray.empty).toList) = true)) (fun i _ => a.length - (intOf i).toNat)
    case atStart => exact ⟨0, 0, by omega, rfl, rfl, fun j hj => absurd hj (by omega)⟩
    case round =>
      obtain ⟨k, n, hk, rfl, rfl, hall⟩ := hrel
      by_cases hlt : k < a.length
      · have hltb : k < b.length := by rw [← HL.out]; exact hlt
        obtain ⟨ba, oa, rfl, _, hca⟩ := HA.out.get hlt
        obtain ⟨bb, ob, rfl, _, hcb⟩ := HB.out.get hltb
        have h1 := hca k hlt
        have h2 := hcb k hltb
        have HS := Lib.hid (sameL_at (a := a) (b := b) k hlt)
        clear hca hcb
        generalize hsa : a.getD k ByteArray.empty = sa at *
        generalize hsb : b.getD k ByteArray.empty = sb at *
        have Hsa := Lib.hid hsa
        have Hsb := Lib.hid hsb
        clear hsa hsb
        go_wp2
        go_quiet (fail)
        go_wp2
        · go_ret
          have he : (!sa.toList == sb.toList) = true := by assumption
          exact ⟨ret_bool (HS.out (by simpa using he)).symm, _, World.drewN_drewN _ _ _⟩
        · have he : (!sa.toList == sb.toList) = false := by assumption
          exact ⟨⟨k + 1, _, by omega, by go_num, rfl, step_all hall.out (by rw [Hsa.out, Hsb.out]; simpa using he)⟩, by simp [intOf]; omega⟩
      · go_wp2
        go_ret
        exact ⟨ret_bool (sameL_all HL.out fun i hi => hall.out i (by omega)).symm, n, rfl⟩
  · have hl' : ((a.length : Int) != (b.length : Int)) = true := by simp; omega
    have HN := Lib.hid (sameL_lens hl)
    clear hl
    go_enter Tryz.func46, Tryz.ntmps46
    go_wp2
    go_ret
    exact ⟨ret_bool HN.out.symm, 0, rfl⟩

/-- The cells of nodes, five a node. -/
def Cells (w : World) (S : Nat → Prop) : List Tree → List Value → Prop
  | [], xs => xs = []
  | t :: l, xs => ∃ vm va vk ys, xs = .string t.kind :: .string t.text :: vm :: va :: vk :: ys ∧ Strs w S vm t.marks ∧ Pairs w S va t.attrs ∧ Kids w S vk t.kids ∧ Cells w S l ys

section
variable {w w' : World} {S S' : Nat → Prop}
theorem Cells.keep : ∀ {l : List Tree} {xs : List Value}, Cells w S l xs → (∀ b, S b → S' b) → (∀ b, S b → w'.heap[b]? = w.heap[b]?) → Cells w' S' l xs
  | [], _, h, _, _ => h
  | _ :: _, _, ⟨vm, va, vk, ys, e, hm, ha, hk, h⟩, hS, hb => ⟨vm, va, vk, ys, e, hm.keep hS hb, ha.keep hS hb, hk.keep hS hb, Cells.keep h hS hb⟩
theorem Cells.length : ∀ {l : List Tree} {xs : List Value}, Cells w S l xs → xs.length = l.length * 5
  | [], _, h => by simp only [Cells] at h; subst h; rfl
  | t :: l, _, ⟨vm, va, vk, ys, e, _, _, _, h⟩ => by have := h.length; subst e; simp only [List.length_cons, this]; omega
theorem Cells.append : ∀ {l l' : List Tree} {xs ys : List Value}, Cells w S l xs → Cells w S l' ys → Cells w S (l ++ l') (xs ++ ys)
  | [], _, _, _, h, h' => by simp only [Cells] at h; subst h; exact h'
  | t :: l, l', _, _, ⟨vm, va, vk, zs, e, hm, ha, hk, h⟩, h' => ⟨vm, va, vk, zs ++ _, by subst e; rfl, hm, ha, hk, Cells.append h h'⟩
theorem Cells.one {t : Tree} {vm va vk : Value} (hm : Strs w S vm t.marks) (ha : Pairs w S va t.attrs) (hk : Kids w S vk t.kids) : Cells w S [t] [.string t.kind, .string t.text, vm, va, vk] :=
  ⟨vm, va, vk, [], rfl, hm, ha, hk, rfl⟩
theorem oneCell_str (s : ByteArray) : (Value.string s).oneCell' = true := rfl
theorem oneCell_slice (A : Option Addr) (n c : Nat) : (Value.slice A n c).oneCell' = true := rfl
theorem Cells.oneCell : ∀ {l : List Tree} {xs : List Value}, Cells w S l xs → ∀ u ∈ xs, u.oneCell' = true
  | [], _, h, u, hu => by simp only [Cells] at h; subst h; cases hu
  | t :: l, _, ⟨vm, va, vk, ys, e, hm, ha, hk, h⟩, u, hu => by
    subst e
    obtain ⟨_, _, rfl, _⟩ := hm.form
    obtain ⟨_, _, rfl, _⟩ := ha.form
    obtain ⟨_, _, rfl, _⟩ := hk.form
    simp only [List.mem_cons] at hu
    rcases hu with rfl | rfl | rfl | rfl | rfl | hu
    · rfl
    · rfl
    · rfl
    · rfl
    · rfl
    · exact h.oneCell u hu
/-- Nodes that lie in memory have cells. -/
theorem RowAt.cells : ∀ {l : List Tree} {b o : Nat}, RowAt w S l b o → ∃ xs, Cells w S l xs ∧ ∀ j u, xs[j]? = some u → w.cell? ⟨b, o + j, none⟩ = some u
  | [], _, _, _ => ⟨[], rfl, fun j u h => by simp at h⟩
  | t :: l, b, o, h => by
    simp only [RowAt] at h
    obtain ⟨vm, va, vk, c0, c1, c2, c3, c4, hm, ha, hk⟩ := (nodeAt_iff t b o).1 h.1
    obtain ⟨xs, hc, hx⟩ := RowAt.cells h.2
    refine ⟨.string t.kind :: .string t.text :: vm :: va :: vk :: xs, ⟨vm, va, vk, xs, rfl, hm, ha, hk, hc⟩, fun j u hj => ?_⟩
    match j, hj with
    | 0, hj => simp at hj; subst hj; simpa using c0
    | 1, hj => simp at hj; subst hj; simpa using c1
    | 2, hj => simp at hj; subst hj; simpa using c2
    | 3, hj => simp at hj; subst hj; simpa using c3
    | 4, hj => simp at hj; subst hj; simpa using c4
    | j + 5, hj =>
      have := hx j u (by simpa using hj)
      rw [show o + (j + 5) = o + 5 + j by omega]; exact this
/-- .. and back. -/
theorem rowAt_cells : ∀ {l : List Tree} {xs : List Value} {b o : Nat}, Cells w S l xs → (∀ j u, xs[j]? = some u → w.cell? ⟨b, o + j, none⟩ = some u) → RowAt w S l b o
  | [], _, _, _, _, _ => by simp [RowAt]
  | t :: l, _, b, o, ⟨vm, va, vk, ys, e, hm, ha, hk, h⟩, hx => by
    subst e
    simp only [RowAt]
    refine ⟨(nodeAt_iff t b o).2 ⟨vm, va, vk, by simpa using hx 0 _ rfl, by simpa using hx 1 _ rfl, by simpa using hx 2 _ rfl, by simpa using hx 3 _ rfl, by simpa using hx 4 _ rfl, hm, ha, hk⟩, rowAt_cells h fun j u hj => ?_⟩
    have := hx (j + 5) u (by simpa using hj)
    rw [show o + 5 + j = o + (j + 5) by omega]; exact this
end

/-- A row of nodes that the call owns from block 'base' on; what is in the nodes lies in the blocks that S lets. -/
def Own (w : World) (base : Nat) (S : Nat → Prop) (v : Value) (l : List Tree) : Prop := ∃ xs, w.ownsRow base 41 5 v l.length xs ∧ Cells w S l xs

theorem Own.kids {w : World} {base : Nat} {S S' : Nat → Prop} {v : Value} {l : List Tree} (h : Own w base S v l) (hS : ∀ b, S b → S' b) (hv : ∀ g, v.ownBlock = some g → S' g) : Kids w S' v l := by
  obtain ⟨xs, ⟨hlen, ho⟩, hc⟩ := h
  rcases ho with ⟨rfl, hn⟩ | ⟨g, cap, cur, rfl, _, hh, hnc, hcap, hsz, htk⟩
  · have : l = [] := List.eq_nil_of_length_eq_zero hn
    subst this
    exact ⟨none, 0, rfl, Nat.le_refl _, by unfold maxLen; omega, .inl rfl⟩
  · refine ⟨_, cap, rfl, hnc, hcap, .inr ⟨g, 0, rfl, hv g rfl, rowAt_cells (hc.keep hS fun _ _ => rfl) fun j u hj => ?_⟩⟩
    subst htk
    have hj' : j < l.length * 5 := by
      have := (List.getElem?_eq_some_iff.1 hj).1
      simp at this; omega
    rw [List.getElem?_take_of_lt hj'] at hj
    simp only [World.cell?, hh]
    simpa using hj

theorem node_info : (Tryz.prog.info? 41).map (fun i => (i.zero, i.size, i.bytes)) = some (some (.agg #[.string ⟨#[]⟩, .string ⟨#[]⟩, .slice none 0 0, .slice none 0 0, .slice none 0 0]), 5, 104) := by kernel_rfl

/-- A slice of nodes, wherever the row itself lies. -/
def Src (w : World) (S : Nat → Prop) (v : Value) (l : List Tree) : Prop :=
  ∃ A c xs, v = .slice A l.length c ∧ Cells w S l xs ∧ (l = [] ∨ ∃ b o, A = some ⟨b, o, none⟩ ∧ ∀ j u, xs[j]? = some u → w.cell? ⟨b, o + j, none⟩ = some u)
theorem Kids.src {w : World} {S : Nat → Prop} {v : Value} {l : List Tree} (h : Kids w S v l) : Src w S v l := by
  obtain ⟨A, c, rfl, _, _, h⟩ := h
  rcases h with rfl | ⟨b, o, rfl, _, hr⟩
  · exact ⟨A, c, [], rfl, rfl, .inl rfl⟩
  · obtain ⟨xs, hc, hx⟩ := hr.cells
    exact ⟨_, c, xs, rfl, hc, .inr ⟨b, o, rfl, hx⟩⟩

theorem add_cell (b o j : Nat) : Addr.add ⟨b, o, none⟩ j = ⟨b, o + j, none⟩ := by
  unfold Addr.add; split
  · subst_vars; rfl
  · rfl

theorem run_append_nil {w : World} {base : Nat} {v : Value} {n : Nat} {xs : List Value} (ty : TypeId) (hown : w.ownsRow base 41 5 v n xs) (c : Nat) :
    (Builtin.append_ #[26, 26] ty #[v, .slice none 0 c]).run Tryz.prog w = .ok v w := by
  obtain ⟨i, hi, hz0, hz1, hz2⟩ := info_parts node_info
  rcases hown.2 with ⟨rfl, rfl⟩ | ⟨g, cap, cur, rfl, _, _, hnc, _⟩
  · simp [Builtin.append_, run_underlying Tryz.underlying26, sizeOf, typeInfo, hi, Builtin.lenOf, Builtin.firstCells]
  · simp [Builtin.append_, run_underlying Tryz.underlying26, sizeOf, typeInfo, hi, Builtin.lenOf, Builtin.firstCells, hnc, storeCells]

/-- append of nodes to a row of the call's own. -/
theorem run_append_nodes {w : World} {base : Nat} {S : Nat → Prop} {v x : Value} {l l' : List Tree} (ty : TypeId) (hown : Own w base S v l) (hsrc : Src w S x l')
    (hS : ∀ b, S b → b < w.heap.size ∧ some b ≠ v.ownBlock) (hn : l.length + l'.length ≤ 1000000) (hbase : base ≤ w.heap.size) :
    ∃ v' w', (Builtin.append_ #[26, 26] ty #[v, x]).run Tryz.prog w = .ok v' w' ∧ Own w' base S v' (l ++ l') ∧ w.grownBy w' v.ownBlock ∧ (v'.ownBlock = v.ownBlock ∨ v'.ownBlock = some w.heap.size) := by
  obtain ⟨xs, ho, hc⟩ := hown
  obtain ⟨A, c, ys, rfl, hc', hsrc⟩ := hsrc
  obtain ⟨i, hi, hz0, hz1, hz2⟩ := info_parts node_info
  have key : ∀ (a : Addr), (∀ j u, ys[j]? = some u → w.cell? (a.add j) = some u) → A = some a → _ := fun a ha hA =>
    run_append_own_at (P := Tryz.prog) w base 26 ty 41 i _ 5 104 Tryz.underlying26 hi hz0 hz1 hz2 rfl (by omega) v l.length xs ho a l'.length c ys hc'.length ha hc'.oneCell (by unfold maxLen; omega) (by omega) hbase
  have fin : ∀ v' w', w'.ownsRow base 41 5 v' (l.length + l'.length) (xs ++ ys) → w.grownBy w' v.ownBlock → Own w' base S v' (l ++ l') := fun v' w' h1 h2 => by
    refine ⟨xs ++ ys, by rw [List.length_append]; exact h1, ?_⟩
    exact (hc.append hc').keep (fun _ h => h) fun b hb => h2.block b (hS b hb).1 (hS b hb).2
  cases A with
  | none =>
    have hl : l' = [] := by
      rcases hsrc with h | ⟨b, o, h, _⟩
      · exact h
      · cases h
    subst hl
    simp only [Cells] at hc'
    subst hc'
    refine ⟨v, w, run_append_nil ty ho c, ?_, ⟨rfl, rfl, rfl, Nat.le_refl _, fun _ _ _ => rfl⟩, .inl rfl⟩
    exact ⟨xs, by simpa using ho, by simpa using hc⟩
  | some a =>
    have ha : ∀ j u, ys[j]? = some u → w.cell? (a.add j) = some u := by
      rcases hsrc with h | ⟨b, o, h, hx⟩
      · subst h; simp only [Cells] at hc'; subst hc'; intro j u h; simp at h
      · injection h with h; subst h
        intro j u hj; rw [add_cell]; exact hx j u hj
    obtain ⟨v', w', hr, h1, h2, _, h4⟩ := key a ha rfl
    exact ⟨v', w', hr, fin v' w' h1 h2, h2, h4⟩

section
variable {w : World} {ops : Array Oper} {rest : List Oper} {o : Oper} {a : Act} {Q : Exit → Act → World → Prop}
theorem wp_append_nodes {K : Act → World → Prop} (s x : Operand) (ho : o.op = .call { callee := .builtin .append, args := #[s, x], argTypes := #[26, 26] })
    (base : Nat) (S : Nat → Prop) (v u : Value) (l l' : List Tree) (hs : a.eval s = v) (hx : a.eval x = u) (hown : Own w base S v l) (hsrc : Src w S u l')
    (hS : ∀ b, S b → b < w.heap.size ∧ some b ≠ v.ownBlock) (hn : l.length + l'.length ≤ 1000000) (hbase : base ≤ w.heap.size)
    (h : ∀ v' w', Own w' base S v' (l ++ l') → w.grownBy w' v.ownBlock → (v'.ownBlock = v.ownBlock ∨ v'.ownBlock = some w.heap.size) → K (a.put o.dst v') w') : o.wp Tryz.prog a w K Q := by
  obtain ⟨v', w', hr, h1, h2, h3⟩ := run_append_nodes o.type hown hsrc hS hn hbase
  unfold Oper.wp execOp
  simp only [ho, resolve, invoke, builtin, Sem.run_bind, Sem.run_pure, Result.andThen_ok, List.map_toArray, List.map_cons, List.map_nil, hs, hx, hr]
  exact h v' w' h1 h2 h3
theorem wpList_append_nodes (hgd : o.guard = none) (s x : Operand) (ho : o.op = .call { callee := .builtin .append, args := #[s, x], argTypes := #[26, 26] })
    (base : Nat) (S : Nat → Prop) (v u : Value) (l l' : List Tree) (hs : a.eval s = v) (hx : a.eval x = u) (hown : Own w base S v l) (hsrc : Src w S u l')
    (hS : ∀ b, S b → b < w.heap.size ∧ some b ≠ v.ownBlock) (hn : l.length + l'.length ≤ 1000000) (hbase : base ≤ w.heap.size)
    (h : ∀ v' w', Own w' base S v' (l ++ l') → w.grownBy w' v.ownBlock → (v'.ownBlock = v.ownBlock ∨ v'.ownBlock = some w.heap.size) → wpList Tryz.prog ops Q rest (a.put o.dst v') w') : wpList Tryz.prog ops Q (o :: rest) a w :=
  wpList_plain hgd fun _ hK => wp_append_nodes s x ho base S v u l l' hs hx hown hsrc hS hn hbase fun v' w' h1 h2 h3 => hK _ _ (h v' w' h1 h2 h3)
theorem step_append_nodes {K : Act → World → Prop} {E : Prop} (hgd : o.guard = none) (s x : Operand) (ho : o.op = .call { callee := .builtin .append, args := #[s, x], argTypes := #[26, 26] })
    (base : Nat) (S : Nat → Prop) (v u : Value) (l l' : List Tree) (hs : a.eval s = v) (hx : a.eval x = u) (hown : Own w base S v l) (hsrc : Src w S u l')
    (hS : ∀ b, S b → b < w.heap.size ∧ some b ≠ v.ownBlock) (hn : l.length + l'.length ≤ 1000000) (hbase : base ≤ w.heap.size)
    (h : ∀ v' w', Own w' base S v' (l ++ l') → w.grownBy w' v.ownBlock → (v'.ownBlock = v.ownBlock ∨ v'.ownBlock = some w.heap.size) → K (a.put o.dst v') w') :
    if Region.wanted o (yielded ops a.tmps) = true then Oper.wp Tryz.prog o a w K Q else E := by
  have hw : Region.wanted o (yielded ops a.tmps) = true := by simp [Region.wanted, hgd]
  rw [if_pos hw]
  exact wp_append_nodes s x ho base S v u l l' hs hx hown hsrc hS hn hbase h
end
end Go.Proofs.YtggoebbfgkebcaaGreatDoor
