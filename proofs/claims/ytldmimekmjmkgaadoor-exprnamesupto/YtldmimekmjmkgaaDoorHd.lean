/-
  The names of an expression: addNames; what is sorted and compacted (plain).
-/
import Derived.Test.YtldmimekmjmkgaaDoorGk
import Derived.Lib.SlicesCompact
import Derived.Sort.Walk0
namespace Go.Proofs.YtldmimekmjmkgaaDoor
open Go.RowKit Go.Sort Go.Maps Go.WideMaps

theorem lt_of_le_ne {a b : List UInt8} (h : a ≤ b) (hne : a ≠ b) : a < b := List.not_le.1 fun h' => hne (List.le_antisymm h h')
theorem compact_upto {zs : List (List UInt8)} (hs : ∀ i j, i ≤ j → j < zs.length → zs.toArray[i]! ≤ zs.toArray[j]!) : ∀ m, m ≤ zs.length →
    (∀ x, x ∈ Lib.compactUpTo zs.toArray m ↔ ∃ j, j < m ∧ zs.toArray[j]! = x) ∧ (Lib.compactUpTo zs.toArray m).Pairwise (· < ·)
  | 0, _ => ⟨fun x => ⟨fun h => by simp [Lib.compactUpTo] at h, fun ⟨j, h, _⟩ => absurd h (by omega)⟩, by simp [Lib.compactUpTo]⟩
  | m + 1, hm => by
    obtain ⟨h1, h2⟩ := compact_upto hs m (by omega)
    rw [Lib.compactUpTo_succ]
    by_cases hk : Lib.keeps zs.toArray m = true
    · rw [if_pos hk]
      refine ⟨fun x => ?_, ?_⟩
      · rw [List.mem_append, h1, List.mem_singleton]
        constructor
        · rintro (⟨j, hj, e⟩ | e)
          · exact ⟨j, by omega, e⟩
          · exact ⟨m, by omega, e.symm⟩
        · rintro ⟨j, hj, e⟩
          by_cases hjm : j < m
          · exact .inl ⟨j, hjm, e⟩
          · obtain rfl : j = m := by omega
            exact .inr e.symm
      · rw [List.pairwise_append]
        refine ⟨h2, by simp, fun x hx y hy => ?_⟩
        rw [List.mem_singleton] at hy
        subst hy
        obtain ⟨j, hj, rfl⟩ := (h1 x).1 hx
        have hk2 : m = 0 ∨ zs.toArray[m]! ≠ zs.toArray[m - 1]! := by simpa [Lib.keeps] using hk
        have h3 : zs.toArray[j]! ≤ zs.toArray[m - 1]! := hs j (m - 1) (by omega) (by omega)
        have h4 : zs.toArray[m - 1]! ≤ zs.toArray[m]! := hs (m - 1) m (by omega) (by omega)
        have h5 : zs.toArray[m]! ≠ zs.toArray[m - 1]! := hk2.resolve_left (by omega)
        refine lt_of_le_ne (List.le_trans h3 h4) fun e => h5 ?_
        exact List.le_antisymm (by rw [← e]; exact h3) h4
    · rw [if_neg hk, List.append_nil]
      refine ⟨fun x => ?_, h2⟩
      rw [h1]
      have hk2 : m ≠ 0 ∧ zs.toArray[m]! = zs.toArray[m - 1]! := by
        simp only [Lib.keeps, decide_eq_true_eq] at hk
        exact ⟨fun h => hk (.inl h), Classical.byContradiction fun h => hk (.inr h)⟩
      constructor
      · rintro ⟨j, hj, e⟩; exact ⟨j, by omega, e⟩
      · rintro ⟨j, hj, e⟩
        by_cases hjm : j < m
        · exact ⟨j, hjm, e⟩
        · obtain rfl : j = m := by omega
          exact ⟨j - 1, by omega, by rw [← hk2.2]; exact e⟩
theorem sorted_names (zs : List (List UInt8)) : (∀ x, x ∈ Lib.compact (zs.mergeSort fun x y => decide (x ≤ y)) ↔ x ∈ zs) ∧ (Lib.compact (zs.mergeSort fun x y => decide (x ≤ y))).Pairwise (· < ·) := by
  have hp : (zs.mergeSort fun x y => decide (x ≤ y)).Pairwise (fun x y => decide (x ≤ y) = true) := List.pairwise_mergeSort (fun a b c h1 h2 => by simp only [decide_eq_true_eq] at *; exact List.le_trans h1 h2) (fun a b => by simp only [Bool.or_eq_true, decide_eq_true_eq]; exact List.le_total a b) zs
  have hm : ∀ x, x ∈ (zs.mergeSort fun x y => decide (x ≤ y)) ↔ x ∈ zs := fun x => (List.mergeSort_perm zs _).mem_iff
  generalize (zs.mergeSort fun x y => decide (x ≤ y)) = ss at *
  have hs : ∀ i j, i ≤ j → j < ss.length → ss.toArray[i]! ≤ ss.toArray[j]! := by
    intro i j hij hj
    by_cases e : i = j
    · subst e; exact List.le_refl _
    · have := List.pairwise_iff_getElem.1 hp i j (by omega) hj (by omega)
      simp only [decide_eq_true_eq] at this
      simpa [getElem!_pos, hj, show i < ss.length by omega] using this
  obtain ⟨h1, h2⟩ := compact_upto hs ss.length (Nat.le_refl _)
  refine ⟨fun x => ?_, h2⟩
  unfold Lib.compact
  rw [h1, ← hm, List.mem_iff_getElem]
  constructor
  · rintro ⟨j, hj, e⟩; exact ⟨j, hj, by simpa [getElem!_pos, hj] using e⟩
  · rintro ⟨j, hj, e⟩; exact ⟨j, hj, by simpa [getElem!_pos, hj] using e⟩

theorem run_append_strsM {w : World} {base : Nat} {S : Nat → Prop} {v x : Value} {l l' : List ByteArray} (ty : TypeId) (hown : SRowE w base v l) (hsrc : Strs w S x l')
    (hn : l.length + l'.length ≤ 2000000) (hbase : base ≤ w.heap.size) :
    ∃ v' w', (Builtin.append_ #[25, 25] ty #[v, x]).run Tryd.prog w = .ok v' w' ∧ SRowE w' base v' (l ++ l') ∧ w.grownBy w' v.ownBlock ∧ (v'.ownBlock = v.ownBlock ∨ v'.ownBlock = some w.heap.size) := by
  obtain ⟨A, c, rfl, _, _, hsrc⟩ := hsrc
  obtain ⟨i, hi, hz0, hz1, hz2⟩ := info_parts strE_info
  cases A with
  | none =>
    have hl : l' = [] := by
      rcases hsrc with h | ⟨b, o, h, _⟩
      · exact h
      · cases h
    subst hl
    refine ⟨v, w, ?_, by simpa using hown, ⟨rfl, rfl, rfl, Nat.le_refl _, fun _ _ _ => rfl⟩, .inl rfl⟩
    rcases hown.2 with ⟨rfl, h0⟩ | ⟨g, cap, cur, rfl, _, _, hnc, _⟩
    · simp [Builtin.append_, run_underlying Tryd.underlying25, sizeOf, typeInfo, hi, Builtin.lenOf, Builtin.firstCells]
    · simp [Builtin.append_, run_underlying Tryd.underlying25, sizeOf, typeInfo, hi, Builtin.lenOf, Builtin.firstCells, hnc, storeCells]
  | some a =>
    have ha : ∀ j u, (l'.map Value.string)[j]? = some u → w.cell? (a.add j) = some u := by
      rcases hsrc with h | ⟨b, o, h, _, hx⟩
      · subst h; intro j u h; simp at h
      · injection h with h; subst h
        intro j u hj
        rw [List.getElem?_map] at hj
        cases hq : l'[j]? with
        | none => rw [hq] at hj; simp at hj
        | some s =>
          rw [hq] at hj
          simp only [Option.map_some, Option.some.injEq] at hj
          subst hj
          rw [add_cell]
          exact hx j s hq
    have hone : ∀ u ∈ l'.map Value.string, u.oneCell' = true := by
      intro u hu
      obtain ⟨t, _, ht⟩ := List.mem_map.1 hu
      subst ht; rfl
    obtain ⟨v', w', hr, h1, h2, _, h4⟩ := run_append_own_at (P := Tryd.prog) w base 25 ty 9 i _ 1 16 Tryd.underlying25 hi hz0 hz1 hz2 rfl (by omega) v l.length _ hown a l'.length c _ (by simp) ha hone (by unfold maxLen; omega) (by omega) hbase
    exact ⟨v', w', hr, by unfold SRowE; rw [List.length_append, List.map_append]; exact h1, h2, h4⟩
section
variable {w : World} {ops : Array Oper} {rest : List Oper} {o : Oper} {a : Act} {Q : Exit → Act → World → Prop}
theorem wpList_append_strsM (hgd : o.guard = none) (s x : Operand) (ho : o.op = .call { callee := .builtin .append, args := #[s, x], argTypes := #[25, 25] })
    (base : Nat) (S : Nat → Prop) (v u : Value) (l l' : List ByteArray) (hs : a.eval s = v) (hx : a.eval x = u) (hown : SRowE w base v l) (hsrc : Strs w S u l')
    (hn : l.length + l'.length ≤ 2000000) (hbase : base ≤ w.heap.size)
    (h : ∀ v' w', SRowE w' base v' (l ++ l') → w.grownBy w' v.ownBlock → (v'.ownBlock = v.ownBlock ∨ v'.ownBlock = some w.heap.size) → wpList Tryd.prog ops Q rest (a.put o.dst v') w') : wpList Tryd.prog ops Q (o :: rest) a w := by
  refine wpList_plain hgd fun _ hK => ?_
  obtain ⟨v', w', hr, h1, h2, h3⟩ := run_append_strsM o.type hown hsrc hn hbase
  unfold Oper.wp execOp
  simp only [ho, resolve, invoke, builtin, Sem.run_bind, Sem.run_pure, Result.andThen_ok, List.map_toArray, List.map_cons, List.map_nil, hs, hx, hr]
  exact hK _ _ (h v' w' h1 h2 h3)
end
theorem namesEs_app : ∀ (l m : List Ex), namesEs (l ++ m) = namesEs l ++ namesEs m
  | [], m => rfl
  | x :: l, m => by rw [List.cons_append, namesEs, namesEs_app l m, namesEs, List.append_assoc]
theorem namesEs_next {l : List Ex} {i : Nat} {x : Ex} (h : l[i]? = some x) : namesEs (l.take (i + 1)) = namesEs (l.take i) ++ namesE x := by
  rw [List.take_add_one, h]
  show namesEs (l.take i ++ [x]) = _
  rw [namesEs_app, namesEs, namesEs, List.append_nil]
theorem namesEs_le {l : List Ex} (i : Nat) : (namesEs (l.take i)).length ≤ (namesEs l).length := by
  have h := namesEs_app (l.take i) (l.drop i)
  rw [List.take_append_drop] at h
  rw [h, List.length_append]; omega

mutual
theorem names_weigh : ∀ e : Ex, (namesE e).length ≤ e.weigh
  | .mk o s l => by
    have := namesEs_weigh l
    unfold namesE Ex.weigh
    split
    · simp only [List.length_cons, List.length_nil]; omega
    · omega
theorem namesEs_weigh : ∀ l : List Ex, (namesEs l).length ≤ Ex.weighAll l
  | [] => Nat.le_refl _
  | x :: l => by
    have h1 := names_weigh x
    have h2 := namesEs_weigh l
    unfold namesEs Ex.weighAll
    rw [List.length_append]; omega
end
mutual
theorem names_few : ∀ e : Ex, (namesE e).length ≤ sizeE e
  | .mk o s l => by
    have := namesEs_few l
    unfold namesE sizeE
    split
    · simp only [List.length_cons, List.length_nil]; omega
    · omega
theorem namesEs_few : ∀ l : List Ex, (namesEs l).length ≤ sizeEs l
  | [] => Nat.le_refl _
  | x :: l => by
    have h1 := names_few x
    have h2 := namesEs_few l
    unfold namesEs sizeEs
    rw [List.length_append]; omega
end
def NPost (w : World) (base : Nat) (l : List ByteArray) (x : Ending) (w' : World) : Prop := ∃ v, x = .returned v ∧ SRowE w' base v l ∧ Below base w w'
def NSaid (e : Ex) : Prop := ∀ (A : Option Addr) (n c B base : Nat) (v : Value) (la : List ByteArray) (w : World), Exs w (Under B) (.slice A n c) e.kids → B ≤ base → base ≤ w.heap.size → SRowE w base v la → la.length + (namesE e).length ≤ 2000000 →
  Calls Tryd.prog 33 #[v, .agg #[.int .u8 (e.op : Int), .string e.name, .slice A n c]] w (NPost w base (la ++ namesE e))
set_option maxRecDepth 100000 in
set_option maxHeartbeats 4000000 in
theorem addNames_walk : ∀ e, NSaid e := by
  intro e
  induction e using Ex.induct_one with
  | h o s l ih =>
    intro A n c B base v la w hl hB hbase hrow hlen
    have IH := Lib.hid ih
    clear ih
    simp only [Ex.op, Ex.name, Ex.kids] at *
    have hlen' := hl.len
    obtain ⟨A', c', hv, hc, hm, _⟩ := id hl
    injection hv with hA hn hc'
    subst hA hn hc'
    unfold maxLen at hm
    have HA := Lib.hid hl
    have hn1 : (w.alloc (.cells #[.int .u8 (o : Int), .string s, .slice A l.length c] 24)).heap[w.heap.size]? = some (.cells #[.int .u8 (o : Int), .string s, .slice A l.length c] 24) := heap_new _ _
    have HB1 : Hid (Below w.heap.size w (w.alloc (.cells #[.int .u8 (o : Int), .string s, .slice A l.length c] 24))) := Lib.hid ((Below.refl _ _).alloc (Nat.le_refl _) _)
    have HR1 : Hid (SRowE (w.alloc (.cells #[.int .u8 (o : Int), .string s, .slice A l.length c] 24)) base v la) := Lib.hid (World.ownsRow.alloc hrow _)
    have HN1 := Lib.hid hn1
    have HBB : Hid (Below base w (w.alloc (.cells #[.int .u8 (o : Int), .string s, .slice A l.length c] 24))) := Lib.hid (HB1.out.mono hbase)
    clear hl hrow hn1
    by_cases ho : o = 110
    · subst ho
      have hne : namesE (.mk 110 s l) = [s] := by rw [namesE, if_pos rfl]
      rw [hne] at hlen ⊢
      have HLN := Lib.hid hlen
      clear hne hlen
      go_enter Tryd.func33, Tryd.ntmps33
      obtain ⟨d0, d1, d2⟩ := three_cells HN1.out
      have hzl := cell_lt d0
      go_wp2_with (first
        | (at_builtin; refine wpList_append_strsM rfl (.tmp 10) (.tmp 13) rfl base (Under ((w.alloc (.cells #[.int .u8 (110 : Nat), .string s, .slice A l.length c] 24)).heap.size + 1)) v (.slice (some ⟨w.heap.size + 1, 0, none⟩) 1 1) la [s] rfl rfl (World.ownsRow.alloc HR1.out _) (strs_one (heap_new' _ _ (by simp)) (by show _ < _; simp)) (by simpa using HLN.out) (by simp; omega) ?_; intro v5 w5 ho5 hg5 hb5
           have HO5 : Hid (SRowE w5 base v5 (la ++ [s])) := Lib.hid ho5
           have HB5 : Hid (Below base w w5) := Lib.hid (below_grown (HBB.out.alloc (by simp; omega) _) hg5 (fun k hk => (World.ownsRow.lt HR1.out k hk).1) (by simp; omega))
           clear ho5 hg5 hb5)
        | fail)
      go_ret
      exact ⟨_, rfl, HO5.out, HB5.out⟩
    · have hne : namesE (.mk o s l) = namesEs l := by rw [namesE, if_neg ho]
      rw [hne] at hlen ⊢
      have HLN := Lib.hid hlen
      have ho' : ¬ (o : Int) = 110 := by omega
      clear hne hlen
      go_enter Tryd.func33, Tryd.ntmps33
      obtain ⟨d0, d1, d2⟩ := three_cells HN1.out
      have hzl := cell_lt d0
      go_wp2
      generalize w.alloc (.cells #[.int .u8 (o : Int), .string s, .slice A l.length c] 24) = w1 at *
      clear d0 d1 d2
      have hw1 : w.heap.size ≤ w1.heap.size := HB1.out.size
      go_loopg [18, 0] l.length (fun g u vv wx => ∃ i : Nat, u = .int .i64 i ∧ i + g = l.length ∧ Hid (SRowE wx base vv (la ++ namesEs (l.take i))) ∧ Hid (Below base w wx))
      case atStart => exact ⟨0, rfl, by omega, Lib.hid (by rw [List.take_zero, namesEs, List.append_nil]; exact HR1.out), HBB⟩
      case round =>
        obtain ⟨i, rfl, hig, HR, HW⟩ := hrel
        by_cases hi : i < l.length
        · have hlx : l[i]? = some l[i] := List.getElem?_eq_getElem hi
          generalize hx : l[i] = x at *
          have HX := Lib.hid (namesEs_next hlx)
          have HXL := Lib.hid (namesEs_le (l := l) (i + 1))
          have HAR : Hid (Exs wr (Under B) (.slice A l.length c) l) := Lib.hid (HA.out.keep (fun _ h => h) fun b hb => HW.out.block b (Nat.lt_of_lt_of_le hb hB))
          obtain ⟨b, off, rfl, hb, hat⟩ := HAR.out.get hlx
          obtain ⟨v3, f0, f1, f2, exk⟩ := (exAt_iff x b _).1 hat
          obtain ⟨A3, c3, rfl, _⟩ := id exk
          have hl3 := cell_lt f0
          have HMEM := Lib.hid (List.mem_of_getElem? hlx)
          have HEK := Lib.hid exk
          obtain ⟨g, rfl⟩ : ∃ g, gk = g + 1 := ⟨gk - 1, by omega⟩
          clear exk hx hlx hat hb
          have hbw : base ≤ wr.heap.size := Nat.le_trans hbase HW.out.size
          go_wp2_with fail
          have HB2 : Hid (Below wr.heap.size wr (wr.alloc (.cells #[.int .u8 (x.op : Int), .string x.name, .slice A3 x.kids.length c3] 24))) := Lib.hid ((Below.refl _ _).alloc (Nat.le_refl _) _)
          refine (IH.out x HMEM.out A3 _ c3 B base _ _ _ (HEK.out.keep (fun _ h => h) fun k hk => HB2.out.block k (Nat.lt_of_lt_of_le hk (Nat.le_trans hB hbw))) hB (Nat.le_trans hbw HB2.out.size) (World.ownsRow.alloc HR.out _) (by have h1 := HXL.out; rw [HX.out, List.length_append] at h1; have h2 := HLN.out; rw [List.length_append]; omega)).mono ?_
          rintro e w3 ⟨v4, rfl, hr4, hb4⟩
          have HR4 : Hid (SRowE w3 base v4 (la ++ namesEs (l.take (i + 1)))) := Lib.hid (by rw [HX.out, ← List.append_assoc]; exact hr4)
          have HW4 : Hid (Below base w w3) := Lib.hid ((HW.out.trans (HB2.out.mono hbw)).trans hb4)
          clear hr4 hb4 f0 f1 f2 HEK
          go_wp2
          go_roundg g
          case measure => omega
          case rel => exact ⟨i + 1, by go_num, by omega, HR4, HW4⟩
        · have HE : Hid (l.take i = l) := Lib.hid (List.take_of_length_le (by omega))
          go_wp2
          go_ret
          exact ⟨_, rfl, by have h := HR.out; rw [HE.out] at h; exact h, HW.out⟩
end Go.Proofs.YtldmimekmjmkgaaDoor
