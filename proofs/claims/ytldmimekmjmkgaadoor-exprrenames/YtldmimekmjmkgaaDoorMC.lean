/-
  The names of an expression: addNames; what is sorted and compacted (plain).
  Names: what is told of an expression's names.
  ExprNames walked: whatever expression and row are handed in, it answers true.
-/
import Derived.Test.YtldmimekmjmkgaaDoorMB
import Derived.Lib.SlicesCompact
import Derived.Sort.Walk0
import Derived.Test.YtldmimekmjmkgaaDoorShelfN
import Derived.Sort.OwnSorted
import Derived.Sort.Grow
import Derived.Lib.OwnBridge
import Derived.Lib.RowBridge
import Derived.Sort.EveryDepth
namespace Go.Proofs.YtldmimekmjmkgaaDoor
open Go.RowKit Go.Sort Go.Maps Go.WideMaps

theorem lt_of_le_ne {a b : List UInt8} (h : a ≤ b) (hne : a ≠ b) : a < b := List.not_le.1 fun h' => hne (List.le_antisymm h h')
theorem compact_upto {zs : List (List UInt8)} (hs : ∀ i j, i ≤ j → j < zs.length → zs.toArray[i]! ≤ zs.toArray[j]!) : ∀ m, m ≤ zs.length →
    (∀ x, x ∈ Lib.compactUpTo zs.toArray m ↔ ∃ j, j < m ∧ zs.toArray[j]! = x) ∧ (Lib.compactUpTo zs.toArray m).Pairwise (· < ·)
  | 0, _ => ⟨fun x => ⟨fun h => by simp [Lib.compactUpTo] at h, fun ⟨j, h, _⟩ => absurd h (by omega)⟩, by simp [Lib.compactUpTo]⟩
  | m + 1, hm => by
    obtain ⟨h1, h2⟩ := compact_upto hs m (by omega)
    rw [Lib.compactUpTo_succ]
    by_cases hk : Lib.keeps zs.toArray m = true
    · rw [if_pos hk]
      refine ⟨fun x => ?_, ?_⟩
      · rw [List.mem_append, h1, List.mem_singleton]
        constructor
        · rintro (⟨j, hj, e⟩ | e)
          · exact ⟨j, by omega, e⟩
          · exact ⟨m, by omega, e.symm⟩
        · rintro ⟨j, hj, e⟩
          by_cases hjm : j < m
          · exact .inl ⟨j, hjm, e⟩
          · obtain rfl : j = m := by omega
            exact .inr e.symm
      · rw [List.pairwise_append]
        refine ⟨h2, by simp, fun x hx y hy => ?_⟩
        rw [List.mem_singleton] at hy
        subst hy
        obtain ⟨j, hj, rfl⟩ := (h1 x).1 hx
        have hk2 : m = 0 ∨ zs.toArray[m]! ≠ zs.toArray[m - 1]! := by simpa [Lib.keeps] using hk
        have h3 : zs.toArray[j]! ≤ zs.toArray[m - 1]! := hs j (m - 1) (by omega) (by omega)
        have h4 : zs.toArray[m - 1]! ≤ zs.toArray[m]! := hs (m - 1) m (by omega) (by omega)
        have h5 : zs.toArray[m]! ≠ zs.toArray[m - 1]! := hk2.resolve_left (by omega)
        refine lt_of_le_ne (List.le_trans h3 h4) fun e => h5 ?_
        exact List.le_antisymm (by rw [← e]; exact h3) h4
    · rw [if_neg hk, List.append_nil]
      refine ⟨fun x => ?_, h2⟩
      rw [h1]
      have hk2 : m ≠ 0 ∧ zs.toArray[m]! = zs.toArray[m - 1]! := by
        simp only [Lib.keeps, decide_eq_true_eq] at hk
        exact ⟨fun h => hk (.inl h), Classical.byContradiction fun h => hk (.inr h)⟩
      constructor
      · rintro ⟨j, hj, e⟩; exact ⟨j, by omega, e⟩
      · rintro ⟨j, hj, e⟩
        by_cases hjm : j < m
        · exact ⟨j, hjm, e⟩
        · obtain rfl : j = m := by omega
          exact ⟨j - 1, by omega, by rw [← hk2.2]; exact e⟩
theorem sorted_names (zs : List (List UInt8)) : (∀ x, x ∈ Lib.compact (zs.mergeSort fun x y => decide (x ≤ y)) ↔ x ∈ zs) ∧ (Lib.compact (zs.mergeSort fun x y => decide (x ≤ y))).Pairwise (· < ·) := by
  have hp : (zs.mergeSort fun x y => decide (x ≤ y)).Pairwise (fun x y => decide (x ≤ y) = true) := List.pairwise_mergeSort (fun a b c h1 h2 => by simp only [decide_eq_true_eq] at *; exact List.le_trans h1 h2) (fun a b => by simp only [Bool.or_eq_true, decide_eq_true_eq]; exact List.le_total a b) zs
  have hm : ∀ x, x ∈ (zs.mergeSort fun x y => decide (x ≤ y)) ↔ x ∈ zs := fun x => (List.mergeSort_perm zs _).mem_iff
  generalize (zs.mergeSort fun x y => decide (x ≤ y)) = ss at *
  have hs : ∀ i j, i ≤ j → j < ss.length → ss.toArray[i]! ≤ ss.toArray[j]! := by
    intro i j hij hj
    by_cases e : i = j
    · subst e; exact List.le_refl _
    · have := List.pairwise_iff_getElem.1 hp i j (by omega) hj (by omega)
      simp only [decide_eq_true_eq] at this
      simpa [getElem!_pos, hj, show i < ss.length by omega] using this
  obtain ⟨h1, h2⟩ := compact_upto hs ss.length (Nat.le_refl _)
  refine ⟨fun x => ?_, h2⟩
  unfold Lib.compact
  rw [h1, ← hm, List.mem_iff_getElem]
  constructor
  · rintro ⟨j, hj, e⟩; exact ⟨j, hj, by simpa [getElem!_pos, hj] using e⟩
  · rintro ⟨j, hj, e⟩; exact ⟨j, hj, by simpa [getElem!_pos, hj] using e⟩

theorem run_append_strsM {w : World} {base : Nat} {S : Nat → Prop} {v x : Value} {l l' : List ByteArray} (ty : TypeId) (hown : SRowE w base v l) (hsrc : Strs w S x l')
    (hn : l.length + l'.length ≤ 2000000) (hbase : base ≤ w.heap.size) :
    ∃ v' w', (Builtin.append_ #[25, 25] ty #[v, x]).run Tryd.prog w = .ok v' w' ∧ SRowE w' base v' (l ++ l') ∧ w.grownBy w' v.ownBlock ∧ (v'.ownBlock = v.ownBlock ∨ v'.ownBlock = some w.heap.size) := by
  obtain ⟨A, c, rfl, _, _, hsrc⟩ := hsrc
  obtain ⟨i, hi, hz0, hz1, hz2⟩ := info_parts strE_info
  cases A with
  | none =>
    have hl : l' = [] := by
      rcases hsrc with h | ⟨b, o, h, _⟩
      · exact h
      · cases h
    subst hl
    refine ⟨v, w, ?_, by simpa using hown, ⟨rfl, rfl, rfl, Nat.le_refl _, fun _ _ _ => rfl⟩, .inl rfl⟩
    rcases hown.2 with ⟨rfl, h0⟩ | ⟨g, cap, cur, rfl, _, _, hnc, _⟩
    · simp [Builtin.append_, run_underlying Tryd.underlying25, sizeOf, typeInfo, hi, Builtin.lenOf, Builtin.firstCells]
    · simp [Builtin.append_, run_underlying Tryd.underlying25, sizeOf, typeInfo, hi, Builtin.lenOf, Builtin.firstCells, hnc, storeCells]
  | some a =>
    have ha : ∀ j u, (l'.map Value.string)[j]? = some u → w.cell? (a.add j) = some u := by
      rcases hsrc with h | ⟨b, o, h, _, hx⟩
      · subst h; intro j u h; simp at h
      · injection h with h; subst h
        intro j u hj
        rw [List.getElem?_map] at hj
        cases hq : l'[j]? with
        | none => rw [hq] at hj; simp at hj
        | some s =>
          rw [hq] at hj
          simp only [Option.map_some, Option.some.injEq] at hj
          subst hj
          rw [add_cell]
          exact hx j s hq
    have hone : ∀ u ∈ l'.map Value.string, u.oneCell' = true := by
      intro u hu
      obtain ⟨t, _, ht⟩ := List.mem_map.1 hu
      subst ht; rfl
    obtain ⟨v', w', hr, h1, h2, _, h4⟩ := run_append_own_at (P := Tryd.prog) w base 25 ty 9 i _ 1 16 Tryd.underlying25 hi hz0 hz1 hz2 rfl (by omega) v l.length _ hown a l'.length c _ (by simp) ha hone (by unfold maxLen; omega) (by omega) hbase
    exact ⟨v', w', hr, by unfold SRowE; rw [List.length_append, List.map_append]; exact h1, h2, h4⟩
section
variable {w : World} {ops : Array Oper} {rest : List Oper} {o : Oper} {a : Act} {Q : Exit → Act → World → Prop}
theorem wpList_append_strsM (hgd : o.guard = none) (s x : Operand) (ho : o.op = .call { callee := .builtin .append, args := #[s, x], argTypes := #[25, 25] })
    (base : Nat) (S : Nat → Prop) (v u : Value) (l l' : List ByteArray) (hs : a.eval s = v) (hx : a.eval x = u) (hown : SRowE w base v l) (hsrc : Strs w S u l')
    (hn : l.length + l'.length ≤ 2000000) (hbase : base ≤ w.heap.size)
    (h : ∀ v' w', SRowE w' base v' (l ++ l') → w.grownBy w' v.ownBlock → (v'.ownBlock = v.ownBlock ∨ v'.ownBlock = some w.heap.size) → wpList Tryd.prog ops Q rest (a.put o.dst v') w') : wpList Tryd.prog ops Q (o :: rest) a w := by
  refine wpList_plain hgd fun _ hK => ?_
  obtain ⟨v', w', hr, h1, h2, h3⟩ := run_append_strsM o.type hown hsrc hn hbase
  unfold Oper.wp execOp
  simp only [ho, resolve, invoke, builtin, Sem.run_bind, Sem.run_pure, Result.andThen_ok, List.map_toArray, List.map_cons, List.map_nil, hs, hx, hr]
  exact hK _ _ (h v' w' h1 h2 h3)
end
theorem namesEs_app : ∀ (l m : List Ex), namesEs (l ++ m) = namesEs l ++ namesEs m
  | [], m => rfl
  | x :: l, m => by rw [List.cons_append, namesEs, namesEs_app l m, namesEs, List.append_assoc]
theorem namesEs_next {l : List Ex} {i : Nat} {x : Ex} (h : l[i]? = some x) : namesEs (l.take (i + 1)) = namesEs (l.take i) ++ namesE x := by
  rw [List.take_add_one, h]
  show namesEs (l.take i ++ [x]) = _
  rw [namesEs_app, namesEs, namesEs, List.append_nil]
theorem namesEs_le {l : List Ex} (i : Nat) : (namesEs (l.take i)).length ≤ (namesEs l).length := by
  have h := namesEs_app (l.take i) (l.drop i)
  rw [List.take_append_drop] at h
  rw [h, List.length_append]; omega

mutual
theorem names_weigh : ∀ e : Ex, (namesE e).length ≤ e.weigh
  | .mk o s l => by
    have := namesEs_weigh l
    unfold namesE Ex.weigh
    split
    · simp only [List.length_cons, List.length_nil]; omega
    · omega
theorem namesEs_weigh : ∀ l : List Ex, (namesEs l).length ≤ Ex.weighAll l
  | [] => Nat.le_refl _
  | x :: l => by
    have h1 := names_weigh x
    have h2 := namesEs_weigh l
    unfold namesEs Ex.weighAll
    rw [List.length_append]; omega
end
mutual
theorem names_few : ∀ e : Ex, (namesE e).length ≤ sizeE e
  | .mk o s l => by
    have := namesEs_few l
    unfold namesE sizeE
    split
    · simp only [List.length_cons, List.length_nil]; omega
    · omega
theorem namesEs_few : ∀ l : List Ex, (namesEs l).length ≤ sizeEs l
  | [] => Nat.le_refl _
  | x :: l => by
    have h1 := names_few x
    have h2 := namesEs_few l
    unfold namesEs sizeEs
    rw [List.length_append]; omega
end
def NPost (w : World) (base : Nat) (l : List ByteArray) (x : Ending) (w' : World) : Prop := ∃ v, x = .returned v ∧ SRowE w' base v l ∧ Below base w w'
def NSaid (e : Ex) : Prop := ∀ (A : Option Addr) (n c B base : Nat) (v : Value) (la : List ByteArray) (w : World), Exs w (Under B) (.slice A n c) e.kids → B ≤ base → base ≤ w.heap.size → SRowE w base v la → la.length + (namesE e).length ≤ 2000000 →
  Calls Tryd.prog 33 #[v, .agg #[.int .u8 (e.op : Int), .string e.name, .slice A n c]] w (NPost w base (la ++ namesE e))
set_option maxRecDepth 100000 in
set_option maxHeartbeats 4000000 in
theorem addNames_walk : ∀ e, NSaid e := by
  intro e
  induction e using Ex.induct_one with
  | h o s l ih =>
    intro A n c B base v la w hl hB hbase hrow hlen
    have IH := Lib.hid ih
    clear ih
    simp only [Ex.op, Ex.name, Ex.kids] at *
    have hlen' := hl.len
    obtain ⟨A', c', hv, hc, hm, _⟩ := id hl
    injection hv with hA hn hc'
    subst hA hn hc'
    unfold maxLen at hm
    have HA := Lib.hid hl
    have hn1 : (w.alloc (.cells #[.int .u8 (o : Int), .string s, .slice A l.length c] 24)).heap[w.heap.size]? = some (.cells #[.int .u8 (o : Int), .string s, .slice A l.length c] 24) := heap_new _ _
    have HB1 : Hid (Below w.heap.size w (w.alloc (.cells #[.int .u8 (o : Int), .string s, .slice A l.length c] 24))) := Lib.hid ((Below.refl _ _).alloc (Nat.le_refl _) _)
    have HR1 : Hid (SRowE (w.alloc (.cells #[.int .u8 (o : Int), .string s, .slice A l.length c] 24)) base v la) := Lib.hid (World.ownsRow.alloc hrow _)
    have HN1 := Lib.hid hn1
    have HBB : Hid (Below base w (w.alloc (.cells #[.int .u8 (o : Int), .string s, .slice A l.length c] 24))) := Lib.hid (HB1.out.mono hbase)
    clear hl hrow hn1
    by_cases ho : o = 110
    · subst ho
      have hne : namesE (.mk 110 s l) = [s] := by rw [namesE, if_pos rfl]
      rw [hne] at hlen ⊢
      have HLN := Lib.hid hlen
      clear hne hlen
      go_enter Tryd.func33, Tryd.ntmps33
      obtain ⟨d0, d1, d2⟩ := three_cells HN1.out
      have hzl := cell_lt d0
      go_wp2_with (first
        | (at_builtin; refine wpList_append_strsM rfl (.tmp 10) (.tmp 13) rfl base (Under ((w.alloc (.cells #[.int .u8 (110 : Nat), .string s, .slice A l.length c] 24)).heap.size + 1)) v (.slice (some ⟨w.heap.size + 1, 0, none⟩) 1 1) la [s] rfl rfl (World.ownsRow.alloc HR1.out _) (strs_one (heap_new' _ _ (by simp)) (by show _ < _; simp)) (by simpa using HLN.out) (by simp; omega) ?_; intro v5 w5 ho5 hg5 hb5
           have HO5 : Hid (SRowE w5 base v5 (la ++ [s])) := Lib.hid ho5
           have HB5 : Hid (Below base w w5) := Lib.hid (below_grown (HBB.out.alloc (by simp; omega) _) hg5 (fun k hk => (World.ownsRow.lt HR1.out k hk).1) (by simp; omega))
           clear ho5 hg5 hb5)
        | fail)
      go_ret
      exact ⟨_, rfl, HO5.out, HB5.out⟩
    · have hne : namesE (.mk o s l) = namesEs l := by rw [namesE, if_neg ho]
      rw [hne] at hlen ⊢
      have HLN := Lib.hid hlen
      have ho' : ¬ (o : Int) = 110 := by omega
      clear hne hlen
      go_enter Tryd.func33, Tryd.ntmps33
      obtain ⟨d0, d1, d2⟩ := three_cells HN1.out
      have hzl := cell_lt d0
      go_wp2
      generalize w.alloc (.cells #[.int .u8 (o : Int), .string s, .slice A l.length c] 24) = w1 at *
      clear d0 d1 d2
      have hw1 : w.heap.size ≤ w1.heap.size := HB1.out.size
      go_loopg [18, 0] l.length (fun g u vv wx => ∃ i : Nat, u = .int .i64 i ∧ i + g = l.length ∧ Hid (SRowE wx base vv (la ++ namesEs (l.take i))) ∧ Hid (Below base w wx))
      case atStart => exact ⟨0, rfl, by omega, Lib.hid (by rw [List.take_zero, namesEs, List.append_nil]; exact HR1.out), HBB⟩
      case round =>
        obtain ⟨i, rfl, hig, HR, HW⟩ := hrel
        by_cases hi : i < l.length
        · have hlx : l[i]? = some l[i] := List.getElem?_eq_getElem hi
          generalize hx : l[i] = x at *
          have HX := Lib.hid (namesEs_next hlx)
          have HXL := Lib.hid (namesEs_le (l := l) (i + 1))
          have HAR : Hid (Exs wr (Under B) (.slice A l.length c) l) := Lib.hid (HA.out.keep (fun _ h => h) fun b hb => HW.out.block b (Nat.lt_of_lt_of_le hb hB))
          obtain ⟨b, off, rfl, hb, hat⟩ := HAR.out.get hlx
          obtain ⟨v3, f0, f1, f2, exk⟩ := (exAt_iff x b _).1 hat
          obtain ⟨A3, c3, rfl, _⟩ := id exk
          have hl3 := cell_lt f0
          have HMEM := Lib.hid (List.mem_of_getElem? hlx)
          have HEK := Lib.hid exk
          obtain ⟨g, rfl⟩ : ∃ g, gk = g + 1 := ⟨gk - 1, by omega⟩
          clear exk hx hlx hat hb
          have hbw : base ≤ wr.heap.size := Nat.le_trans hbase HW.out.size
          go_wp2_with fail
          have HB2 : Hid (Below wr.heap.size wr (wr.alloc (.cells #[.int .u8 (x.op : Int), .string x.name, .slice A3 x.kids.length c3] 24))) := Lib.hid ((Below.refl _ _).alloc (Nat.le_refl _) _)
          refine (IH.out x HMEM.out A3 _ c3 B base _ _ _ (HEK.out.keep (fun _ h => h) fun k hk => HB2.out.block k (Nat.lt_of_lt_of_le hk (Nat.le_trans hB hbw))) hB (Nat.le_trans hbw HB2.out.size) (World.ownsRow.alloc HR.out _) (by have h1 := HXL.out; rw [HX.out, List.length_append] at h1; have h2 := HLN.out; rw [List.length_append]; omega)).mono ?_
          rintro e w3 ⟨v4, rfl, hr4, hb4⟩
          have HR4 : Hid (SRowE w3 base v4 (la ++ namesEs (l.take (i + 1)))) := Lib.hid (by rw [HX.out, ← List.append_assoc]; exact hr4)
          have HW4 : Hid (Below base w w3) := Lib.hid ((HW.out.trans (HB2.out.mono hbw)).trans hb4)
          clear hr4 hb4 f0 f1 f2 HEK
          go_wp2
          go_roundg g
          case measure => omega
          case rel => exact ⟨i + 1, by go_num, by omega, HR4, HW4⟩
        · have HE : Hid (l.take i = l) := Lib.hid (List.take_of_length_le (by omega))
          go_wp2
          go_ret
          exact ⟨_, rfl, by have h := HR.out; rw [HE.out] at h; exact h, HW.out⟩
end Go.Proofs.YtldmimekmjmkgaaDoor

namespace Go.Proofs.YtldmimekmjmkgaaDoor
open Go.RowKit Go.Sort Go.Maps Go.WideMaps

/-- The names: each once, in order. -/
def NamesOk (e : Ex) (L : List ByteArray) : Prop := (∀ s, s ∈ L ↔ s ∈ namesE e) ∧ L.Pairwise (fun a b => a.data.toList < b.data.toList)
def NmPost (w : World) (e : Ex) (x : Ending) (w' : World) : Prop := ∃ v L, x = .returned v ∧ SRowE w' w.heap.size v L ∧ Below w.heap.size w w' ∧ NamesOk e L
def bytesL (l : List (List UInt8)) : List ByteArray := l.map fun x => ⟨x.toArray⟩
theorem bytesL_string (l : List (List UInt8)) : (bytesL l).map Value.string = l.map Proofs.encStr := by
  unfold bytesL
  rw [List.map_map]
  rfl
def namesB (e : Ex) : List (List UInt8) := (namesE e).map fun s : ByteArray => s.data.toList
/-- From what the library's contracts leave. -/
theorem names_fin {w w1 : World} {e : Ex} {g cap nn q n : Nat} {os : Array Obj} (hown : w1.ownsRow w.heap.size 9 1 (.slice (some ⟨g, 0, none⟩) n cap) n ((namesB e).map Proofs.encStr)) (hbel : Below w.heap.size w w1) (hbg : w.heap.size ≤ g) (hlen : (namesB e).length = n) :
    NmPost w e (.returned (.slice (some ⟨g, 0, none⟩) (Lib.compact ((namesB e).mergeSort fun x y => decide (x ≤ y))).length cap))
      (putRow Proofs.encStr (Sort.ahead (grow (putRow Proofs.encStr (Sort.ahead w1 nn) g 0 ((namesB e).mergeSort fun x y => decide (x ≤ y)).toArray) os) q) g 0 (Lib.compact ((namesB e).mergeSort fun x y => decide (x ≤ y)) ++ List.replicate (n - (Lib.compact ((namesB e).mergeSort fun x y => decide (x ≤ y))).length) []).toArray) := by
  obtain ⟨hm, hp⟩ := sorted_names (namesB e)
  have hmem : ∀ s : ByteArray, s.data.toList ∈ namesB e ↔ s ∈ namesE e := fun s => by
    unfold namesB
    rw [List.mem_map]
    constructor
    · rintro ⟨t, ht, he⟩; rwa [← bytesE_of he]
    · exact fun h => ⟨s, h, rfl⟩
  generalize namesB e = ss at *
  have hl2 : (ss.mergeSort fun x y => decide (x ≤ y)).length = ss.length := List.length_mergeSort ss
  have hle := Lib.compact_length_le (ss.mergeSort fun x y => decide (x ≤ y))
  subst hlen
  rcases hown.2 with ⟨h0, _⟩ | ⟨g', cap', cur, hv, hbase, hb, h1, h2, h3, h4⟩
  · cases h0
  cases hv
  have hs := ownsRow_sorted (n := nn) (os := os) (ts := ss.mergeSort fun x y => decide (x ≤ y)) hl2 hbase hb h1 h2 h3
  have hc := Lib.ownsRow_putRow (q := q) (k := (Lib.compact (ss.mergeSort fun x y => decide (x ≤ y))).length) (ys := Lib.compact (ss.mergeSort fun x y => decide (x ≤ y)) ++ List.replicate (ss.length - (Lib.compact (ss.mergeSort fun x y => decide (x ≤ y))).length) []) hs (by simp; omega) (by omega)
  rw [List.take_left] at hc
  refine ⟨_, bytesL (Lib.compact (ss.mergeSort fun x y => decide (x ≤ y))), rfl, ?_, Lib.below_putRow (hbel.grown (grownBy_sorted _) hbel.size (fun j hj => by cases hj; exact hbase)) hbg, fun s => ?_, ?_⟩
  · unfold SRowE
    rw [bytesL_string, show (bytesL (Lib.compact (ss.mergeSort fun x y => decide (x ≤ y)))).length = (Lib.compact (ss.mergeSort fun x y => decide (x ≤ y))).length by simp [bytesL]]
    exact hc
  · rw [← hmem, ← hm]
    unfold bytesL
    rw [List.mem_map]
    constructor
    · rintro ⟨t, ht, rfl⟩; exact ht
    · exact fun h => ⟨_, h, rfl⟩
  · unfold bytesL
    rw [List.pairwise_map]
    exact hp

set_option maxRecDepth 100000 in
set_option maxHeartbeats 4000000 in
theorem names_any (e : Ex) (A : Option Addr) (n c : Nat) (w : World) (hl : Exs w (Under w.heap.size) (.slice A n c) e.kids) (hlen : (namesE e).length ≤ 2000000) :
    Calls Tryd.prog 19 #[.agg #[.int .u8 (e.op : Int), .string e.name, .slice A n c]] w (NmPost w e) := by
  have hn1 : (w.alloc (.cells #[.int .u8 (e.op : Int), .string e.name, .slice A n c] 24)).heap[w.heap.size]? = some (.cells #[.int .u8 (e.op : Int), .string e.name, .slice A n c] 24) := heap_new _ _
  have HN1 := Lib.hid hn1
  have HB1 : Hid (Below w.heap.size w (w.alloc (.cells #[.int .u8 (e.op : Int), .string e.name, .slice A n c] 24))) := Lib.hid ((Below.refl _ _).alloc (Nat.le_refl _) _)
  have HA := Lib.hid hl
  have HLN := Lib.hid hlen
  clear hl hn1 hlen
  go_enter Tryd.func19, Tryd.ntmps19
  obtain ⟨d0, d1, d2⟩ := three_cells HN1.out
  have hzl := cell_lt d0
  go_wp2_with fail
  generalize w.alloc (.cells #[.int .u8 (e.op : Int), .string e.name, .slice A n c] 24) = w1 at *
  refine (addNames_walk e A n c w.heap.size w.heap.size (.slice none 0 0) [] w1 (HA.out.keep (fun _ h => h) fun b hb => HB1.out.block b hb) (Nat.le_refl _) HB1.out.size (World.ownsRow_nil _ _ _ _) (by simpa using HLN.out)).mono ?_
  rintro x w2 ⟨v, rfl, hr2, hb2⟩
  rw [List.nil_append] at hr2
  have HB2 : Hid (Below w.heap.size w w2) := Lib.hid (HB1.out.trans hb2)
  clear hb2 d0 d1 d2 hzl
  by_cases hv : v = .slice none 0 0
  · subst hv
    have h0 : namesE e = [] := by
      rcases hr2.2 with ⟨_, h⟩ | ⟨g, cap, cur, hv, _⟩
      · exact List.eq_nil_of_length_eq_zero h
      · cases hv
    have H0 := Lib.hid h0
    clear hr2 h0
    have HC1 : Hid (∀ W, Calls Tryd.prog 34 #[.slice none 0 0] W fun x w' => x = .returned (.tuple #[]) ∧ w' = W) := Lib.hid fun W => Any.slices_Sort_string_none Tryd.laysSort none 0 W
    have HC2 : Hid (∀ W, Calls Tryd.prog 35 #[.slice none 0 0] W fun x w' => x = .returned (.slice none 0 0) ∧ w' = W) := Lib.hid fun W => Any.slices_Compact_string_empty Tryd.laysCompact none 0 W
    go_wp2_with fail
    refine (HC1.out _).mono ?_
    rintro x w3 ⟨rfl, rfl⟩
    go_wp2_with fail
    refine (HC2.out _).mono ?_
    rintro x w4 ⟨rfl, rfl⟩
    go_wp2
    go_ret
    exact ⟨_, [], rfl, World.ownsRow_nil _ _ _ _, HB2.out, fun s => by rw [H0.out], List.Pairwise.nil⟩
  · have hr3 : w2.ownsRow w.heap.size 9 1 v (namesE e).length ((namesB e).map Proofs.encStr) := by unfold namesB; rw [Lib.map_encStr]; exact hr2
    obtain ⟨g, cap, rfl, hbg, hgl, hncap, hcm, hlz, hH⟩ := Lib.holds_of_ownsRow hr3 hv
    have HOWN := Lib.hid hr3
    have HLZ := Lib.hid hlz
    have HH := Lib.hid hH
    have hN : (namesE e).length ≤ 2000000 := HLN.out
    generalize hNe : (namesE e).length = N at *
    have HNE := Lib.hid hNe
    have HFIN := Lib.hid (fun nn os q => names_fin (nn := nn) (os := os) (q := q) HOWN.out HB2.out hbg HLZ.out)
    generalize namesB e = ss at *
    have HS : Hid (Calls Tryd.prog 34 #[.slice (some ⟨g, 0, none⟩) N cap] w2 fun x w' => x = .returned (.tuple #[]) ∧ ∃ nn os, w' = grow (putRow Proofs.encStr (Sort.ahead w2 nn) g 0 (ss.mergeSort fun x y => decide (x ≤ y)).toArray) os) := Lib.hid (by
      have h := calls_of_every_depth fun D => AnyS.slices_Sort_string_alone Tryd.laysSort D g 0 cap ss w2 HH.out hgl (by rw [HLZ.out]; omega)
      rw [HLZ.out] at h
      exact h)
    have HC : Hid (∀ nn os, Calls Tryd.prog 35 #[.slice (some ⟨g, 0, none⟩) N cap] (grow (putRow Proofs.encStr (Sort.ahead w2 nn) g 0 (ss.mergeSort fun x y => decide (x ≤ y)).toArray) os) fun x w' => x = .returned (.slice (some ⟨g, 0, none⟩) (Lib.compact (ss.mergeSort fun x y => decide (x ≤ y))).length cap) ∧ ∃ q, w' = putRow Proofs.encStr (Sort.ahead (grow (putRow Proofs.encStr (Sort.ahead w2 nn) g 0 (ss.mergeSort fun x y => decide (x ≤ y)).toArray) os) q) g 0 (Lib.compact (ss.mergeSort fun x y => decide (x ≤ y)) ++ List.replicate (N - (Lib.compact (ss.mergeSort fun x y => decide (x ≤ y))).length) []).toArray) := Lib.hid (fun nn os => by
      have hl2 : (ss.mergeSort fun x y => decide (x ≤ y)).length = N := by rw [List.length_mergeSort]; exact HLZ.out
      have hH2 : Holds Proofs.encStr (grow (putRow Proofs.encStr (Sort.ahead w2 nn) g 0 (ss.mergeSort fun x y => decide (x ≤ y)).toArray) os) g 0 (ss.mergeSort fun x y => decide (x ≤ y)).toArray :=
        holds_grow Proofs.encStr _ os g 0 _ (by simpa [putRow, mapBlock, Sort.ahead] using hgl) (holds_putRow Proofs.encStr _ g 0 _ _ (holds_ahead Proofs.encStr w2 nn g 0 _ HH.out) (by simp))
      have h := Any.slices_Compact_string Tryd.laysCompact g 0 cap (ss.mergeSort fun x y => decide (x ≤ y)) _ hH2 (by omega) (by omega)
      rw [hl2] at h
      exact h)
    clear hr2 hr3 hv hlz hH hNe
    go_wp2_with fail
    refine HS.out.mono ?_
    rintro x w3 ⟨rfl, nn, os, rfl⟩
    go_wp2_with fail
    refine (HC.out nn os).mono ?_
    rintro x w4 ⟨rfl, q, rfl⟩
    go_wp2
    go_ret
    exact HFIN.out nn os q
end Go.Proofs.YtldmimekmjmkgaaDoor

namespace Go.Proofs.YtldmimekmjmkgaaDoor
open Go.RowKit Go.Sort Go.Maps Go.WideMaps

theorem strs_at {W : World} {S : Nat → Prop} {A : Option Addr} {n c : Nat} {l : List ByteArray} (h : Strs W S (.slice A n c) l) {i : Nat} {s : ByteArray} (hi : l[i]? = some s) : ∃ b o, A = some ⟨b, o, none⟩ ∧ S b ∧ W.cell? ⟨b, o + i, none⟩ = some (.string s) := by
  obtain ⟨A', c', hv, _, _, h⟩ := h
  injection hv with hA _ _
  subst hA
  rcases h with h | ⟨b, o, rfl, hb, hx⟩
  · subst h; simp at hi
  · exact ⟨b, o, rfl, hb, hx i s hi⟩
theorem strs_num {W : World} {S : Nat → Prop} {v : Value} {l : List ByteArray} (h : Strs W S v l) : ∃ A n c, v = .slice A n c ∧ l.length = n ∧ n ≤ c ∧ c ≤ maxLen := by
  obtain ⟨A, c, hv, h1, h2, _⟩ := h
  exact ⟨A, l.length, c, hv, rfl, h1, h2⟩
theorem less_not {a b : ByteArray} (h : a.data.toList < b.data.toList) : Op.bytesLess b.toList a.toList = false ∧ (b.toList == a.toList) = false := by
  rw [bytesLess_eq, Lib.toList_data, Lib.toList_data]
  constructor
  · rw [decide_eq_false_iff_not]; exact List.lt_asymm h
  · rw [beq_eq_false_iff_ne]; intro e; rw [e] at h; exact List.lt_irrefl _ h
theorem pair_at {R : ByteArray → ByteArray → Prop} {L : List ByteArray} (h : L.Pairwise R) {i j : Nat} {x y : ByteArray} (hi : L[i]? = some x) (hj : L[j]? = some y) (hij : i < j) : R x y := by
  obtain ⟨h1, rfl⟩ := List.getElem?_eq_some_iff.1 hi
  obtain ⟨h2, rfl⟩ := List.getElem?_eq_some_iff.1 hj
  exact List.pairwise_iff_getElem.1 h i j h1 h2 hij
theorem at_some {L : List ByteArray} {i : Nat} (h : i < L.length) : ∃ x, L[i]? = some x := ⟨_, List.getElem?_eq_getElem h⟩
/-- What the inner loop has met. -/
def MetN (L : List ByteArray) (s : ByteArray) (k : Nat) (m : Bool) : Prop := m = true ↔ ∃ j, j < k ∧ L[j]? = some s
theorem MetN.next {L : List ByteArray} {s t : ByteArray} {k : Nat} {m r : Bool} (h : MetN L s k m) (hk : L[k]? = some t) (hr : m = false → (r = true ↔ t = s)) : MetN L s (k + 1) (m || r) := by
  unfold MetN at *
  cases m with
  | true =>
    simp only [Bool.true_or, true_iff]
    obtain ⟨j, h1, h2⟩ := h.1 rfl
    exact ⟨j, by omega, h2⟩
  | false =>
    rw [Bool.false_or, hr rfl]
    constructor
    · rintro rfl; exact ⟨k, by omega, hk⟩
    · rintro ⟨j, h1, h2⟩
      by_cases hj : j < k
      · exact absurd (h.2 ⟨j, hj, h2⟩) (by decide)
      · obtain rfl : j = k := by omega
        rw [hk] at h2; exact Option.some.inj h2
theorem MetN.all {L : List ByteArray} {s : ByteArray} {k : Nat} {m : Bool} (h : MetN L s k m) (hk : L.length ≤ k) (hs : s ∈ L) : m = true := by
  obtain ⟨j, hj⟩ := List.mem_iff_getElem?.1 hs
  exact h.2 ⟨j, by have := (List.getElem?_eq_some_iff.1 hj).1; omega, hj⟩

set_option maxRecDepth 100000 in
set_option maxHeartbeats 8000000 in
theorem exprNames_walk (e : Ex) (A : Option Addr) (k c : Nat) (va : Value) (a : List ByteArray) (w : World) (he : e.fits) (hl : Exs w (Under w.heap.size) (.slice A k c) e.kids) (hT : TabB w) (ha : Strs w (Under w.heap.size) va a)
    (has : ∀ s ∈ a, s.size ≤ maxLen) (hbulk : (namesE e).length ≤ 2000000) :
    Calls Tryd.prog 9 #[.agg #[.int .u8 e.op, .string e.name, .slice A k c], va] w fun x w' => x = .returned (.bool true) ∧ Below w.heap.size w w' := by
  have HP0 : Hid (Pack w w [] [(va, a)]) := Lib.hid ⟨Below.refl _ _, hT, fun _ h => (nomatch h), fun y hy => by
    rcases List.mem_cons.1 hy with rfl | hy
    · exact ha
    · cases hy⟩
  have HP1 : Hid (Pack w (w.alloc (.cells #[.int .u8 e.op, .string e.name, .slice A k c] 24)) [⟨w.heap.size, e, A, k, c⟩] [(va, a)]) := Lib.hid ((HP0.out.alloc _).add (Lies.new (Below.refl _ _) hl fun _ h => h))
  obtain ⟨Aa, ca, rfl, hca, hcma, _⟩ := id ha
  generalize hNa : a.length = Na at *
  have HNa := Lib.hid hNa
  have HF := Lib.hid he
  have HAS := Lib.hid has
  have HBK := Lib.hid hbulk
  clear hl hT ha he has HP0 hNa hbulk
  unfold maxLen at hcma
  go_enter Tryd.func9, Tryd.ntmps9
  go_wp2_with fail
  refine (shown6_any _ HP1.out.tab).mono ?_
  rintro x W1 ⟨rfl, hb1⟩
  have HP2 := Lib.hid (HP1.out.next hb1)
  clear hb1 HP1
  obtain ⟨d00, d01, d02⟩ := HP2.out.cells (.head _)
  go_wp2_with fail
  refine (light6_any e A k c 300 W1 HF.out (HP2.out.ex _ (.head _)).kids (by decide) (by decide)).mono ?_
  rintro x W2 ⟨⟨q, rfl, hq0, hq1⟩, hb2⟩
  have HP3 := Lib.hid (HP2.out.next hb2)
  clear d00 d01 d02 hb2 HP2
  obtain ⟨d00, d01, d02⟩ := HP3.out.cells (.head _)
  have l0 := cell_lt d00
  by_cases hq : q < 0
  · go_wp2
    go_ret
    exact ⟨rfl, HP3.out.below⟩
  by_cases hlen : 30 < Na
  · go_wp2
    go_ret
    exact ⟨rfl, HP3.out.below⟩
  go_wp2_with fail
  refine (names_any e A k c W2 (HP3.out.ex _ (.head _)).kids HBK.out).mono ?_
  rintro x W3 ⟨vL, L, rfl, hrL, hb3, hok⟩
  have HP4 := Lib.hid (HP3.out.both hb3 hrL)
  obtain ⟨AL, NL, cL, rfl, hNL, hcL, hcmL⟩ := strs_num hrL.strs
  unfold maxLen at hcmL
  have HNL := Lib.hid hNL
  have HOK := Lib.hid hok
  clear d00 d01 d02 l0 hb3 HP3 hrL hNL hok
  have hnl : NL ≤ 9223372036854775807 := by omega
  go_wp2
  go_loopg [7] (NL + 1) (fun g u wx => ∃ i : Nat, u = .int .i64 i ∧ 1 ≤ i ∧ i + g = NL + 2 ∧ Hid (Pack w wx [⟨w.heap.size, e, A, k, c⟩] [(.slice AL NL cL, L), (.slice Aa Na ca, a)]))
  case atStart => exact ⟨1, rfl, by omega, by omega, HP4⟩
  case round =>
    clear HP4
    obtain ⟨i, rfl, hi1, hig, HP5⟩ := hrel
    obtain ⟨d00, d01, d02⟩ := HP5.out.cells (.head _)
    have l0 := cell_lt d00
    by_cases hi : i < NL
    · obtain ⟨g, rfl⟩ : ∃ g, gk = g + 1 := ⟨gk - 1, by omega⟩
      obtain ⟨i, rfl⟩ : ∃ j, i = j + 1 := ⟨i - 1, by omega⟩
      obtain ⟨x, hx⟩ : ∃ x, L[i + 1]? = some x := at_some (by rw [HNL.out]; exact hi)
      obtain ⟨y, hy⟩ : ∃ y, L[i]? = some y := at_some (by rw [HNL.out]; omega)
      have hxy : y.data.toList < x.data.toList := pair_at HOK.out.2 hy hx (by omega)
      obtain ⟨hlt, hle⟩ := less_not hxy
      obtain ⟨bL, oL, rfl, hbL, cx⟩ := strs_at (HP5.out.strs _ (.head _)) hx
      obtain ⟨bL', oL', hee, _, cy⟩ := strs_at (HP5.out.strs _ (.head _)) hy
      injection hee with hee
      injection hee with h1 h2 _
      subst h1 h2
      have kx := cell_regrown cx
      have ky := cell_regrown cy
      clear hx hy hxy
      go_wp2
      refine wp_region_quiet_below (by kernel_rfl) (by kernel_rfl) ?_
      repeat (first | go_big_quiet_step (fail) | quiet_step (fail))
      refine wpQuiet_nil ?_
      intro _ hw'
      obtain ⟨⟨dq, osq⟩, hw''⟩ := hw'
      subst hw''
      have HP6 := Lib.hid (HP5.out.next (below_regrown _ dq osq))
      clear kx ky cx cy d00 d01 d02 l0 HP5 hlt hle
      generalize grow (redrawn _ dq) osq = wn at *
      go_wp2
      go_roundg g
      case measure => omega
      case rel => exact ⟨i + 2, by go_num, by omega, by omega, HP6⟩
    · go_wp2_with fail
      refine (has_pack HP5.out (.head _) HF.out (.tail _ (.head _)) HAS.out).mono ?_
      rintro x W6 ⟨⟨r, rfl, hr⟩, hb6⟩
      have HP6 := Lib.hid (HP5.out.next hb6)
      have HRL := Lib.hid hr
      clear d00 d01 d02 l0 hb6 HP5 hr
      cases r with
      | false =>
        go_wp2
        go_ret
        exact ⟨rfl, HP6.out.below⟩
      | true =>
        have HLL := Lib.hid (HRL.out.1 (by simp))
        clear HRL hi hig hi1
        go_wp2
        go_loopg [8] (Na + 1) (fun g u wx => ∃ i : Nat, u = .int .i64 i ∧ i + g = Na + 1 ∧ Hid (Pack w wx [⟨w.heap.size, e, A, k, c⟩] [(.slice AL NL cL, L), (.slice Aa Na ca, a)]))
        case atStart => exact ⟨0, rfl, by omega, HP6⟩
        case round =>
          clear HP6
          obtain ⟨p, rfl, hpg, HP7⟩ := hrel
          by_cases hp : p < Na
          · obtain ⟨g, rfl⟩ : ∃ g, gk = g + 1 := ⟨gk - 1, by omega⟩
            obtain ⟨s, hs⟩ : ∃ s, a[p]? = some s := at_some (by rw [HNa.out]; exact hp)
            have HSA := Lib.hid hs
            have HSL : Hid (s ∈ L) := Lib.hid ((HOK.out.1 s).2 (lang_names e _ HLL.out.2 s (List.mem_of_getElem? hs)))
            clear hs
            generalize wr = wo at *
            go_wp2
            go_loopg [9, 10] (NL + 1) (fun g2 u v wx => ∃ (t : Nat) (m : Bool), u = .bool m ∧ v = .int .i64 t ∧ t + g2 = NL + 1 ∧ Hid (MetN L s t m) ∧ Hid (Pack w wx [⟨w.heap.size, e, A, k, c⟩] [(.slice AL NL cL, L), (.slice Aa Na ca, a)]))
            case atStart => exact ⟨0, false, rfl, rfl, by omega, Lib.hid ⟨fun h => (nomatch h), fun ⟨j, h, _⟩ => absurd h (by omega)⟩, HP7⟩
            case round =>
              clear HP7
              obtain ⟨t, m, rfl, rfl, htg, HM, HP8⟩ := hrel
              by_cases ht : t < NL
              · obtain ⟨g2, rfl⟩ : ∃ g2, gk = g2 + 1 := ⟨gk - 1, by omega⟩
                obtain ⟨x, hx⟩ : ∃ x, L[t]? = some x := at_some (by rw [HNL.out]; exact ht)
                have HX := Lib.hid hx
                obtain ⟨bL, oL, rfl, hbL, cx⟩ := strs_at (HP8.out.strs _ (.head _)) hx
                obtain ⟨bA, oA, rfl, hbA, cy⟩ := strs_at (HP8.out.strs _ (.tail _ (.head _))) HSA.out
                have kx := cell_regrown cx
                have ky := cell_regrown cy
                clear hx hbL hbA
                cases m with
                | true =>
                  go_wp2
                  refine wp_region_quiet_below (by kernel_rfl) (by kernel_rfl) ?_
                  repeat (first | go_big_quiet_step (fail) | quiet_step (fail))
                  refine wpQuiet_nil ?_
                  intro _ hw'
                  obtain ⟨⟨dq, osq⟩, hw''⟩ := hw'
                  subst hw''
                  have HP9 := Lib.hid (HP8.out.next (below_regrown _ dq osq))
                  clear kx ky cx cy HP8
                  generalize grow (redrawn _ dq) osq = wn at *
                  go_wp2
                  go_roundg g2
                  case measure => omega
                  case rel => exact ⟨t + 1, _, rfl, by go_num, by omega, Lib.hid (HM.out.next (r := true) HX.out (fun h => (nomatch h))), HP9⟩
                | false =>
                  by_cases hts : x = s
                  · have hse : (x.toList == s.toList) = true := by rw [hts]; simp
                    have HTS := Lib.hid hts
                    clear hts
                    go_wp2
                    refine wp_region_quiet_below (by kernel_rfl) (by kernel_rfl) ?_
                    repeat (first | go_big_quiet_step (fail) | quiet_step (fail))
                    refine wpQuiet_nil ?_
                    intro _ hw'
                    obtain ⟨⟨dq, osq⟩, hw''⟩ := hw'
                    subst hw''
                    have HP9 := Lib.hid (HP8.out.next (below_regrown _ dq osq))
                    clear kx ky cx cy HP8
                    generalize grow (redrawn _ dq) osq = wn at *
                    go_wp2
                    go_roundg g2
                    case measure => omega
                    case rel => exact ⟨t + 1, _, rfl, by go_num, by omega, Lib.hid (HM.out.next (r := true) HX.out (fun _ => ⟨fun _ => HTS.out, fun _ => rfl⟩)), HP9⟩
                  · have hse : (x.toList == s.toList) = false := by
                      rw [beq_eq_false_iff_ne]; intro h; rw [Lib.toList_data, Lib.toList_data] at h; exact hts (bytesE_of h)
                    have HTS := Lib.hid hts
                    clear hts
                    go_wp2
                    refine wp_region_quiet_below (by kernel_rfl) (by kernel_rfl) ?_
                    repeat (first | go_big_quiet_step (fail) | quiet_step (fail))
                    refine wpQuiet_nil ?_
                    intro _ hw'
                    obtain ⟨⟨dq, osq⟩, hw''⟩ := hw'
                    subst hw''
                    have HP9 := Lib.hid (HP8.out.next (below_regrown _ dq osq))
                    clear kx ky cx cy HP8
                    generalize grow (redrawn _ dq) osq = wn at *
                    go_wp2
                    go_roundg g2
                    case measure => omega
                    case rel => exact ⟨t + 1, _, rfl, by go_num, by omega, Lib.hid (HM.out.next (r := false) HX.out (fun _ => ⟨fun h => (nomatch h), fun h => absurd h HTS.out⟩)), HP9⟩
              · obtain rfl : m = true := HM.out.all (by rw [HNL.out]; omega) HSL.out
                go_wp2
                go_roundg g
                case measure => omega
                case rel => exact ⟨p + 1, by go_num, by omega, HP8⟩
          · obtain ⟨d00, d01, d02⟩ := HP7.out.cells (.head _)
            have l0 := cell_lt d00
            go_wp2_with fail
            refine (right_pack HP7.out (.head _) HF.out).mono ?_
            rintro x W9 ⟨rfl, hb9⟩
            have HP9 := Lib.hid (HP7.out.next hb9)
            clear d00 d01 d02 l0 hb9 HP7
            simp only
            rw [HLL.out.1]
            go_wp2
            go_ret
            exact ⟨rfl, HP9.out.below⟩
end Go.Proofs.YtldmimekmjmkgaaDoor
