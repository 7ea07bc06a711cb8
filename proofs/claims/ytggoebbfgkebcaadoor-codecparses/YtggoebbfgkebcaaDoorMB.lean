/-
  What codec.Head answers.
  append of one thing to a row of the call's own.
  The document's Quote: what it answers (R1, for seats without tokens).
  The document's Head: what it answers (R2, for greater nodes, and seats without tokens).
  What the codec's writing calls answer: writeAll, written, Print.
-/
import Derived.Test.YtggoebbfgkebcaaDoorMA
import Derived.Laws.RangeAny
namespace Go.Proofs.YtggoebbfgkebcaaDoor
open Go.RowKit Go.Sort

end Go.Proofs.YtggoebbfgkebcaaDoor

namespace Go.Proofs.YtggoebbfgkebcaaDoor
open Go.RowKit Go.Sort Go.Maps

section
variable {w : World} {ops : Array Oper} {rest : List Oper} {o : Oper} {a : Act} {Q : Exit → Act → World → Prop}
theorem wp_append_gen {K : Act → World → Prop} {t e : TypeId} {z : Value} {size bytes : Nat} (ht : Tryd.prog.underlying t = some (.slice e)) (hinfo : (Tryd.prog.info? e).map (fun i => (i.zero, i.size, i.bytes)) = some (some z, size, bytes)) (hzs : z.cells.size = size) (hsz : 0 < size) (hby : bytes ≤ 1000)
    (s x : Operand) (ho : o.op = .call { callee := .builtin .append, args := #[s, x], argTypes := #[t, t] })
    (base : Nat) (v : Value) (n : Nat) (xs : List Value) (g c : Nat) (news : List Value) (hs : a.eval s = v) (hx : a.eval x = .slice (some ⟨g, 0, none⟩) 1 c) (hown : w.ownsRow base e size v n xs)
    (hl : news.length = size) (hnews : ∀ j u, news[j]? = some u → w.cell? ⟨g, j, none⟩ = some u) (h1 : ∀ u ∈ news, u.oneCell' = true) (hn : n + 1 ≤ 100000000) (hbase : base ≤ w.heap.size)
    (h : ∀ v' w', w'.ownsRow base e size v' (n + 1) (xs ++ news) → w.grownBy w' v.ownBlock → K (a.put o.dst v') w') : o.wp Tryd.prog a w K Q := by
  obtain ⟨i, hi, hz0, hz1, hz2⟩ := info_parts hinfo
  obtain ⟨v', w', hr, h2, h3, _, _⟩ := run_append_own_at (P := Tryd.prog) w base t o.type e i z size bytes ht hi hz0 hz1 hz2 hzs hsz v n xs hown ⟨g, 0, none⟩ 1 c news (by rw [hl, Nat.one_mul]) (fun j u hj => by rw [add_cell, Nat.zero_add]; exact hnews j u hj) h1 (by unfold maxLen; omega) (Nat.le_trans (Nat.mul_le_mul hn hby) (by decide)) hbase
  unfold Oper.wp execOp
  simp only [ho, resolve, invoke, builtin, Sem.run_bind, Sem.run_pure, Result.andThen_ok, List.map_toArray, List.map_cons, List.map_nil, hs, hx, hr]
  exact h v' w' h2 h3
theorem step_append_gen {K : Act → World → Prop} {E : Prop} {t e : TypeId} {z : Value} {size bytes : Nat} (ht : Tryd.prog.underlying t = some (.slice e)) (hinfo : (Tryd.prog.info? e).map (fun i => (i.zero, i.size, i.bytes)) = some (some z, size, bytes)) (hzs : z.cells.size = size) (hsz : 0 < size) (hby : bytes ≤ 1000)
    (hgd : o.guard = none) (s x : Operand) (ho : o.op = .call { callee := .builtin .append, args := #[s, x], argTypes := #[t, t] })
    (base : Nat) (v : Value) (n : Nat) (xs : List Value) (g c : Nat) (news : List Value) (hs : a.eval s = v) (hx : a.eval x = .slice (some ⟨g, 0, none⟩) 1 c) (hown : w.ownsRow base e size v n xs)
    (hl : news.length = size) (hnews : ∀ j u, news[j]? = some u → w.cell? ⟨g, j, none⟩ = some u) (h1 : ∀ u ∈ news, u.oneCell' = true) (hn : n + 1 ≤ 100000000) (hbase : base ≤ w.heap.size)
    (h : ∀ v' w', w'.ownsRow base e size v' (n + 1) (xs ++ news) → w.grownBy w' v.ownBlock → K (a.put o.dst v') w') :
    if Region.wanted o (yielded ops a.tmps) = true then Oper.wp Tryd.prog o a w K Q else E := by
  have hw : Region.wanted o (yielded ops a.tmps) = true := by simp [Region.wanted, hgd]
  rw [if_pos hw]
  exact wp_append_gen ht hinfo hzs hsz hby s x ho base v n xs g c news hs hx hown hl hnews h1 hn hbase h
theorem wpList_append_gen {t e : TypeId} {z : Value} {size bytes : Nat} (ht : Tryd.prog.underlying t = some (.slice e)) (hinfo : (Tryd.prog.info? e).map (fun i => (i.zero, i.size, i.bytes)) = some (some z, size, bytes)) (hzs : z.cells.size = size) (hsz : 0 < size) (hby : bytes ≤ 1000)
    (hgd : o.guard = none) (s x : Operand) (ho : o.op = .call { callee := .builtin .append, args := #[s, x], argTypes := #[t, t] })
    (base : Nat) (v : Value) (n : Nat) (xs : List Value) (g c : Nat) (news : List Value) (hs : a.eval s = v) (hx : a.eval x = .slice (some ⟨g, 0, none⟩) 1 c) (hown : w.ownsRow base e size v n xs)
    (hl : news.length = size) (hnews : ∀ j u, news[j]? = some u → w.cell? ⟨g, j, none⟩ = some u) (h1 : ∀ u ∈ news, u.oneCell' = true) (hn : n + 1 ≤ 100000000) (hbase : base ≤ w.heap.size)
    (h : ∀ v' w', w'.ownsRow base e size v' (n + 1) (xs ++ news) → w.grownBy w' v.ownBlock → wpList Tryd.prog ops Q rest (a.put o.dst v') w') : wpList Tryd.prog ops Q (o :: rest) a w :=
  wpList_plain hgd fun _ hK => wp_append_gen ht hinfo hzs hsz hby s x ho base v n xs g c news hs hx hown hl hnews h1 hn hbase fun v' w' h1 h2 => hK _ _ (h v' w' h1 h2)
end

theorem str_info : (Tryd.prog.info? 9).map (fun i => (i.zero, i.size, i.bytes)) = some (some (.string ⟨#[]⟩), 1, 16) := by kernel_rfl
theorem pair_info : (Tryd.prog.info? 37).map (fun i => (i.zero, i.size, i.bytes)) = some (some (.agg #[.string ⟨#[]⟩, .string ⟨#[]⟩]), 2, 32) := by kernel_rfl

theorem fresh_cell (w : World) (cs : Array Value) (T : TypeId) (j : Nat) (v : Value) (h : cs[j]? = some v) : (w.alloc (.cells cs T)).cell? ⟨w.heap.size, j, none⟩ = some v := by
  unfold World.cell?
  simp only [heap_alloc_new]
  exact h
theorem five_cells {w : World} {g : Nat} {u0 u1 u2 u3 u4 : Value} {T : TypeId} (h : w.heap[g]? = some (.cells #[u0, u1, u2, u3, u4] T)) :
    w.cell? ⟨g, 0, none⟩ = some u0 ∧ w.cell? ⟨g, 1, none⟩ = some u1 ∧ w.cell? ⟨g, 2, none⟩ = some u2 ∧ w.cell? ⟨g, 3, none⟩ = some u3 ∧ w.cell? ⟨g, 4, none⟩ = some u4 := by
  simp [World.cell?, h]
theorem iter_below (w : World) (s : ByteArray) (p : Nat) : Below w.heap.size w (w.iter s p) := (Below.refl _ _).alloc (Nat.le_refl _) _
end Go.Proofs.YtggoebbfgkebcaaDoor

namespace Go.Proofs.YtggoebbfgkebcaaDoor
open Go.RowKit Go.Sort Go.Maps

theorem heap_lt {w : World} {g : Nat} {o : Obj} (h : w.heap[g]? = some o) : g < w.heap.size := (Array.getElem?_eq_some_iff.1 h).1
theorem rsize_of {a : ByteArray} {l : List UInt8} (h : a.data.toList = l) : a.size = l.length := by rw [← h, Array.length_toList]; rfl
theorem rapp (a b : ByteArray) : (a ++ b).data.toList = a.data.toList ++ b.data.toList := by rw [ByteArray.data_append]; simp

theorem ext_one (s : ByteArray) (k : Nat) (h : k < s.size) : (s.extract k (k + 1)).data.toList = [s[k]] := by
  have hk : k < s.data.toList.length := by rw [← Lib.size_eq]; exact h
  rw [ByteArray.data_extract, Array.toList_extract, List.extract_eq_take_drop, show k + 1 - k = 1 by omega, List.drop_eq_getElem_cons hk]
  rfl

set_option maxHeartbeats 4000000 in
set_option maxRecDepth 100000 in
theorem rquote_any (s : ByteArray) (w : World) (hs : s.size ≤ 1000000) :
    Calls Tryd.prog 30 #[.string s] w fun e w' => ∃ q : ByteArray, e = .returned (.string q) ∧ q.data.toList = quoteL s.data.toList ∧ Below w.heap.size w w' := by
  go_enter Tryd.func30, Tryd.ntmps30
  go_wp2
  go_loopw [3, 4] (fun v i wr => ∃ (k : Nat) (st : ByteArray), k ≤ s.size ∧ i = .int .i64 k ∧ v = .string st ∧ Hid (st.data.toList = 34 :: escL (s.data.toList.take k)) ∧ Below w.heap.size w wr) (fun _ i _ => s.size - (intOf i).toNat)
  case atStart => exact ⟨0, _, by omega, rfl, rfl, Lib.hid rfl, Below.refl _ _⟩
  case round =>
    obtain ⟨k, st, hk, rfl, rfl, hst, hbr⟩ := hrel
    have hel := escL_le (s.data.toList.take k)
    have htl : (s.data.toList.take k).length ≤ s.size := by rw [List.length_take, Lib.size_eq]; omega
    have hsz : st.size ≤ 3000000 := by rw [rsize_of hst.out, List.length_cons]; omega
    by_cases hlt : k < s.size
    · have HTK : Hid (escL (s.data.toList.take (k + 1)) = escL (s.data.toList.take k) ++ (if s[k] == 34 || s[k] == 92 then [92, s[k]] else [s[k]])) := Lib.hid (by rw [take_snoc_b s k hlt, escL_snoc])
      generalize hc : s[k] = c at *
      obtain ⟨sx, hsx⟩ : ∃ sx : ByteArray, s.extract k (k + 1) = sx := ⟨_, rfl⟩
      have HSX : Hid (sx.data.toList = [c]) := Lib.hid (by rw [← hsx, ext_one s k hlt, hc])
      have hsx1 : sx.size = 1 := rsize_of HSX.out
      have o1 : ¬ 9223372036854775807 < st.size + 1 := by omega
      have o2 : ¬ 9223372036854775807 < st.size + 1 + 1 := by omega
      cases q1 : ((c.toNat : Int) == 34) with
      | true =>
        have hE : (c == 34 || c == 92) = true := by
          have h1 : (c.toNat : Int) = 34 := beq_iff_eq.1 q1
          have h2 : c = 34 := UInt8.toNat_inj.1 (by show c.toNat = 34; omega)
          rw [h2]; rfl
        rw [hE, if_pos rfl] at HTK
        go_wp2
        exact ⟨⟨k + 1, _, by omega, by go_num, rfl, Lib.hid (by rw [HTK.out, rapp, rapp, hst.out, HSX.out]; simp), hbr⟩, by simp [intOf]; omega⟩
      | false =>
        cases q2 : ((c.toNat : Int) == 92) with
        | true =>
          have hE : (c == 34 || c == 92) = true := by
            have h1 : (c.toNat : Int) = 92 := beq_iff_eq.1 q2
            have h2 : c = 92 := UInt8.toNat_inj.1 (by show c.toNat = 92; omega)
            rw [h2]; rfl
          rw [hE, if_pos rfl] at HTK
          go_wp2
          exact ⟨⟨k + 1, _, by omega, by go_num, rfl, Lib.hid (by rw [HTK.out, rapp, rapp, hst.out, HSX.out]; simp), hbr⟩, by simp [intOf]; omega⟩
        | false =>
          have hE : (c == 34 || c == 92) = false := by
            rw [Bool.or_eq_false_iff]
            exact ⟨beq_eq_false_iff_ne.2 fun e => by subst e; exact absurd q1 (by decide), beq_eq_false_iff_ne.2 fun e => by subst e; exact absurd q2 (by decide)⟩
          rw [hE, if_neg Bool.false_ne_true] at HTK
          go_wp2
          exact ⟨⟨k + 1, _, by omega, by go_num, rfl, Lib.hid (by rw [HTK.out, rapp, hst.out, HSX.out]; simp), hbr⟩, by simp [intOf]; omega⟩
    · have o1 : ¬ 9223372036854775807 < st.size + 1 := by omega
      go_wp2
      go_ret
      refine ⟨_, rfl, ?_, hbr⟩
      rw [rapp, hst.out, List.take_of_length_le (by rw [← Lib.size_eq]; omega)]
      simp [quoteL]
end Go.Proofs.YtggoebbfgkebcaaDoor

namespace Go.Proofs.YtggoebbfgkebcaaDoor
open Go.RowKit Go.Sort Go.Maps

theorem rquote_val (s : ByteArray) (w : World) (hs : s.size ≤ 1000000) :
    Calls Tryd.prog 30 #[.string s] w fun e w' => e = .returned (.string ⟨(quoteL s.data.toList).toArray⟩) ∧ Below w.heap.size w w' :=
  (rquote_any s w hs).mono fun _ _ ⟨q, he, hq, hb⟩ => ⟨by rw [he, show q = ⟨(quoteL s.data.toList).toArray⟩ from ByteArray.ext (Array.ext' (by rw [hq]))], hb⟩
theorem weighL_len : ∀ l : List ByteArray, l.length ≤ weighL l
  | [] => by simp [weighL]
  | s :: l => by have := weighL_len l; simp only [weighL, List.map_cons, List.sum_cons, List.length_cons] at *; omega
theorem weighP_len : ∀ l : List (ByteArray × ByteArray), l.length ≤ weighP l
  | [] => by simp [weighP]
  | s :: l => by have := weighP_len l; simp only [weighP, List.map_cons, List.sum_cons, List.length_cons] at *; omega

set_option maxHeartbeats 4000000 in
set_option maxRecDepth 100000 in
theorem rhead_any (v : Value) (t : Tree) (w : World) (h : Node w (Under w.heap.size) v t) (hw : weigh t ≤ 1000000) :
    Calls Tryd.prog 31 #[v] w fun e w' => ∃ q : ByteArray, e = .returned (.string q) ∧ q.data.toList = headW t ∧ Below w.heap.size w w' := by
  obtain ⟨vm, va, vk, rfl, hm, ha, hk⟩ := h
  obtain ⟨A1, c1, rfl, _⟩ := hm.form
  obtain ⟨A2, c2, rfl, _⟩ := ha.form
  obtain ⟨A3, c3, rfl, _⟩ := hk.form
  have HM := Lib.hid hm
  have HA := Lib.hid ha
  clear hm ha hk
  have hB1 : Below w.heap.size w (w.alloc (.cells #[.string t.kind, .string t.text, .slice A1 t.marks.length c1, .slice A2 t.attrs.length c2, .slice A3 t.kids.length c3] 27)) := (Below.refl _ _).alloc (Nat.le_refl _) _
  have hP := heap_alloc_new w (.cells #[.string t.kind, .string t.text, .slice A1 t.marks.length c1, .slice A2 t.attrs.length c2, .slice A3 t.kids.length c3] 27)
  have HB1 := Lib.hid hB1
  have HP := Lib.hid hP
  have hwm : weighL t.marks ≤ 1000000 := by obtain ⟨k, x, m, a, l⟩ := t; simp only [weigh, Tree.marks] at *; omega
  have hwa : weighP t.attrs ≤ 1000000 := by obtain ⟨k, x, m, a, l⟩ := t; simp only [weigh, Tree.attrs] at *; omega
  have hwk : t.kind.size ≤ 1000000 := by obtain ⟨k, x, m, a, l⟩ := t; simp only [weigh, Tree.kind] at *; omega
  clear hB1 hP
  cases hkx : isTxt t.kind with
  | true =>
    have hk' : (t.kind.toList == [116, 101, 120, 116]) = true := hkx
    have HW : Hid (headW t = marksW t.marks) := Lib.hid (by unfold headW; rw [hkx]; rfl)
    clear hkx
    go_enter Tryd.func31, Tryd.ntmps31
    go_wp2
    generalize w.alloc (.cells #[.string t.kind, .string t.text, .slice A1 t.marks.length c1, .slice A2 t.attrs.length c2, .slice A3 t.kids.length c3] 27) = W1 at *
    obtain ⟨k0, k1, k2, k3, k4⟩ := five_cells HP.out
    have hlm : t.marks.length ≤ 1000000 := by have := weighL_len t.marks; omega
    go_loopw [3, 4] (fun v i wr => ∃ (k : Nat) (st : ByteArray), k ≤ t.marks.length ∧ i = .int .i64 k ∧ v = .string st ∧ Hid (st.data.toList = commaM (t.marks.take k)) ∧ wr = W1) (fun _ i _ => t.marks.length - (intOf i).toNat)
    case atStart => exact ⟨0, _, by omega, rfl, rfl, Lib.hid rfl, rfl⟩
    case round =>
      obtain ⟨k, st, hk, rfl, rfl, hst, hwr⟩ := hrel
      subst hwr
      have hel := commaM_take_le t.marks k
      have hsz : st.size ≤ 2200000 := by rw [rsize_of hst.out]; omega
      by_cases hlt : k < t.marks.length
      · obtain ⟨g, o, rfl, hub, hcell⟩ := HM.out.get hlt
        have hc1 := (HB1.out.cell (p := ⟨g, o + k, none⟩) hub).trans (hcell k hlt)
        have hxz := weighL_get (getD_some ByteArray.empty hlt)
        have HTK : Hid (commaM (t.marks.take (k + 1)) = if (t.marks.take k).isEmpty then (t.marks.getD k ByteArray.empty).data.toList else commaM (t.marks.take k) ++ 44 :: (t.marks.getD k ByteArray.empty).data.toList) := Lib.hid (by
          rw [show t.marks.take (k + 1) = t.marks.take k ++ [t.marks.getD k ByteArray.empty] by rw [List.take_succ_eq_append_getElem hlt, List.getD_eq_getElem?_getD, List.getElem?_eq_getElem hlt]; rfl, commaM_snoc])
        generalize t.marks.getD k ByteArray.empty = x at *
        have o1 : ¬ 9223372036854775807 < st.size + 1 := by omega
        have o2 : ¬ 9223372036854775807 < st.size + x.size := by omega
        have o3 : ¬ 9223372036854775807 < st.size + 1 + x.size := by omega
        clear hcell
        rcases Nat.eq_zero_or_pos k with hk0 | hk0
        · have HE : Hid ((st ++ x).data.toList = commaM (t.marks.take (k + 1))) := Lib.hid (by rw [rapp, hst.out, HTK.out, hk0]; simp [commaM])
          have g0 : decide ((0 : Int) < (k : Int)) = false := by simp; omega
          have g1 : decide (0 < k) = false := by simp; omega
          clear hk0
          go_wp2
          exact ⟨⟨k + 1, _, by omega, by go_num, rfl, HE, by first | rfl | trivial⟩, by simp [intOf]; omega⟩
        · have HE : Hid ((st ++ ⟨#[44]⟩ ++ x).data.toList = commaM (t.marks.take (k + 1))) := Lib.hid (by
            have : (t.marks.take k).isEmpty = false := by rw [List.isEmpty_eq_false_iff]; intro e; have := congrArg List.length e; rw [List.length_take, List.length_nil] at this; omega
            rw [rapp, rapp, hst.out, HTK.out, this]; simp)
          have g0 : decide ((0 : Int) < (k : Int)) = true := by simp; omega
          have g1 : decide (0 < k) = true := by simp; omega
          clear hk0
          go_wp2
          exact ⟨⟨k + 1, _, by omega, by go_num, rfl, HE, by first | rfl | trivial⟩, by simp [intOf]; omega⟩
      · have hfin : Hid (st.data.toList = commaM t.marks) := Lib.hid (by have h := hst.out; rwa [List.take_of_length_le (by omega)] at h)
        have o1 : ¬ 9223372036854775807 < 1 + st.size := by omega
        have o2 : ¬ 9223372036854775807 < 1 + st.size + 1 := by omega
        by_cases h0 : 0 < t.marks.length
        · have HE : Hid (((⟨#[60]⟩ : ByteArray) ++ st ++ ⟨#[62]⟩).data.toList = headW t) := Lib.hid (by rw [HW.out, rapp, rapp, hfin.out, marksW_cons (fun e => by rw [e] at h0; simp at h0)]; rfl)
          have g0 : decide ((0 : Int) < (t.marks.length : Int)) = true := decide_eq_true (by omega)
          go_wp2
          go_ret
          exact ⟨_, rfl, HE.out, HB1.out⟩
        · have HE : Hid (st.data.toList = headW t) := Lib.hid (by rw [HW.out, hfin.out, List.eq_nil_of_length_eq_zero (by omega : t.marks.length = 0)]; rfl)
          have g0 : decide ((0 : Int) < (t.marks.length : Int)) = false := decide_eq_false (by omega)
          go_wp2
          go_ret
          exact ⟨_, rfl, HE.out, HB1.out⟩
  | false =>
    have hk' : (t.kind.toList == [116, 101, 120, 116]) = false := hkx
    have HW : Hid (headW t = t.kind.data.toList ++ attrsW t.attrs) := Lib.hid (by unfold headW; rw [hkx]; rfl)
    clear hkx
    go_enter Tryd.func31, Tryd.ntmps31
    go_wp2
    generalize w.alloc (.cells #[.string t.kind, .string t.text, .slice A1 t.marks.length c1, .slice A2 t.attrs.length c2, .slice A3 t.kids.length c3] 27) = W1 at *
    have hlm : t.attrs.length ≤ 1000000 := by have := weighP_len t.attrs; omega
    have hnl := heap_lt HP.out
    go_loopw [3, 5] (fun v i wr => ∃ (k : Nat) (st : ByteArray), k ≤ t.attrs.length ∧ i = .int .i64 k ∧ v = .string st ∧ Hid (st.data.toList = blankA (t.attrs.take k)) ∧ Below W1.heap.size W1 wr) (fun _ i _ => t.attrs.length - (intOf i).toNat)
    case atStart => exact ⟨0, _, by omega, rfl, rfl, Lib.hid rfl, Below.refl _ _⟩
    case round =>
      obtain ⟨k, st, hk, rfl, rfl, hst, hbr⟩ := hrel
      have hel := blankA_take_le t.attrs k
      have hsz : st.size ≤ 5500000 := by rw [rsize_of hst.out]; omega
      have HPr := Lib.hid ((hbr.block _ hnl).trans HP.out)
      obtain ⟨k0, k1, k2, k3, k4⟩ := five_cells HPr.out
      have HBr := Lib.hid (belowNext HB1.out hbr)
      by_cases hlt : k < t.attrs.length
      · obtain ⟨g, o, rfl, hub, hcell⟩ := HA.out.get hlt
        have hc1 := cell_regrown ((HBr.out.cell (p := ⟨g, o + k * 2, none⟩) hub).trans (hcell k hlt).1)
        have hc2 := cell_regrown ((HBr.out.cell (p := ⟨g, o + k * 2 + 1, none⟩) hub).trans (hcell k hlt).2)
        have r3 := cell_regrown k3
        have hxz : (pairAt t.attrs k).1.size + (pairAt t.attrs k).2.size < weighP t.attrs := weighP_get (getD_some (ByteArray.empty, ByteArray.empty) hlt)
        have HTK : Hid (blankA (t.attrs.take (k + 1)) = if (t.attrs.take k).isEmpty then attrW (pairAt t.attrs k) else blankA (t.attrs.take k) ++ 32 :: attrW (pairAt t.attrs k)) := Lib.hid (by
          rw [show t.attrs.take (k + 1) = t.attrs.take k ++ [pairAt t.attrs k] by unfold pairAt; rw [List.take_succ_eq_append_getElem hlt, List.getD_eq_getElem?_getD, List.getElem?_eq_getElem hlt]; rfl, blankA_snoc])
        generalize pairAt t.attrs k = pr at *
        obtain ⟨x, y⟩ := pr
        obtain ⟨q, hq⟩ : ∃ q : ByteArray, (⟨(quoteL y.data.toList).toArray⟩ : ByteArray) = q := ⟨_, rfl⟩
        have HQ := Lib.hid (regrown_any (w := wr) (f := 30) (args := #[.string y]) (v := .string q) fun W _ => by rw [← hq]; exact rquote_val y W (by simp only at hxz; omega))
        have HQD : Hid (q.data.toList = quoteL y.data.toList) := Lib.hid (by rw [← hq])
        have hqz : q.size ≤ 3300000 := by
          rw [rsize_of HQD.out]; have h1 := escL_le y.data.toList; have h2 := Lib.size_eq y; simp only at hxz; simp only [quoteL, List.length_cons, List.length_append, List.length_nil]; omega
        have hxs : x.size ≤ 1000000 := by simp only at hxz; omega
        have o1 : ¬ 9223372036854775807 < st.size + 1 := by omega
        have o2 : ¬ 9223372036854775807 < st.size + x.size := by omega
        have o3 : ¬ 9223372036854775807 < st.size + x.size + 1 := by omega
        have o4 : ¬ 9223372036854775807 < st.size + x.size + 1 + q.size := by omega
        have o5 : ¬ 9223372036854775807 < st.size + 1 + x.size := by omega
        have o6 : ¬ 9223372036854775807 < st.size + 1 + x.size + 1 := by omega
        have o7 : ¬ 9223372036854775807 < st.size + 1 + x.size + 1 + q.size := by omega
        clear hcell hq k0 k1 k2 k4 hxz
        rcases Nat.eq_zero_or_pos k with hk0 | hk0
        · have HE : Hid ((st ++ x ++ ⟨#[61]⟩ ++ q).data.toList = blankA (t.attrs.take (k + 1))) := Lib.hid (by rw [rapp, rapp, rapp, hst.out, HQD.out, HTK.out, hk0]; simp [blankA, attrW])
          have g0 : decide ((0 : Int) < (k : Int)) = false := decide_eq_false (by omega)
          have g1 : decide (0 < k) = false := decide_eq_false (by omega)
          clear hk0
          go_wp2_with fail
          refine wp_region_quiet_below (by kernel_rfl) (by kernel_rfl) ?_
          repeat (first | go_big_quiet_step (exact HQ.out _ _) | quiet_step (exact HQ.out _ _))
          refine wpQuiet_nil ?_
          intro _ hw'
          obtain ⟨⟨dq, osq⟩, hw''⟩ := hw'
          subst hw''
          have hbq := below_regrown wr dq osq
          have HBQ := Lib.hid (hbr.trans (hbq.mono hbr.size))
          clear hbq
          generalize grow (redrawn wr dq) osq = wq at *
          go_wp2
          exact ⟨⟨k + 1, _, by omega, by go_num, rfl, HE, HBQ.out⟩, by simp [intOf]; omega⟩
        · have HE : Hid ((st ++ ⟨#[32]⟩ ++ x ++ ⟨#[61]⟩ ++ q).data.toList = blankA (t.attrs.take (k + 1))) := Lib.hid (by
            have : (t.attrs.take k).isEmpty = false := by rw [List.isEmpty_eq_false_iff]; intro e; have := congrArg List.length e; rw [List.length_take, List.length_nil] at this; omega
            rw [rapp, rapp, rapp, rapp, hst.out, HQD.out, HTK.out, this]; simp [attrW])
          have g0 : decide ((0 : Int) < (k : Int)) = true := decide_eq_true (by omega)
          have g1 : decide (0 < k) = true := decide_eq_true (by omega)
          clear hk0
          go_wp2_with fail
          refine wp_region_quiet_below (by kernel_rfl) (by kernel_rfl) ?_
          repeat (first | go_big_quiet_step (exact HQ.out _ _) | quiet_step (exact HQ.out _ _))
          refine wpQuiet_nil ?_
          intro _ hw'
          obtain ⟨⟨dq, osq⟩, hw''⟩ := hw'
          subst hw''
          have hbq := below_regrown wr dq osq
          have HBQ := Lib.hid (hbr.trans (hbq.mono hbr.size))
          clear hbq
          generalize grow (redrawn wr dq) osq = wq at *
          go_wp2
          exact ⟨⟨k + 1, _, by omega, by go_num, rfl, HE, HBQ.out⟩, by simp [intOf]; omega⟩
      · have hfin : Hid (st.data.toList = blankA t.attrs) := Lib.hid (by have h := hst.out; rwa [List.take_of_length_le (by omega)] at h)
        have o1 : ¬ 9223372036854775807 < 1 + st.size := by omega
        have o2 : ¬ 9223372036854775807 < 1 + st.size + 1 := by omega
        have o3 : ¬ 9223372036854775807 < t.kind.size + (1 + st.size + 1) := by omega
        have o4 : ¬ 9223372036854775807 < t.kind.size + st.size := by omega
        by_cases h0 : 0 < t.attrs.length
        · have HE : Hid ((t.kind ++ ((⟨#[40]⟩ : ByteArray) ++ st ++ ⟨#[41]⟩)).data.toList = headW t) := Lib.hid (by rw [HW.out, rapp, rapp, rapp, hfin.out, attrsW_cons (fun e => by rw [e] at h0; simp at h0)]; rfl)
          have g0 : decide ((0 : Int) < (t.attrs.length : Int)) = true := decide_eq_true (by omega)
          go_wp2
          go_ret
          exact ⟨_, rfl, HE.out, HBr.out⟩
        · have HE : Hid ((t.kind ++ st).data.toList = headW t) := Lib.hid (by rw [HW.out, rapp, hfin.out, List.eq_nil_of_length_eq_zero (by omega : t.attrs.length = 0)]; rfl)
          have g0 : decide ((0 : Int) < (t.attrs.length : Int)) = false := decide_eq_false (by omega)
          go_wp2
          go_ret
          exact ⟨_, rfl, HE.out, HBr.out⟩
end Go.Proofs.YtggoebbfgkebcaaDoor

namespace Go.Proofs.YtggoebbfgkebcaaDoor
open Go.RowKit Go.Sort

def WSaid (n : Nat) : Prop := ∀ (l : List Tree) (v : Value) (w : World) (B b : Nat) (acc : List UInt8), weighAll l ≤ n → weighAll l ≤ 1000000 → Kids w (Under B) v l → acc.length + 4 * weighAll l ≤ 20000000 → B ≤ w.heap.size → Buil w B b acc →
  Calls Tryd.prog 39 #[.pointer (some ⟨b, 0, none⟩), v] w (WPost B b w (acc ++ writeAllB l))
theorem write_text {x : Tree} (h : isTxt x.kind = true) : writeB x = quoteL x.text.data.toList ++ headW x := by
  obtain ⟨k, t, m, a, l⟩ := x; simp only [Tree.kind] at h; simp [writeB, headW, h, Tree.kind, Tree.text, Tree.marks]
theorem write_node {x : Tree} (h : isTxt x.kind = false) : writeB x = headW x ++ 91 :: (writeAllB x.kids ++ [93]) := by
  obtain ⟨k, t, m, a, l⟩ := x; simp only [Tree.kind] at h; simp [writeB, headW, h, Tree.kind, Tree.attrs, Tree.kids]
theorem headW_le (x : Tree) : (headW x).length ≤ 4 * weigh x := by
  have h1 := writeB_le x
  cases h : isTxt x.kind with
  | true => rw [write_text h, List.length_append] at h1; omega
  | false => rw [write_node h, List.length_append] at h1; omega
theorem headW_kids (x : Tree) : (headW x).length + 4 * weighAll x.kids + 6 ≤ 4 * weigh x := by
  have h1 := marksW_le x.marks
  have h2 := attrsW_le x.attrs
  have h3 := Lib.size_eq x.kind
  have h4 : x.kind.size + weighL x.marks + weighP x.attrs + weighAll x.kids + 2 ≤ weigh x := by obtain ⟨k, t, m, a, l⟩ := x; simp only [weigh, Tree.kind, Tree.marks, Tree.attrs, Tree.kids]; omega
  cases h : isTxt x.kind with
  | true =>
    have e : headW x = marksW x.marks := by simp [headW, h]
    rw [e]; omega
  | false =>
    have e : headW x = x.kind.data.toList ++ attrsW x.attrs := by simp [headW, h]
    rw [e, List.length_append]; omega
theorem quote_le_weigh (x : Tree) : (quoteL x.text.data.toList).length ≤ 4 * weigh x := by
  have h1 := quoteL_le x.text.data.toList
  have h2 := Lib.size_eq x.text
  obtain ⟨k, t, m, a, l⟩ := x
  simp only [weigh, Tree.text] at *; omega

set_option maxHeartbeats 2000000 in
theorem writeAll_walk : ∀ n, WSaid n := by
  intro n
  induction n using Nat.strongRecOn with
  | ind n ih =>
    have IH := Lib.hid ih
    clear ih
    intro l v w B b acc hn hw hK hacc hBw hB
    have hlen : l.length ≤ 1000000 := by have := length_le_weigh l; omega
    obtain ⟨A, c, rfl, hc⟩ := hK.form
    have HL := Lib.hid hK
    have HB := Lib.hid hB
    clear hK hB
    go_enter Tryd.func39, Tryd.ntmps39
    go_wp2
    go_loopw [8] (fun i wr => ∃ k : Nat, k ≤ l.length ∧ i = .int .i64 k ∧ Hid (Buil wr B b (acc ++ writeAllB (l.take k))) ∧ Below B w wr ∧ Hid (Rest b w wr)) (fun i _ => l.length - (intOf i).toNat)
    case atStart => exact ⟨0, by omega, rfl, Lib.hid (by simpa [writeAllB] using HB.out), Below.refl _ _, Lib.hid (Rest.refl _ _)⟩
    case round =>
      obtain ⟨i, hi, rfl, hcr, hbr, hrr⟩ := hrel
      have hws := hbr.size
      by_cases hlt : i < l.length
      · obtain ⟨g, o, rfl, hub, hrow⟩ := HL.out.get hlt
        have hlx : l[i]? = some l[i] := List.getElem?_eq_getElem hlt
        have HTK : Hid (l.take (i + 1) = l.take i ++ [l[i]]) := Lib.hid (List.take_succ_eq_append_getElem hlt)
        generalize hx : l[i] = x at *
        have hwx := weighAll_take_get l i x HTK.out
        have hwl := writeAllB_le (l.take i)
        have hal : (acc ++ writeAllB (l.take i)).length + 4 * weigh x ≤ 20000000 := by rw [List.length_append]; omega
        obtain ⟨xm, xa, xk, e0, e1, e2, e3, e4, exm, exa, exk⟩ := hrow.node hlx
        have f0 := (hbr.cell (p := ⟨g, o + i * 5, none⟩) hub).trans e0
        have f1 := (hbr.cell (p := ⟨g, o + i * 5 + 1, none⟩) hub).trans e1
        have f2 := (hbr.cell (p := ⟨g, o + i * 5 + 2, none⟩) hub).trans e2
        have f3 := (hbr.cell (p := ⟨g, o + i * 5 + 3, none⟩) hub).trans e3
        have f4 := (hbr.cell (p := ⟨g, o + i * 5 + 4, none⟩) hub).trans e4
        have HXN : Hid (Node w (Under B) (.agg #[.string x.kind, .string x.text, xm, xa, xk]) x) := Lib.hid ⟨_, _, _, rfl, exm, exa, exk⟩
        have HXK := Lib.hid exk
        obtain ⟨A1, c1, rfl, _⟩ := exm.form
        obtain ⟨A2, c2, rfl, _⟩ := exa.form
        obtain ⟨A3, c3, rfl, _⟩ := exk.form
        have HTW : Hid (acc ++ writeAllB (l.take (i + 1)) = (acc ++ writeAllB (l.take i)) ++ writeB x) := Lib.hid (by rw [HTK.out, writeAllB_append]; simp [writeAllB])
        have hhl := headW_le x
        have hql := quote_le_weigh x
        have hkw := kids_weigh x
        have hxt := text_le_weigh x
        generalize acc ++ writeAllB (l.take i) = A0 at *
        have hbl := hcr.out.lt
        have hgl := cell_lt f0
        clear e0 e1 e2 e3 e4 exm exa exk hx hlx hrow
        cases hk : isTxt x.kind with
        | true =>
          have hk' : (x.kind.toList == [116, 101, 120, 116]) = true := hk
          have HWX := Lib.hid (write_text hk)
          clear hk
          go_wp2_with fail
          generalize hW2 : wr.alloc _ = W2
          have hA2 : Below wr.heap.size wr W2 := by subst hW2; exact (Below.refl _ _).alloc (Nat.le_refl _) _
          have HP : Hid (W2.heap[wr.heap.size]? = some (.cells #[.string x.kind, .string x.text, .slice A1 x.marks.length c1, .slice A2 x.attrs.length c2, .slice A3 x.kids.length c3] 27)) := Lib.hid (by subst hW2; show (wr.heap.push _)[wr.heap.size]? = _; simp)
          have hz2 := hA2.size
          clear hW2 f0 f1 f2 f3 f4
          refine (writeQuoted_any B b A0 x.text W2 (hcr.out.below hA2) (by omega) (by omega) (by omega)).mono ?_
          rintro e w3 ⟨rfl, hb3, hB3, hr3⟩
          have HB3 := Lib.hid hb3
          have HR3 := Lib.hid (hrr.out.trans ((Rest.of_below hA2).trans hr3))
          have hp3 := hr3.blk HP.out (by omega) (by decide)
          have hW3 : Below B w w3 := hbr.trans ((hA2.mono (by omega)).trans hB3)
          have hws3 := hW3.size
          have p0 : w3.cell? ⟨wr.heap.size, 0, none⟩ = some (.string x.kind) := by simp only [World.cell?, hp3]; rfl
          have p1 : w3.cell? ⟨wr.heap.size, 1, none⟩ = some (.string x.text) := by simp only [World.cell?, hp3]; rfl
          have p2 : w3.cell? ⟨wr.heap.size, 2, none⟩ = some (.slice A1 x.marks.length c1) := by simp only [World.cell?, hp3]; rfl
          have p3 : w3.cell? ⟨wr.heap.size, 3, none⟩ = some (.slice A2 x.attrs.length c2) := by simp only [World.cell?, hp3]; rfl
          have p4 : w3.cell? ⟨wr.heap.size, 4, none⟩ = some (.slice A3 x.kids.length c3) := by simp only [World.cell?, hp3]; rfl
          clear hb3 hr3 hB3 hp3
          go_wp2_with fail
          refine (writeHead_any B b (A0 ++ quoteL x.text.data.toList) _ x w3 HB3.out (HXN.out.below hW3) (by omega) (by rw [List.length_append]; omega) (by omega)).mono ?_
          rintro e w4 ⟨rfl, hb4, hB4, hr4⟩
          have HB4 := Lib.hid hb4
          have HR4 := Lib.hid (HR3.out.trans hr4)
          have hW4 := hW3.trans hB4
          clear hb4 hr4 hB4 p0 p1 p2 p3 p4
          go_wp2
          refine ⟨⟨i + 1, by omega, by go_num, Lib.hid ?_, hW4, HR4⟩, by simp [intOf]; omega⟩
          have h := HB4.out
          rw [HTW.out, HWX.out, ← List.append_assoc]
          exact h
        | false =>
          have hk' : (x.kind.toList == [116, 101, 120, 116]) = false := hk
          have HWX := Lib.hid (write_node hk)
          have hwl2 := writeAllB_le x.kids
          clear hk
          go_wp2_with fail
          generalize hW2 : wr.alloc _ = W2
          have hA2 : Below wr.heap.size wr W2 := by subst hW2; exact (Below.refl _ _).alloc (Nat.le_refl _) _
          have HP : Hid (W2.heap[wr.heap.size]? = some (.cells #[.string x.kind, .string x.text, .slice A1 x.marks.length c1, .slice A2 x.attrs.length c2, .slice A3 x.kids.length c3] 27)) := Lib.hid (by subst hW2; show (wr.heap.push _)[wr.heap.size]? = _; simp)
          have hz2 := hA2.size
          have hW2' : Below B w W2 := hbr.trans (hA2.mono (by omega))
          clear hW2 f0 f1 f2 f3 f4
          refine (writeHead_any B b A0 _ x W2 (hcr.out.below hA2) (HXN.out.below hW2') (by omega) (by omega) (by omega)).mono ?_
          rintro e w3 ⟨rfl, hb3, hB3, hr3⟩
          have HB3 := Lib.hid hb3
          have HR3 := Lib.hid (hrr.out.trans ((Rest.of_below hA2).trans hr3))
          have HP3 := Lib.hid (hr3.blk HP.out (by omega) (by decide))
          have hW3 := hW2'.trans hB3
          have hws3 := hW3.size
          clear hb3 hr3 hB3
          go_wp2_with fail
          refine (byteN_any B b (A0 ++ headW x) 91 91 w3 (by decide) HB3.out (by rw [List.length_append]; omega) (by omega)).mono ?_
          rintro e w4 ⟨rfl, hb4, hB4, hr4⟩
          have HB4 := Lib.hid hb4
          have HR4 := Lib.hid (HR3.out.trans hr4)
          have hp4 := hr4.blk HP3.out (by omega) (by decide)
          have p4 : w4.cell? ⟨wr.heap.size, 4, none⟩ = some (.slice A3 x.kids.length c3) := by simp only [World.cell?, hp4]; rfl
          have hW4 := hW3.trans hB4
          have hws4 := hW4.size
          have hl4 : ((A0 ++ headW x) ++ [91]).length ≤ A0.length + (headW x).length + 1 := by rw [List.length_append, List.length_append, List.length_singleton]; omega
          have hlw : (A0 ++ headW x ++ [91]).length + 4 * weighAll x.kids ≤ 20000000 := by
            have h1 := headW_kids x
            omega
          clear hb4 hr4 hB4 hp4
          go_wp2_with fail
          refine (IH.out (weighAll x.kids) (by omega) x.kids _ w4 B b (A0 ++ headW x ++ [91]) (Nat.le_refl _) (by omega) (HXK.out.below hW4) hlw (by omega) HB4.out).mono ?_
          rintro e w5 ⟨rfl, hb5, hB5, hr5⟩
          have HB5 := Lib.hid hb5
          have HR5 := Lib.hid (HR4.out.trans hr5)
          have hW5 := hW4.trans hB5
          have hws5 := hW5.size
          clear hb5 hr5 hB5 p4
          go_wp2_with fail
          refine (byteN_any B b (A0 ++ headW x ++ [91] ++ writeAllB x.kids) 93 93 w5 (by decide) HB5.out (by rw [List.length_append]; omega) (by omega)).mono ?_
          rintro e w6 ⟨rfl, hb6, hB6, hr6⟩
          have HB6 := Lib.hid hb6
          have HR6 := Lib.hid (HR5.out.trans hr6)
          have hW6 := hW5.trans hB6
          clear hb6 hr6 hB6
          go_wp2
          refine ⟨⟨i + 1, by omega, by go_num, Lib.hid ?_, hW6, HR6⟩, by simp [intOf]; omega⟩
          have h := HB6.out
          rw [HTW.out, HWX.out]
          rw [show A0 ++ (headW x ++ 91 :: (writeAllB x.kids ++ [93])) = A0 ++ headW x ++ [91] ++ writeAllB x.kids ++ [93] by simp]
          exact h
      · rw [List.take_of_length_le (by omega)] at hcr
        go_wp2
        go_end0
        exact ⟨rfl, hcr.out, hbr, hrr.out⟩

set_option maxHeartbeats 1000000 in
theorem written_any (v : Value) (l : List Tree) (w : World) (h : Kids w (Under w.heap.size) v l) (hw : weighAll l ≤ 1000000) :
    Calls Tryd.prog 20 #[v] w fun e w' => e = .returned (.string ⟨(writeAllB l).toArray⟩) ∧ Below w.heap.size w w' := by
  have HK := Lib.hid h
  obtain ⟨A, c, rfl, _⟩ := h.form
  clear h
  go_enter Tryd.func20, Tryd.ntmps20
  go_wp2_with fail
  have HB := Lib.hid (buil_new w)
  have HW : Hid (Below w.heap.size w (w.alloc (.cells #[.pointer none, .slice none 0 0] 62))) := Lib.hid ((Below.refl _ _).alloc (Nat.le_refl _) _)
  generalize w.alloc (.cells #[.pointer none, .slice none 0 0] 62) = W1 at *
  refine (writeAll_walk (weighAll l) l _ W1 w.heap.size w.heap.size [] (Nat.le_refl _) hw (HK.out.below HW.out) (by simp; omega) HW.out.size HB.out).mono ?_
  rintro e w2 ⟨rfl, hb2, hB2, _⟩
  have HB2 := Lib.hid hb2
  have hW2 := HW.out.trans hB2
  clear hb2 hB2
  go_wp2_with fail
  refine (string_any w.heap.size w.heap.size _ w2 HB2.out hW2.size).mono ?_
  rintro e w3 ⟨rfl, _, hB3, _⟩
  have hW3 := hW2.trans hB3
  clear hB3
  go_wp2
  go_ret
  exact ⟨rfl, hW3⟩

/-- What Print answers. -/
def printB (t : Tree) : List UInt8 := if checkB t = 0 then writeB t else []
theorem ret_pair {s t : ByteArray} {a b : Int} (h : s = t) (h2 : a = b) : Ending.returned (.tuple #[.string s, .int .i64 a]) = .returned (.tuple #[.string t, .int .i64 b]) := by rw [h, h2]

set_option maxHeartbeats 1000000 in
theorem print_any (v : Value) (t : Tree) (w : World) (h : Node w (Under w.heap.size) v t) (hw : weigh t ≤ 1000000) (hT : Tabs w) :
    Calls Tryd.prog 11 #[v] w fun e w' => e = .returned (.tuple #[.string ⟨(printB t).toArray⟩, .int .i64 (checkB t)]) ∧ Below w.heap.size w w' := by
  have HN := Lib.hid h
  have HT := Lib.hid hT
  obtain ⟨vm, va, vk, rfl, hm, ha, hk⟩ := h
  clear hm ha hk hT
  have hb0 : Below w.heap.size w (w.alloc (.cells #[.string t.kind, .string t.text, vm, va, vk] 27)) := (Below.refl _ _).alloc (Nat.le_refl _) _
  go_enter Tryd.func11, Tryd.ntmps11
  go_wp2_with fail
  refine (check_any _ t _ ((HN.out.below hb0).more hb0.size) hw (HT.out.below hb0)).mono ?_
  rintro e w1 ⟨rfl, hb1⟩
  obtain ⟨c0, c1, c2, c3, c4, hB1, hz1⟩ := box5 hb1
  clear hb1 hb0
  by_cases hc : checkB t = 0
  · have HP : Hid (printB t = writeB t) := Lib.hid (by simp [printB, hc])
    have HC := Lib.hid hc
    rw [hc]
    clear hc
    go_wp2_with fail
    have HB : Hid (Below w.heap.size w (w1.alloc (.cells #[.string t.kind, .string t.text, vm, va, vk] 27))) := Lib.hid (hB1.alloc hB1.size _)
    have hz : (w1.alloc (.cells #[.string t.kind, .string t.text, vm, va, vk] 27)).heap.size = w1.heap.size + 1 := by simp
    have hat : NodeAt (w1.alloc (.cells #[.string t.kind, .string t.text, vm, va, vk] 27)) (Under (w1.heap.size + 1)) t w1.heap.size 0 := by
      obtain ⟨vm', va', vk', he, hm, ha, hk⟩ := HN.out
      injection he with he
      injection he with he
      injection he with _ he
      injection he with _ he
      injection he with e1 he
      injection he with e2 he
      injection he with e3 _
      subst e1; subst e2; subst e3
      exact box5_at (w := w1) (Below.refl _ _) ((hm.below HB.out).more (by have := HB.out.size; omega)) ((ha.below HB.out).more (by have := HB.out.size; omega)) ((hk.below HB.out).more (by have := HB.out.size; omega))
    generalize w1.alloc (.cells #[.string t.kind, .string t.text, vm, va, vk] 27) = W2 at *
    refine (written_any _ [t] W2 (kids_one rfl (Nat.le_refl _) (by unfold maxLen; omega) (by unfold Under; omega) (by rw [hz]; exact hat)) (by rw [weighAll_one]; exact hw)).mono ?_
    rintro e w3 ⟨rfl, hb3⟩
    have hB3 := belowNext HB.out hb3
    have HWR : Hid (writeAllB [t] = printB t) := Lib.hid (by rw [HP.out]; simp [writeAllB])
    rw [HWR.out]
    clear hat hb3 hz c0 c1 c2 c3 c4
    go_wp2
    go_ret2
    exact ⟨ret_pair rfl HC.out.symm, hB3⟩
  · have HP : Hid (printB t = []) := Lib.hid (by simp [printB, hc])
    have hq : (checkB t != 0) = true := by simpa using hc
    clear hc
    generalize hr : checkB t = r at *
    have HR := Lib.hid hr
    clear hr
    go_wp2
    go_ret2
    exact ⟨ret_pair (by rw [HP.out]) HR.out.symm, hB1⟩
end Go.Proofs.YtggoebbfgkebcaaDoor
