/-
  The document's Head: what it answers (R2, for greater nodes, and seats without tokens).
-/
import Derived.Test.YtdbpnfabcmndjaaDoorX1
namespace Go.Proofs.YtdbpnfabcmndjaaDoor
open Go.RowKit Go.Sort Go.Maps

theorem rquote_val (s : ByteArray) (w : World) (hs : s.size ≤ 1100000) :
    Calls Tryd.prog 29 #[.string s] w fun e w' => e = .returned (.string ⟨(quoteL s.data.toList).toArray⟩) ∧ Below w.heap.size w w' :=
  (rquote_any s w hs).mono fun _ _ ⟨q, he, hq, hb⟩ => ⟨by rw [he, show q = ⟨(quoteL s.data.toList).toArray⟩ from ByteArray.ext (Array.ext' (by rw [hq]))], hb⟩
theorem weighL_len : ∀ l : List ByteArray, l.length ≤ weighL l
  | [] => by simp [weighL]
  | s :: l => by have := weighL_len l; simp only [weighL, List.map_cons, List.sum_cons, List.length_cons] at *; omega
theorem weighP_len : ∀ l : List (ByteArray × ByteArray), l.length ≤ weighP l
  | [] => by simp [weighP]
  | s :: l => by have := weighP_len l; simp only [weighP, List.map_cons, List.sum_cons, List.length_cons] at *; omega

set_option maxHeartbeats 4000000 in
set_option maxRecDepth 100000 in
theorem rhead_any (v : Value) (t : Tree) (w : World) (h : Node w (Under w.heap.size) v t) (hw : weigh t ≤ 1100000) :
    Calls Tryd.prog 31 #[v] w fun e w' => ∃ q : ByteArray, e = .returned (.string q) ∧ q.data.toList = headW t ∧ Below w.heap.size w w' := by
  obtain ⟨vm, va, vk, rfl, hm, ha, hk⟩ := h
  obtain ⟨A1, c1, rfl, _⟩ := hm.form
  obtain ⟨A2, c2, rfl, _⟩ := ha.form
  obtain ⟨A3, c3, rfl, _⟩ := hk.form
  have HM := Lib.hid hm
  have HA := Lib.hid ha
  clear hm ha hk
  have hB1 : Below w.heap.size w (w.alloc (.cells #[.string t.kind, .string t.text, .slice A1 t.marks.length c1, .slice A2 t.attrs.length c2, .slice A3 t.kids.length c3] 26)) := (Below.refl _ _).alloc (Nat.le_refl _) _
  have hP := heap_alloc_new w (.cells #[.string t.kind, .string t.text, .slice A1 t.marks.length c1, .slice A2 t.attrs.length c2, .slice A3 t.kids.length c3] 26)
  have HB1 := Lib.hid hB1
  have HP := Lib.hid hP
  have hwm : weighL t.marks ≤ 1100000 := by obtain ⟨k, x, m, a, l⟩ := t; simp only [weigh, Tree.marks] at *; omega
  have hwa : weighP t.attrs ≤ 1100000 := by obtain ⟨k, x, m, a, l⟩ := t; simp only [weigh, Tree.attrs] at *; omega
  have hwk : t.kind.size ≤ 1100000 := by obtain ⟨k, x, m, a, l⟩ := t; simp only [weigh, Tree.kind] at *; omega
  clear hB1 hP
  cases hkx : isTxt t.kind with
  | true =>
    have hk' : (t.kind.toList == [116, 101, 120, 116]) = true := hkx
    have HW : Hid (headW t = marksW t.marks) := Lib.hid (by unfold headW; rw [hkx]; rfl)
    clear hkx
    go_enter Tryd.func31, Tryd.ntmps31
    go_wp2
    generalize w.alloc (.cells #[.string t.kind, .string t.text, .slice A1 t.marks.length c1, .slice A2 t.attrs.length c2, .slice A3 t.kids.length c3] 26) = W1 at *
    obtain ⟨k0, k1, k2, k3, k4⟩ := five_cells HP.out
    have hlm : t.marks.length ≤ 1100000 := by have := weighL_len t.marks; omega
    go_loopw [3, 4] (fun v i wr => ∃ (k : Nat) (st : ByteArray), k ≤ t.marks.length ∧ i = .int .i64 k ∧ v = .string st ∧ Hid (st.data.toList = commaM (t.marks.take k)) ∧ wr = W1) (fun _ i _ => t.marks.length - (intOf i).toNat)
    case atStart => exact ⟨0, _, by omega, rfl, rfl, Lib.hid rfl, rfl⟩
    case round =>
      obtain ⟨k, st, hk, rfl, rfl, hst, hwr⟩ := hrel
      subst hwr
      have hel := commaM_take_le t.marks k
      have hsz : st.size ≤ 2200000 := by rw [rsize_of hst.out]; omega
      by_cases hlt : k < t.marks.length
      · obtain ⟨g, o, rfl, hub, hcell⟩ := HM.out.get hlt
        have hc1 := (HB1.out.cell (p := ⟨g, o + k, none⟩) hub).trans (hcell k hlt)
        have hxz := weighL_get (getD_some ByteArray.empty hlt)
        have HTK : Hid (commaM (t.marks.take (k + 1)) = if (t.marks.take k).isEmpty then (t.marks.getD k ByteArray.empty).data.toList else commaM (t.marks.take k) ++ 44 :: (t.marks.getD k ByteArray.empty).data.toList) := Lib.hid (by
          rw [show t.marks.take (k + 1) = t.marks.take k ++ [t.marks.getD k ByteArray.empty] by rw [List.take_succ_eq_append_getElem hlt, List.getD_eq_getElem?_getD, List.getElem?_eq_getElem hlt]; rfl, commaM_snoc])
        generalize t.marks.getD k ByteArray.empty = x at *
        have o1 : ¬ 9223372036854775807 < st.size + 1 := by omega
        have o2 : ¬ 9223372036854775807 < st.size + x.size := by omega
        have o3 : ¬ 9223372036854775807 < st.size + 1 + x.size := by omega
        clear hcell
        rcases Nat.eq_zero_or_pos k with hk0 | hk0
        · have HE : Hid ((st ++ x).data.toList = commaM (t.marks.take (k + 1))) := Lib.hid (by rw [rapp, hst.out, HTK.out, hk0]; simp [commaM])
          have g0 : decide ((0 : Int) < (k : Int)) = false := by simp; omega
          have g1 : decide (0 < k) = false := by simp; omega
          clear hk0
          go_wp2
          exact ⟨⟨k + 1, _, by omega, by go_num, rfl, HE, by first | rfl | trivial⟩, by simp [intOf]; omega⟩
        · have HE : Hid ((st ++ ⟨#[44]⟩ ++ x).data.toList = commaM (t.marks.take (k + 1))) := Lib.hid (by
            have : (t.marks.take k).isEmpty = false := by rw [List.isEmpty_eq_false_iff]; intro e; have := congrArg List.length e; rw [List.length_take, List.length_nil] at this; omega
            rw [rapp, rapp, hst.out, HTK.out, this]; simp)
          have g0 : decide ((0 : Int) < (k : Int)) = true := by simp; omega
          have g1 : decide (0 < k) = true := by simp; omega
          clear hk0
          go_wp2
          exact ⟨⟨k + 1, _, by omega, by go_num, rfl, HE, by first | rfl | trivial⟩, by simp [intOf]; omega⟩
      · have hfin : Hid (st.data.toList = commaM t.marks) := Lib.hid (by have h := hst.out; rwa [List.take_of_length_le (by omega)] at h)
        have o1 : ¬ 9223372036854775807 < 1 + st.size := by omega
        have o2 : ¬ 9223372036854775807 < 1 + st.size + 1 := by omega
        by_cases h0 : 0 < t.marks.length
        · have HE : Hid (((⟨#[60]⟩ : ByteArray) ++ st ++ ⟨#[62]⟩).data.toList = headW t) := Lib.hid (by rw [HW.out, rapp, rapp, hfin.out, marksW_cons (fun e => by rw [e] at h0; simp at h0)]; rfl)
          have g0 : decide ((0 : Int) < (t.marks.length : Int)) = true := decide_eq_true (by omega)
          go_wp2
          go_ret
          exact ⟨_, rfl, HE.out, HB1.out⟩
        · have HE : Hid (st.data.toList = headW t) := Lib.hid (by rw [HW.out, hfin.out, List.eq_nil_of_length_eq_zero (by omega : t.marks.length = 0)]; rfl)
          have g0 : decide ((0 : Int) < (t.marks.length : Int)) = false := decide_eq_false (by omega)
          go_wp2
          go_ret
          exact ⟨_, rfl, HE.out, HB1.out⟩
  | false =>
    have hk' : (t.kind.toList == [116, 101, 120, 116]) = false := hkx
    have HW : Hid (headW t = t.kind.data.toList ++ attrsW t.attrs) := Lib.hid (by unfold headW; rw [hkx]; rfl)
    clear hkx
    go_enter Tryd.func31, Tryd.ntmps31
    go_wp2
    generalize w.alloc (.cells #[.string t.kind, .string t.text, .slice A1 t.marks.length c1, .slice A2 t.attrs.length c2, .slice A3 t.kids.length c3] 26) = W1 at *
    have hlm : t.attrs.length ≤ 1100000 := by have := weighP_len t.attrs; omega
    have hnl := heap_lt HP.out
    go_loopw [3, 5] (fun v i wr => ∃ (k : Nat) (st : ByteArray), k ≤ t.attrs.length ∧ i = .int .i64 k ∧ v = .string st ∧ Hid (st.data.toList = blankA (t.attrs.take k)) ∧ Below W1.heap.size W1 wr) (fun _ i _ => t.attrs.length - (intOf i).toNat)
    case atStart => exact ⟨0, _, by omega, rfl, rfl, Lib.hid rfl, Below.refl _ _⟩
    case round =>
      obtain ⟨k, st, hk, rfl, rfl, hst, hbr⟩ := hrel
      have hel := blankA_take_le t.attrs k
      have hsz : st.size ≤ 5500000 := by rw [rsize_of hst.out]; omega
      have HPr := Lib.hid ((hbr.block _ hnl).trans HP.out)
      obtain ⟨k0, k1, k2, k3, k4⟩ := five_cells HPr.out
      have HBr := Lib.hid (belowNext HB1.out hbr)
      by_cases hlt : k < t.attrs.length
      · obtain ⟨g, o, rfl, hub, hcell⟩ := HA.out.get hlt
        have hc1 := cell_regrown ((HBr.out.cell (p := ⟨g, o + k * 2, none⟩) hub).trans (hcell k hlt).1)
        have hc2 := cell_regrown ((HBr.out.cell (p := ⟨g, o + k * 2 + 1, none⟩) hub).trans (hcell k hlt).2)
        have r3 := cell_regrown k3
        have hxz : (pairAt t.attrs k).1.size + (pairAt t.attrs k).2.size < weighP t.attrs := weighP_get (getD_some (ByteArray.empty, ByteArray.empty) hlt)
        have HTK : Hid (blankA (t.attrs.take (k + 1)) = if (t.attrs.take k).isEmpty then attrW (pairAt t.attrs k) else blankA (t.attrs.take k) ++ 32 :: attrW (pairAt t.attrs k)) := Lib.hid (by
          rw [show t.attrs.take (k + 1) = t.attrs.take k ++ [pairAt t.attrs k] by unfold pairAt; rw [List.take_succ_eq_append_getElem hlt, List.getD_eq_getElem?_getD, List.getElem?_eq_getElem hlt]; rfl, blankA_snoc])
        generalize pairAt t.attrs k = pr at *
        obtain ⟨x, y⟩ := pr
        obtain ⟨q, hq⟩ : ∃ q : ByteArray, (⟨(quoteL y.data.toList).toArray⟩ : ByteArray) = q := ⟨_, rfl⟩
        have HQ := Lib.hid (regrown_any (w := wr) (f := 29) (args := #[.string y]) (v := .string q) fun W _ => by rw [← hq]; exact rquote_val y W (by simp only at hxz; omega))
        have HQD : Hid (q.data.toList = quoteL y.data.toList) := Lib.hid (by rw [← hq])
        have hqz : q.size ≤ 3300000 := by
          rw [rsize_of HQD.out]; have h1 := escL_le y.data.toList; have h2 := Lib.size_eq y; simp only at hxz; simp only [quoteL, List.length_cons, List.length_append, List.length_nil]; omega
        have hxs : x.size ≤ 1100000 := by simp only at hxz; omega
        have o1 : ¬ 9223372036854775807 < st.size + 1 := by omega
        have o2 : ¬ 9223372036854775807 < st.size + x.size := by omega
        have o3 : ¬ 9223372036854775807 < st.size + x.size + 1 := by omega
        have o4 : ¬ 9223372036854775807 < st.size + x.size + 1 + q.size := by omega
        have o5 : ¬ 9223372036854775807 < st.size + 1 + x.size := by omega
        have o6 : ¬ 9223372036854775807 < st.size + 1 + x.size + 1 := by omega
        have o7 : ¬ 9223372036854775807 < st.size + 1 + x.size + 1 + q.size := by omega
        clear hcell hq k0 k1 k2 k4 hxz
        rcases Nat.eq_zero_or_pos k with hk0 | hk0
        · have HE : Hid ((st ++ x ++ ⟨#[61]⟩ ++ q).data.toList = blankA (t.attrs.take (k + 1))) := Lib.hid (by rw [rapp, rapp, rapp, hst.out, HQD.out, HTK.out, hk0]; simp [blankA, attrW])
          have g0 : decide ((0 : Int) < (k : Int)) = false := decide_eq_false (by omega)
          have g1 : decide (0 < k) = false := decide_eq_false (by omega)
          clear hk0
          go_wp2_with fail
          refine wp_region_quiet_below (by kernel_rfl) (by kernel_rfl) ?_
          repeat (first | go_big_quiet_step (exact HQ.out _ _) | quiet_step (exact HQ.out _ _))
          refine wpQuiet_nil ?_
          intro _ hw'
          obtain ⟨⟨dq, osq⟩, hw''⟩ := hw'
          subst hw''
          have hbq := below_regrown wr dq osq
          have HBQ := Lib.hid (hbr.trans (hbq.mono hbr.size))
          clear hbq
          generalize grow (redrawn wr dq) osq = wq at *
          go_wp2
          exact ⟨⟨k + 1, _, by omega, by go_num, rfl, HE, HBQ.out⟩, by simp [intOf]; omega⟩
        · have HE : Hid ((st ++ ⟨#[32]⟩ ++ x ++ ⟨#[61]⟩ ++ q).data.toList = blankA (t.attrs.take (k + 1))) := Lib.hid (by
            have : (t.attrs.take k).isEmpty = false := by rw [List.isEmpty_eq_false_iff]; intro e; have := congrArg List.length e; rw [List.length_take, List.length_nil] at this; omega
            rw [rapp, rapp, rapp, rapp, hst.out, HQD.out, HTK.out, this]; simp [attrW])
          have g0 : decide ((0 : Int) < (k : Int)) = true := decide_eq_true (by omega)
          have g1 : decide (0 < k) = true := decide_eq_true (by omega)
          clear hk0
          go_wp2_with fail
          refine wp_region_quiet_below (by kernel_rfl) (by kernel_rfl) ?_
          repeat (first | go_big_quiet_step (exact HQ.out _ _) | quiet_step (exact HQ.out _ _))
          refine wpQuiet_nil ?_
          intro _ hw'
          obtain ⟨⟨dq, osq⟩, hw''⟩ := hw'
          subst hw''
          have hbq := below_regrown wr dq osq
          have HBQ := Lib.hid (hbr.trans (hbq.mono hbr.size))
          clear hbq
          generalize grow (redrawn wr dq) osq = wq at *
          go_wp2
          exact ⟨⟨k + 1, _, by omega, by go_num, rfl, HE, HBQ.out⟩, by simp [intOf]; omega⟩
      · have hfin : Hid (st.data.toList = blankA t.attrs) := Lib.hid (by have h := hst.out; rwa [List.take_of_length_le (by omega)] at h)
        have o1 : ¬ 9223372036854775807 < 1 + st.size := by omega
        have o2 : ¬ 9223372036854775807 < 1 + st.size + 1 := by omega
        have o3 : ¬ 9223372036854775807 < t.kind.size + (1 + st.size + 1) := by omega
        have o4 : ¬ 9223372036854775807 < t.kind.size + st.size := by omega
        by_cases h0 : 0 < t.attrs.length
        · have HE : Hid ((t.kind ++ ((⟨#[40]⟩ : ByteArray) ++ st ++ ⟨#[41]⟩)).data.toList = headW t) := Lib.hid (by rw [HW.out, rapp, rapp, rapp, hfin.out, attrsW_cons (fun e => by rw [e] at h0; simp at h0)]; rfl)
          have g0 : decide ((0 : Int) < (t.attrs.length : Int)) = true := decide_eq_true (by omega)
          go_wp2
          go_ret
          exact ⟨_, rfl, HE.out, HBr.out⟩
        · have HE : Hid ((t.kind ++ st).data.toList = headW t) := Lib.hid (by rw [HW.out, rapp, hfin.out, List.eq_nil_of_length_eq_zero (by omega : t.attrs.length = 0)]; rfl)
          have g0 : decide ((0 : Int) < (t.attrs.length : Int)) = false := decide_eq_false (by omega)
          go_wp2
          go_ret
          exact ⟨_, rfl, HE.out, HBr.out⟩
end Go.Proofs.YtdbpnfabcmndjaaDoor
