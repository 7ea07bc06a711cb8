/-
  The document's Quote: what it answers (R1, for seats without tokens).
  The document's Head: what it answers (R2, for greater nodes, and seats without tokens).
  What the document's runes, Size and Total answer.
  The document's Name, formed, Value and rise: what they answer.
  What node.Words answers.
  The document's Depth and Words: what they answer.
  When attributes and rows are formed, parted as the document does.
  What the document's Formed answers.
-/
import Derived.Test.YtggoebbfgkebcaaGreatDoorMB
import Derived.Test.YtggoebbfgkebcaaGreatDoorW6
import Derived.Test.YtggoebbfgkebcaaGreatDoorMA
namespace Go.Proofs.YtggoebbfgkebcaaGreatDoor
open Go.RowKit Go.Sort Go.Maps

theorem heap_ltX {w : World} {g : Nat} {o : Obj} (h : w.heap[g]? = some o) : g < w.heap.size := (Array.getElem?_eq_some_iff.1 h).1
theorem rsize_of {a : ByteArray} {l : List UInt8} (h : a.data.toList = l) : a.size = l.length := by rw [← h, Array.length_toList]; rfl
theorem rapp (a b : ByteArray) : (a ++ b).data.toList = a.data.toList ++ b.data.toList := by rw [ByteArray.data_append]; simp

theorem ext_one (s : ByteArray) (k : Nat) (h : k < s.size) : (s.extract k (k + 1)).data.toList = [s[k]] := by
  have hk : k < s.data.toList.length := by rw [← Lib.size_eq]; exact h
  rw [ByteArray.data_extract, Array.toList_extract, List.extract_eq_take_drop, show k + 1 - k = 1 by omega, List.drop_eq_getElem_cons hk]
  rfl

set_option maxHeartbeats 4000000 in
set_option maxRecDepth 100000 in
theorem rquote_any (s : ByteArray) (w : World) (hs : s.size ≤ 1000000) :
    Calls Tryz.prog 38 #[.string s] w fun e w' => ∃ q : ByteArray, e = .returned (.string q) ∧ q.data.toList = quoteL s.data.toList ∧ Below w.heap.size w w' := by
  go_enter Tryz.func38, Tryz.ntmps38
  go_wp2
  go_loopw [3, 4] (fun v i wr => ∃ (k : Nat) (st : ByteArray), k ≤ s.size ∧ i = .int .i64 k ∧ v = .string st ∧ Hid (st.data.toList = 34 :: escL (s.data.toList.take k)) ∧ Below w.heap.size w wr) (fun _ i _ => s.size - (intOf i).toNat)
  case atStart => exact ⟨0, _, by omega, rfl, rfl, Lib.hid rfl, Below.refl _ _⟩
  case round =>
    obtain ⟨k, st, hk, rfl, rfl, hst, hbr⟩ := hrel
    have hel := escL_le (s.data.toList.take k)
    have htl : (s.data.toList.take k).length ≤ s.size := by rw [List.length_take, Lib.size_eq]; omega
    have hsz : st.size ≤ 3000000 := by rw [rsize_of hst.out, List.length_cons]; omega
    by_cases hlt : k < s.size
    · have HTK : Hid (escL (s.data.toList.take (k + 1)) = escL (s.data.toList.take k) ++ (if s[k] == 34 || s[k] == 92 then [92, s[k]] else [s[k]])) := Lib.hid (by rw [take_snoc_b s k hlt, escL_snoc])
      generalize hc : s[k] = c at *
      obtain ⟨sx, hsx⟩ : ∃ sx : ByteArray, s.extract k (k + 1) = sx := ⟨_, rfl⟩
      have HSX : Hid (sx.data.toList = [c]) := Lib.hid (by rw [← hsx, ext_one s k hlt, hc])
      have hsx1 : sx.size = 1 := rsize_of HSX.out
      have o1 : ¬ 9223372036854775807 < st.size + 1 := by omega
      have o2 : ¬ 9223372036854775807 < st.size + 1 + 1 := by omega
      cases q1 : ((c.toNat : Int) == 34) with
      | true =>
        have hE : (c == 34 || c == 92) = true := by
          have h1 : (c.toNat : Int) = 34 := beq_iff_eq.1 q1
          have h2 : c = 34 := UInt8.toNat_inj.1 (by show c.toNat = 34; omega)
          rw [h2]; rfl
        rw [hE, if_pos rfl] at HTK
        go_wp2
        exact ⟨⟨k + 1, _, by omega, by go_num, rfl, Lib.hid (by rw [HTK.out, rapp, rapp, hst.out, HSX.out]; simp), hbr⟩, by simp [intOf]; omega⟩
      | false =>
        cases q2 : ((c.toNat : Int) == 92) with
        | true =>
          have hE : (c == 34 || c == 92) = true := by
            have h1 : (c.toNat : Int) = 92 := beq_iff_eq.1 q2
            have h2 : c = 92 := UInt8.toNat_inj.1 (by show c.toNat = 92; omega)
            rw [h2]; rfl
          rw [hE, if_pos rfl] at HTK
          go_wp2
          exact ⟨⟨k + 1, _, by omega, by go_num, rfl, Lib.hid (by rw [HTK.out, rapp, rapp, hst.out, HSX.out]; simp), hbr⟩, by simp [intOf]; omega⟩
        | false =>
          have hE : (c == 34 || c == 92) = false := by
            rw [Bool.or_eq_false_iff]
            exact ⟨beq_eq_false_iff_ne.2 fun e => by subst e; exact absurd q1 (by decide), beq_eq_false_iff_ne.2 fun e => by subst e; exact absurd q2 (by decide)⟩
          rw [hE, if_neg Bool.false_ne_true] at HTK
          go_wp2
          exact ⟨⟨k + 1, _, by omega, by go_num, rfl, Lib.hid (by rw [HTK.out, rapp, hst.out, HSX.out]; simp), hbr⟩, by simp [intOf]; omega⟩
    · have o1 : ¬ 9223372036854775807 < st.size + 1 := by omega
      go_wp2
      go_ret
      refine ⟨_, rfl, ?_, hbr⟩
      rw [rapp, hst.out, List.take_of_length_le (by rw [← Lib.size_eq]; omega)]
      simp [quoteL]
end Go.Proofs.YtggoebbfgkebcaaGreatDoor

namespace Go.Proofs.YtggoebbfgkebcaaGreatDoor
open Go.RowKit Go.Sort Go.Maps

theorem rquote_val (s : ByteArray) (w : World) (hs : s.size ≤ 1000000) :
    Calls Tryz.prog 38 #[.string s] w fun e w' => e = .returned (.string ⟨(quoteL s.data.toList).toArray⟩) ∧ Below w.heap.size w w' :=
  (rquote_any s w hs).mono fun _ _ ⟨q, he, hq, hb⟩ => ⟨by rw [he, show q = ⟨(quoteL s.data.toList).toArray⟩ from ByteArray.ext (Array.ext' (by rw [hq]))], hb⟩
theorem weighL_len : ∀ l : List ByteArray, l.length ≤ weighL l
  | [] => by simp [weighL]
  | s :: l => by have := weighL_len l; simp only [weighL, List.map_cons, List.sum_cons, List.length_cons] at *; omega
theorem weighP_len : ∀ l : List (ByteArray × ByteArray), l.length ≤ weighP l
  | [] => by simp [weighP]
  | s :: l => by have := weighP_len l; simp only [weighP, List.map_cons, List.sum_cons, List.length_cons] at *; omega

set_option maxHeartbeats 4000000 in
set_option maxRecDepth 100000 in
theorem rhead_any (v : Value) (t : Tree) (w : World) (h : Node w (Under w.heap.size) v t) (hw : weigh t ≤ 1000000) :
    Calls Tryz.prog 40 #[v] w fun e w' => ∃ q : ByteArray, e = .returned (.string q) ∧ q.data.toList = headW t ∧ Below w.heap.size w w' := by
  obtain ⟨vm, va, vk, rfl, hm, ha, hk⟩ := h
  obtain ⟨A1, c1, rfl, _⟩ := hm.form
  obtain ⟨A2, c2, rfl, _⟩ := ha.form
  obtain ⟨A3, c3, rfl, _⟩ := hk.form
  have HM := Lib.hid hm
  have HA := Lib.hid ha
  clear hm ha hk
  have hB1 : Below w.heap.size w (w.alloc (.cells #[.string t.kind, .string t.text, .slice A1 t.marks.length c1, .slice A2 t.attrs.length c2, .slice A3 t.kids.length c3] 41)) := (Below.refl _ _).alloc (Nat.le_refl _) _
  have hP := heap_alloc_new w (.cells #[.string t.kind, .string t.text, .slice A1 t.marks.length c1, .slice A2 t.attrs.length c2, .slice A3 t.kids.length c3] 41)
  have HB1 := Lib.hid hB1
  have HP := Lib.hid hP
  have hwm : weighL t.marks ≤ 1000000 := by obtain ⟨k, x, m, a, l⟩ := t; simp only [weigh, Tree.marks] at *; omega
  have hwa : weighP t.attrs ≤ 1000000 := by obtain ⟨k, x, m, a, l⟩ := t; simp only [weigh, Tree.attrs] at *; omega
  have hwk : t.kind.size ≤ 1000000 := by obtain ⟨k, x, m, a, l⟩ := t; simp only [weigh, Tree.kind] at *; omega
  clear hB1 hP
  cases hkx : isTxt t.kind with
  | true =>
    have hk' : (t.kind.toList == [116, 101, 120, 116]) = true := hkx
    have HW : Hid (headW t = marksW t.marks) := Lib.hid (by unfold headW; rw [hkx]; rfl)
    clear hkx
    go_enter Tryz.func40, Tryz.ntmps40
    go_wp2
    generalize w.alloc (.cells #[.string t.kind, .string t.text, .slice A1 t.marks.length c1, .slice A2 t.attrs.length c2, .slice A3 t.kids.length c3] 41) = W1 at *
    obtain ⟨k0, k1, k2, k3, k4⟩ := five_cells HP.out
    have hlm : t.marks.length ≤ 1000000 := by have := weighL_len t.marks; omega
    go_loopw [3, 4] (fun v i wr => ∃ (k : Nat) (st : ByteArray), k ≤ t.marks.length ∧ i = .int .i64 k ∧ v = .string st ∧ Hid (st.data.toList = commaM (t.marks.take k)) ∧ wr = W1) (fun _ i _ => t.marks.length - (intOf i).toNat)
    case atStart => exact ⟨0, _, by omega, rfl, rfl, Lib.hid rfl, rfl⟩
    case round =>
      obtain ⟨k, st, hk, rfl, rfl, hst, hwr⟩ := hrel
      subst hwr
      have hel := commaM_take_le t.marks k
      have hsz : st.size ≤ 2200000 := by rw [rsize_of hst.out]; omega
      by_cases hlt : k < t.marks.length
      · obtain ⟨g, o, rfl, hub, hcell⟩ := HM.out.get hlt
        have hc1 := (HB1.out.cell (p := ⟨g, o + k, none⟩) hub).trans (hcell k hlt)
        have hxz := weighL_get (getD_some ByteArray.empty hlt)
        have HTK : Hid (commaM (t.marks.take (k + 1)) = if (t.marks.take k).isEmpty then (t.marks.getD k ByteArray.empty).data.toList else commaM (t.marks.take k) ++ 44 :: (t.marks.getD k ByteArray.empty).data.toList) := Lib.hid (by
          rw [show t.marks.take (k + 1) = t.marks.take k ++ [t.marks.getD k ByteArray.empty] by rw [List.take_succ_eq_append_getElem hlt, List.getD_eq_getElem?_getD, List.getElem?_eq_getElem hlt]; rfl, commaM_snoc])
        generalize t.marks.getD k ByteArray.empty = x at *
        have o1 : ¬ 9223372036854775807 < st.size + 1 := by omega
        have o2 : ¬ 9223372036854775807 < st.size + x.size := by omega
        have o3 : ¬ 9223372036854775807 < st.size + 1 + x.size := by omega
        clear hcell
        rcases Nat.eq_zero_or_pos k with hk0 | hk0
        · have HE : Hid ((st ++ x).data.toList = commaM (t.marks.take (k + 1))) := Lib.hid (by rw [rapp, hst.out, HTK.out, hk0]; simp [commaM])
          have g0 : decide ((0 : Int) < (k : Int)) = false := by simp; omega
          have g1 : decide (0 < k) = false := by simp; omega
          clear hk0
          go_wp2
          exact ⟨⟨k + 1, _, by omega, by go_num, rfl, HE, by first | rfl | trivial⟩, by simp [intOf]; omega⟩
        · have HE : Hid ((st ++ ⟨#[44]⟩ ++ x).data.toList = commaM (t.marks.take (k + 1))) := Lib.hid (by
            have : (t.marks.take k).isEmpty = false := by rw [List.isEmpty_eq_false_iff]; intro e; have := congrArg List.length e; rw [List.length_take, List.length_nil] at this; omega
            rw [rapp, rapp, hst.out, HTK.out, this]; simp)
          have g0 : decide ((0 : Int) < (k : Int)) = true := by simp; omega
          have g1 : decide (0 < k) = true := by simp; omega
          clear hk0
          go_wp2
          exact ⟨⟨k + 1, _, by omega, by go_num, rfl, HE, by first | rfl | trivial⟩, by simp [intOf]; omega⟩
      · have hfin : Hid (st.data.toList = commaM t.marks) := Lib.hid (by have h := hst.out; rwa [List.take_of_length_le (by omega)] at h)
        have o1 : ¬ 9223372036854775807 < 1 + st.size := by omega
        have o2 : ¬ 9223372036854775807 < 1 + st.size + 1 := by omega
        by_cases h0 : 0 < t.marks.length
        · have HE : Hid (((⟨#[60]⟩ : ByteArray) ++ st ++ ⟨#[62]⟩).data.toList = headW t) := Lib.hid (by rw [HW.out, rapp, rapp, hfin.out, marksW_cons (fun e => by rw [e] at h0; simp at h0)]; rfl)
          have g0 : decide ((0 : Int) < (t.marks.length : Int)) = true := decide_eq_true (by omega)
          go_wp2
          go_ret
          exact ⟨_, rfl, HE.out, HB1.out⟩
        · have HE : Hid (st.data.toList = headW t) := Lib.hid (by rw [HW.out, hfin.out, List.eq_nil_of_length_eq_zero (by omega : t.marks.length = 0)]; rfl)
          have g0 : decide ((0 : Int) < (t.marks.length : Int)) = false := decide_eq_false (by omega)
          go_wp2
          go_ret
          exact ⟨_, rfl, HE.out, HB1.out⟩
  | false =>
    have hk' : (t.kind.toList == [116, 101, 120, 116]) = false := hkx
    have HW : Hid (headW t = t.kind.data.toList ++ attrsW t.attrs) := Lib.hid (by unfold headW; rw [hkx]; rfl)
    clear hkx
    go_enter Tryz.func40, Tryz.ntmps40
    go_wp2
    generalize w.alloc (.cells #[.string t.kind, .string t.text, .slice A1 t.marks.length c1, .slice A2 t.attrs.length c2, .slice A3 t.kids.length c3] 41) = W1 at *
    have hlm : t.attrs.length ≤ 1000000 := by have := weighP_len t.attrs; omega
    have hnl := heap_ltX HP.out
    go_loopw [3, 5] (fun v i wr => ∃ (k : Nat) (st : ByteArray), k ≤ t.attrs.length ∧ i = .int .i64 k ∧ v = .string st ∧ Hid (st.data.toList = blankA (t.attrs.take k)) ∧ Below W1.heap.size W1 wr) (fun _ i _ => t.attrs.length - (intOf i).toNat)
    case atStart => exact ⟨0, _, by omega, rfl, rfl, Lib.hid rfl, Below.refl _ _⟩
    case round =>
      obtain ⟨k, st, hk, rfl, rfl, hst, hbr⟩ := hrel
      have hel := blankA_take_le t.attrs k
      have hsz : st.size ≤ 5500000 := by rw [rsize_of hst.out]; omega
      have HPr := Lib.hid ((hbr.block _ hnl).trans HP.out)
      obtain ⟨k0, k1, k2, k3, k4⟩ := five_cells HPr.out
      have HBr := Lib.hid (belowNext HB1.out hbr)
      by_cases hlt : k < t.attrs.length
      · obtain ⟨g, o, rfl, hub, hcell⟩ := HA.out.get hlt
        have hc1 := cell_regrown ((HBr.out.cell (p := ⟨g, o + k * 2, none⟩) hub).trans (hcell k hlt).1)
        have hc2 := cell_regrown ((HBr.out.cell (p := ⟨g, o + k * 2 + 1, none⟩) hub).trans (hcell k hlt).2)
        have r3 := cell_regrown k3
        have hxz : (pairAt t.attrs k).1.size + (pairAt t.attrs k).2.size < weighP t.attrs := weighP_get (getD_some (ByteArray.empty, ByteArray.empty) hlt)
        have HTK : Hid (blankA (t.attrs.take (k + 1)) = if (t.attrs.take k).isEmpty then attrW (pairAt t.attrs k) else blankA (t.attrs.take k) ++ 32 :: attrW (pairAt t.attrs k)) := Lib.hid (by
          rw [show t.attrs.take (k + 1) = t.attrs.take k ++ [pairAt t.attrs k] by unfold pairAt; rw [List.take_succ_eq_append_getElem hlt, List.getD_eq_getElem?_getD, List.getElem?_eq_getElem hlt]; rfl, blankA_snoc])
        generalize pairAt t.attrs k = pr at *
        obtain ⟨x, y⟩ := pr
        obtain ⟨q, hq⟩ : ∃ q : ByteArray, (⟨(quoteL y.data.toList).toArray⟩ : ByteArray) = q := ⟨_, rfl⟩
        have HQ := Lib.hid (regrown_any (w := wr) (f := 38) (args := #[.string y]) (v := .string q) fun W _ => by rw [← hq]; exact rquote_val y W (by simp only at hxz; omega))
        have HQD : Hid (q.data.toList = quoteL y.data.toList) := Lib.hid (by rw [← hq])
        have hqz : q.size ≤ 3300000 := by
          rw [rsize_of HQD.out]; have h1 := escL_le y.data.toList; have h2 := Lib.size_eq y; simp only at hxz; simp only [quoteL, List.length_cons, List.length_append, List.length_nil]; omega
        have hxs : x.size ≤ 1000000 := by simp only at hxz; omega
        have o1 : ¬ 9223372036854775807 < st.size + 1 := by omega
        have o2 : ¬ 9223372036854775807 < st.size + x.size := by omega
        have o3 : ¬ 9223372036854775807 < st.size + x.size + 1 := by omega
        have o4 : ¬ 9223372036854775807 < st.size + x.size + 1 + q.size := by omega
        have o5 : ¬ 9223372036854775807 < st.size + 1 + x.size := by omega
        have o6 : ¬ 9223372036854775807 < st.size + 1 + x.size + 1 := by omega
        have o7 : ¬ 9223372036854775807 < st.size + 1 + x.size + 1 + q.size := by omega
        clear hcell hq k0 k1 k2 k4 hxz
        rcases Nat.eq_zero_or_pos k with hk0 | hk0
        · have HE : Hid ((st ++ x ++ ⟨#[61]⟩ ++ q).data.toList = blankA (t.attrs.take (k + 1))) := Lib.hid (by rw [rapp, rapp, rapp, hst.out, HQD.out, HTK.out, hk0]; simp [blankA, attrW])
          have g0 : decide ((0 : Int) < (k : Int)) = false := decide_eq_false (by omega)
          have g1 : decide (0 < k) = false := decide_eq_false (by omega)
          clear hk0
          go_wp2_with fail
          refine wp_region_quiet_below (by kernel_rfl) (by kernel_rfl) ?_
          repeat (first | go_big_quiet_step (exact HQ.out _ _) | quiet_step (exact HQ.out _ _))
          refine wpQuiet_nil ?_
          intro _ hw'
          obtain ⟨⟨dq, osq⟩, hw''⟩ := hw'
          subst hw''
          have hbq := below_regrown wr dq osq
          have HBQ := Lib.hid (hbr.trans (hbq.mono hbr.size))
          clear hbq
          generalize grow (redrawn wr dq) osq = wq at *
          go_wp2
          exact ⟨⟨k + 1, _, by omega, by go_num, rfl, HE, HBQ.out⟩, by simp [intOf]; omega⟩
        · have HE : Hid ((st ++ ⟨#[32]⟩ ++ x ++ ⟨#[61]⟩ ++ q).data.toList = blankA (t.attrs.take (k + 1))) := Lib.hid (by
            have : (t.attrs.take k).isEmpty = false := by rw [List.isEmpty_eq_false_iff]; intro e; have := congrArg List.length e; rw [List.length_take, List.length_nil] at this; omega
            rw [rapp, rapp, rapp, rapp, hst.out, HQD.out, HTK.out, this]; simp [attrW])
          have g0 : decide ((0 : Int) < (k : Int)) = true := decide_eq_true (by omega)
          have g1 : decide (0 < k) = true := decide_eq_true (by omega)
          clear hk0
          go_wp2_with fail
          refine wp_region_quiet_below (by kernel_rfl) (by kernel_rfl) ?_
          repeat (first | go_big_quiet_step (exact HQ.out _ _) | quiet_step (exact HQ.out _ _))
          refine wpQuiet_nil ?_
          intro _ hw'
          obtain ⟨⟨dq, osq⟩, hw''⟩ := hw'
          subst hw''
          have hbq := below_regrown wr dq osq
          have HBQ := Lib.hid (hbr.trans (hbq.mono hbr.size))
          clear hbq
          generalize grow (redrawn wr dq) osq = wq at *
          go_wp2
          exact ⟨⟨k + 1, _, by omega, by go_num, rfl, HE, HBQ.out⟩, by simp [intOf]; omega⟩
      · have hfin : Hid (st.data.toList = blankA t.attrs) := Lib.hid (by have h := hst.out; rwa [List.take_of_length_le (by omega)] at h)
        have o1 : ¬ 9223372036854775807 < 1 + st.size := by omega
        have o2 : ¬ 9223372036854775807 < 1 + st.size + 1 := by omega
        have o3 : ¬ 9223372036854775807 < t.kind.size + (1 + st.size + 1) := by omega
        have o4 : ¬ 9223372036854775807 < t.kind.size + st.size := by omega
        by_cases h0 : 0 < t.attrs.length
        · have HE : Hid ((t.kind ++ ((⟨#[40]⟩ : ByteArray) ++ st ++ ⟨#[41]⟩)).data.toList = headW t) := Lib.hid (by rw [HW.out, rapp, rapp, rapp, hfin.out, attrsW_cons (fun e => by rw [e] at h0; simp at h0)]; rfl)
          have g0 : decide ((0 : Int) < (t.attrs.length : Int)) = true := decide_eq_true (by omega)
          go_wp2
          go_ret
          exact ⟨_, rfl, HE.out, HBr.out⟩
        · have HE : Hid ((t.kind ++ st).data.toList = headW t) := Lib.hid (by rw [HW.out, rapp, hfin.out, List.eq_nil_of_length_eq_zero (by omega : t.attrs.length = 0)]; rfl)
          have g0 : decide ((0 : Int) < (t.attrs.length : Int)) = false := decide_eq_false (by omega)
          go_wp2
          go_ret
          exact ⟨_, rfl, HE.out, HBr.out⟩
end Go.Proofs.YtggoebbfgkebcaaGreatDoor

namespace Go.Proofs.YtggoebbfgkebcaaGreatDoor
open Go.RowKit Go.Sort

theorem rrun_back (w : World) (g c : Nat) (ps : List Nat) (h : ∀ i (r : Nat), ps[i]? = some r → w.cell? ⟨g, i, none⟩ = some (.int .i32 (r : Int))) :
    (convert 82 9 (.slice (some ⟨g, 0, none⟩) ps.length c)).run Tryz.prog w = .ok (.string (runesBytes (ps.map fun r : Nat => (r : Int)))) w := by
  rw [run_convert_runes_string w 82 9 21 (some ⟨g, 0, none⟩) ps.length c Tryz.underlying82 Tryz.underlying21 Tryz.underlying9]
  refine run_runesToString w ⟨g, 0, none⟩ ps.length c _ ?_
  have hl := run_loadCells_list (P := Tryz.prog) (w := w) ⟨g, 0, none⟩ ((ps.map fun r : Nat => (r : Int)).map (Value.int .i32)) fun j v hj => by
    rw [add_cell, Nat.zero_add]
    rw [List.map_map, List.getElem?_map, Option.map_eq_some_iff] at hj
    obtain ⟨r, hr, rfl⟩ := hj
    exact h j r hr
  simpa using hl

def RunesPost (s : ByteArray) (w : World) (e : Ending) (w' : World) : Prop :=
  ∃ A c b, e = .returned (.tuple #[.slice A (Lib.runeCount s) c, .bool b]) ∧ Below w.heap.size w w'

set_option maxHeartbeats 1000000 in
theorem rrunes_any (s : ByteArray) (w : World) (hs : s.size ≤ 1000000) :
    Calls Tryz.prog 70 #[.string s] w (RunesPost s w) := by
  obtain ⟨c, obj, hrun, hc, hcell⟩ := run_runes w s (by omega)
  have hback := rrun_back (w.drew.alloc obj) w.heap.size c (pts s.data.toList) hcell
  have hback2 := rrun_back (w.drew.alloc obj).drew w.heap.size c (pts s.data.toList) hcell
  have HX : Hid (∀ b, RunesPost s w (.returned (.tuple #[.slice (some ⟨w.heap.size, 0, none⟩) (pts s.data.toList).length c, .bool b])) (w.drew.alloc obj).drew) :=
    Lib.hid fun b => ⟨_, _, _, by rw [pts_count, Lib.runeCountL_eq], (((Below.refl _ _).drew).alloc (Nat.le_refl _) _).drew⟩
  clear hcell hc
  generalize runesBytes ((pts s.data.toList).map fun r : Nat => (r : Int)) = sr at *
  generalize (pts s.data.toList).length = np at *
  generalize w.heap.size = g at *
  generalize hW : w.drew.alloc obj = W at *
  go_enter Tryz.func70, Tryz.ntmps70
  go_wp2_with fail
  go_region
  all_goals
    go_wp2
    exact bodyPost_ret (v := .tuple #[.slice (some ⟨g, 0, none⟩) np c, .bool (sr.toList == s.toList)]) (by simp [results, Tryz.results70, go_sem]) rfl (HX.out _)

/-- What Size answers, of trees that weigh so much. -/
def RSize (n : Nat) : Prop := ∀ (t : Tree) (v : Value) (w : World), weigh t ≤ n → weigh t ≤ 1000000 → Node w (Under w.heap.size) v t →
  Calls Tryz.prog 48 #[v] w fun e w' => e = .returned (.int .i64 (sizeB t)) ∧ Below w.heap.size w w'

set_option maxHeartbeats 2000000 in
theorem rtotal_of (n : Nat) (ih : RSize n) (l : List Tree) (v : Value) (w : World) (hn : weighAll l ≤ n) (hw : weighAll l ≤ 1000000) (h : Kids w (Under w.heap.size) v l) :
    Calls Tryz.prog 71 #[v] w fun e w' => e = .returned (.int .i64 (totalB l)) ∧ Below w.heap.size w w' := by
  have IH := Lib.hid ih
  have HK := Lib.hid h
  have hlen : l.length ≤ 1000000 := by have := length_le_weigh l; omega
  obtain ⟨A, c, rfl, hlc⟩ := h.form
  clear ih h
  go_enter Tryz.func71, Tryz.ntmps71
  go_wp2
  go_loopw [3, 4] (fun m i wr => ∃ k : Nat, k ≤ l.length ∧ m = .int .i64 (totalB (l.take k)) ∧ i = .int .i64 k ∧ Below w.heap.size w wr) (fun _ i _ => l.length - (intOf i).toNat)
  case atStart => exact ⟨0, by omega, rfl, rfl, Below.refl _ _⟩
  case round =>
    obtain ⟨k, hk, rfl, rfl, hb⟩ := hrel
    have HB := Lib.hid hb
    by_cases hlt : k < l.length
    · obtain ⟨b, o, rfl, hub, hrow⟩ := HK.out.get hlt
      have hlx : l[k]? = some l[k] := List.getElem?_eq_getElem hlt
      have HTK : Hid (l.take (k + 1) = l.take k ++ [l[k]]) := Lib.hid (List.take_succ_eq_append_getElem hlt)
      generalize l[k] = x at *
      have hwx := weighAll_take_get l k x HTK.out
      have htl := total_le_weigh (l.take k)
      have hsx := size_le_weigh x
      obtain ⟨xm, xa, xk, e0, e1, e2, e3, e4, exm, exa, exk⟩ := hrow.node hlx
      have HXN : Hid (Node w (Under w.heap.size) (.agg #[.string x.kind, .string x.text, xm, xa, xk]) x) := Lib.hid ⟨_, _, _, rfl, exm, exa, exk⟩
      have f0 := (HB.out.cell (p := ⟨b, _, none⟩) hub).trans e0
      have f1 := (HB.out.cell (p := ⟨b, _, none⟩) hub).trans e1
      have f2 := (HB.out.cell (p := ⟨b, _, none⟩) hub).trans e2
      have f3 := (HB.out.cell (p := ⟨b, _, none⟩) hub).trans e3
      have f4 := (HB.out.cell (p := ⟨b, _, none⟩) hub).trans e4
      obtain ⟨A1, c1, rfl, _⟩ := exm.form
      obtain ⟨A2, c2, rfl, _⟩ := id exa
      obtain ⟨A3, c3, rfl, _⟩ := exk.form
      have HTT : Hid (totalB (l.take (k + 1)) = totalB (l.take k) + sizeB x) := Lib.hid (by rw [HTK.out, totalB_append]; simp [totalB])
      clear e0 e1 e2 e3 e4 exm exa exk hlx hrow hb
      go_wp2_with fail
      refine (IH.out x _ wr (by omega) (by omega) ((HXN.out.below HB.out).more HB.out.size)).mono ?_
      rintro e w1 ⟨rfl, hb1⟩
      have HB1 := Lib.hid (belowNext HB.out hb1)
      clear hb1
      generalize totalB (l.take k) = tt at *
      generalize sizeB x = sx at *
      go_wp2
      exact ⟨⟨k + 1, by omega, by rw [HTT.out]; go_num, by go_num, HB1.out⟩, by simp [intOf]; omega⟩
    · have HTK : Hid (totalB l = totalB (l.take k)) := Lib.hid (by rw [List.take_of_length_le (by omega)])
      generalize totalB (l.take k) = tt at *
      go_wp2
      go_ret
      exact ⟨by rw [HTK.out]; rfl, HB.out⟩

set_option maxHeartbeats 2000000 in
theorem rsize_all : ∀ n, RSize n := by
  intro n
  induction n using Nat.strongRecOn with
  | ind n ih =>
    have IH := Lib.hid ih
    clear ih
    intro t v w hn hw h
    have HN := Lib.hid h
    obtain ⟨vm, va, vk, rfl, hm, ha, hl⟩ := h
    have HL := Lib.hid hl
    have hkw := kids_weigh t
    have htl := total_le_weigh t.kids
    have htw : t.text.size ≤ weigh t := by obtain ⟨k, t, m, a, l⟩ := t; simp only [weigh, Tree.text]; omega
    obtain ⟨A1, c1, rfl, _⟩ := hm.form
    obtain ⟨A2, c2, rfl, _⟩ := id ha
    obtain ⟨A3, c3, rfl, _⟩ := hl.form
    clear hm ha hl
    generalize hW1 : w.alloc (.cells #[.string t.kind, .string t.text, .slice A1 t.marks.length c1, .slice A2 t.attrs.length c2, .slice A3 t.kids.length c3] 41) = W1
    have HB : Hid (Below w.heap.size w W1) := Lib.hid (by subst hW1; exact (Below.refl _ _).alloc (Nat.le_refl _) _)
    have hblk : W1.heap[w.heap.size]? = some (.cells #[.string t.kind, .string t.text, .slice A1 t.marks.length c1, .slice A2 t.attrs.length c2, .slice A3 t.kids.length c3] 41) := by
      subst hW1; show (w.heap.push _)[w.heap.size]? = _; simp
    obtain ⟨x0, x1, x2, x3, x4⟩ : W1.cell? ⟨w.heap.size, 0, none⟩ = some (.string t.kind) ∧ W1.cell? ⟨w.heap.size, 1, none⟩ = some (.string t.text) ∧ W1.cell? ⟨w.heap.size, 2, none⟩ = some (.slice A1 t.marks.length c1) ∧ W1.cell? ⟨w.heap.size, 3, none⟩ = some (.slice A2 t.attrs.length c2) ∧ W1.cell? ⟨w.heap.size, 4, none⟩ = some (.slice A3 t.kids.length c3) := by
      simp [World.cell?, hblk]
    have HW1 := Lib.hid hW1
    clear hblk hW1
    cases hk : isTxt t.kind with
    | true =>
      have HSX : Hid (sizeB t = Lib.runeCount t.text) := Lib.hid (by obtain ⟨k, t, m, a, l⟩ := t; simp only [Tree.kind, Tree.text] at *; simp [sizeB, hk])
      have hkk : (t.kind.toList == [116, 101, 120, 116]) = true := hk
      go_enter Tryz.func48, Tryz.ntmps48
      go_wp2_with fail
      rw [HW1.out]
      refine (rrunes_any t.text W1 (by omega)).mono ?_
      rintro e w2 ⟨Ar, cr, br, rfl, hb2⟩
      have HB2 := Lib.hid (belowNext HB.out hb2)
      clear hb2
      go_wp2
      go_ret
      exact ⟨by rw [HSX.out]; rfl, HB2.out⟩
    | false =>
      have HSX : Hid (sizeB t = 2 + totalB t.kids) := Lib.hid (by obtain ⟨k, t, m, a, l⟩ := t; simp only [Tree.kind, Tree.kids] at *; simp [sizeB, hk])
      have hkk : (t.kind.toList == [116, 101, 120, 116]) = false := hk
      go_enter Tryz.func48, Tryz.ntmps48
      go_wp2_with fail
      rw [HW1.out]
      refine (rtotal_of (weighAll t.kids) (IH.out _ (by omega)) t.kids _ W1 (Nat.le_refl _) (by omega) ((HL.out.below HB.out).more HB.out.size)).mono ?_
      rintro e w2 ⟨rfl, hb2⟩
      have HB2 := Lib.hid (belowNext HB.out hb2)
      clear hb2
      generalize totalB t.kids = tt at *
      go_wp2
      go_ret
      exact ⟨by rw [HSX.out]; exact ret_num (by omega), HB2.out⟩

theorem rtotal_any (v : Value) (l : List Tree) (w : World) (h : Kids w (Under w.heap.size) v l) (hw : weighAll l ≤ 1000000) :
    Calls Tryz.prog 71 #[v] w fun e w' => e = .returned (.int .i64 (totalB l)) ∧ Below w.heap.size w w' :=
  rtotal_of _ (rsize_all (weighAll l)) l v w (Nat.le_refl _) hw h
theorem rsize_any (v : Value) (t : Tree) (w : World) (h : Node w (Under w.heap.size) v t) (hw : weigh t ≤ 1000000) :
    Calls Tryz.prog 48 #[v] w fun e w' => e = .returned (.int .i64 (sizeB t)) ∧ Below w.heap.size w w' :=
  rsize_all _ t v w (Nat.le_refl _) hw h
end Go.Proofs.YtggoebbfgkebcaaGreatDoor

namespace Go.Proofs.YtggoebbfgkebcaaGreatDoor
open Go.RowKit Go.Sort

set_option maxHeartbeats 1000000 in
theorem rname_any (s : ByteArray) (w : World) (hs : s.size ≤ maxLen) :
    Calls Tryz.prog 45 #[.string s] w fun e w' => e = .returned (.bool (nameB s)) ∧ w' = w := by
  unfold maxLen at hs
  go_enter Tryz.func45, Tryz.ntmps45
  go_wp2
  go_loop [3] (fun i => ∃ k : Nat, k ≤ s.size ∧ i = .int .i64 k ∧ Hid (∀ j, j < k → small (s.data.toList.getD j 0) = true)) (fun i => s.size - (intOf i).toNat)
  case atStart => exact ⟨0, by omega, rfl, fun j hj => absurd hj (by omega)⟩
  case round =>
    obtain ⟨k, hk, rfl, hall⟩ := hrel
    by_cases hlt : k < s.size
    · have HB := Lib.hid (nameB_bad s k hlt)
      have HG := Lib.hid (byte_getD s k hlt)
      by_cases hlo : s[k].toNat < 97
      · have HF := Lib.hid (HB.out (by unfold small; rw [decide_eq_false (p := 97 ≤ s[k].toNat) (by omega), Bool.false_and]))
        go_wp2
        go_ret
        exact ⟨ret_bool HF.out.symm, rfl⟩
      · by_cases hhi : 122 < s[k].toNat
        · have HF := Lib.hid (HB.out (by unfold small; rw [decide_eq_false (p := s[k].toNat ≤ 122) (by omega), Bool.and_false]))
          go_wp2
          go_ret
          exact ⟨ret_bool HF.out.symm, rfl⟩
        · have HT : Hid (∀ j, j < k + 1 → small (s.data.toList.getD j 0) = true) := Lib.hid fun j hj => by
            by_cases e : j < k
            · exact hall j e
            · obtain rfl : j = k := by omega
              rw [HG.out]; unfold small
              rw [decide_eq_true (p := 97 ≤ s[j].toNat) (by omega), decide_eq_true (p := s[j].toNat ≤ 122) (by omega)]; rfl
          go_wp2
          exact ⟨⟨k + 1, by omega, by go_num, HT.out⟩, by simp [intOf]; omega⟩
    · have HA : Hid (∀ j, j < s.size → small (s.data.toList.getD j 0) = true) := Lib.hid fun j hj => hall j (by omega)
      by_cases h1 : 1 ≤ s.size
      · by_cases h8 : s.size ≤ 8
        · cases ht : isTxt s with
          | true =>
            have ht' : (s.toList == [116, 101, 120, 116]) = true := ht
            have HN : Hid (nameB s = false) := Lib.hid (by simp [nameB, ht])
            clear ht
            go_wp2
            go_ret
            exact ⟨ret_bool HN.out.symm, rfl⟩
          | false =>
            have ht' : (s.toList == [116, 101, 120, 116]) = false := ht
            have HN : Hid (nameB s = true) := Lib.hid (nameB_true s h1 h8 ht HA.out)
            clear ht
            go_wp2
            go_ret
            exact ⟨ret_bool HN.out.symm, rfl⟩
        · have HN : Hid (nameB s = false) := Lib.hid (by simp [nameB, h8])
          go_wp2
          go_ret
          exact ⟨ret_bool HN.out.symm, rfl⟩
      · have HN : Hid (nameB s = false) := Lib.hid (by simp [nameB, h1])
        go_wp2
        go_ret
        exact ⟨ret_bool HN.out.symm, rfl⟩

theorem back_bytes (s : ByteArray) : ((runesBytes ((pts s.data.toList).map fun r : Nat => (r : Int))).toList == s.toList) = Lib.validD s.data.toList := by
  rw [Lib.toList_data, Lib.toList_data, runesBytes_data]
  exact back_same s.data.toList

set_option maxHeartbeats 1000000 in
theorem rrunes2_any (s : ByteArray) (w : World) (hs : s.size ≤ 1000000) :
    Calls Tryz.prog 70 #[.string s] w fun e w' => (∃ A c, e = .returned (.tuple #[.slice A (Lib.runeCount s) c, .bool (Lib.validD s.data.toList)])) ∧ Below w.heap.size w w' := by
  obtain ⟨c, obj, hrun, hc, hcell⟩ := run_runes w s (by omega)
  have hback := rrun_back (w.drew.alloc obj) w.heap.size c (pts s.data.toList) hcell
  have hback2 := rrun_back (w.drew.alloc obj).drew w.heap.size c (pts s.data.toList) hcell
  have HX : Hid (Below w.heap.size w (w.drew.alloc obj).drew) := Lib.hid (((Below.refl _ _).drew).alloc (Nat.le_refl _) _).drew
  have HL : Hid ((pts s.data.toList).length = Lib.runeCount s) := Lib.hid (by rw [pts_count, Lib.runeCountL_eq])
  have HV := Lib.hid (back_bytes s)
  clear hcell hc
  generalize runesBytes ((pts s.data.toList).map fun r : Nat => (r : Int)) = sr at *
  generalize (pts s.data.toList).length = np at *
  generalize w.heap.size = g at *
  generalize hW : w.drew.alloc obj = W at *
  go_enter Tryz.func70, Tryz.ntmps70
  go_wp2_with fail
  go_region
  all_goals
    go_wp2
    exact bodyPost_ret (v := .tuple #[.slice (some ⟨g, 0, none⟩) np c, .bool (sr.toList == s.toList)]) (by simp [results, Tryz.results70, go_sem]) rfl ⟨⟨_, _, by rw [HV.out, HL.out]⟩, HX.out⟩

set_option maxHeartbeats 1000000 in
theorem rformed_any (s : ByteArray) (w : World) (hs : s.size ≤ 1000000) :
    Calls Tryz.prog 42 #[.string s] w fun e w' => e = .returned (.bool (Lib.validD s.data.toList)) ∧ Below w.heap.size w w' := by
  go_enter Tryz.func42, Tryz.ntmps42
  go_wp2_with fail
  refine (rrunes2_any s w hs).mono ?_
  rintro e w1 ⟨⟨A, c, rfl⟩, hb1⟩
  generalize hv : Lib.validD s.data.toList = b at *
  have HV := Lib.hid hv
  clear hv
  go_wp2
  go_ret
  exact ⟨ret_bool HV.out.symm, hb1⟩

set_option maxHeartbeats 1000000 in
theorem rvalue_any (s : ByteArray) (w : World) (hs : s.size ≤ 1000000) :
    Calls Tryz.prog 44 #[.string s] w fun e w' => e = .returned (.bool (valueB s)) ∧ Below w.heap.size w w' := by
  by_cases h : s.size ≤ 40
  · have HV : Hid (valueB s = Lib.validD s.data.toList) := Lib.hid (by simp [valueB, h])
    go_enter Tryz.func44, Tryz.ntmps44
    go_wp2_with fail
    refine (rformed_any s w hs).mono ?_
    rintro e w1 ⟨rfl, hb1⟩
    generalize Lib.validD s.data.toList = b at *
    go_wp2
    go_ret
    exact ⟨ret_bool HV.out.symm, hb1⟩
  · have HV : Hid (valueB s = false) := Lib.hid (by simp [valueB, h])
    go_enter Tryz.func44, Tryz.ntmps44
    go_wp2
    go_ret
    exact ⟨ret_bool HV.out.symm, Below.refl _ _⟩

theorem less_flip : ∀ x y : List UInt8, (Op.bytesLess x y || x == y) = !Op.bytesLess y x
  | [], [] => rfl
  | a :: x, [] => by simp [Op.bytesLess]
  | [], b :: y => by simp [Op.bytesLess]
  | a :: x, b :: y => by
    have ih := less_flip x y
    rcases Nat.lt_trichotomy a.toNat b.toNat with h | h | h
    · have h1 : a < b := UInt8.lt_iff_toNat_lt.2 h
      have h2 : ¬ b < a := fun e => by have := UInt8.lt_iff_toNat_lt.1 e; omega
      have h3 : ¬ b = a := fun e => by subst e; omega
      simp [Op.bytesLess, h1, h2, h3]
    · obtain rfl : a = b := UInt8.toNat_inj.1 h
      have h2 : ¬ a < a := fun e => by have := UInt8.lt_iff_toNat_lt.1 e; omega
      simp only [Op.bytesLess, h2, decide_false, Bool.false_or, beq_self_eq_true, Bool.true_and, List.cons_beq_cons]
      exact ih
    · have h1 : b < a := UInt8.lt_iff_toNat_lt.2 h
      have h2 : ¬ a < b := fun e => by have := UInt8.lt_iff_toNat_lt.1 e; omega
      have h3 : ¬ a = b := fun e => by subst e; omega
      simp [Op.bytesLess, h1, h2, h3]

set_option maxHeartbeats 1000000 in
theorem rrise_any (v : Value) (l : List ByteArray) (S : Nat → Prop) (w : World) (h : Strs w S v l) (hS : ∀ b, S b → b < w.heap.size) (hw : weighL l ≤ 1000000) :
    Calls Tryz.prog 43 #[v] w fun e w' => e = .returned (.bool (marksB l)) ∧ Below w.heap.size w w' := by
  have hlen := length_le_weighL l
  obtain ⟨A, c, rfl, hc⟩ := h.form
  have H := Lib.hid h
  have HS := Lib.hid hS
  clear h hS
  go_enter Tryz.func43, Tryz.ntmps43
  go_wp2
  go_loopw [3] (fun i wr => ∃ k : Nat, k ≤ l.length ∧ i = .int .i64 k ∧ Below w.heap.size w wr ∧ Hid (∀ j, j < k → markOk l j = true)) (fun i _ => l.length - (intOf i).toNat)
  case atStart => exact ⟨0, by omega, rfl, Below.refl _ _, fun j hj => absurd hj (by omega)⟩
  case round =>
    obtain ⟨k, hk, rfl, hbr, hall⟩ := hrel
    by_cases hlt : k < l.length
    · obtain ⟨b, o, rfl, hub, hcell⟩ := H.out.get hlt
      have hbl := HS.out b hub
      have HCL : Hid (∀ i, i < l.length → wr.cell? ⟨b, o + i, none⟩ = some (.string (l.getD i ByteArray.empty))) := Lib.hid fun i hi => (hbr.cell (p := ⟨b, o + i, none⟩) hbl).trans (hcell i hi)
      have hs := weighL_get (getD_some ByteArray.empty hlt)
      have HB := Lib.hid (all_range_false (p := markOk l) k hlt)
      have k0 := cell_regrown (HCL.out k hlt)
      generalize hsk : l.getD k ByteArray.empty = sk at *
      have Hsk := Lib.hid hsk
      clear hsk hcell
      go_wp2_with fail
      cases hnm : nameB sk with
      | false =>
        have HN := Lib.hid (regrown_same (w := wr) fun W => by have := rname_any sk W (by unfold maxLen; omega); rwa [hnm] at this)
        have HN' := Lib.hid hnm
        clear hnm
        refine wp_region_quiet_below (by kernel_rfl) (by kernel_rfl) ?_
        repeat (first | go_big_quiet_step (exact HN.out _ _) | quiet_step (exact HN.out _ _))
        refine wpQuiet_nil ?_
        intro _ hw'
        obtain ⟨⟨dq, osq⟩, hw''⟩ := hw'
        subst hw''
        go_wp2
        go_ret
        exact ⟨ret_bool (HB.out (by unfold markOk; rw [Hsk.out, HN'.out]; rfl)).symm, belowNext hbr (below_regrown wr dq osq)⟩
      | true =>
        have HN := Lib.hid (regrown_same (w := wr) fun W => by have := rname_any sk W (by unfold maxLen; omega); rwa [hnm] at this)
        have HN' := Lib.hid hnm
        clear hnm
        by_cases h0 : k = 0
        · have g0 : decide (0 < k) = false := by simp; omega
          have H0 := Lib.hid h0
          clear h0
          refine wp_region_quiet_below (by kernel_rfl) (by kernel_rfl) ?_
          repeat (first | go_big_quiet_step (exact HN.out _ _) | quiet_step (exact HN.out _ _))
          refine wpQuiet_nil ?_
          intro _ hw'
          obtain ⟨⟨dq, osq⟩, hw''⟩ := hw'
          subst hw''
          go_wp2
          exact ⟨⟨k + 1, by omega, by go_num, belowNext hbr (below_regrown wr dq osq), step_all hall.out (by unfold markOk; rw [Hsk.out, HN'.out, decide_eq_true H0.out]; rfl)⟩, by simp [intOf]; omega⟩
        · have g0 : decide (0 < k) = true := by simp; omega
          have g1 : ((k : Int) - 1).toNat = k - 1 := by omega
          have k2 := cell_regrown (HCL.out (k - 1) (by omega))
          generalize hsp : l.getD (k - 1) ByteArray.empty = sp at *
          have Hsp := Lib.hid hsp
          clear hsp
          have hfl := less_flip sk.toList sp.toList
          cases hb1 : Op.bytesLess sk.toList sp.toList with
          | true =>
            have HL : Hid (less sp sk = false) := Lib.hid (by unfold less; rw [hb1, Bool.true_or] at hfl; simpa using hfl.symm)
            clear hfl
            refine wp_region_quiet_below (by kernel_rfl) (by kernel_rfl) ?_
            repeat (first | go_big_quiet_step (exact HN.out _ _) | quiet_step (exact HN.out _ _))
            refine wpQuiet_nil ?_
            intro _ hw'
            obtain ⟨⟨dq, osq⟩, hw''⟩ := hw'
            subst hw''
            go_wp2
            go_ret
            exact ⟨ret_bool (HB.out (by unfold markOk; rw [Hsk.out, HN'.out, Hsp.out, HL.out, decide_eq_false h0]; rfl)).symm, belowNext hbr (below_regrown wr dq osq)⟩
          | false =>
            cases hb2 : (sk.toList == sp.toList) with
            | true =>
              have HL : Hid (less sp sk = false) := Lib.hid (by unfold less; rw [hb1, hb2, Bool.false_or] at hfl; simpa using hfl.symm)
              clear hfl
              refine wp_region_quiet_below (by kernel_rfl) (by kernel_rfl) ?_
              repeat (first | go_big_quiet_step (exact HN.out _ _) | quiet_step (exact HN.out _ _))
              refine wpQuiet_nil ?_
              intro _ hw'
              obtain ⟨⟨dq, osq⟩, hw''⟩ := hw'
              subst hw''
              go_wp2
              go_ret
              exact ⟨ret_bool (HB.out (by unfold markOk; rw [Hsk.out, HN'.out, Hsp.out, HL.out, decide_eq_false h0]; rfl)).symm, belowNext hbr (below_regrown wr dq osq)⟩
            | false =>
              have HL : Hid (less sp sk = true) := Lib.hid (by unfold less; rw [hb1, hb2, Bool.false_or] at hfl; simpa using hfl.symm)
              clear hfl
              refine wp_region_quiet_below (by kernel_rfl) (by kernel_rfl) ?_
              repeat (first | go_big_quiet_step (exact HN.out _ _) | quiet_step (exact HN.out _ _))
              refine wpQuiet_nil ?_
              intro _ hw'
              obtain ⟨⟨dq, osq⟩, hw''⟩ := hw'
              subst hw''
              go_wp2
              exact ⟨⟨k + 1, by omega, by go_num, belowNext hbr (below_regrown wr dq osq), step_all hall.out (by unfold markOk; rw [Hsk.out, HN'.out, Hsp.out, HL.out]; simp)⟩, by simp [intOf]; omega⟩
    · go_wp2
      go_ret
      exact ⟨ret_bool (all_range_true fun i hi => hall.out i (by omega)).symm, hbr⟩
end Go.Proofs.YtggoebbfgkebcaaGreatDoor

namespace Go.Proofs.YtggoebbfgkebcaaGreatDoor
open Go.RowKit Go.Sort

theorem heap_at_new (w : World) (o : Obj) {n : Nat} (h : w.heap.size = n) : (w.alloc o).heap[n]? = some o := by
  subst h; show (w.heap.push o)[w.heap.size]? = some o; simp

theorem wordsAll_take (l : List Tree) (i : Nat) : (wordsAll (l.take i)).length ≤ weighAll l := by
  have h1 := wordsAll_le_weigh (l.take i)
  have h2 := weighAll_take l i
  omega

end Go.Proofs.YtggoebbfgkebcaaGreatDoor

namespace Go.Proofs.YtggoebbfgkebcaaGreatDoor
open Go.RowKit Go.Sort

/-- A node's kid, read in a later world. -/
theorem Kids.late {w W : World} {A : Option Addr} {n c : Nat} {l : List Tree} {i : Nat} {x : Tree} (h : Kids w (Under w.heap.size) (.slice A n c) l) (hb : Below w.heap.size w W) (hx : l[i]? = some x) :
    ∃ b o A1 n1 c1 A2 n2 c2 A3 c3, A = some ⟨b, o, none⟩ ∧ W.cell? ⟨b, o + i * 5, none⟩ = some (.string x.kind) ∧ W.cell? ⟨b, o + i * 5 + 1, none⟩ = some (.string x.text) ∧ W.cell? ⟨b, o + i * 5 + 2, none⟩ = some (.slice A1 n1 c1) ∧
      W.cell? ⟨b, o + i * 5 + 3, none⟩ = some (.slice A2 n2 c2) ∧ W.cell? ⟨b, o + i * 5 + 4, none⟩ = some (.slice A3 x.kids.length c3) ∧ (∀ W', Below w.heap.size w W' → Node W' (Under W'.heap.size) (.agg #[.string x.kind, .string x.text, .slice A1 n1 c1, .slice A2 n2 c2, .slice A3 x.kids.length c3]) x) := by
  obtain ⟨b, o, rfl, hb', hr⟩ := h.get (List.getElem?_eq_some_iff.1 hx).1
  obtain ⟨vm, va, vk, e0, e1, e2, e3, e4, hm, ha, hk⟩ := hr.node hx
  obtain ⟨A1, c1, rfl, _⟩ := id hm.form
  obtain ⟨A2, c2, rfl, _⟩ := id ha
  obtain ⟨A3, c3, rfl, _⟩ := id hk.form
  have c : ∀ j v, w.cell? ⟨b, j, none⟩ = some v → W.cell? ⟨b, j, none⟩ = some v := fun j v h => (hb.cell (p := ⟨b, j, none⟩) hb').trans h
  exact ⟨b, o, _, _, _, _, _, _, _, _, rfl, c _ _ e0, c _ _ e1, c _ _ e2, c _ _ e3, c _ _ e4, fun W' hW => Node.keep ⟨_, _, _, rfl, hm, ha, hk⟩ (fun b hb => Nat.lt_of_lt_of_le hb hW.size) (fun b hb => hW.block b hb)⟩
theorem Node.forms1 {w : World} {S : Nat → Prop} {v : Value} {u : Tree} (h : Node w S v u) : ∃ A1 c1 A2 c2 A3 c3, v = .agg #[.string u.kind, .string u.text, .slice A1 u.marks.length c1, .slice A2 u.attrs.length c2, .slice A3 u.kids.length c3] := by
  obtain ⟨vm, va, vk, rfl, hm, ha, hl⟩ := h
  obtain ⟨A1, c1, rfl, _⟩ := hm.form
  obtain ⟨A2, c2, rfl, _⟩ := ha
  obtain ⟨A3, c3, rfl, _⟩ := hl.form
  exact ⟨_, _, _, _, _, _, rfl⟩
theorem Node.kids1 {w : World} {S : Nat → Prop} {k t : ByteArray} {vm va vk : Value} {u : Tree} (h : Node w S (.agg #[.string k, .string t, vm, va, vk]) u) : Strs w S vm u.marks ∧ Pairs w S va u.attrs ∧ Kids w S vk u.kids := by
  obtain ⟨vm', va', vk', he, h1, h2, hl⟩ := h
  injection he with he
  have h4 : k = u.kind ∧ t = u.text ∧ vm = vm' ∧ va = va' ∧ vk = vk' := by simpa using he
  obtain ⟨_, _, rfl, rfl, rfl⟩ := h4
  exact ⟨h1, h2, hl⟩
theorem deepB_take {l : List Tree} {k : Nat} {x : Tree} (hx : l[k]? = some x) : deepB (l.take (k + 1)) = max (deepB (l.take k)) (depthB x) := by
  have h : ∀ a b : List Tree, deepB (a ++ b) = max (deepB a) (deepB b) := by
    intro a b
    induction a with
    | nil => simp [deepB]
    | cons y a ih => simp only [List.cons_append, deepB, ih]; omega
  rw [List.take_add_one, hx, h]; simp [deepB]

def RDepth (t : Tree) : Prop := ∀ (v : Value) (w : World), weigh t ≤ 1000000 → Node w (Under w.heap.size) v t →
  Calls Tryz.prog 47 #[v] w fun e w' => e = .returned (.int .i64 (depthB t)) ∧ Below w.heap.size w w'
set_option maxHeartbeats 2000000 in
theorem rdepth_of (t : Tree) (ih : ∀ x, x ∈ t.kids → RDepth x) : RDepth t := by
  intro v w hw h
  have IH := Lib.hid ih
  have HN := Lib.hid h
  obtain ⟨A1, c1, A2, c2, A3, c3, rfl⟩ := h.forms1
  have hkl := length_le_weigh t.kids
  have hkw := kids_weigh t
  clear ih h
  generalize hW1 : w.alloc (.cells #[.string t.kind, .string t.text, .slice A1 t.marks.length c1, .slice A2 t.attrs.length c2, .slice A3 t.kids.length c3] 41) = W1
  have HB : Hid (Below w.heap.size w W1) := Lib.hid (by subst hW1; exact (Below.refl _ _).alloc (Nat.le_refl _) _)
  have HBL : Hid (W1.heap[w.heap.size]? = some (.cells #[.string t.kind, .string t.text, .slice A1 t.marks.length c1, .slice A2 t.attrs.length c2, .slice A3 t.kids.length c3] 41)) := Lib.hid (by
    subst hW1; show (w.heap.push _)[w.heap.size]? = _; simp)
  have HK1 : Hid (Kids W1 (Under W1.heap.size) (.slice A3 t.kids.length c3) t.kids) := Lib.hid ((HN.out.kids1.2.2.below HB.out).more HB.out.size)
  obtain ⟨x0, x1, x2, x3, x4⟩ : W1.cell? ⟨w.heap.size, 0, none⟩ = some (.string t.kind) ∧ W1.cell? ⟨w.heap.size, 1, none⟩ = some (.string t.text) ∧ W1.cell? ⟨w.heap.size, 2, none⟩ = some (.slice A1 t.marks.length c1) ∧ W1.cell? ⟨w.heap.size, 3, none⟩ = some (.slice A2 t.attrs.length c2) ∧ W1.cell? ⟨w.heap.size, 4, none⟩ = some (.slice A3 t.kids.length c3) := by
    have := HBL.out; simp [World.cell?, this]
  have HX4 := Lib.hid x4
  have HW1 := Lib.hid hW1
  clear hW1
  cases hk : isTxt t.kind with
  | true =>
    have HE : Hid (depthB t = 0) := Lib.hid (by obtain ⟨k, t, m, a, l⟩ := t; simp only [Tree.kind] at hk; simp [depthB, hk])
    have hkk : (t.kind.toList == [116, 101, 120, 116]) = true := hk
    clear hk
    go_enter Tryz.func47, Tryz.ntmps47
    go_upto_region 2 with fail
    rw [HW1.out]
    go_wp2
    go_ret
    exact ⟨by rw [HE.out]; rfl, HB.out⟩
  | false =>
    have HE : Hid (depthB t = deepB t.kids + 1) := Lib.hid (by obtain ⟨k, t, m, a, l⟩ := t; simp only [Tree.kind] at hk; simp [depthB, hk, Tree.kids])
    have hkk : (t.kind.toList == [116, 101, 120, 116]) = false := hk
    clear hk
    go_enter Tryz.func47, Tryz.ntmps47
    go_upto_region 3 with fail
    rw [HW1.out]
    clear x0 x1 x2 x3 x4
    go_wp2
    go_loopg [3, 4] t.kids.length (fun gh s3 s4 wx => ∃ k : Nat, k + gh = t.kids.length ∧ s4 = .int .i64 (k : Int) ∧ s3 = .int .i64 (deepB (t.kids.take k) : Nat) ∧ Hid (Below W1.heap.size W1 wx))
    case atStart => exact ⟨0, by omega, rfl, by simp [deepB], Lib.hid (Below.refl _ _)⟩
    case round =>
      obtain ⟨k, hkg, rfl, rfl, hb⟩ := hrel
      have x4 := cell_kept HX4.out hb.out
      have hdw := deep_le_weigh (t.kids.take k)
      have hwt := weighAll_take t.kids k
      by_cases hlt : k < t.kids.length
      · have hx : t.kids[k]? = some t.kids[k] := List.getElem?_eq_getElem hlt
        have HIX := Lib.hid (IH.out t.kids[k] (List.getElem_mem hlt))
        have hwx := weigh_mem (List.getElem_mem hlt)
        have HD := Lib.hid (deepB_take hx)
        generalize t.kids[k] = x at *
        obtain ⟨b, o, E1, l1, e1, E2, l2, e2, E3, e3, rfl, r0, r1, r2, r3, r4, hnx⟩ := HK1.out.late hb.out hx
        have HNX := Lib.hid hnx
        have hdx := depth_le_weigh x
        clear hx hnx
        go_wp2_with fail
        refine (HIX.out _ wr (by omega) (HNX.out wr hb.out)).mono ?_
        rintro e w4 ⟨rfl, hb4⟩
        have HB4 := Lib.hid (belowNext hb.out hb4)
        clear hb4 r0 r1 r2 r3 r4
        generalize deepB (t.kids.take k) = d at *
        generalize depthB x = dx at *
        go_wp2
        go_roundg (t.kids.length - (k + 1))
        case measure => omega
        case rel => exact ⟨k + 1, by omega, by go_num, by rw [HD.out]; go_num, HB4⟩
      · have HD : Hid (deepB t.kids = deepB (t.kids.take k)) := Lib.hid (by rw [List.take_of_length_le (by omega)])
        generalize deepB (t.kids.take k) = d at *
        go_wp2
        go_ret
        exact ⟨by rw [HE.out, HD.out]; exact ret_num (by omega), HB.out.trans (hb.out.mono HB.out.size)⟩
theorem rdepth_any (t : Tree) : RDepth t := by
  induction t using Tree.induct_one with
  | h k t m a l ih => exact rdepth_of _ fun x hx => ih x hx
end Go.Proofs.YtggoebbfgkebcaaGreatDoor

namespace Go.Proofs.YtggoebbfgkebcaaGreatDoor
open Go.RowKit Go.Sort

theorem all_range {n : Nat} {p : Nat → Bool} : (List.range n).all p = true ↔ ∀ i, i < n → p i = true := by
  rw [List.all_eq_true]
  exact ⟨fun h i hi => h i (List.mem_range.2 hi), fun h i hi => h i (List.mem_range.1 hi)⟩
theorem names_at {l : List (ByteArray × ByteArray)} {i : Nat} (h : i < l.length) : (l.map (·.1)).getD i ByteArray.empty = (pairAt l i).1 := by
  have h1 := getD_some (ByteArray.empty, ByteArray.empty) h
  rw [List.getD_eq_getElem?_getD, List.getElem?_map, h1]; rfl
theorem attrs_split (l : List (ByteArray × ByteArray)) : attrsB l = true ↔ (∀ i, i < l.length → valueB (pairAt l i).2 = true) ∧ marksB (l.map (·.1)) = true := by
  unfold attrsB marksB
  rw [all_range, all_range, List.length_map]
  constructor
  · intro h
    refine ⟨fun i hi => ?_, fun i hi => ?_⟩
    · have := h i hi; unfold attrOk at this; simp only [Bool.and_eq_true] at this; exact this.2.1
    · have := h i hi
      unfold attrOk at this
      simp only [Bool.and_eq_true] at this
      unfold markOk
      rw [names_at hi, names_at (i := i - 1) (by omega), this.1, this.2.2]; rfl
  · rintro ⟨h1, h2⟩ i hi
    have := h2 i hi
    unfold markOk at this
    rw [names_at hi, names_at (i := i - 1) (by omega)] at this
    simp only [Bool.and_eq_true] at this
    unfold attrOk
    rw [this.1, this.2, h1 i hi]; rfl
theorem rowB_iff : ∀ (l : List Tree) (p : Option Tree), rowB p l = true ↔ ∀ (i : Nat) (x : Tree), l[i]? = some x → formedB x = true ∧ alikeO (if i = 0 then p else l[i - 1]?) x = false
  | [], p => by simp [rowB]
  | y :: l, p => by
    rw [rowB, Bool.and_eq_true, Bool.and_eq_true, rowB_iff l (some y), Bool.not_eq_true']
    constructor
    · rintro ⟨h1, h2, h3⟩ i x hx
      cases i with
      | zero => simp only [List.getElem?_cons_zero, Option.some.injEq] at hx; subst hx; exact ⟨h2, by simpa using h1⟩
      | succ i =>
        have := h3 i x (by simpa using hx)
        refine ⟨this.1, ?_⟩
        cases i with
        | zero => simpa using this.2
        | succ i => simpa using this.2
    · intro h
      have h0 := h 0 y rfl
      refine ⟨by simpa using h0.2, h0.1, fun i x hx => ?_⟩
      have := h (i + 1) x (by simpa using hx)
      refine ⟨this.1, ?_⟩
      cases i with
      | zero => simpa using this.2
      | succ i => simpa using this.2
theorem names_weigh (l : List (ByteArray × ByteArray)) : weighL (l.map (·.1)) ≤ weighP l := by
  induction l with
  | nil => simp [weighL]
  | cons p l ih => simp only [weighL, weighP, List.map_cons, List.sum_cons] at ih ⊢; omega
theorem sameL_flip (a b : List ByteArray) : sameL a b = sameL b a := by
  cases h : sameL a b with
  | true => have := sameL_eq h; subst this; exact h.symm
  | false =>
    cases h' : sameL b a with
    | true => have := sameL_eq h'; subst this; rw [h'] at h; exact h.symm
    | false => rfl
/-- A row of texts of the call's own. -/
theorem strs_own {w : World} {base : Nat} {v : Value} {n : Nat} {l : List ByteArray} (h : w.ownsRow base 9 1 v n (l.map Value.string)) : Strs w (Under w.heap.size) v l := by
  obtain ⟨hl, h⟩ := h
  have hn : n = l.length := by simp at hl; omega
  subst hn
  rcases h with ⟨rfl, h0⟩ | ⟨g, cap, cur, rfl, hb, hg, hn, hc, hs, ht⟩
  · have : l = [] := List.eq_nil_of_length_eq_zero h0
    subst this
    exact ⟨none, 0, rfl, Nat.le_refl _, by unfold maxLen; omega, .inl rfl⟩
  · refine ⟨_, cap, rfl, hn, hc, .inr ⟨g, 0, rfl, (Array.getElem?_eq_some_iff.1 hg).1, fun i s hi => ?_⟩⟩
    have hil := (List.getElem?_eq_some_iff.1 hi).1
    have h1 : (cur.toList.take (l.length * 1))[i]? = some (.string s) := by rw [ht, List.getElem?_map, hi]; rfl
    rw [List.getElem?_take_of_lt (by omega)] at h1
    simp only [World.cell?, hg]
    simpa using h1
end Go.Proofs.YtggoebbfgkebcaaGreatDoor

namespace Go.Proofs.YtggoebbfgkebcaaGreatDoor
open Go.RowKit Go.Sort Go.Maps

def RFormed (t : Tree) : Prop := ∀ (v : Value) (w : World), weigh t ≤ 1000000 → Node w (Under w.heap.size) v t →
  Calls Tryz.prog 22 #[v] w fun e w' => e = .returned (.bool (formedB t)) ∧ Below w.heap.size w w'

theorem five_of {w : World} {g : Nat} {u0 u1 u2 u3 u4 : Value} {T : TypeId} (h : w.heap[g]? = some (.cells #[u0, u1, u2, u3, u4] T)) :
    w.cell? ⟨g, 0, none⟩ = some u0 ∧ w.cell? ⟨g, 1, none⟩ = some u1 ∧ w.cell? ⟨g, 2, none⟩ = some u2 ∧ w.cell? ⟨g, 3, none⟩ = some u3 ∧ w.cell? ⟨g, 4, none⟩ = some u4 := by
  simp [World.cell?, h]
theorem block_kept {w w' : World} {g : Nat} {o : Obj} (h : w.heap[g]? = some o) (hb : Below w.heap.size w w') : w'.heap[g]? = some o := (hb.block g (Array.getElem?_eq_some_iff.1 h).1).trans h

set_option maxHeartbeats 4000000 in
/-- A text. -/
theorem rformed_text (t : Tree) (hk : isTxt t.kind = true) : RFormed t := by
  intro v w hw h
  have HN := Lib.hid h
  obtain ⟨A1, c1, A2, c2, A3, c3, rfl⟩ := h.forms1
  have hkl := length_le_weigh t.kids
  have hml := length_le_weighL t.marks
  have hal := length_le_weighP t.attrs
  have hwe : t.text.size ≤ weigh t ∧ weighL t.marks ≤ weigh t := by obtain ⟨k, x, m, a, l⟩ := t; simp only [weigh, Tree.text, Tree.marks]; omega
  have HE : Hid (formedB t = textB t) := Lib.hid (by obtain ⟨k, x, m, a, l⟩ := t; simp only [Tree.kind] at hk; simp [formedB, hk])
  clear h
  generalize hW1 : w.alloc (.cells #[.string t.kind, .string t.text, .slice A1 t.marks.length c1, .slice A2 t.attrs.length c2, .slice A3 t.kids.length c3] 41) = W1
  have HB : Hid (Below w.heap.size w W1) := Lib.hid (by subst hW1; exact (Below.refl _ _).alloc (Nat.le_refl _) _)
  have HBL : Hid (W1.heap[w.heap.size]? = some (.cells #[.string t.kind, .string t.text, .slice A1 t.marks.length c1, .slice A2 t.attrs.length c2, .slice A3 t.kids.length c3] 41)) := Lib.hid (by
    subst hW1; show (w.heap.push _)[w.heap.size]? = _; simp)
  have HM : Hid (∀ W, Below W1.heap.size W1 W → Strs W (Under W.heap.size) (.slice A1 t.marks.length c1) t.marks) := Lib.hid fun W hW => HN.out.kids1.1.keep (fun b hb => Nat.lt_of_lt_of_le hb (Nat.le_trans HB.out.size hW.size)) (fun b hb => (hW.block b (Nat.lt_of_lt_of_le hb HB.out.size)).trans (HB.out.block b hb))
  obtain ⟨x0, x1, x2, x3, x4⟩ := five_of HBL.out
  have hkk : (t.kind.toList == [116, 101, 120, 116]) = true := hk
  have HW1 := Lib.hid hW1
  clear hW1 hk
  go_enter Tryz.func22, Tryz.ntmps22
  go_upto_region 2 with fail
  rw [HW1.out]
  by_cases he : t.text.toList = []
  · have HF : Hid (formedB t = false) := Lib.hid (by rw [HE.out]; unfold textB; rw [he]; rfl)
    go_wp2
    go_ret
    exact ⟨by rw [HF.out]; rfl, HB.out⟩
  · have he1 : (t.text.toList == []) = false := by simpa using he
    have HT0 : Hid (textB t = (Lib.validD t.text.data.toList && (marksB t.marks && (decide (t.attrs.length = 0) && decide (t.kids.length = 0))))) := Lib.hid (by unfold textB; rw [show t.text.toList.isEmpty = false by simpa using he]; rfl)
    go_wp2_with fail
    refine (rformed_any t.text W1 (by omega)).mono ?_
    rintro e w2 ⟨rfl, hb2⟩
    have HB2 := Lib.hid hb2
    obtain ⟨y0, y1, y2, y3, y4⟩ := five_of (block_kept HBL.out hb2)
    clear hb2 x0 x1 x2 x3 x4
    cases hv : Lib.validD t.text.data.toList with
    | false =>
      have HF : Hid (formedB t = false) := Lib.hid (by rw [HE.out, HT0.out, hv]; rfl)
      clear hv
      go_wp2
      go_ret
      exact ⟨by rw [HF.out]; rfl, HB.out.trans (HB2.out.mono HB.out.size)⟩
    | true =>
      have HV := Lib.hid hv
      clear hv
      go_wp2_with fail
      refine (rrise_any _ t.marks _ w2 (HM.out w2 HB2.out) (fun b hb => hb) (by omega)).mono ?_
      rintro e w3 ⟨rfl, hb3⟩
      have HB3 := Lib.hid (belowNext HB2.out hb3)
      obtain ⟨z0, z1, z2, z3, z4⟩ := five_of (block_kept HBL.out HB3.out)
      clear hb3 y0 y1 y2 y3 y4
      cases hm : marksB t.marks with
      | false =>
        have HF : Hid (formedB t = false) := Lib.hid (by rw [HE.out, HT0.out, HV.out, hm]; rfl)
        clear hm
        go_wp2
        go_ret
        exact ⟨by rw [HF.out]; rfl, HB.out.trans (HB3.out.mono HB.out.size)⟩
      | true =>
        have HM1 := Lib.hid hm
        clear hm
        by_cases ha : t.attrs.length = 0
        · have ha' : ((t.attrs.length : Int) == 0) = true := by simp [ha]
          by_cases hl : t.kids.length = 0
          · have hl' : ((t.kids.length : Int) == 0) = true := by simp [hl]
            have HF : Hid (formedB t = true) := Lib.hid (by rw [HE.out, HT0.out, HV.out, HM1.out]; simp [ha, hl])
            clear ha hl
            go_wp2
            go_ret
            exact ⟨by rw [HF.out]; rfl, HB.out.trans (HB3.out.mono HB.out.size)⟩
          · have hl' : ((t.kids.length : Int) == 0) = false := by rw [beq_eq_false_iff_ne]; omega
            have HF : Hid (formedB t = false) := Lib.hid (by rw [HE.out, HT0.out, HV.out, HM1.out]; simp [hl])
            clear ha hl
            go_wp2
            go_ret
            exact ⟨by rw [HF.out]; rfl, HB.out.trans (HB3.out.mono HB.out.size)⟩
        · have ha' : ((t.attrs.length : Int) == 0) = false := by rw [beq_eq_false_iff_ne]; omega
          have HF : Hid (formedB t = false) := Lib.hid (by rw [HE.out, HT0.out, HV.out, HM1.out]; simp [ha])
          clear ha
          go_wp2
          go_ret
          exact ⟨by rw [HF.out]; rfl, HB.out.trans (HB3.out.mono HB.out.size)⟩
end Go.Proofs.YtggoebbfgkebcaaGreatDoor
