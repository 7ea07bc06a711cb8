/-
  CodecApart: plain facts, and the walk.
-/
import Derived.Test.YthcgcljmiokabaaDoorC4
import Derived.Test.YthcgcljmiokabaaDoorSameP
namespace Go.Proofs.YthcgcljmiokabaaDoor
open Go.RowKit Go.Sort

def bytesOf (l : List UInt8) : ByteArray := ⟨l.toArray⟩
theorem bytesOf_data (l : List UInt8) : (bytesOf l).data.toList = l := by simp [bytesOf]
theorem bytesOf_list (l : List UInt8) : (bytesOf l).toList = l := by rw [Lib.toList_data, bytesOf_data]
theorem bytesOf_size (l : List UInt8) : (bytesOf l).size = l.length := by simp [bytesOf, ByteArray.size]
theorem bytesOf_eq (a b : List UInt8) : ((bytesOf a).toList == (bytesOf b).toList) = (a == b) := by rw [bytesOf_list, bytesOf_list]

theorem docB_formed (l : List Cel) : formedB (docB l) = true := by
  have h := docB_right l
  unfold checkB at h
  split at h
  · assumption
  · cases h
theorem docB_print (l : List Cel) : printB (docB l) = writeB (docB l) := by unfold printB; rw [if_pos (docB_right l)]
theorem docB_weigh (l : List Cel) : weigh (docB l) ≤ 1000000 := by
  have h1 := madeB_weigh l
  have h2 : DOC.size = 3 := by decide +kernel
  have h3 : ByteArray.empty.size = 0 := by decide +kernel
  simp only [docB, weigh, weighL, weighP, List.map_nil, List.sum_nil, h2, h3]; omega
theorem apart_docs (a b : List Cel) : ((bytesOf (printB (docB a))).toList == (bytesOf (printB (docB b))).toList) = sameB (docB a) (docB b) := by
  rw [bytesOf_eq, docB_print, docB_print]
  cases h : sameB (docB a) (docB b) with
  | true => rw [sameB_eq _ _ h]; simp
  | false =>
    rw [beq_eq_false_iff_ne]
    intro e
    have := writeB_inj (docB_formed a) (docB_formed b) e
    rw [this, sameB_self] at h; cases h
theorem quoteL_inj {a b : List UInt8} (h : quoteL a = quoteL b) : a = b := (quote_inj (r := []) (r' := []) (by rw [h])).1
theorem apart_quotes (s t : ByteArray) : ((bytesOf (quoteL s.data.toList)).toList == (bytesOf (quoteL t.data.toList)).toList) = (s.toList == t.toList) := by
  rw [bytesOf_eq, Lib.toList_data, Lib.toList_data]
  cases h : (s.data.toList == t.data.toList) with
  | true => rw [beq_iff_eq.1 h]; simp
  | false =>
    rw [beq_eq_false_iff_ne] at h ⊢
    intro e; exact h (quoteL_inj e)

/-! ### what stands where in a quoted text -/
def escOne (c : UInt8) : List UInt8 := if c == 34 || c == 92 then [92, c] else [c]
theorem escL_take (l : List UInt8) (k : Nat) (c : UInt8) (h : l[k]? = some c) : escL (l.take (k + 1)) = escL (l.take k) ++ escOne c := by
  have hk := (List.getElem?_eq_some_iff.1 h).1
  have hc := (List.getElem?_eq_some_iff.1 h).2
  rw [List.take_succ_eq_append_getElem hk, escL_snoc, hc]; rfl
theorem escL_app (a b : List UInt8) : escL (a ++ b) = escL a ++ escL b := by
  induction a with
  | nil => rfl
  | cons c l ih => simp only [List.cons_append, escL, ih]; split <;> rfl
theorem quote_at (l : List UInt8) (k : Nat) (c : UInt8) (h : l[k]? = some c) : (quoteL l)[1 + (escL (l.take k)).length]? = (escOne c)[0]? := by
  have hk := (List.getElem?_eq_some_iff.1 h).1
  have e : l = l.take (k + 1) ++ l.drop (k + 1) := (List.take_append_drop _ _).symm
  have e2 : quoteL l = (34 :: escL (l.take k)) ++ (escOne c ++ (escL (l.drop (k + 1)) ++ [34])) := by
    conv => lhs; rw [e]
    unfold quoteL
    rw [escL_app, escL_take l k c h]; simp
  rw [e2, List.getElem?_append_right (by simp; omega)]
  rw [show 1 + (escL (l.take k)).length - (34 :: escL (l.take k)).length = 0 by simp; omega]
  rw [List.getElem?_append_left]
  unfold escOne; split <;> simp
theorem quote_len (l : List UInt8) : (quoteL l).length = (escL l).length + 2 := by simp [quoteL]
theorem quote_last (l : List UInt8) : (quoteL l)[1 + (escL l).length]? = some 34 := by
  unfold quoteL
  rw [Nat.add_comm, List.getElem?_cons_succ, List.getElem?_append_right (Nat.le_refl _), Nat.sub_self]; rfl
theorem escOne_len (c : UInt8) : (escOne c).length = if c == 34 || c == 92 then 2 else 1 := by unfold escOne; split <;> rfl
theorem escL_take_le (l : List UInt8) (k : Nat) : (escL (l.take k)).length ≤ (escL l).length := by
  conv => rhs; rw [← List.take_append_drop k l, escL_app]
  rw [List.length_append]; omega
theorem bytesOf_get (l : List UInt8) (p : Nat) (c : UInt8) (h : l[p]? = some c) (hp : p < (bytesOf l).size) : (bytesOf l)[p] = c := by
  have h2 := (List.getElem?_eq_some_iff.1 h).2
  rw [← h2]; rfl

set_option maxHeartbeats 4000000 in
set_option maxRecDepth 100000 in
theorem codecApart_walk (va vb : Value) (a b : List Cel) (s t : ByteArray) (w : World) (ha : Cels w (Under w.heap.size) va a) (hb : Cels w (Under w.heap.size) vb b) (hs : s.size ≤ maxLen) (ht : t.size ≤ maxLen) (hT : Tabs w) :
    Calls Tryd.prog 6 #[va, vb, .string s, .string t] w fun e w' => e = .returned (.bool true) ∧ Below w.heap.size w w' := by
  unfold maxLen at hs ht
  have HA := Lib.hid ha
  have HB := Lib.hid hb
  have HT := Lib.hid hT
  clear ha hb hT
  by_cases h5 : s.size ≤ 500 ∧ t.size ≤ 500
  · obtain ⟨hs5, ht5⟩ := h5
    have HAD := Lib.hid (apart_docs a b)
    have HAQ := Lib.hid (apart_quotes s t)
    have q1 : decide (500 < (s.size : Int)) = false := by simp; omega
    have q2 : decide (500 < (t.size : Int)) = false := by simp; omega
    go_enter Tryd.func6, Tryd.ntmps6
    go_wp2_with fail
    refine (shown2_any _ HT.out).mono ?_
    rintro e w1 ⟨rfl, hb1⟩
    go_wp2_with fail
    refine (doc_any _ a _ ((HA.out.below hb1).more hb1.size)).mono ?_
    rintro e w2 ⟨A2, c2, rfl, hk2, hb2⟩
    have hB2 := belowNext hb1 hb2
    have HN2 : Hid (Node w2 (Under w2.heap.size) (.agg #[.string ⟨#[100, 111, 99]⟩, .string ⟨#[]⟩, .slice none 0 0, .slice none 0 0, .slice A2 (madeB a).length c2]) (docB a)) := Lib.hid ⟨_, _, _, rfl, strs_none, pairs_none, hk2.keep (fun _ h => h.2) (fun _ _ => rfl)⟩
    clear hk2 hb2 hb1
    go_wp2_with fail
    refine (print_any _ (docB a) w2 HN2.out (docB_weigh a) (HT.out.below hB2)).mono ?_
    rintro e w3 ⟨rfl, hb3⟩
    rw [docB_right a]
    rw [show (⟨(printB (docB a)).toArray⟩ : ByteArray) = bytesOf (printB (docB a)) from rfl]
    have hB3 := belowNext hB2 hb3
    clear hb3
    go_wp2_with fail
    refine (doc_any _ b _ ((HB.out.below hB3).more hB3.size)).mono ?_
    rintro e w4 ⟨A4, c4, rfl, hk4, hb4⟩
    have hB4 := belowNext hB3 hb4
    have HN4 : Hid (Node w4 (Under w4.heap.size) (.agg #[.string ⟨#[100, 111, 99]⟩, .string ⟨#[]⟩, .slice none 0 0, .slice none 0 0, .slice A4 (madeB b).length c4]) (docB b)) := Lib.hid ⟨_, _, _, rfl, strs_none, pairs_none, hk4.keep (fun _ h => h.2) (fun _ _ => rfl)⟩
    clear hk4 hb4
    go_wp2_with fail
    refine (print_any _ (docB b) w4 HN4.out (docB_weigh b) (HT.out.below hB4)).mono ?_
    rintro e w5 ⟨rfl, hb5⟩
    rw [docB_right b]
    rw [show (⟨(printB (docB b)).toArray⟩ : ByteArray) = bytesOf (printB (docB b)) from rfl]
    have hB5 := belowNext hB4 hb5
    clear hb5
    generalize hsx : bytesOf (printB (docB a)) = sx at *
    generalize hsy : bytesOf (printB (docB b)) = sy at *
    clear hsx hsy
    go_wp2_with fail
    refine (quote_any s w5 (by omega)).mono ?_
    rintro e w6 ⟨rfl, hb6⟩
    rw [show (⟨(quoteL s.data.toList).toArray⟩ : ByteArray) = bytesOf (quoteL s.data.toList) from rfl]
    have hB6 := belowNext hB5 hb6
    clear hb6
    have hqs := bytesOf_size (quoteL s.data.toList)
    have hql := quote_len s.data.toList
    have hel := escL_le s.data.toList
    have heg := escL_ge s.data.toList
    have hsd := Lib.size_eq s
    have hqs1 : s.size + 2 ≤ (bytesOf (quoteL s.data.toList)).size := by omega
    have hqs2 : (bytesOf (quoteL s.data.toList)).size ≤ 1002 := by omega
    have HQL : Hid ((bytesOf (quoteL s.data.toList)).size = (escL s.data.toList).length + 2) := Lib.hid (by omega)
    have HQG := Lib.hid (fun p c => bytesOf_get (quoteL s.data.toList) p c)
    generalize hqq : bytesOf (quoteL s.data.toList) = qs at *
    clear hqs hql hel heg hsd hqq
    go_wp2_with fail
    refine (doc_any _ a _ ((HA.out.below hB6).more hB6.size)).mono ?_
    rintro e w7 ⟨A7, c7, rfl, hk7, hb7⟩
    have hB7 := belowNext hB6 hb7
    have HN7 : Hid (Node w7 (Under w7.heap.size) (.agg #[.string ⟨#[100, 111, 99]⟩, .string ⟨#[]⟩, .slice none 0 0, .slice none 0 0, .slice A7 (madeB a).length c7]) (docB a)) := Lib.hid ⟨_, _, _, rfl, strs_none, pairs_none, hk7.keep (fun _ h => h.2) (fun _ _ => rfl)⟩
    clear hk7 hb7
    go_wp2_with fail
    refine (doc_any _ b _ ((HB.out.below hB7).more hB7.size)).mono ?_
    rintro e w8 ⟨A8, c8, rfl, hk8, hb8⟩
    have hB8 := belowNext hB7 hb8
    have HN8 : Hid (Node w8 (Under w8.heap.size) (.agg #[.string ⟨#[100, 111, 99]⟩, .string ⟨#[]⟩, .slice none 0 0, .slice none 0 0, .slice A8 (madeB b).length c8]) (docB b)) := Lib.hid ⟨_, _, _, rfl, strs_none, pairs_none, hk8.keep (fun _ h => h.2) (fun _ _ => rfl)⟩
    have HN7' := Lib.hid ((HN7.out.below hb8).more hb8.size)
    clear hk8 hb8
    go_wp2_with fail
    refine (nsame_any _ _ (docB a) (docB b) w8 HN7'.out HN8.out (docB_weigh a) (docB_weigh b)).mono ?_
    rintro e w9 ⟨rfl, hb9⟩
    have hB9 := belowNext hB8 hb9
    clear hb9
    have hAD := HAD.out
    generalize sameB (docB a) (docB b) = r at *
    go_wp2_with fail
    refine (quote_any t w9 (by omega)).mono ?_
    rintro e w10 ⟨rfl, hb10⟩
    rw [show (⟨(quoteL t.data.toList).toArray⟩ : ByteArray) = bytesOf (quoteL t.data.toList) from rfl]
    have hB10 := belowNext hB9 hb10
    have hAQ := HAQ.out
    generalize bytesOf (quoteL t.data.toList) = qt at *
    generalize hst : (s.toList == t.toList) = r2 at *
    clear hb10
    have q3 : decide ((qs.size : Int) < (s.size : Int) + 2) = false := by simp; omega
    go_wp2
    clear hAD hAQ hst q1 q2 q3
    go_loop [15] (fun i => ∃ k p : Nat, k ≤ s.size ∧ i = .int .i64 p ∧ Hid (p = 1 + (escL (s.data.toList.take k)).length)) (fun i => qs.size - (intOf i).toNat)
    case atStart => exact ⟨0, 1, by omega, rfl, Lib.hid (by simp [escL])⟩
    case round =>
      obtain ⟨k, p, hk, rfl, hp⟩ := hrel
      have hpe := hp.out
      have htk := escL_take_le s.data.toList k
      have hqz := HQL.out
      have hsd := Lib.size_eq s
      by_cases hlt : k < s.size
      · have hgk : s.data.toList[k]? = some (s.data.toList[k]'(by omega)) := List.getElem?_eq_getElem (by omega)
        generalize s.data.toList[k]'(by omega) = c at *
        have hat := quote_at s.data.toList k c hgk
        have hstep := escL_take s.data.toList k c hgk
        have hstep2 := escL_take_le s.data.toList (k + 1)
        have hle1 := escOne_len c
        rw [← hpe] at hat
        have hl2 : (escL (s.data.toList.take (k + 1))).length = (escL (s.data.toList.take k)).length + (escOne c).length := by rw [hstep, List.length_append]
        cases hc : (c == 34 || c == 92) with
        | true =>
          rw [hc] at hle1
          have hp1 : p + 2 < qs.size := by simp only [if_true] at hle1; omega
          have hnext : p + 2 = 1 + (escL (s.data.toList.take (k + 1))).length := by simp only [if_true] at hle1; omega
          have hpl : p < qs.size := by omega
          have hd : qs[p]'hpl = 92 := HQG.out p 92 (by rw [hat]; unfold escOne; rw [hc]; rfl) hpl
          have HNX := Lib.hid hnext
          clear hat hstep hstep2 hle1 hl2 hc hnext hpe htk hqz hgk hsd
          go_wp2
          exact ⟨⟨k + 1, p + 2, by omega, by go_num, HNX⟩, by simp [intOf]; omega⟩
        | false =>
          rw [hc] at hle1
          have hp1 : p + 1 < qs.size := by simp only [Bool.false_eq_true, if_false] at hle1; omega
          have hnext : p + 1 = 1 + (escL (s.data.toList.take (k + 1))).length := by simp only [Bool.false_eq_true, if_false] at hle1; omega
          have hpl : p < qs.size := by omega
          have hd : qs[p]'hpl = c := HQG.out p c (by rw [hat]; unfold escOne; rw [hc]; rfl) hpl
          have HNX := Lib.hid hnext
          have hq34 : ((c.toNat : Int) == 34) = false := by
            rw [Bool.or_eq_false_iff] at hc
            rw [beq_eq_false_iff_ne]; intro e
            exact absurd (UInt8.toNat_inj.1 (by show c.toNat = (34 : UInt8).toNat; show c.toNat = 34; omega)) (beq_eq_false_iff_ne.1 hc.1)
          have hq92 : ((c.toNat : Int) == 92) = false := by
            rw [Bool.or_eq_false_iff] at hc
            rw [beq_eq_false_iff_ne]; intro e
            exact absurd (UInt8.toNat_inj.1 (by show c.toNat = (92 : UInt8).toNat; show c.toNat = 92; omega)) (beq_eq_false_iff_ne.1 hc.2)
          clear hat hstep hstep2 hle1 hl2 hc hnext hpe htk hqz hgk hsd
          go_wp2
          exact ⟨⟨k + 1, p + 1, by omega, by go_num, HNX⟩, by simp [intOf]; omega⟩
      · have hfull : s.data.toList.take k = s.data.toList := List.take_of_length_le (by omega)
        rw [hfull] at hpe
        have hpl : p < qs.size := by omega
        have hp0 : 0 < qs.size := by omega
        have hd : qs[p]'hpl = 34 := HQG.out p 34 (by rw [hpe]; exact quote_last _) hpl
        have hd0 : qs[0]'hp0 = 34 := HQG.out 0 34 (by unfold quoteL; rfl) hp0
        have hq1 : ¬ (p : Int) < (qs.size : Int) - 1 := by omega
        have hq2 : ((p : Int) == (qs.size : Int) - 1) = true := by rw [beq_iff_eq]; omega
        clear hfull hpe htk hqz hsd
        go_wp2
        go_ret
        exact ⟨rfl, hB10⟩
  · have q : decide (500 < (s.size : Int)) = true ∨ (decide (500 < (s.size : Int)) = false ∧ decide (500 < (t.size : Int)) = true) := by
      by_cases h : s.size ≤ 500
      · exact .inr ⟨by simp; omega, by simp; omega⟩
      · exact .inl (by simp; omega)
    clear h5
    rcases q with q1 | ⟨q1, q2⟩
    · go_enter Tryd.func6, Tryd.ntmps6
      go_wp2_with fail
      refine (shown2_any _ HT.out).mono ?_
      rintro e w1 ⟨rfl, hb1⟩
      go_wp2
      go_ret
      exact ⟨rfl, hb1⟩
    · go_enter Tryd.func6, Tryd.ntmps6
      go_wp2_with fail
      refine (shown2_any _ HT.out).mono ?_
      rintro e w1 ⟨rfl, hb1⟩
      go_wp2
      go_ret
      exact ⟨rfl, hb1⟩
end Go.Proofs.YthcgcljmiokabaaDoor
