/-
  The document's Parse and ParseAll: what they answer.
  The chapter's example (at the head of the statements of chapter 2).
  What the document's Same and SameAll answer at nodes that are alike: true.
  CodecParses walked.
-/
import Derived.Test.YtggoebbfgkebcaaDoorMI
import Derived.Test.YtggoebbfgkebcaaDoorMJ
import Derived.Test.YtggoebbfgkebcaaDoorMB
import Derived.Test.YtggoebbfgkebcaaDoorMF
import Derived.Test.YtggoebbfgkebcaaDoorMA
import Derived.Lib.QuietBelow
namespace Go.Proofs.YtggoebbfgkebcaaDoor
open Go.RowKit Go.Sort Go.Maps

theorem rr_node_all : ∀ n, RNode n
  | 0 => fun R S k w h hs hk hn hn6 => absurd hn (by omega)
  | n + 1 => rr_node n (rr_nodes n (rr_node_all n))

set_option maxHeartbeats 2000000 in
theorem rr_Node (R : Nat) (S : ByteArray) (w : World) (h : RR w R S 0 false) (hs : S.size ≤ 124000) :
    Calls Tryd.prog 14 #[.pointer (some ⟨R, 0, none⟩)] w (NodPost R S 0 w) := by
  have hRw := h.lt
  have HR := Lib.hid h
  have hb1 : Below w.heap.size w (w.alloc (.cells #[.string ⟨#[]⟩, .string ⟨#[]⟩, .slice none 0 0, .slice none 0 0, .slice none 0 0] 27)) := (Below.refl _ _).alloc (Nat.le_refl _) _
  have H1 := Lib.hid (h.below hb1 h.lt)
  have O1 := Lib.hid (OnlyR.of_below R hb1)
  have HC : Hid ((w.alloc (.cells #[.string ⟨#[]⟩, .string ⟨#[]⟩, .slice none 0 0, .slice none 0 0, .slice none 0 0] 27)).heap[w.heap.size]? = some (.cells #[.string ⟨#[]⟩, .string ⟨#[]⟩, .slice none 0 0, .slice none 0 0, .slice none 0 0] 27)) := Lib.hid (heap_alloc_new w _)
  have hz1 : w.heap.size < (w.alloc (.cells #[.string ⟨#[]⟩, .string ⟨#[]⟩, .slice none 0 0, .slice none 0 0, .slice none 0 0] 27)).heap.size := by simp
  obtain ⟨c0, c1, c2⟩ := H1.out.three
  clear h hb1
  go_enter Tryd.func14, Tryd.ntmps14
  go_upto_region 1 with fail
  generalize w.alloc (.cells #[.string ⟨#[]⟩, .string ⟨#[]⟩, .slice none 0 0, .slice none 0 0, .slice none 0 0] 27) = w1 at *
  go_wp2_with fail
  have HE : Hid ((S.size : Int) + 1 = ((S.size + 1 : Nat) : Int)) := Lib.hid (by omega)
  rw [HE.out]
  refine (rr_node_all (S.size + 1) R S 0 w1 H1.out hs (Nat.zero_le _) (by omega) (by omega)).mono ?_
  rintro e w2 ⟨v, t, j, y, rfl, hn, h2, o2, hk⟩
  obtain ⟨vm, va, vk, rfl, hm, ha, hkk⟩ := hn
  obtain ⟨A1, n1, rfl, _⟩ := hm.form
  obtain ⟨A2, n2, rfl, _⟩ := ha.form
  obtain ⟨A3, n3, rfl, _⟩ := hkk.form
  have HND := Lib.hid (show Node w2 (From w1.heap.size w2.heap.size) (.agg #[.string t.kind, .string t.text, .slice A1 t.marks.length n1, .slice A2 t.attrs.length n2, .slice A3 t.kids.length n3]) t from ⟨_, _, _, rfl, hm, ha, hkk⟩)
  have hc2 := (o2.block _ hz1 (by omega)).trans HC.out
  have HC2 := Lib.hid hc2
  have H2 := Lib.hid h2
  have O2 := Lib.hid (O1.out.trans o2)
  have HK := Lib.hid hk
  have hz2 := o2.size
  obtain ⟨d0, d1, d2, d3, d4⟩ := five_cells hc2
  have f0 := frozen_of_row w2 _ 0 _ _ hc2
  have f1 := frozen_of_row w2 _ 1 _ _ hc2
  have f2 := frozen_of_row w2 _ 2 _ _ hc2
  have f3 := frozen_of_row w2 _ 3 _ _ hc2
  have f4 := frozen_of_row w2 _ 4 _ _ hc2
  clear hm ha hkk h2 o2 hk hc2 c0 c1 c2 HR
  go_wp2
  have q := put5_at HC2.out (.string t.kind) (.string t.text) (.slice A1 t.marks.length n1) (.slice A2 t.attrs.length n2) (.slice A3 t.kids.length n3)
  have o4 := put5_only w2 w.heap.size (.string t.kind) (.string t.text) (.slice A1 t.marks.length n1) (.slice A2 t.attrs.length n2) (.slice A3 t.kids.length n3)
  change bodyPost _ _ _ _ _ (put5 w2 w.heap.size (.string t.kind) (.string t.text) (.slice A1 t.marks.length n1) (.slice A2 t.attrs.length n2) (.slice A3 t.kids.length n3))
  generalize put5 w2 w.heap.size (.string t.kind) (.string t.text) (.slice A1 t.marks.length n1) (.slice A2 t.attrs.length n2) (.slice A3 t.kids.length n3) = W at *
  have hb4 : Below w.heap.size w2 W := o4.below (Nat.le_refl _) (by omega)
  have hz4 := o4.size
  obtain ⟨q0, q1, q2, q3, q4⟩ := five_cells q
  refine bodyPost_ret (v := .agg #[.string t.kind, .string t.text, .slice A1 t.marks.length n1, .slice A2 t.attrs.length n2, .slice A3 t.kids.length n3]) (by simp [results, Tryd.results14, go_sem, q0, q1, q2, q3, q4]) rfl ⟨_, t, j, y, rfl, ?_, H2.out.below hb4 hRw, O2.out.thenBelow hb4 (Nat.le_refl _), HK.out⟩
  exact HND.out.keep (fun b hb => ⟨by have := hb.1; omega, by have := hb.2; omega⟩) fun b hb => o4.block b hb.2 (by have := hb.1; omega)

theorem NodK.whole {S : ByteArray} {t : Tree} {j : Nat} {y : Bool} (h : NodK S 0 t j y) {u : Tree} (hf : formedB u = true) (hw : writeB u = S.data.toList) : t = u ∧ j = S.size ∧ y = false := by
  obtain ⟨h1, h2, h3⟩ := h.back u [] hf aft_nil (by unfold left; rw [hw]; simp)
  have h4 := congrArg List.length h2
  rw [left_len, List.length_nil] at h4
  have := h.le
  exact ⟨h1, by omega, h3⟩

set_option maxHeartbeats 8000000 in
theorem rparse_any (S : ByteArray) (w : World) (hs : S.size ≤ 124000) :
    Calls Tryd.prog 6 #[.string S] w (ParsePost w (parseB S.data.toList)) := by
  have hb1 : Below w.heap.size w (w.alloc (.cells #[.string ⟨#[]⟩, .string ⟨#[]⟩, .slice none 0 0, .slice none 0 0, .slice none 0 0] 27)) := (Below.refl _ _).alloc (Nat.le_refl _) _
  have HC : Hid ((w.alloc (.cells #[.string ⟨#[]⟩, .string ⟨#[]⟩, .slice none 0 0, .slice none 0 0, .slice none 0 0] 27)).heap[w.heap.size]? = some (.cells #[.string ⟨#[]⟩, .string ⟨#[]⟩, .slice none 0 0, .slice none 0 0, .slice none 0 0] 27)) := Lib.hid (heap_alloc_new w _)
  have HB1 := Lib.hid hb1
  have hz1 : (w.alloc (.cells #[.string ⟨#[]⟩, .string ⟨#[]⟩, .slice none 0 0, .slice none 0 0, .slice none 0 0] 27)).heap.size = w.heap.size + 1 := by simp
  have HZ1 := Lib.hid hz1
  clear hb1 hz1
  go_enter Tryd.func6, Tryd.ntmps6
  go_upto_region 1 with fail
  generalize w.alloc (.cells #[.string ⟨#[]⟩, .string ⟨#[]⟩, .slice none 0 0, .slice none 0 0, .slice none 0 0] 27) = w1 at *
  go_upto_region 2 with fail
  have HRR : Hid (RR (w1.alloc (.cells #[.string S, .int .i64 0, .bool false] 45)) w1.heap.size S 0 false) := Lib.hid (heap_alloc_new w1 _)
  have HB2 : Hid (Below w1.heap.size w1 (w1.alloc (.cells #[.string S, .int .i64 0, .bool false] 45))) := Lib.hid ((Below.refl _ _).alloc (Nat.le_refl _) _)
  have HZ2 : Hid ((w1.alloc (.cells #[.string S, .int .i64 0, .bool false] 45)).heap.size = w1.heap.size + 1) := Lib.hid (by simp)
  generalize w1.alloc (.cells #[.string S, .int .i64 0, .bool false] 45) = w2 at *
  go_wp2_with fail
  refine (rr_Node w1.heap.size S w2 HRR.out hs).mono ?_
  rintro e w3 ⟨v, t, j, y, rfl, hn, h3, o3, hk⟩
  obtain ⟨vm, va, vk, rfl, hm, ha, hkk⟩ := hn
  obtain ⟨A1, n1, rfl, _⟩ := hm.form
  obtain ⟨A2, n2, rfl, _⟩ := ha.form
  obtain ⟨A3, n3, rfl, _⟩ := hkk.form
  have HND := Lib.hid (show Node w3 (From w2.heap.size w3.heap.size) (.agg #[.string t.kind, .string t.text, .slice A1 t.marks.length n1, .slice A2 t.attrs.length n2, .slice A3 t.kids.length n3]) t from ⟨_, _, _, rfl, hm, ha, hkk⟩)
  have HK := Lib.hid hk
  have hwt : weigh t ≤ 1000000 := by have := hk.weigh; have := hk.le; omega
  have HB3 : Hid (Below w.heap.size w w3) := Lib.hid (by
    have h1 := HZ1.out; have h2 := HZ2.out
    exact (HB1.out.trans (HB2.out.mono (by omega))).trans (o3.below (by omega) (by omega)))
  have HC3 : Hid (w3.heap[w.heap.size]? = some (.cells #[.string ⟨#[]⟩, .string ⟨#[]⟩, .slice none 0 0, .slice none 0 0, .slice none 0 0] 27)) := Lib.hid (by
    have h1 := HZ1.out; have h2 := HZ2.out
    exact (o3.block _ (by omega) (by omega)).trans ((HB2.out.block _ (by omega)).trans HC.out))
  have HZ3 : Hid (w.heap.size + 2 ≤ w3.heap.size) := Lib.hid (by have h1 := HZ1.out; have h2 := HZ2.out; have := o3.size; omega)
  have HRG : Hid (w1.heap.size = w.heap.size + 1) := HZ1
  have H3 := Lib.hid h3
  have HN2z : Hid (w.heap.size + 2 ≤ w2.heap.size) := Lib.hid (by have h1 := HZ1.out; have h2 := HZ2.out; omega)
  have HN2 : Hid (w.heap.size ≤ w2.heap.size) := Lib.hid (by have h1 := HZ1.out; have h2 := HZ2.out; omega)
  clear hm ha hkk h3 o3 hk HRR HB2 HZ2 HC HB1 HZ1
  go_upto_region 3 with fail
  have HB4 : Hid (Below w3.heap.size w3 (w3.alloc (.cells #[.string t.kind, .string t.text, .slice A1 t.marks.length n1, .slice A2 t.attrs.length n2, .slice A3 t.kids.length n3] 27))) := Lib.hid ((Below.refl _ _).alloc (Nat.le_refl _) _)
  have HX4 : Hid ((w3.alloc (.cells #[.string t.kind, .string t.text, .slice A1 t.marks.length n1, .slice A2 t.attrs.length n2, .slice A3 t.kids.length n3] 27)).heap[w3.heap.size]? = some (.cells #[.string t.kind, .string t.text, .slice A1 t.marks.length n1, .slice A2 t.attrs.length n2, .slice A3 t.kids.length n3] 27)) := Lib.hid (heap_alloc_new w3 _)
  generalize w3.alloc (.cells #[.string t.kind, .string t.text, .slice A1 t.marks.length n1, .slice A2 t.attrs.length n2, .slice A3 t.kids.length n3] 27) = w4 at *
  obtain ⟨b0, b1, b2⟩ := RR.three (RR.below H3.out HB4.out H3.out.lt)
  obtain ⟨x0, x1, x2, x3, x4⟩ := five_cells HX4.out
  have HB5 := HB4
  have hRz := H3.out.lt
  cases y with
  | true =>
    have HP : Hid (parseB S.data.toList = (noTree, 2)) := Lib.hid (parse_no2 fun u hf hw => by have := (HK.out.whole hf hw).2.2; cases this)
    have HCX := Lib.hid (((HB5.out).block _ (by have := HZ3.out; omega : w.heap.size < w3.heap.size)).trans HC3.out)
    obtain ⟨d0, d1, d2, d3, d4⟩ := five_cells HCX.out
    have f0 := frozen_of_row w4 _ 0 _ _ HCX.out
    have f1 := frozen_of_row w4 _ 1 _ _ HCX.out
    have f2 := frozen_of_row w4 _ 2 _ _ HCX.out
    have f3 := frozen_of_row w4 _ 3 _ _ HCX.out
    have f4 := frozen_of_row w4 _ 4 _ _ HCX.out
    go_wp2
    have q := put5_at HCX.out (.string ⟨#[]⟩) (.string ⟨#[]⟩) (.slice none 0 0) (.slice none 0 0) (.slice none 0 0)
    have o5 := put5_only w4 w.heap.size (.string ⟨#[]⟩) (.string ⟨#[]⟩) (.slice none 0 0) (.slice none 0 0) (.slice none 0 0)
    change bodyPost _ _ _ _ _ (put5 w4 w.heap.size (.string ⟨#[]⟩) (.string ⟨#[]⟩) (.slice none 0 0) (.slice none 0 0) (.slice none 0 0))
    generalize put5 w4 w.heap.size (.string ⟨#[]⟩) (.string ⟨#[]⟩) (.slice none 0 0) (.slice none 0 0) (.slice none 0 0) = W at *
    have hbW : Below w.heap.size w4 W := o5.below (Nat.le_refl _) (by have := HZ3.out; have := HB5.out.size; omega)
    obtain ⟨q0, q1, q2, q3, q4⟩ := five_cells q
    rw [HP.out]
    refine bodyPost_ret (v := .tuple #[.agg #[.string ⟨#[]⟩, .string ⟨#[]⟩, .slice none 0 0, .slice none 0 0, .slice none 0 0], .int .i64 2]) (by simp [results, Tryd.results6, go_sem, q0, q1, q2, q3, q4]) rfl ⟨_, rfl, parse_none, (HB3.out.trans (HB5.out.mono (by have := HZ3.out; omega))).trans hbW⟩
  | false =>
    by_cases hj : j = S.size
    · subst hj
      have hj0 : ((S.size : Int) != (S.size : Int)) = false := by simp
      have HND4 : Hid (∀ W, Below w4.heap.size w4 W → Node W (Under W.heap.size) (.agg #[.string t.kind, .string t.text, .slice A1 t.marks.length n1, .slice A2 t.attrs.length n2, .slice A3 t.kids.length n3]) t) := Lib.hid fun W hW => (HND.out.keep (S' := Under w3.heap.size) (fun b hb => hb.2) fun _ _ => rfl).keep (fun b hb => Nat.lt_of_lt_of_le hb (Nat.le_trans HB4.out.size hW.size)) fun b hb => (hW.block b (Nat.lt_of_lt_of_le hb HB4.out.size)).trans (HB4.out.block b hb)
      clear HB5
      go_wp2_with fail
      refine (rwrite_any t _ w4 hwt (HND4.out w4 (Below.refl _ _))).mono ?_
      rintro e w5 ⟨rfl, hb5⟩
      have HB45 := Lib.hid hb5
      have HB5 : Hid (Below w3.heap.size w3 w5) := Lib.hid (belowNext HB4.out hb5)
      have HX5 := Lib.hid ((hb5.block _ (by have := HB4.out.size; have h := HX4.out; exact (Array.getElem?_eq_some_iff.1 h).1)).trans HX4.out)
      clear hb5 b0 b1 b2 x0 x1 x2 x3 x4
      obtain ⟨x0, x1, x2, x3, x4⟩ := five_cells HX5.out
      by_cases hw : writeB t = S.data.toList
      · have HTB : Hid (tB (writeB t) = S) := Lib.hid (by rw [hw]; exact (tB_of rfl).symm)
        rw [HTB.out]
        go_wp2_with fail
        refine (rformed_all t _ w5 hwt (HND4.out w5 HB45.out)).mono ?_
        rintro e w6 ⟨rfl, hb6⟩
        have HB46 := Lib.hid (belowNext HB45.out hb6)
        have HB6 : Hid (Below w3.heap.size w3 w6) := Lib.hid (belowNext HB5.out hb6)
        have HX6 := Lib.hid ((hb6.block _ (Array.getElem?_eq_some_iff.1 HX5.out).1).trans HX5.out)
        clear hb6 x0 x1 x2 x3 x4 HB5 HB45
        obtain ⟨x0, x1, x2, x3, x4⟩ := five_cells HX6.out
        cases hf : formedB t with
        | false =>
          have HP : Hid (parseB S.data.toList = (noTree, 2)) := Lib.hid (parse_no2 fun u hfu hwu => by
            have := (HK.out.whole hfu hwu).1
            rw [this, hfu] at hf; cases hf)
          clear hf
          have HCX := Lib.hid (((HB6.out).block _ (by have := HZ3.out; omega : w.heap.size < w3.heap.size)).trans HC3.out)
          obtain ⟨d0, d1, d2, d3, d4⟩ := five_cells HCX.out
          have f0 := frozen_of_row w6 _ 0 _ _ HCX.out
          have f1 := frozen_of_row w6 _ 1 _ _ HCX.out
          have f2 := frozen_of_row w6 _ 2 _ _ HCX.out
          have f3 := frozen_of_row w6 _ 3 _ _ HCX.out
          have f4 := frozen_of_row w6 _ 4 _ _ HCX.out
          go_wp2
          have q := put5_at HCX.out (.string ⟨#[]⟩) (.string ⟨#[]⟩) (.slice none 0 0) (.slice none 0 0) (.slice none 0 0)
          have o5 := put5_only w6 w.heap.size (.string ⟨#[]⟩) (.string ⟨#[]⟩) (.slice none 0 0) (.slice none 0 0) (.slice none 0 0)
          change bodyPost _ _ _ _ _ (put5 w6 w.heap.size (.string ⟨#[]⟩) (.string ⟨#[]⟩) (.slice none 0 0) (.slice none 0 0) (.slice none 0 0))
          generalize put5 w6 w.heap.size (.string ⟨#[]⟩) (.string ⟨#[]⟩) (.slice none 0 0) (.slice none 0 0) (.slice none 0 0) = W at *
          have hbW : Below w.heap.size w6 W := o5.below (Nat.le_refl _) (by have := HZ3.out; have := HB6.out.size; omega)
          obtain ⟨q0, q1, q2, q3, q4⟩ := five_cells q
          rw [HP.out]
          refine bodyPost_ret (v := .tuple #[.agg #[.string ⟨#[]⟩, .string ⟨#[]⟩, .slice none 0 0, .slice none 0 0, .slice none 0 0], .int .i64 2]) (by simp [results, Tryd.results6, go_sem, q0, q1, q2, q3, q4]) rfl ⟨_, rfl, parse_none, (HB3.out.trans (HB6.out.mono (by have := HZ3.out; omega))).trans hbW⟩
        | true =>
          have HPF := Lib.hid (parse_formed hf)
          rw [hw] at HPF
          clear hf hw
          go_wp2_with fail
          refine (rcheck_any t _ w6 hwt (HND4.out w6 HB46.out)).mono ?_
          rintro e w7 ⟨rfl, hb7⟩
          have HB7 : Hid (Below w3.heap.size w3 w7) := Lib.hid (belowNext HB6.out hb7)
          have HX7 := Lib.hid ((hb7.block _ (Array.getElem?_eq_some_iff.1 HX6.out).1).trans HX6.out)
          clear hb7 x0 x1 x2 x3 x4
          obtain ⟨x0, x1, x2, x3, x4⟩ := five_cells HX7.out
          by_cases hc : checkB t = 0
          · have HP : Hid (parseB S.data.toList = (t, 0)) := Lib.hid (by rw [HPF.out, if_pos hc])
            have hcb : (checkB t != 0) = false := by simpa using hc
            rw [hc]
            clear hcb
            have HCX := Lib.hid (((HB7.out).block _ (by have := HZ3.out; omega : w.heap.size < w3.heap.size)).trans HC3.out)
            obtain ⟨d0, d1, d2, d3, d4⟩ := five_cells HCX.out
            have f0 := frozen_of_row w7 _ 0 _ _ HCX.out
            have f1 := frozen_of_row w7 _ 1 _ _ HCX.out
            have f2 := frozen_of_row w7 _ 2 _ _ HCX.out
            have f3 := frozen_of_row w7 _ 3 _ _ HCX.out
            have f4 := frozen_of_row w7 _ 4 _ _ HCX.out
            go_wp2
            have q := put5_at HCX.out (.string t.kind) (.string t.text) (.slice A1 t.marks.length n1) (.slice A2 t.attrs.length n2) (.slice A3 t.kids.length n3)
            have o5 := put5_only w7 w.heap.size (.string t.kind) (.string t.text) (.slice A1 t.marks.length n1) (.slice A2 t.attrs.length n2) (.slice A3 t.kids.length n3)
            change bodyPost _ _ _ _ _ (put5 w7 w.heap.size (.string t.kind) (.string t.text) (.slice A1 t.marks.length n1) (.slice A2 t.attrs.length n2) (.slice A3 t.kids.length n3))
            generalize put5 w7 w.heap.size (.string t.kind) (.string t.text) (.slice A1 t.marks.length n1) (.slice A2 t.attrs.length n2) (.slice A3 t.kids.length n3) = W at *
            have hbW : Below w.heap.size w7 W := o5.below (Nat.le_refl _) (by have := HZ3.out; have := HB7.out.size; omega)
            obtain ⟨q0, q1, q2, q3, q4⟩ := five_cells q
            rw [HP.out]
            refine bodyPost_ret (v := .tuple #[.agg #[.string t.kind, .string t.text, .slice A1 t.marks.length n1, .slice A2 t.attrs.length n2, .slice A3 t.kids.length n3], .int .i64 0]) (by simp [results, Tryd.results6, go_sem, q0, q1, q2, q3, q4]) rfl ⟨_, rfl, ?_, (HB3.out.trans (HB7.out.mono (by have := HZ3.out; omega))).trans hbW⟩
            exact HND.out.keep (fun b hb => ⟨by have := HN2.out; have := hb.1; omega, by have := hb.2; have := HB7.out.size; have := o5.size; omega⟩) fun b hb => (o5.block b (by have := hb.2; have := HB7.out.size; omega) (by have := HN2z.out; have := hb.1; omega)).trans (HB7.out.block b hb.2)
          · have HP : Hid (parseB S.data.toList = (noTree, checkB t)) := Lib.hid (by rw [HPF.out, if_neg hc])
            have hcb : (checkB t != 0) = true := by simpa using hc
            generalize checkB t = r at *
            have HCX := Lib.hid (((HB7.out).block _ (by have := HZ3.out; omega : w.heap.size < w3.heap.size)).trans HC3.out)
            obtain ⟨d0, d1, d2, d3, d4⟩ := five_cells HCX.out
            have f0 := frozen_of_row w7 _ 0 _ _ HCX.out
            have f1 := frozen_of_row w7 _ 1 _ _ HCX.out
            have f2 := frozen_of_row w7 _ 2 _ _ HCX.out
            have f3 := frozen_of_row w7 _ 3 _ _ HCX.out
            have f4 := frozen_of_row w7 _ 4 _ _ HCX.out
            go_wp2
            have q := put5_at HCX.out (.string ⟨#[]⟩) (.string ⟨#[]⟩) (.slice none 0 0) (.slice none 0 0) (.slice none 0 0)
            have o5 := put5_only w7 w.heap.size (.string ⟨#[]⟩) (.string ⟨#[]⟩) (.slice none 0 0) (.slice none 0 0) (.slice none 0 0)
            change bodyPost _ _ _ _ _ (put5 w7 w.heap.size (.string ⟨#[]⟩) (.string ⟨#[]⟩) (.slice none 0 0) (.slice none 0 0) (.slice none 0 0))
            generalize put5 w7 w.heap.size (.string ⟨#[]⟩) (.string ⟨#[]⟩) (.slice none 0 0) (.slice none 0 0) (.slice none 0 0) = W at *
            have hbW : Below w.heap.size w7 W := o5.below (Nat.le_refl _) (by have := HZ3.out; have := HB7.out.size; omega)
            obtain ⟨q0, q1, q2, q3, q4⟩ := five_cells q
            rw [HP.out]
            refine bodyPost_ret (v := .tuple #[.agg #[.string ⟨#[]⟩, .string ⟨#[]⟩, .slice none 0 0, .slice none 0 0, .slice none 0 0], .int .i64 r]) (by simp [results, Tryd.results6, go_sem, q0, q1, q2, q3, q4]) rfl ⟨_, rfl, parse_none, (HB3.out.trans (HB7.out.mono (by have := HZ3.out; omega))).trans hbW⟩
      · have HP : Hid (parseB S.data.toList = (noTree, 2)) := Lib.hid (parse_no2 fun u hfu hwu => by
          have := (HK.out.whole hfu hwu).1
          rw [← this] at hwu; exact hw hwu)
        have hne : ((tB (writeB t)).toList != S.toList) = true := by
          rw [bne_iff_ne]; intro e; apply hw
          have e2 : tB (writeB t) = S := bytes_of (by rw [← Lib.toList_data, ← Lib.toList_data, e])
          rw [← e2, tB_data]
        have hne2 : ¬ (tB (writeB t)).toList = S.toList := by rw [bne_iff_ne] at hne; exact hne
        generalize tB (writeB t) = sw at *
        clear hw
        have HCX := Lib.hid (((HB5.out).block _ (by have := HZ3.out; omega : w.heap.size < w3.heap.size)).trans HC3.out)
        obtain ⟨d0, d1, d2, d3, d4⟩ := five_cells HCX.out
        have f0 := frozen_of_row w5 _ 0 _ _ HCX.out
        have f1 := frozen_of_row w5 _ 1 _ _ HCX.out
        have f2 := frozen_of_row w5 _ 2 _ _ HCX.out
        have f3 := frozen_of_row w5 _ 3 _ _ HCX.out
        have f4 := frozen_of_row w5 _ 4 _ _ HCX.out
        go_wp2
        have q := put5_at HCX.out (.string ⟨#[]⟩) (.string ⟨#[]⟩) (.slice none 0 0) (.slice none 0 0) (.slice none 0 0)
        have o5 := put5_only w5 w.heap.size (.string ⟨#[]⟩) (.string ⟨#[]⟩) (.slice none 0 0) (.slice none 0 0) (.slice none 0 0)
        change bodyPost _ _ _ _ _ (put5 w5 w.heap.size (.string ⟨#[]⟩) (.string ⟨#[]⟩) (.slice none 0 0) (.slice none 0 0) (.slice none 0 0))
        generalize put5 w5 w.heap.size (.string ⟨#[]⟩) (.string ⟨#[]⟩) (.slice none 0 0) (.slice none 0 0) (.slice none 0 0) = W at *
        have hbW : Below w.heap.size w5 W := o5.below (Nat.le_refl _) (by have := HZ3.out; have := HB5.out.size; omega)
        obtain ⟨q0, q1, q2, q3, q4⟩ := five_cells q
        rw [HP.out]
        refine bodyPost_ret (v := .tuple #[.agg #[.string ⟨#[]⟩, .string ⟨#[]⟩, .slice none 0 0, .slice none 0 0, .slice none 0 0], .int .i64 2]) (by simp [results, Tryd.results6, go_sem, q0, q1, q2, q3, q4]) rfl ⟨_, rfl, parse_none, (HB3.out.trans (HB5.out.mono (by have := HZ3.out; omega))).trans hbW⟩
    · have HP : Hid (parseB S.data.toList = (noTree, 2)) := Lib.hid (parse_no2 fun u hf hw => hj (HK.out.whole hf hw).2.1)
      have hjn : ((j : Int) != (S.size : Int)) = true := by simpa using fun e : (j : Int) = (S.size : Int) => hj (by omega)
      have hjn2 : ¬ (j : Int) = (S.size : Int) := fun e => hj (by omega)
      have HCX := Lib.hid (((HB5.out).block _ (by have := HZ3.out; omega : w.heap.size < w3.heap.size)).trans HC3.out)
      obtain ⟨d0, d1, d2, d3, d4⟩ := five_cells HCX.out
      have f0 := frozen_of_row w4 _ 0 _ _ HCX.out
      have f1 := frozen_of_row w4 _ 1 _ _ HCX.out
      have f2 := frozen_of_row w4 _ 2 _ _ HCX.out
      have f3 := frozen_of_row w4 _ 3 _ _ HCX.out
      have f4 := frozen_of_row w4 _ 4 _ _ HCX.out
      go_wp2
      have q := put5_at HCX.out (.string ⟨#[]⟩) (.string ⟨#[]⟩) (.slice none 0 0) (.slice none 0 0) (.slice none 0 0)
      have o5 := put5_only w4 w.heap.size (.string ⟨#[]⟩) (.string ⟨#[]⟩) (.slice none 0 0) (.slice none 0 0) (.slice none 0 0)
      change bodyPost _ _ _ _ _ (put5 w4 w.heap.size (.string ⟨#[]⟩) (.string ⟨#[]⟩) (.slice none 0 0) (.slice none 0 0) (.slice none 0 0))
      generalize put5 w4 w.heap.size (.string ⟨#[]⟩) (.string ⟨#[]⟩) (.slice none 0 0) (.slice none 0 0) (.slice none 0 0) = W at *
      have hbW : Below w.heap.size w4 W := o5.below (Nat.le_refl _) (by have := HZ3.out; have := HB5.out.size; omega)
      obtain ⟨q0, q1, q2, q3, q4⟩ := five_cells q
      rw [HP.out]
      refine bodyPost_ret (v := .tuple #[.agg #[.string ⟨#[]⟩, .string ⟨#[]⟩, .slice none 0 0, .slice none 0 0, .slice none 0 0], .int .i64 2]) (by simp [results, Tryd.results6, go_sem, q0, q1, q2, q3, q4]) rfl ⟨_, rfl, parse_none, (HB3.out.trans (HB5.out.mono (by have := HZ3.out; omega))).trans hbW⟩
end Go.Proofs.YtggoebbfgkebcaaDoor

namespace Go.Proofs.YtggoebbfgkebcaaDoor
open Go.RowKit Go.Sort

def BB : ByteArray := ⟨#[98]⟩
def ALIGN : ByteArray := ⟨#[97, 108, 105, 103, 110]⟩
def DOC : ByteArray := ⟨#[100, 111, 99]⟩
def exBang : Tree := .mk TEXT ⟨#[33]⟩ [BB] [] []
def exHi : Tree := .mk TEXT ⟨#[104, 105]⟩ [] [] []
def exPara : Tree := .mk ⟨#[112, 97, 114, 97]⟩ ByteArray.empty [] [(ALIGN, ⟨#[108, 101, 102, 116]⟩)] [exHi, exBang]
def exDoc : Tree := .mk DOC ByteArray.empty [] [] [exPara]
theorem exDoc_weigh : weigh exDoc ≤ 1000000 := by decide +kernel
theorem exDoc_check : checkB exDoc = 0 := by decide +kernel
theorem exDoc_print : printB exDoc = [100, 111, 99, 91, 112, 97, 114, 97, 40, 97, 108, 105, 103, 110, 61, 34, 108, 101, 102, 116, 34, 41, 91, 34, 104, 105, 34, 34, 33, 34, 60, 98, 62, 93, 93] := by decide +kernel

theorem strs_one {w : World} {S : Nat → Prop} {g : Nat} {s : ByteArray} (h : w.cell? ⟨g, 0, none⟩ = some (.string s)) (hS : S g) : Strs w S (.slice (some ⟨g, 0, none⟩) 1 1) [s] :=
  ⟨_, 1, rfl, Nat.le_refl _, by unfold maxLen; omega, .inr ⟨g, 0, rfl, hS, fun i s' hi => by
    match i, hi with
    | 0, hi => simp at hi; subst hi; exact h
    | i + 1, hi => simp at hi⟩⟩
theorem pairs_one {w : World} {S : Nat → Prop} {g : Nat} {p : ByteArray × ByteArray} {s t : ByteArray} (h : w.cell? ⟨g, 0, none⟩ = some (.string s)) (h' : w.cell? ⟨g, 1, none⟩ = some (.string t)) (hs : p.1 = s) (ht : p.2 = t) (hS : S g) : Pairs w S (.slice (some ⟨g, 0, none⟩) 1 1) [p] :=
  ⟨_, 1, rfl, Nat.le_refl _, by unfold maxLen; omega, .inr ⟨g, 0, rfl, hS, fun i s' hi => by
    match i, hi with
    | 0, hi => simp at hi; subst hi hs ht; exact ⟨h, h'⟩
    | i + 1, hi => simp at hi⟩⟩

theorem kids_block {w : World} {S : Nat → Prop} {g n : Nat} {arr : Array Value} {T : TypeId} {l : List Tree} (hh : w.heap[g]? = some (.cells arr T)) (hc : Cells w S l arr.toList) (hn : l.length = n) (hS : S g) (hm : n ≤ 1000000 := by decide) : Kids w S (.slice (some ⟨g, 0, none⟩) n n) l := by
  subst hn
  refine ⟨_, l.length, rfl, Nat.le_refl _, by unfold maxLen; omega, .inr ⟨g, 0, rfl, hS, rowAt_cells hc fun j u hj => ?_⟩⟩
  simp only [World.cell?, hh]
  simpa using hj


set_option maxHeartbeats 1000000 in
theorem shown2_any (w : World) (hT : Tabs w) : Calls Tryd.prog 4 #[] w fun e w' => e = .returned (.bool true) ∧ Below w.heap.size w w' := by
  have HT := Lib.hid hT
  clear hT
  go_enter Tryd.func4, Tryd.ntmps4
  go_wp2_with fail
  generalize hW6 : (((((w.alloc _).alloc _).alloc _).alloc _).alloc _).alloc _ = W6
  have hB : Below w.heap.size w W6 := by subst hW6; exact ((((((Below.refl _ _).alloc (Nat.le_refl _) _).alloc (by simp) _).alloc (by simp; omega) _).alloc (by simp; omega) _).alloc (by simp; omega) _).alloc (by simp; omega) _
  have hz : W6.heap.size = w.heap.size + 1 + 1 + 1 + 1 + 1 + 1 := by subst hW6; simp
  have g0 : W6.heap[w.heap.size]? = some (.cells #[.string ⟨#[98]⟩] 9) := by subst hW6; exact heap_old _ _ _ (heap_old _ _ _ (heap_old _ _ _ (heap_old _ _ _ (heap_old _ _ _ (heap_new _ _)))))
  have g2 : W6.heap[w.heap.size + 1 + 1]? = some (.cells #[.string ⟨#[97, 108, 105, 103, 110]⟩, .string ⟨#[108, 101, 102, 116]⟩] 37) := by subst hW6; exact heap_old _ _ _ (heap_old _ _ _ (heap_old _ _ _ (heap_new' _ _ (by simp))))
  have g3 : W6.heap[w.heap.size + 1 + 1 + 1]? = some (.cells #[.string ⟨#[116, 101, 120, 116]⟩, .string ⟨#[104, 105]⟩, .slice none 0 0, .slice none 0 0, .slice none 0 0, .string ⟨#[116, 101, 120, 116]⟩, .string ⟨#[33]⟩, .slice (some ⟨w.heap.size, 0, none⟩) 1 1, .slice none 0 0, .slice none 0 0] 27) := by subst hW6; exact heap_old _ _ _ (heap_old _ _ _ (heap_new' _ _ (by simp)))
  have g4 : W6.heap[w.heap.size + 1 + 1 + 1 + 1]? = some (.cells #[.string ⟨#[112, 97, 114, 97]⟩, .string ⟨#[]⟩, .slice none 0 0, .slice (some ⟨w.heap.size + 1 + 1, 0, none⟩) 1 1, .slice (some ⟨w.heap.size + 1 + 1 + 1, 0, none⟩) 2 2] 27) := by subst hW6; exact heap_old _ _ _ (heap_new' _ _ (by simp))
  clear hW6
  have m0 : Strs W6 (Under W6.heap.size) (.slice (some ⟨w.heap.size, 0, none⟩) 1 1) [BB] := strs_one (by simp only [World.cell?, g0]; rfl) (by unfold Under; omega)
  have a0 : Pairs W6 (Under W6.heap.size) (.slice (some ⟨w.heap.size + 1 + 1, 0, none⟩) 1 1) [(ALIGN, ⟨#[108, 101, 102, 116]⟩)] := pairs_one (s := ALIGN) (t := ⟨#[108, 101, 102, 116]⟩) (by simp only [World.cell?, g2]; rfl) (by simp only [World.cell?, g2]; rfl) rfl rfl (by unfold Under; omega)
  have k0 : Kids W6 (Under W6.heap.size) (.slice (some ⟨w.heap.size + 1 + 1 + 1, 0, none⟩) 2 2) [exHi, exBang] := kids_block g3 ⟨_, _, _, _, rfl, strs_none, pairs_none, kids_none, _, _, _, _, rfl, m0, pairs_none, kids_none, rfl⟩ rfl (by unfold Under; omega)
  have k1 : Kids W6 (Under W6.heap.size) (.slice (some ⟨w.heap.size + 1 + 1 + 1 + 1, 0, none⟩) 1 1) [exPara] := kids_block g4 ⟨_, _, _, _, rfl, strs_none, a0, k0, rfl⟩ rfl (by unfold Under; omega)
  have HN : Hid (Node W6 (Under W6.heap.size) (.agg #[.string ⟨#[100, 111, 99]⟩, .string ⟨#[]⟩, .slice none 0 0, .slice none 0 0, .slice (some ⟨w.heap.size + 1 + 1 + 1 + 1, 0, none⟩) 1 1]) exDoc) := Lib.hid ⟨_, _, _, rfl, strs_none, pairs_none, k1⟩
  clear g0 g2 g3 g4 m0 a0 k0 k1 hz
  refine (print_any _ exDoc W6 HN.out exDoc_weigh (HT.out.below hB)).mono ?_
  rintro e w7 ⟨rfl, hb7⟩
  rw [exDoc_print, exDoc_check]
  have hB7 := belowNext hB hb7
  clear hb7
  go_wp2
  go_ret
  exact ⟨rfl, hB7⟩
end Go.Proofs.YtggoebbfgkebcaaDoor

namespace Go.Proofs.YtggoebbfgkebcaaDoor
open Go.RowKit Go.Sort

theorem sameL_refl (l : List ByteArray) : sameL l l = true := by
  simp [sameL]

def SameSaid (n : Nat) : Prop := ∀ (l : List Tree) (va vb : Value) (w : World), weighAll l ≤ n → weighAll l ≤ 1000000 → Kids w (Under w.heap.size) va l → Kids w (Under w.heap.size) vb l →
    Calls Tryd.prog 10 #[va, vb] w fun e w' => e = .returned (.bool true) ∧ Below w.heap.size w w'

set_option maxHeartbeats 2000000 in
theorem same_of (n : Nat) (IH : Hid (SameSaid n)) (t : Tree) (va vb : Value) (w : World) (hn : weighAll t.kids ≤ n) (hw : weigh t ≤ 1000000) (ha : Node w (Under w.heap.size) va t) (hb : Node w (Under w.heap.size) vb t) :
    Calls Tryd.prog 9 #[va, vb] w fun e w' => e = .returned (.bool true) ∧ Below w.heap.size w w' := by
  obtain ⟨am, aa, ak, rfl, ham, haa, hak⟩ := ha
  obtain ⟨bm, ba, bk, rfl, hbm, hba, hbk⟩ := hb
  obtain ⟨A1, c1, rfl, _⟩ := ham.form
  obtain ⟨A2, c2, rfl, _⟩ := haa.form
  obtain ⟨A3, c3, rfl, _⟩ := hak.form
  obtain ⟨B1, e1, rfl, _⟩ := hbm.form
  obtain ⟨B2, e2, rfl, _⟩ := hba.form
  obtain ⟨B3, e3, rfl, _⟩ := hbk.form
  have HM := Lib.hid (And.intro ham hbm)
  have HA := Lib.hid (And.intro haa hba)
  have HK := Lib.hid (And.intro hak hbk)
  clear ham haa hak hbm hba hbk
  generalize hW2 : (w.alloc (.cells #[.string t.kind, .string t.text, .slice A1 t.marks.length c1, .slice A2 t.attrs.length c2, .slice A3 t.kids.length c3] 27)).alloc (.cells #[.string t.kind, .string t.text, .slice B1 t.marks.length e1, .slice B2 t.attrs.length e2, .slice B3 t.kids.length e3] 27) = W2
  obtain ⟨z0, z1, z2, z3, z4, hz, hzz⟩ := box5 (w := w) (T := 27) (v0 := .string t.kind) (v1 := .string t.text) (v2 := .slice A1 t.marks.length c1) (v3 := .slice A2 t.attrs.length c2) (v4 := .slice A3 t.kids.length c3) (Below.refl _ _)
  obtain ⟨y0, y1, y2, y3, y4, hy, hyy⟩ := box5 (w := w.alloc (.cells #[.string t.kind, .string t.text, .slice A1 t.marks.length c1, .slice A2 t.attrs.length c2, .slice A3 t.kids.length c3] 27)) (T := 27) (v0 := .string t.kind) (v1 := .string t.text) (v2 := .slice B1 t.marks.length e1) (v3 := .slice B2 t.attrs.length e2) (v4 := .slice B3 t.kids.length e3) (Below.refl _ _)
  rw [hW2] at y0 y1 y2 y3 y4 hy hyy
  rw [show (w.alloc (.cells #[.string t.kind, .string t.text, .slice A1 t.marks.length c1, .slice A2 t.attrs.length c2, .slice A3 t.kids.length c3] 27)).heap.size = w.heap.size + 1 by simp] at y0 y1 y2 y3 y4 hyy
  replace z0 := cell_kept z0 hy
  replace z1 := cell_kept z1 hy
  replace z2 := cell_kept z2 hy
  replace z3 := cell_kept z3 hy
  replace z4 := cell_kept z4 hy
  have HB2 := Lib.hid (belowNext hz hy)
  have HC := Lib.hid (And.intro (And.intro z0 (And.intro z1 (And.intro z2 (And.intro z3 z4)))) (And.intro y0 (And.intro y1 (And.intro y2 (And.intro y3 y4)))))
  have HW2 := Lib.hid hW2
  clear hW2 z0 z1 z2 z3 z4 y0 y1 y2 y3 y4 hz hzz hy hyy
  have hwm : weighL t.marks + weighP t.attrs + weighAll t.kids ≤ weigh t := by obtain ⟨k, t, m, a, l⟩ := t; simp only [weigh, Tree.marks, Tree.attrs, Tree.kids]; omega
  have hal := length_le_weighP t.attrs
  go_enter Tryd.func9, Tryd.ntmps9
  go_wp2_with fail
  rw [HW2.out]
  refine (sameNames_any _ _ t.marks t.marks _ _ W2 (HM.out.1.below HB2.out) (HM.out.2.below HB2.out) (by omega)).mono ?_
  rintro e w1 ⟨rfl, n1, hn1⟩
  rw [sameL_refl]
  have hb1 : Below W2.heap.size W2 w1 := by subst hn1; exact ⟨rfl, rfl, rfl, Nat.le_refl _, fun _ _ => rfl⟩
  clear hn1
  obtain ⟨⟨z0, z1, z2, z3, z4⟩, y0, y1, y2, y3, y4⟩ := HC.out
  replace z0 := cell_kept z0 hb1
  replace z1 := cell_kept z1 hb1
  replace z2 := cell_kept z2 hb1
  replace z3 := cell_kept z3 hb1
  replace z4 := cell_kept z4 hb1
  replace y0 := cell_kept y0 hb1
  replace y1 := cell_kept y1 hb1
  replace y2 := cell_kept y2 hb1
  replace y3 := cell_kept y3 hb1
  replace y4 := cell_kept y4 hb1
  have hB1 := belowNext HB2.out hb1
  have hl1 := cell_lt z0
  have hl2 := cell_lt y0
  clear hb1
  go_wp2
  have HC1 := Lib.hid (And.intro z3 (And.intro z4 (And.intro y3 y4)))
  clear z0 z1 z2 z3 z4 y0 y1 y2 y3 y4
  go_loopw [5] (fun i wr => ∃ k n : Nat, k ≤ t.attrs.length ∧ i = .int .i64 k ∧ wr = w1.drewN n) (fun i _ => t.attrs.length - (intOf i).toNat)
  case atStart => exact ⟨0, 0, by omega, rfl, rfl⟩
  case round =>
    obtain ⟨i, n2, hi, rfl, rfl⟩ := hrel
    obtain ⟨z3, z4, y3, y4⟩ := HC1.out
    by_cases hlt : i < t.attrs.length
    · obtain ⟨b, o, rfl, hub, hcell⟩ := HA.out.1.get hlt
      obtain ⟨b', o', rfl, hub', hcell'⟩ := HA.out.2.get hlt
      have f0 := cell_kept (hcell i hlt).1 hB1
      have f1 := cell_kept (hcell i hlt).2 hB1
      have f2 := cell_kept (hcell' i hlt).1 hB1
      have f3 := cell_kept (hcell' i hlt).2 hB1
      have g1 := cell_lt f0
      have g2 := cell_lt f2
      generalize (pairAt t.attrs i) = pr at *
      clear hcell hcell' z4 y4
      go_wp2
      go_quiet (fail)
      go_wp2
      exact ⟨⟨i + 1, _, by omega, by go_num, rfl⟩, by simp [intOf]; omega⟩
    · go_wp2_with fail
      have HBD : Hid (Below w1.heap.size w1 (w1.drewN n2)) := Lib.hid ⟨rfl, rfl, rfl, Nat.le_refl _, fun _ _ => rfl⟩
      have hB2 := belowNext hB1 HBD.out
      refine (IH.out t.kids _ _ _ hn (by omega) ((HK.out.1.below hB2).more hB2.size) ((HK.out.2.below hB2).more hB2.size)).mono ?_
      rintro e w3 ⟨rfl, hb3⟩
      have hB3 := belowNext hB2 hb3
      clear z3 z4 y3 y4
      go_wp2
      go_ret
      exact ⟨rfl, hB3⟩

set_option maxHeartbeats 2000000 in
theorem sameAll_all : ∀ n, SameSaid n := by
  intro n
  induction n using Nat.strongRecOn with
  | ind n ih =>
    have IH := Lib.hid ih
    clear ih
    intro l va vb w hn hw ha hb
    have hlen : l.length ≤ 1000000 := by have := length_le_weigh l; omega
    have HA := Lib.hid ha
    have HB := Lib.hid hb
    obtain ⟨A, c, rfl, _⟩ := ha.form
    obtain ⟨B, d, rfl, _⟩ := hb.form
    clear ha hb
    go_enter Tryd.func10, Tryd.ntmps10
    go_wp2
    go_loopw [5] (fun i wr => ∃ k : Nat, k ≤ l.length ∧ i = .int .i64 k ∧ Below w.heap.size w wr) (fun i _ => l.length - (intOf i).toNat)
    case atStart => exact ⟨0, by omega, rfl, Below.refl _ _⟩
    case round =>
      obtain ⟨i, hi, rfl, hbr⟩ := hrel
      by_cases hlt : i < l.length
      · obtain ⟨b, o, rfl, hub, hrow⟩ := HA.out.get hlt
        obtain ⟨b', o', rfl, hub', hrow'⟩ := HB.out.get hlt
        have hlx : l[i]? = some l[i] := List.getElem?_eq_getElem hlt
        generalize hx : l[i] = x at *
        have hwx := weigh_mem (List.mem_of_getElem? hlx)
        have hkx := kids_weigh x
        obtain ⟨xm, xa, xk, e0, e1, e2, e3, e4, exm, exa, exk⟩ := hrow.node hlx
        obtain ⟨ym, ya, yk, d0, d1, d2, d3, d4, dxm, dxa, dxk⟩ := hrow'.node hlx
        have HXN : Hid (Node w (Under w.heap.size) (.agg #[.string x.kind, .string x.text, xm, xa, xk]) x) := Lib.hid ⟨_, _, _, rfl, exm, exa, exk⟩
        have HYN : Hid (Node w (Under w.heap.size) (.agg #[.string x.kind, .string x.text, ym, ya, yk]) x) := Lib.hid ⟨_, _, _, rfl, dxm, dxa, dxk⟩
        obtain ⟨A1, c1, rfl, _⟩ := exm.form
        obtain ⟨A2, c2, rfl, _⟩ := exa.form
        obtain ⟨A3, c3, rfl, _⟩ := exk.form
        obtain ⟨A4, c4, rfl, _⟩ := dxm.form
        obtain ⟨A5, c5, rfl, _⟩ := dxa.form
        obtain ⟨A6, c6, rfl, _⟩ := dxk.form
        have f0 := cell_kept e0 hbr
        have f1 := cell_kept e1 hbr
        have f2 := cell_kept e2 hbr
        have f3 := cell_kept e3 hbr
        have f4 := cell_kept e4 hbr
        have g0 := cell_kept d0 hbr
        have g1 := cell_kept d1 hbr
        have g2 := cell_kept d2 hbr
        have g3 := cell_kept d3 hbr
        have g4 := cell_kept d4 hbr
        have h1 := cell_lt f0
        have h2 := cell_lt g0
        clear e0 e1 e2 e3 e4 d0 d1 d2 d3 d4 exm exa exk dxm dxa dxk hx hlx hrow hrow'
        have HIH := Lib.hid (IH.out (weighAll x.kids) (by omega))
        have HS := Lib.hid (regrown_any (w := wr) fun W hW => same_of (weighAll x.kids) HIH x _ _ W (Nat.le_refl _) (by omega) ((HXN.out.below (hbr.trans (hW.mono hbr.size))).more (Nat.le_trans hbr.size hW.size)) ((HYN.out.below (hbr.trans (hW.mono hbr.size))).more (Nat.le_trans hbr.size hW.size)))
        have k0 := cell_regrown f0
        have k1 := cell_regrown f1
        have k2 := cell_regrown f2
        have k3 := cell_regrown f3
        have k4 := cell_regrown f4
        have m0 := cell_regrown g0
        have m1 := cell_regrown g1
        have m2 := cell_regrown g2
        have m3 := cell_regrown g3
        have m4 := cell_regrown g4
        go_wp2_with fail
        clear f0 f1 f2 f3 f4 g0 g1 g2 g3 g4
        refine wp_region_quiet_below (by kernel_rfl) (by kernel_rfl) ?_
        repeat (first | go_big_quiet_step (exact HS.out _ _) | quiet_step (exact HS.out _ _))
        refine wpQuiet_nil ?_
        intro _ hw'
        obtain ⟨⟨dq, osq⟩, hw''⟩ := hw'
        subst hw''
        have HQ := Lib.hid (below_regrown wr dq osq)
        clear k0 k1 k2 k3 k4 m0 m1 m2 m3 m4
        go_wp2
        exact ⟨⟨i + 1, by omega, by go_num, belowNext hbr HQ.out⟩, by simp [intOf]; omega⟩
      · go_wp2
        go_ret
        exact ⟨rfl, hbr⟩

theorem sameAll_any (va vb : Value) (l : List Tree) (w : World) (ha : Kids w (Under w.heap.size) va l) (hb : Kids w (Under w.heap.size) vb l) (hw : weighAll l ≤ 1000000) :
    Calls Tryd.prog 10 #[va, vb] w fun e w' => e = .returned (.bool true) ∧ Below w.heap.size w w' :=
  sameAll_all (weighAll l) l va vb w (Nat.le_refl _) hw ha hb
end Go.Proofs.YtggoebbfgkebcaaDoor

namespace Go.Proofs.YtggoebbfgkebcaaDoor
open Go.RowKit Go.Sort Go.Maps

set_option maxHeartbeats 4000000 in
theorem rparseAll_any (S : ByteArray) (w : World) (hs : S.size ≤ 123000) :
    Calls Tryd.prog 8 #[.string S] w (ParseAllPost w (parseAllB S.data.toList)) := by
  have HP := Lib.hid (parseAll_wrap S.data.toList)
  obtain ⟨T, hT⟩ : ∃ T : ByteArray, T = ⟨#[120, 91]⟩ ++ S ++ ⟨#[93]⟩ := ⟨_, rfl⟩
  have hTd : T.data.toList = 120 :: 91 :: (S.data.toList ++ [93]) := by rw [hT, wapp, wapp]; simp
  have hTz : T.size = S.size + 3 := by rw [Lib.size_eq, hTd, Lib.size_eq]; simp
  have o1 : ¬ 9223372036854775807 < 2 + S.size := by omega
  have o2 : ¬ 9223372036854775807 < 2 + S.size + 1 := by omega
  have HT := Lib.hid hT
  rw [← hTd] at HP
  clear hT hTd
  go_enter Tryd.func8, Tryd.ntmps8
  go_wp2_with fail
  rw [← HT.out]
  refine (rparse_any T w (by omega)).mono ?_
  rintro e w1 ⟨v, rfl, hn, hb1⟩
  obtain ⟨vm, va, vk, rfl, hm, ha, hk⟩ := hn
  obtain ⟨A1, c1, rfl, _⟩ := hm.form
  obtain ⟨A2, c2, rfl, _⟩ := ha.form
  obtain ⟨A3, c3, rfl, _⟩ := hk.form
  have HK := Lib.hid hk
  have HB1 := Lib.hid hb1
  clear hm ha hk hb1
  go_wp2
  go_ret2
  rw [HP.out]
  refine ⟨_, rfl, HK.out.keep (fun b hb => ⟨hb.1, Nat.lt_of_lt_of_le hb.2 ((Below.refl _ w1).alloc (Nat.le_refl _) _).size⟩) fun b hb => ((Below.refl _ w1).alloc (Nat.le_refl _) _).block b hb.2, HB1.out.alloc HB1.out.size _⟩

theorem noTree_weigh : weigh noTree = 2 := by decide +kernel
theorem parse_weigh (s : List UInt8) : weigh (parseB s).1 ≤ 8 * s.length + 3 := by
  have h := readL_weigh s
  unfold parseB
  split
  · rename_i t hr
    rw [hr] at h
    simp only [weighAll] at h
    split
    · simp only; omega
    · show weigh noTree ≤ _
      rw [noTree_weigh]; omega
  · show weigh noTree ≤ _
    rw [noTree_weigh]; omega
theorem parseAll_weigh (s : List UInt8) : weighAll (parseAllB s).1 ≤ 8 * s.length + 3 := by
  have h := readL_weigh s
  unfold parseAllB
  split
  · rename_i t hr
    rw [hr] at h
    split
    · exact h
    · exact Nat.zero_le _
  · exact Nat.zero_le _

set_option maxHeartbeats 8000000 in
theorem codecParses_walk (s : ByteArray) (w : World) (hm : s.size ≤ 9223372036854775807) (hT : Tabs w) :
    Calls Tryd.prog 3 #[.string s] w fun e w' => e = .returned (.bool true) ∧ Below w.heap.size w w' := by
  have HT := Lib.hid hT
  clear hT
  go_enter Tryd.func3, Tryd.ntmps3
  go_wp2_with fail
  refine (shown2_any w HT.out).mono ?_
  rintro e w1 ⟨rfl, hb1⟩
  have HB1 := Lib.hid hb1
  clear hb1
  by_cases hl : 1500 < s.size
  · have hl' : (1500 : Int) < (s.size : Int) := by omega
    go_wp2
    go_ret
    exact ⟨rfl, HB1.out⟩
  have hl' : ¬ (1500 : Int) < (s.size : Int) := by omega
  have hsz : s.size ≤ 100000 := by omega
  have hw1 := parse_weigh s.data.toList
  have hw2 := parseAll_weigh s.data.toList
  have hsl : s.data.toList.length = s.size := by rw [Lib.size_eq]
  have HW1 : Hid (weigh (parseB s.data.toList).1 ≤ 1000000) := Lib.hid (by omega)
  have HW2 : Hid (weighAll (parseAllB s.data.toList).1 ≤ 1000000) := Lib.hid (by omega)
  have HP1 : Hid (∀ W, Tabs W → Calls Tryd.prog 5 #[.string s] W (ParsePost W (parseB s.data.toList))) := Lib.hid fun W hW => parse_any s W hsz hW
  have HP2 : Hid (∀ W, Calls Tryd.prog 6 #[.string s] W (ParsePost W (parseB s.data.toList))) := Lib.hid fun W => rparse_any s W (by omega)
  have HP3 : Hid (∀ W, Tabs W → Calls Tryd.prog 7 #[.string s] W (ParseAllPost W (parseAllB s.data.toList))) := Lib.hid fun W hW => parseAll_any s W hsz hW
  have HP4 : Hid (∀ W, Calls Tryd.prog 8 #[.string s] W (ParseAllPost W (parseAllB s.data.toList))) := Lib.hid fun W => rparseAll_any s W (by omega)
  clear hw1 hw2 hsl
  generalize parseB s.data.toList = p at *
  generalize parseAllB s.data.toList = r at *
  obtain ⟨t, e1⟩ := p
  obtain ⟨l, e2⟩ := r
  simp only at HW1 HW2
  go_wp2_with fail
  refine (HP1.out w1 (HT.out.below HB1.out)).mono ?_
  rintro e w2 ⟨v2, rfl, hn2, hb2⟩
  obtain ⟨vm, va, vk, rfl, q1, q2, q3⟩ := hn2
  obtain ⟨A1, c1, rfl, _⟩ := q1.form
  obtain ⟨A2, c2, rfl, _⟩ := q2.form
  obtain ⟨A3, c3, rfl, _⟩ := q3.form
  have HN2 : Hid (∀ W, Below w2.heap.size w2 W → Node W (Under W.heap.size) (.agg #[.string t.kind, .string t.text, .slice A1 t.marks.length c1, .slice A2 t.attrs.length c2, .slice A3 t.kids.length c3]) t) := Lib.hid fun W hW => (show Node w2 (From w1.heap.size w2.heap.size) _ t from ⟨_, _, _, rfl, q1, q2, q3⟩).keep (fun b hb => Nat.lt_of_lt_of_le hb.2 hW.size) fun b hb => hW.block b hb.2
  have HB2 := Lib.hid (belowNext HB1.out hb2)
  clear q1 q2 q3 hb2
  go_upto_region 5 with fail
  have HB3 : Hid (Below w2.heap.size w2 (w2.alloc (.cells #[.string t.kind, .string t.text, .slice A1 t.marks.length c1, .slice A2 t.attrs.length c2, .slice A3 t.kids.length c3] 27))) := Lib.hid ((Below.refl _ _).alloc (Nat.le_refl _) _)
  have HX3 : Hid ((w2.alloc (.cells #[.string t.kind, .string t.text, .slice A1 t.marks.length c1, .slice A2 t.attrs.length c2, .slice A3 t.kids.length c3] 27)).heap[w2.heap.size]? = some (.cells #[.string t.kind, .string t.text, .slice A1 t.marks.length c1, .slice A2 t.attrs.length c2, .slice A3 t.kids.length c3] 27)) := Lib.hid (heap_alloc_new w2 _)
  generalize w2.alloc (.cells #[.string t.kind, .string t.text, .slice A1 t.marks.length c1, .slice A2 t.attrs.length c2, .slice A3 t.kids.length c3] 27) = w3 at *
  go_wp2_with fail
  refine (HP2.out w3).mono ?_
  rintro e w4 ⟨v4, rfl, hn4, hb4⟩
  obtain ⟨vm, va, vk, rfl, q1, q2, q3⟩ := hn4
  obtain ⟨B1, d1, rfl, _⟩ := q1.form
  obtain ⟨B2, d2, rfl, _⟩ := q2.form
  obtain ⟨B3, d3, rfl, _⟩ := q3.form
  have HN4 : Hid (∀ W, Below w4.heap.size w4 W → Node W (Under W.heap.size) (.agg #[.string t.kind, .string t.text, .slice B1 t.marks.length d1, .slice B2 t.attrs.length d2, .slice B3 t.kids.length d3]) t) := Lib.hid fun W hW => (show Node w4 (From w3.heap.size w4.heap.size) _ t from ⟨_, _, _, rfl, q1, q2, q3⟩).keep (fun b hb => Nat.lt_of_lt_of_le hb.2 hW.size) fun b hb => hW.block b hb.2
  have HB4 := Lib.hid (belowNext HB3.out hb4)
  have HX4 := Lib.hid ((hb4.block _ (Array.getElem?_eq_some_iff.1 HX3.out).1).trans HX3.out)
  clear q1 q2 q3 hb4 HX3
  go_upto_region 6 with fail
  have HB5 : Hid (Below w4.heap.size w4 (w4.alloc (.cells #[.string t.kind, .string t.text, .slice B1 t.marks.length d1, .slice B2 t.attrs.length d2, .slice B3 t.kids.length d3] 27))) := Lib.hid ((Below.refl _ _).alloc (Nat.le_refl _) _)
  have HY5 : Hid ((w4.alloc (.cells #[.string t.kind, .string t.text, .slice B1 t.marks.length d1, .slice B2 t.attrs.length d2, .slice B3 t.kids.length d3] 27)).heap[w4.heap.size]? = some (.cells #[.string t.kind, .string t.text, .slice B1 t.marks.length d1, .slice B2 t.attrs.length d2, .slice B3 t.kids.length d3] 27)) := Lib.hid (heap_alloc_new w4 _)
  generalize w4.alloc (.cells #[.string t.kind, .string t.text, .slice B1 t.marks.length d1, .slice B2 t.attrs.length d2, .slice B3 t.kids.length d3] 27) = w5 at *
  have HBW5 : Hid (Below w.heap.size w w5) := Lib.hid (HB2.out.trans ((belowNext HB4.out HB5.out).mono HB2.out.size))
  go_wp2_with fail
  refine (HP3.out w5 (HT.out.below HBW5.out)).mono ?_
  rintro e w6 ⟨v6, rfl, hk6, hb6⟩
  obtain ⟨C1, g1, rfl, _⟩ := hk6.form
  have HK6 : Hid (∀ W, Below w6.heap.size w6 W → Kids W (Under W.heap.size) (.slice C1 l.length g1) l) := Lib.hid fun W hW => hk6.keep (fun b hb => Nat.lt_of_lt_of_le hb.2 hW.size) fun b hb => hW.block b hb.2
  have HB6 := Lib.hid hb6
  clear hk6 hb6
  go_wp2_with fail
  refine (HP4.out w6).mono ?_
  rintro e w7 ⟨v7, rfl, hk7, hb7⟩
  obtain ⟨C2, g2, rfl, _⟩ := hk7.form
  have HK7 : Hid (∀ W, Below w7.heap.size w7 W → Kids W (Under W.heap.size) (.slice C2 l.length g2) l) := Lib.hid fun W hW => hk7.keep (fun b hb => Nat.lt_of_lt_of_le hb.2 hW.size) fun b hb => hW.block b hb.2
  have HB7 := Lib.hid hb7
  have HB57 := Lib.hid (belowNext HB6.out hb7)
  have HX7 := Lib.hid (((belowNext HB5.out HB57.out).block _ (Array.getElem?_eq_some_iff.1 HX4.out).1).trans HX4.out)
  have HY7 := Lib.hid ((HB57.out.block _ (Array.getElem?_eq_some_iff.1 HY5.out).1).trans HY5.out)
  clear hk7 hb7
  obtain ⟨x0, x1, x2, x3, x4⟩ := five_cells HX7.out
  obtain ⟨y0, y1, y2, y3, y4⟩ := five_cells HY7.out
  have HBW7 : Hid (Below w.heap.size w w7) := Lib.hid (HBW5.out.trans (HB57.out.mono HBW5.out.size))
  go_wp2_with fail
  refine (same_of (weighAll t.kids) (Lib.hid (sameAll_all _)) t _ _ w7 (Nat.le_refl _) HW1.out (HN2.out w7 (belowNext HB4.out (belowNext HB5.out HB57.out) |> fun h => belowNext (Below.refl _ _) h)) (HN4.out w7 (belowNext HB5.out HB57.out))).mono ?_
  rintro e w8 ⟨rfl, hb8⟩
  have HB8 := Lib.hid hb8
  clear hb8 x0 x1 x2 x3 x4 y0 y1 y2 y3 y4
  go_wp2_with fail
  refine (sameAll_any _ _ l w8 (HK6.out w8 (belowNext HB7.out HB8.out)) (HK7.out w8 HB8.out) HW2.out).mono ?_
  rintro e w9 ⟨rfl, hb9⟩
  have HB9 := Lib.hid hb9
  clear hb9
  go_wp2
  go_ret
  exact ⟨rfl, HBW7.out.trans ((belowNext HB8.out HB9.out).mono HBW7.out.size)⟩
end Go.Proofs.YtggoebbfgkebcaaDoor
