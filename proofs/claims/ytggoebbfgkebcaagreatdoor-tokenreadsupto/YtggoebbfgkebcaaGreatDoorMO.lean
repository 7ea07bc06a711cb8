/-
  The document's Build: what it answers.
  What the document's Same and SameAll answer at nodes that are alike: true.
  TokenReads walked.
-/
import Derived.Test.YtggoebbfgkebcaaGreatDoorMJ
import Derived.Test.YtggoebbfgkebcaaGreatDoorMK
import Derived.Test.YtggoebbfgkebcaaGreatDoorMM
import Derived.Test.YtggoebbfgkebcaaGreatDoorMN
import Derived.Test.YtggoebbfgkebcaaGreatDoorMA
import Derived.Lib.QuietBelow
namespace Go.Proofs.YtggoebbfgkebcaaGreatDoor
open Go.RowKit Go.Sort Go.Maps

set_option maxHeartbeats 8000000 in
set_option maxRecDepth 100000 in
theorem rbuild_any (v : Value) (l : List Tok) (w : World) (h : Toks w (Under w.heap.size) v l) (hl : l.length ≤ 9000) (hs : tokV l ≤ 121000) :
    Calls Tryz.prog 6 #[v] w (BuildPost w (buildB l)) := by
  have HL := Lib.hid h
  obtain ⟨A0, c0, rfl, _⟩ := h.form
  have hrl := rwr_len _ l (Nat.le_refl _)
  obtain ⟨T, hT⟩ : ∃ T : ByteArray, T = ⟨#[120, 91]⟩ ++ tB (rwr l) ++ ⟨#[93]⟩ := ⟨_, rfl⟩
  have hTd : T.data.toList = 120 :: 91 :: (rwr l ++ [93]) := by rw [hT, wapp, wapp, tB_data]; simp
  have hTz : T.size ≤ 124000 := by rw [Lib.size_eq, hTd]; simp; omega
  have HTD := Lib.hid hTd
  have HT := Lib.hid hT
  have hqz : (tB (rwr l)).size ≤ 121000 := by rw [tB_size]; omega
  clear h hT hTd
  go_enter Tryz.func6, Tryz.ntmps6
  go_wp2_with fail
  refine (rwritten_any _ l w HL.out hl hs).mono ?_
  rintro e w1 ⟨rfl, hb1⟩
  have HB1 := Lib.hid hb1
  clear hb1 hrl
  generalize tB (rwr l) = sw at *
  have o1 : ¬ 9223372036854775807 < 2 + sw.size := by omega
  have o2 : ¬ 9223372036854775807 < 2 + sw.size + 1 := by omega
  go_upto_region 2 with fail
  rw [← HT.out]
  clear HT o1 o2 hqz
  go_upto_region 3 with fail
  have HRR : Hid (RR (w1.alloc (.cells #[.string T, .int .i64 0, .bool false] 58)) w1.heap.size T 0 false) := Lib.hid (heap_alloc_new w1 _)
  have HB2 : Hid (Below w1.heap.size w1 (w1.alloc (.cells #[.string T, .int .i64 0, .bool false] 58))) := Lib.hid ((Below.refl _ _).alloc (Nat.le_refl _) _)
  have HZ2 : Hid ((w1.alloc (.cells #[.string T, .int .i64 0, .bool false] 58)).heap.size = w1.heap.size + 1) := Lib.hid (by simp)
  generalize w1.alloc (.cells #[.string T, .int .i64 0, .bool false] 58) = w2 at *
  go_wp2_with fail
  refine (rr_Node w1.heap.size T w2 HRR.out hTz).mono ?_
  rintro e w3 ⟨v, t, j, y, rfl, hn, h3, o3, hk⟩
  obtain ⟨vm, va, vk, rfl, hm, ha, hkk⟩ := hn
  obtain ⟨A1, n1, rfl, _⟩ := hm.form
  obtain ⟨A2, n2, rfl, _⟩ := ha.form
  obtain ⟨A3, n3, rfl, _⟩ := hkk.form
  have HND := Lib.hid (show Node w3 (From w2.heap.size w3.heap.size) (.agg #[.string t.kind, .string t.text, .slice A1 t.marks.length n1, .slice A2 t.attrs.length n2, .slice A3 t.kids.length n3]) t from ⟨_, _, _, rfl, hm, ha, hkk⟩)
  have HK := Lib.hid hk
  have hwt : weigh t ≤ 1000000 := by have := hk.weigh; have := hk.le; omega
  have HWH : Hid (∀ ks, rowB none ks = true → writeAllB ks = rwr l → t = around ks ∧ j = T.size ∧ y = false) := Lib.hid fun ks hr hw => HK.out.whole (by rw [around_formed]; exact hr) (by rw [around_write, hw, HTD.out])
  have HB3 : Hid (Below w.heap.size w w3) := Lib.hid (by
    have h2 := HZ2.out; have h1 := HB1.out.size
    exact (HB1.out.trans (HB2.out.mono h1)).trans (o3.below (by omega) (by omega)))
  have HKD := Lib.hid hkk
  have H3 := Lib.hid h3
  have HN2 : Hid (w.heap.size ≤ w2.heap.size) := Lib.hid (by have h2 := HZ2.out; have h1 := HB1.out.size; omega)
  clear hm ha hkk h3 o3 hk HRR HB2 HZ2
  go_upto_region 4 with fail
  have HB4 : Hid (Below w3.heap.size w3 (w3.alloc (.cells #[.string t.kind, .string t.text, .slice A1 t.marks.length n1, .slice A2 t.attrs.length n2, .slice A3 t.kids.length n3] 41))) := Lib.hid ((Below.refl _ _).alloc (Nat.le_refl _) _)
  have HX4 : Hid ((w3.alloc (.cells #[.string t.kind, .string t.text, .slice A1 t.marks.length n1, .slice A2 t.attrs.length n2, .slice A3 t.kids.length n3] 41)).heap[w3.heap.size]? = some (.cells #[.string t.kind, .string t.text, .slice A1 t.marks.length n1, .slice A2 t.attrs.length n2, .slice A3 t.kids.length n3] 41)) := Lib.hid (heap_alloc_new w3 _)
  generalize w3.alloc (.cells #[.string t.kind, .string t.text, .slice A1 t.marks.length n1, .slice A2 t.attrs.length n2, .slice A3 t.kids.length n3] 41) = w4 at *
  obtain ⟨b0, b1, b2⟩ := RR.three (RR.below H3.out HB4.out H3.out.lt)
  obtain ⟨x0, x1, x2, x3, x4⟩ := five_cells HX4.out
  have HB5 := HB4
  have hRz := H3.out.lt
  cases y with
  | true =>
    have HP : Hid (buildB l = ([], 2)) := Lib.hid (build_no fun ks hr hw _ => by have := (HWH.out ks hr hw).2.2; cases this)
    go_wp2
    go_ret2
    rw [HP.out]
    exact ⟨_, rfl, kids_none, HB3.out.trans (HB5.out.mono HB3.out.size)⟩
  | false =>
    by_cases hj : j = T.size
    · subst hj
      have hj0 : ((T.size : Int) != (T.size : Int)) = false := by simp
      have HND4 : Hid (∀ W, Below w4.heap.size w4 W → Node W (Under W.heap.size) (.agg #[.string t.kind, .string t.text, .slice A1 t.marks.length n1, .slice A2 t.attrs.length n2, .slice A3 t.kids.length n3]) t) := Lib.hid fun W hW => (HND.out.keep (S' := Under w3.heap.size) (fun b hb => hb.2) fun _ _ => rfl).keep (fun b hb => Nat.lt_of_lt_of_le hb (Nat.le_trans HB4.out.size hW.size)) fun b hb => (hW.block b (Nat.lt_of_lt_of_le hb HB4.out.size)).trans (HB4.out.block b hb)
      have HKD4 : Hid (∀ W, Below w4.heap.size w4 W → Kids W (Under W.heap.size) (.slice A3 t.kids.length n3) t.kids) := Lib.hid fun W hW => (HKD.out.keep (S' := Under w3.heap.size) (fun b hb => hb.2) fun _ _ => rfl).keep (fun b hb => Nat.lt_of_lt_of_le hb (Nat.le_trans HB4.out.size hW.size)) fun b hb => (hW.block b (Nat.lt_of_lt_of_le hb HB4.out.size)).trans (HB4.out.block b hb)
      clear HB5
      go_wp2_with fail
      refine (rwrite_any t _ w4 hwt (HND4.out w4 (Below.refl _ _))).mono ?_
      rintro e w5 ⟨rfl, hb5⟩
      have HB45 := Lib.hid hb5
      have HB5 : Hid (Below w3.heap.size w3 w5) := Lib.hid (belowNext HB4.out hb5)
      have HX5 := Lib.hid ((hb5.block _ (Array.getElem?_eq_some_iff.1 HX4.out).1).trans HX4.out)
      clear hb5 b0 b1 b2 x0 x1 x2 x3 x4
      obtain ⟨x0, x1, x2, x3, x4⟩ := five_cells HX5.out
      by_cases hw : writeB t = T.data.toList
      · have HTB : Hid (tB (writeB t) = T) := Lib.hid (by rw [hw]; exact (tB_of rfl).symm)
        rw [HTB.out]
        go_wp2_with fail
        refine (rformed_all t _ w5 hwt (HND4.out w5 HB45.out)).mono ?_
        rintro e w6 ⟨rfl, hb6⟩
        have HB46 := Lib.hid (belowNext HB45.out hb6)
        have HB6 : Hid (Below w3.heap.size w3 w6) := Lib.hid (belowNext HB5.out hb6)
        have HX6 := Lib.hid ((hb6.block _ (Array.getElem?_eq_some_iff.1 HX5.out).1).trans HX5.out)
        clear hb6 x0 x1 x2 x3 x4 HB5 HB45
        obtain ⟨x0, x1, x2, x3, x4⟩ := five_cells HX6.out
        cases hf : formedB t with
        | false =>
          have HP : Hid (buildB l = ([], 2)) := Lib.hid (build_no fun ks hr hwk _ => by
            have := (HWH.out ks hr hwk).1
            rw [this, around_formed, hr] at hf; cases hf)
          clear hf
          go_wp2
          go_ret2
          rw [HP.out]
          exact ⟨_, rfl, kids_none, HB3.out.trans (HB6.out.mono HB3.out.size)⟩
        | true =>
          obtain ⟨ks, htk, hwk⟩ := around_inv hf (by rw [hw, HTD.out])
          have hrk : rowB none ks = true := by rw [← around_formed, ← htk]; exact hf
          have hkk : t.kids = ks := by rw [htk]; rfl
          have HROW : Hid (rowB none t.kids = true) := Lib.hid (by rw [hkk]; exact hrk)
          have HARO : Hid (around t.kids = t) := Lib.hid (by rw [hkk, ← htk])
          have hwkk : weighAll t.kids ≤ 1000000 := by have := kids_weigh t; omega
          have hlk : (toksB t.kids).length ≤ 1000000 := by rw [toksB_len]; have := total_le_weigh t.kids; omega
          clear hf htk hwk hrk hkk hw
          go_wp2_with fail
          refine (rof_walk (weighAll t.kids) t.kids _ w6 (Nat.le_refl _) hwkk (HKD4.out w6 HB46.out)).mono ?_
          rintro e w7 ⟨v7, rfl, ht7, hb7⟩
          obtain ⟨A7, c7, rfl, _⟩ := ht7.form
          have HT7 : Hid (Toks w7 (Under w7.heap.size) (.slice A7 (toksB t.kids).length c7) (toksB t.kids)) := Lib.hid (ht7.keep (fun _ h => h.2) fun _ _ => rfl)
          have HB47 := Lib.hid (belowNext HB46.out hb7)
          have HB7 : Hid (Below w3.heap.size w3 w7) := Lib.hid (belowNext HB6.out hb7)
          have HBW7 : Hid (Below w.heap.size w w7) := Lib.hid (HB3.out.trans (HB7.out.mono HB3.out.size))
          have HX7 := Lib.hid ((hb7.block _ (Array.getElem?_eq_some_iff.1 HX6.out).1).trans HX6.out)
          clear ht7 hb7 x0 x1 x2 x3 x4 HB46 HB6
          go_wp2_with fail
          refine (rrow_same _ _ (toksB t.kids) l w7 HT7.out ((HL.out.keep (fun _ h => h) fun b hb => HBW7.out.block b hb).keep (fun b hb => Nat.lt_of_lt_of_le hb HBW7.out.size) fun _ _ => rfl) (by omega) (by omega)).mono ?_
          rintro e w8 ⟨rfl, hb8⟩
          have HB48 := Lib.hid (belowNext HB47.out hb8)
          have HB8 : Hid (Below w3.heap.size w3 w8) := Lib.hid (belowNext HB7.out hb8)
          have HX8 := Lib.hid ((hb8.block _ (Array.getElem?_eq_some_iff.1 HX7.out).1).trans HX7.out)
          clear hb8 HB47 HB7 HX7
          obtain ⟨x0, x1, x2, x3, x4⟩ := five_cells HX8.out
          by_cases hts : toksB t.kids = l
          · have HDT : Hid (decide (toksB t.kids = l) = true) := Lib.hid (decide_eq_true hts)
            have HBY := Lib.hid (build_yes HROW.out hts).2
            rw [HDT.out]
            clear hts
            go_wp2_with fail
            refine (rcheck_any t _ w8 hwt (HND4.out w8 HB48.out)).mono ?_
            rintro e w9 ⟨rfl, hb9⟩
            have HB9 : Hid (Below w3.heap.size w3 w9) := Lib.hid (belowNext HB8.out hb9)
            have HX9 := Lib.hid ((hb9.block _ (Array.getElem?_eq_some_iff.1 HX8.out).1).trans HX8.out)
            clear hb9 x0 x1 x2 x3 x4
            obtain ⟨x0, x1, x2, x3, x4⟩ := five_cells HX9.out
            rw [HARO.out] at HBY
            by_cases hc : checkB t = 0
            · have HP : Hid (buildB l = (t.kids, 0)) := Lib.hid (by rw [HBY.out, if_pos hc])
              rw [hc]
              go_wp2
              go_ret2
              rw [HP.out]
              exact ⟨_, rfl, HKD.out.keep (fun b hb => ⟨by have := HN2.out; have := hb.1; omega, by have := hb.2; have := HB9.out.size; omega⟩) fun b hb => HB9.out.block b hb.2, HB3.out.trans (HB9.out.mono HB3.out.size)⟩
            · have HP : Hid (buildB l = ([], checkB t)) := Lib.hid (by rw [HBY.out, if_neg hc])
              have hcb : (checkB t != 0) = true := by simpa using hc
              generalize checkB t = r at *
              go_wp2
              go_ret2
              rw [HP.out]
              exact ⟨_, rfl, kids_none, HB3.out.trans (HB9.out.mono HB3.out.size)⟩
          · have HDT : Hid (decide (toksB t.kids = l) = false) := Lib.hid (decide_eq_false hts)
            have HP : Hid (buildB l = ([], 2)) := Lib.hid (build_no fun ks hr hwk ht => by
              have := (HWH.out ks hr hwk).1
              apply hts
              rw [this]; exact ht)
            rw [HDT.out]
            clear hts
            go_wp2
            go_ret2
            rw [HP.out]
            exact ⟨_, rfl, kids_none, HB3.out.trans (HB8.out.mono HB3.out.size)⟩
      · have HP : Hid (buildB l = ([], 2)) := Lib.hid (build_no fun ks hr hwk _ => by
          have := (HWH.out ks hr hwk).1
          apply hw
          rw [this, around_write, hwk, HTD.out])
        have hne : ((tB (writeB t)).toList != T.toList) = true := by
          rw [bne_iff_ne]; intro e; apply hw
          have e2 : tB (writeB t) = T := bytes_of (by rw [← Lib.toList_data, ← Lib.toList_data, e])
          rw [← e2, tB_data]
        have hne2 : ¬ (tB (writeB t)).toList = T.toList := by rw [bne_iff_ne] at hne; exact hne
        generalize tB (writeB t) = sx at *
        clear hw
        go_wp2
        go_ret2
        rw [HP.out]
        exact ⟨_, rfl, kids_none, HB3.out.trans (HB5.out.mono HB3.out.size)⟩
    · have HP : Hid (buildB l = ([], 2)) := Lib.hid (build_no fun ks hr hwk _ => hj (HWH.out ks hr hwk).2.1)
      have hjn : ((j : Int) != (T.size : Int)) = true := by simpa using fun e : (j : Int) = (T.size : Int) => hj (by omega)
      have hjn2 : ¬ (j : Int) = (T.size : Int) := fun e => hj (by omega)
      go_wp2
      go_ret2
      rw [HP.out]
      exact ⟨_, rfl, kids_none, HB3.out.trans (HB5.out.mono HB3.out.size)⟩
end Go.Proofs.YtggoebbfgkebcaaGreatDoor

namespace Go.Proofs.YtggoebbfgkebcaaGreatDoor
open Go.RowKit Go.Sort

theorem sameL_refl (l : List ByteArray) : sameL l l = true := by
  simp [sameL]

def SameSaid (n : Nat) : Prop := ∀ (l : List Tree) (va vb : Value) (w : World), weighAll l ≤ n → weighAll l ≤ 1000000 → Kids w (Under w.heap.size) va l → Kids w (Under w.heap.size) vb l →
    Calls Tryz.prog 8 #[va, vb] w fun e w' => e = .returned (.bool true) ∧ Below w.heap.size w w'

set_option maxHeartbeats 2000000 in
theorem same_of (n : Nat) (IH : Hid (SameSaid n)) (t : Tree) (va vb : Value) (w : World) (hn : weighAll t.kids ≤ n) (hw : weigh t ≤ 1000000) (ha : Node w (Under w.heap.size) va t) (hb : Node w (Under w.heap.size) vb t) :
    Calls Tryz.prog 26 #[va, vb] w fun e w' => e = .returned (.bool true) ∧ Below w.heap.size w w' := by
  obtain ⟨am, aa, ak, rfl, ham, haa, hak⟩ := ha
  obtain ⟨bm, ba, bk, rfl, hbm, hba, hbk⟩ := hb
  obtain ⟨A1, c1, rfl, _⟩ := ham.form
  obtain ⟨A2, c2, rfl, _⟩ := haa.form
  obtain ⟨A3, c3, rfl, _⟩ := hak.form
  obtain ⟨B1, e1, rfl, _⟩ := hbm.form
  obtain ⟨B2, e2, rfl, _⟩ := hba.form
  obtain ⟨B3, e3, rfl, _⟩ := hbk.form
  have HM := Lib.hid (And.intro ham hbm)
  have HA := Lib.hid (And.intro haa hba)
  have HK := Lib.hid (And.intro hak hbk)
  clear ham haa hak hbm hba hbk
  generalize hW2 : (w.alloc (.cells #[.string t.kind, .string t.text, .slice A1 t.marks.length c1, .slice A2 t.attrs.length c2, .slice A3 t.kids.length c3] 41)).alloc (.cells #[.string t.kind, .string t.text, .slice B1 t.marks.length e1, .slice B2 t.attrs.length e2, .slice B3 t.kids.length e3] 41) = W2
  obtain ⟨z0, z1, z2, z3, z4, hz, hzz⟩ := box5 (w := w) (T := 41) (v0 := .string t.kind) (v1 := .string t.text) (v2 := .slice A1 t.marks.length c1) (v3 := .slice A2 t.attrs.length c2) (v4 := .slice A3 t.kids.length c3) (Below.refl _ _)
  obtain ⟨y0, y1, y2, y3, y4, hy, hyy⟩ := box5 (w := w.alloc (.cells #[.string t.kind, .string t.text, .slice A1 t.marks.length c1, .slice A2 t.attrs.length c2, .slice A3 t.kids.length c3] 41)) (T := 41) (v0 := .string t.kind) (v1 := .string t.text) (v2 := .slice B1 t.marks.length e1) (v3 := .slice B2 t.attrs.length e2) (v4 := .slice B3 t.kids.length e3) (Below.refl _ _)
  rw [hW2] at y0 y1 y2 y3 y4 hy hyy
  rw [show (w.alloc (.cells #[.string t.kind, .string t.text, .slice A1 t.marks.length c1, .slice A2 t.attrs.length c2, .slice A3 t.kids.length c3] 41)).heap.size = w.heap.size + 1 by simp] at y0 y1 y2 y3 y4 hyy
  replace z0 := cell_kept z0 hy
  replace z1 := cell_kept z1 hy
  replace z2 := cell_kept z2 hy
  replace z3 := cell_kept z3 hy
  replace z4 := cell_kept z4 hy
  have HB2 := Lib.hid (belowNext hz hy)
  have HC := Lib.hid (And.intro (And.intro z0 (And.intro z1 (And.intro z2 (And.intro z3 z4)))) (And.intro y0 (And.intro y1 (And.intro y2 (And.intro y3 y4)))))
  have HW2 := Lib.hid hW2
  clear hW2 z0 z1 z2 z3 z4 y0 y1 y2 y3 y4 hz hzz hy hyy
  have hwm : weighL t.marks + weighP t.attrs + weighAll t.kids ≤ weigh t := by obtain ⟨k, t, m, a, l⟩ := t; simp only [weigh, Tree.marks, Tree.attrs, Tree.kids]; omega
  have hal := length_le_weighP t.attrs
  go_enter Tryz.func26, Tryz.ntmps26
  go_wp2_with fail
  rw [HW2.out]
  refine (sameNames_any _ _ t.marks t.marks _ _ W2 (HM.out.1.below HB2.out) (HM.out.2.below HB2.out) (by omega)).mono ?_
  rintro e w1 ⟨rfl, n1, hn1⟩
  rw [sameL_refl]
  have hb1 : Below W2.heap.size W2 w1 := by subst hn1; exact ⟨rfl, rfl, rfl, Nat.le_refl _, fun _ _ => rfl⟩
  clear hn1
  obtain ⟨⟨z0, z1, z2, z3, z4⟩, y0, y1, y2, y3, y4⟩ := HC.out
  replace z0 := cell_kept z0 hb1
  replace z1 := cell_kept z1 hb1
  replace z2 := cell_kept z2 hb1
  replace z3 := cell_kept z3 hb1
  replace z4 := cell_kept z4 hb1
  replace y0 := cell_kept y0 hb1
  replace y1 := cell_kept y1 hb1
  replace y2 := cell_kept y2 hb1
  replace y3 := cell_kept y3 hb1
  replace y4 := cell_kept y4 hb1
  have hB1 := belowNext HB2.out hb1
  have hl1 := cell_lt z0
  have hl2 := cell_lt y0
  clear hb1
  go_wp2
  have HC1 := Lib.hid (And.intro z3 (And.intro z4 (And.intro y3 y4)))
  clear z0 z1 z2 z3 z4 y0 y1 y2 y3 y4
  go_loopw [5] (fun i wr => ∃ k n : Nat, k ≤ t.attrs.length ∧ i = .int .i64 k ∧ wr = w1.drewN n) (fun i _ => t.attrs.length - (intOf i).toNat)
  case atStart => exact ⟨0, 0, by omega, rfl, rfl⟩
  case round =>
    obtain ⟨i, n2, hi, rfl, rfl⟩ := hrel
    obtain ⟨z3, z4, y3, y4⟩ := HC1.out
    by_cases hlt : i < t.attrs.length
    · obtain ⟨b, o, rfl, hub, hcell⟩ := HA.out.1.get hlt
      obtain ⟨b', o', rfl, hub', hcell'⟩ := HA.out.2.get hlt
      have f0 := cell_kept (hcell i hlt).1 hB1
      have f1 := cell_kept (hcell i hlt).2 hB1
      have f2 := cell_kept (hcell' i hlt).1 hB1
      have f3 := cell_kept (hcell' i hlt).2 hB1
      have g1 := cell_lt f0
      have g2 := cell_lt f2
      generalize (pairAt t.attrs i) = pr at *
      clear hcell hcell' z4 y4
      go_wp2
      go_quiet (fail)
      go_wp2
      exact ⟨⟨i + 1, _, by omega, by go_num, rfl⟩, by simp [intOf]; omega⟩
    · go_wp2_with fail
      have HBD : Hid (Below w1.heap.size w1 (w1.drewN n2)) := Lib.hid ⟨rfl, rfl, rfl, Nat.le_refl _, fun _ _ => rfl⟩
      have hB2 := belowNext hB1 HBD.out
      refine (IH.out t.kids _ _ _ hn (by omega) ((HK.out.1.below hB2).more hB2.size) ((HK.out.2.below hB2).more hB2.size)).mono ?_
      rintro e w3 ⟨rfl, hb3⟩
      have hB3 := belowNext hB2 hb3
      clear z3 z4 y3 y4
      go_wp2
      go_ret
      exact ⟨rfl, hB3⟩

set_option maxHeartbeats 2000000 in
theorem sameAll_all : ∀ n, SameSaid n := by
  intro n
  induction n using Nat.strongRecOn with
  | ind n ih =>
    have IH := Lib.hid ih
    clear ih
    intro l va vb w hn hw ha hb
    have hlen : l.length ≤ 1000000 := by have := length_le_weigh l; omega
    have HA := Lib.hid ha
    have HB := Lib.hid hb
    obtain ⟨A, c, rfl, _⟩ := ha.form
    obtain ⟨B, d, rfl, _⟩ := hb.form
    clear ha hb
    go_enter Tryz.func8, Tryz.ntmps8
    go_wp2
    go_loopw [5] (fun i wr => ∃ k : Nat, k ≤ l.length ∧ i = .int .i64 k ∧ Below w.heap.size w wr) (fun i _ => l.length - (intOf i).toNat)
    case atStart => exact ⟨0, by omega, rfl, Below.refl _ _⟩
    case round =>
      obtain ⟨i, hi, rfl, hbr⟩ := hrel
      by_cases hlt : i < l.length
      · obtain ⟨b, o, rfl, hub, hrow⟩ := HA.out.get hlt
        obtain ⟨b', o', rfl, hub', hrow'⟩ := HB.out.get hlt
        have hlx : l[i]? = some l[i] := List.getElem?_eq_getElem hlt
        generalize hx : l[i] = x at *
        have hwx := weigh_mem (List.mem_of_getElem? hlx)
        have hkx := kids_weigh x
        obtain ⟨xm, xa, xk, e0, e1, e2, e3, e4, exm, exa, exk⟩ := hrow.node hlx
        obtain ⟨ym, ya, yk, d0, d1, d2, d3, d4, dxm, dxa, dxk⟩ := hrow'.node hlx
        have HXN : Hid (Node w (Under w.heap.size) (.agg #[.string x.kind, .string x.text, xm, xa, xk]) x) := Lib.hid ⟨_, _, _, rfl, exm, exa, exk⟩
        have HYN : Hid (Node w (Under w.heap.size) (.agg #[.string x.kind, .string x.text, ym, ya, yk]) x) := Lib.hid ⟨_, _, _, rfl, dxm, dxa, dxk⟩
        obtain ⟨A1, c1, rfl, _⟩ := exm.form
        obtain ⟨A2, c2, rfl, _⟩ := exa.form
        obtain ⟨A3, c3, rfl, _⟩ := exk.form
        obtain ⟨A4, c4, rfl, _⟩ := dxm.form
        obtain ⟨A5, c5, rfl, _⟩ := dxa.form
        obtain ⟨A6, c6, rfl, _⟩ := dxk.form
        have f0 := cell_kept e0 hbr
        have f1 := cell_kept e1 hbr
        have f2 := cell_kept e2 hbr
        have f3 := cell_kept e3 hbr
        have f4 := cell_kept e4 hbr
        have g0 := cell_kept d0 hbr
        have g1 := cell_kept d1 hbr
        have g2 := cell_kept d2 hbr
        have g3 := cell_kept d3 hbr
        have g4 := cell_kept d4 hbr
        have h1 := cell_lt f0
        have h2 := cell_lt g0
        clear e0 e1 e2 e3 e4 d0 d1 d2 d3 d4 exm exa exk dxm dxa dxk hx hlx hrow hrow'
        have HIH := Lib.hid (IH.out (weighAll x.kids) (by omega))
        have HS := Lib.hid (regrown_any (w := wr) fun W hW => same_of (weighAll x.kids) HIH x _ _ W (Nat.le_refl _) (by omega) ((HXN.out.below (hbr.trans (hW.mono hbr.size))).more (Nat.le_trans hbr.size hW.size)) ((HYN.out.below (hbr.trans (hW.mono hbr.size))).more (Nat.le_trans hbr.size hW.size)))
        have k0 := cell_regrown f0
        have k1 := cell_regrown f1
        have k2 := cell_regrown f2
        have k3 := cell_regrown f3
        have k4 := cell_regrown f4
        have m0 := cell_regrown g0
        have m1 := cell_regrown g1
        have m2 := cell_regrown g2
        have m3 := cell_regrown g3
        have m4 := cell_regrown g4
        go_wp2_with fail
        clear f0 f1 f2 f3 f4 g0 g1 g2 g3 g4
        refine wp_region_quiet_below (by kernel_rfl) (by kernel_rfl) ?_
        repeat (first | go_big_quiet_step (exact HS.out _ _) | quiet_step (exact HS.out _ _))
        refine wpQuiet_nil ?_
        intro _ hw'
        obtain ⟨⟨dq, osq⟩, hw''⟩ := hw'
        subst hw''
        have HQ := Lib.hid (below_regrown wr dq osq)
        clear k0 k1 k2 k3 k4 m0 m1 m2 m3 m4
        go_wp2
        exact ⟨⟨i + 1, by omega, by go_num, belowNext hbr HQ.out⟩, by simp [intOf]; omega⟩
      · go_wp2
        go_ret
        exact ⟨rfl, hbr⟩

theorem sameAll_any (va vb : Value) (l : List Tree) (w : World) (ha : Kids w (Under w.heap.size) va l) (hb : Kids w (Under w.heap.size) vb l) (hw : weighAll l ≤ 1000000) :
    Calls Tryz.prog 8 #[va, vb] w fun e w' => e = .returned (.bool true) ∧ Below w.heap.size w w' :=
  sameAll_all (weighAll l) l va vb w (Nat.le_refl _) hw ha hb
end Go.Proofs.YtggoebbfgkebcaaGreatDoor

namespace Go.Proofs.YtggoebbfgkebcaaGreatDoor
open Go.RowKit Go.Sort Go.Maps

theorem buildB_weigh {l : List Tok} (h : tokV l ≤ 121000) : weighAll (buildB l).1 ≤ 1000000 := by
  cases hb : buildW l with
  | none => rw [buildB_none hb]; simp [weighAll]
  | some s =>
    rw [buildB_some hb]
    have h1 := rwr_build _ l _ (Nat.le_refl _) hb
    have h2 := rwr_len _ l (Nat.le_refl _)
    rw [h1] at h2
    have h3 := readL_weigh s
    unfold parseAllB
    split
    · rename_i t hr
      rw [hr] at h3
      split
      · simp only at h3 ⊢; omega
      · simp [weighAll]
    · simp [weighAll]
theorem tokV_few : ∀ (l : List Tok), (∀ t ∈ l, t.text.size + t.head.size ≤ 300) → tokV l ≤ 603 * l.length
  | [], _ => by simp [tokV]
  | t :: l, h => by
    have h1 := tokV_few l fun x hx => h x (by simp [hx])
    have h2 := h t (by simp)
    rw [tokV_cons, List.length_cons]; omega
theorem tokV_W (l : List Tok) : tokW l = tokV l := rfl

set_option maxHeartbeats 8000000 in
set_option maxRecDepth 100000 in
theorem tokenReads_walk (va vb : Value) (a b : List Tok) (w : World) (ha : Toks w (Under w.heap.size) va a) (hb : Toks w (Under w.heap.size) vb b) (hsa : ∀ t ∈ a, t.text.size + t.head.size ≤ 1100000) (hT : Tabs w) :
    Calls Tryz.prog 3 #[va, vb] w fun e w' => e = .returned (.bool true) ∧ Below w.heap.size w w' := by
  obtain ⟨A1, c1, rfl, _⟩ := ha.form
  obtain ⟨A2, c2, rfl, _⟩ := hb.form
  have HA : Hid (∀ W, Below w.heap.size w W → Toks W (Under W.heap.size) (.slice A1 a.length c1) a) := Lib.hid fun W hW => ha.keep (fun b hb => Nat.lt_of_lt_of_le hb hW.size) fun b hb => hW.block b hb
  have HB : Hid (∀ W, Below w.heap.size w W → Toks W (Under W.heap.size) (.slice A2 b.length c2) b) := Lib.hid fun W hW => hb.keep (fun b hb => Nat.lt_of_lt_of_le hb hW.size) fun b hb => hW.block b hb
  have HT : Hid (∀ W, Below w.heap.size w W → Tabs W) := Lib.hid fun W hW => hT.below hW
  have HSA := Lib.hid hsa
  clear ha hb hsa hT
  go_enter Tryz.func3, Tryz.ntmps3
  go_wp2_with fail
  refine (shown3_any w).mono ?_
  rintro e w1 ⟨rfl, hb1⟩
  have HB1 := Lib.hid hb1
  clear hb1
  by_cases hla : 200 < a.length
  · have hla' : (200 : Int) < (a.length : Int) := by omega
    go_wp2
    go_ret
    exact ⟨rfl, HB1.out⟩
  by_cases hlb : 200 < b.length
  · have hla' : ¬ (200 : Int) < (a.length : Int) := by omega
    have hlb' : (200 : Int) < (b.length : Int) := by omega
    go_wp2
    go_ret
    exact ⟨rfl, HB1.out⟩
  have hla' : ¬ (200 : Int) < (a.length : Int) := by omega
  have hlb' : ¬ (200 : Int) < (b.length : Int) := by omega
  go_wp2_with fail
  go_loopg [6] a.length (fun g s6 wx => ∃ k : Nat, s6 = .int .i64 (k : Int) ∧ k + g = a.length ∧ Hid (Below w.heap.size w wx) ∧ Hid (∀ i t, i < k → a[i]? = some t → t.text.size + t.head.size ≤ 300))
  case atStart => exact ⟨0, rfl, by omega, HB1, Lib.hid fun i t hi => absurd hi (by omega)⟩
  case round =>
    obtain ⟨k, rfl, hkg, hbr, hall⟩ := hrel
    by_cases hlt : k < a.length
    · have hx : a[k]? = some a[k] := List.getElem?_eq_getElem hlt
      have hxs := HSA.out _ (List.getElem_mem hlt)
      generalize a[k] = x at *
      obtain ⟨g, o, eA, _, r0, r1, r2⟩ := (HA.out wr hbr.out).get hx
      subst eA
      have HX := Lib.hid hx
      have i1 : (k : Int) < (a.length : Int) := by omega
      clear hx
      go_upto_region 7 with fail
      by_cases hbig : 300 < x.text.size + x.head.size
      · have g1 : (300 : Int) < (x.text.size : Int) + (x.head.size : Int) := by omega
        have g2 : decide ((300 : Int) < (x.text.size : Int) + (x.head.size : Int)) = true := decide_eq_true g1
        go_quiet (fail)
        go_wp2
        go_ret
        exact ⟨rfl, ⟨hbr.out.os, hbr.out.tape, hbr.out.output, hbr.out.size, hbr.out.block⟩⟩
      · have g1 : ¬ (300 : Int) < (x.text.size : Int) + (x.head.size : Int) := by omega
        have g2 : decide ((300 : Int) < (x.text.size : Int) + (x.head.size : Int)) = false := decide_eq_false g1
        have HAL : Hid (∀ i t, i < k + 1 → a[i]? = some t → t.text.size + t.head.size ≤ 300) := Lib.hid fun i t hi ht => by
          rcases Nat.lt_or_ge i k with h | h
          · exact hall.out i t h ht
          · obtain rfl : i = k := by omega
            obtain rfl := Option.some.inj (HX.out.symm.trans ht)
            omega
        go_quiet (fail)
        go_wp2
        go_roundg (a.length - (k + 1))
        case measure => omega
        case rel => exact ⟨k + 1, by go_num, by omega, Lib.hid ⟨hbr.out.os, hbr.out.tape, hbr.out.output, hbr.out.size, hbr.out.block⟩, HAL⟩
    · have hfew : ∀ t ∈ a, t.text.size + t.head.size ≤ 300 := fun t ht => by
        obtain ⟨i, hi⟩ := List.mem_iff_getElem?.1 ht
        exact hall.out i t (by have := (List.getElem?_eq_some_iff.1 hi).1; omega) hi
      have hV := tokV_few a hfew
      have hV2 : tokV a ≤ 121000 := by omega
      have HWB := Lib.hid (buildB_weigh hV2)
      have hlt' : ¬ (k : Int) < (a.length : Int) := by omega
      have HP1 : Hid (∀ W, Below w.heap.size w W → Calls Tryz.prog 5 #[.slice A1 a.length c1] W (BuildPost W (buildB a))) := Lib.hid fun W hW => tbuild_any _ a W (HA.out W hW) (by omega) (fun t ht => by have := hfew t ht; omega) (by rw [tokV_W]; exact hV2) (HT.out W hW)
      have HP2 : Hid (∀ W v, Toks W (Under W.heap.size) v a → Calls Tryz.prog 6 #[v] W (BuildPost W (buildB a))) := Lib.hid fun W v hv => rbuild_any v a W hv (by omega) hV2
      clear hall hfew hV hV2
      generalize buildB a = p at *
      obtain ⟨ks, ec⟩ := p
      simp only at HWB
      go_wp2_with fail
      refine (HP1.out wr hbr.out).mono ?_
      rintro e w2 ⟨v2, rfl, hk2, hb2⟩
      obtain ⟨B1, d1, rfl, _⟩ := hk2.form
      have HK2 : Hid (∀ W, Below w2.heap.size w2 W → Kids W (Under W.heap.size) (.slice B1 ks.length d1) ks) := Lib.hid fun W hW => hk2.keep (fun b hb => Nat.lt_of_lt_of_le hb.2 hW.size) fun b hb => hW.block b hb.2
      have HB2 := Lib.hid (belowNext hbr.out hb2)
      clear hk2 hb2
      go_wp2_with fail
      refine (as_any _ a w2 (HA.out w2 HB2.out) (by omega)).mono ?_
      rintro e w3 ⟨v3, rfl, ht3, hb3⟩
      obtain ⟨B2, d2, rfl, _⟩ := ht3.form
      have HT3 : Hid (Toks w3 (Under w3.heap.size) (.slice B2 a.length d2) a) := Lib.hid (ht3.keep (fun _ h => h.2) fun _ _ => rfl)
      have HB3 := Lib.hid (belowNext HB2.out hb3)
      have HC3 := Lib.hid hb3
      clear ht3 hb3
      go_wp2_with fail
      refine (HP2.out w3 _ HT3.out).mono ?_
      rintro e w4 ⟨v4, rfl, hk4, hb4⟩
      obtain ⟨B3, d3, rfl, _⟩ := hk4.form
      have HK4 : Hid (Kids w4 (Under w4.heap.size) (.slice B3 ks.length d3) ks) := Lib.hid (hk4.keep (fun b hb => hb.2) fun _ _ => rfl)
      have HB4 := Lib.hid (belowNext HB3.out hb4)
      have HC4 := Lib.hid (belowNext HC3.out hb4)
      clear hk4 hb4
      go_wp2_with fail
      refine (sameAll_any _ _ ks w4 (HK2.out w4 HC4.out) HK4.out HWB.out).mono ?_
      rintro e w5 ⟨rfl, hb5⟩
      have HB5 := Lib.hid (belowNext HB4.out hb5)
      clear hb5
      go_wp2_with fail
      refine (tsame_any _ _ a b w5 (HA.out w5 HB5.out) (HB.out w5 HB5.out) (by omega) (by omega)).mono ?_
      rintro e w6 ⟨rfl, hb6⟩
      have HB6 := Lib.hid (belowNext HB5.out hb6)
      clear hb6
      go_wp2_with fail
      refine (as_any _ a w6 (HA.out w6 HB6.out) (by omega)).mono ?_
      rintro e w7 ⟨v7, rfl, ht7, hb7⟩
      obtain ⟨B7, d7, rfl, _⟩ := ht7.form
      have HB7 := Lib.hid (belowNext HB6.out hb7)
      have HT7 : Hid (∀ W, Below w7.heap.size w7 W → Toks W (Under W.heap.size) (.slice B7 a.length d7) a) := Lib.hid fun W hW => ht7.keep (fun b hb => Nat.lt_of_lt_of_le hb.2 hW.size) fun b hb => hW.block b hb.2
      clear ht7 hb7
      go_wp2_with fail
      refine (as_any _ b w7 (HB.out w7 HB7.out) (by omega)).mono ?_
      rintro e w8 ⟨v8, rfl, ht8, hb8⟩
      obtain ⟨B8, d8, rfl, _⟩ := ht8.form
      have HB8 := Lib.hid (belowNext HB7.out hb8)
      have HT8 : Hid (Toks w8 (Under w8.heap.size) (.slice B8 b.length d8) b) := Lib.hid (ht8.keep (fun b hb => hb.2) fun _ _ => rfl)
      have HC8 := Lib.hid hb8
      clear ht8 hb8
      go_wp2_with fail
      refine (rsame_any _ _ a b w8 (HT7.out w8 HC8.out) HT8.out (by omega) (by omega)).mono ?_
      rintro e w9 ⟨rfl, hb9⟩
      have HB9 := Lib.hid (belowNext HB8.out hb9)
      clear hb9
      generalize sameN a b = n1 at *
      go_wp2_with fail
      refine (tback_any _ _ a b w9 (HA.out w9 HB9.out) (HB.out w9 HB9.out) (by omega) (by omega)).mono ?_
      rintro e w10 ⟨rfl, hb10⟩
      have HB10 := Lib.hid (belowNext HB9.out hb10)
      clear hb10
      go_wp2_with fail
      refine (as_any _ a w10 (HA.out w10 HB10.out) (by omega)).mono ?_
      rintro e w11 ⟨v11, rfl, ht11, hb11⟩
      obtain ⟨B11, d11, rfl, _⟩ := ht11.form
      have HB11 := Lib.hid (belowNext HB10.out hb11)
      have HT11 : Hid (∀ W, Below w11.heap.size w11 W → Toks W (Under W.heap.size) (.slice B11 a.length d11) a) := Lib.hid fun W hW => ht11.keep (fun b hb => Nat.lt_of_lt_of_le hb.2 hW.size) fun b hb => hW.block b hb.2
      clear ht11 hb11
      go_wp2_with fail
      refine (as_any _ b w11 (HB.out w11 HB11.out) (by omega)).mono ?_
      rintro e w12 ⟨v12, rfl, ht12, hb12⟩
      obtain ⟨B12, d12, rfl, _⟩ := ht12.form
      have HB12 := Lib.hid (belowNext HB11.out hb12)
      have HT12 : Hid (Toks w12 (Under w12.heap.size) (.slice B12 b.length d12) b) := Lib.hid (ht12.keep (fun b hb => hb.2) fun _ _ => rfl)
      have HC12 := Lib.hid hb12
      clear ht12 hb12
      go_wp2_with fail
      refine (rback_any _ _ a b w12 (HT11.out w12 HC12.out) HT12.out (by omega) (by omega)).mono ?_
      rintro e w13 ⟨rfl, hb13⟩
      have HB13 := Lib.hid (belowNext HB12.out hb13)
      clear hb13
      generalize backN a b = n2 at *
      go_wp2
      go_ret
      exact ⟨rfl, HB13.out⟩
end Go.Proofs.YtggoebbfgkebcaaGreatDoor
