/-
  NodeSums: a node is as great as its kids and two, deeper by one than the deepest, its words are theirs: the walk.
-/
import Derived.Test.YtjfjmcdfomanfaaDoorW15
import Derived.Test.YtjfjmcdfomanfaaDoorRight
namespace Go.Proofs.YtjfjmcdfomanfaaDoor
open Go.RowKit Go.Sort

set_option maxHeartbeats 2000000 in
theorem nodeSums_walk (v : Value) (l : List Cel) (w : World) (h : Cels w (Under w.heap.size) v l) (hT : Tabs w) :
    Calls Tryd.prog 6 #[v] w fun e w' => e = .returned (.bool true) ∧ Below w.heap.size w w' := by
  have HL := Lib.hid h
  have HT := Lib.hid hT
  clear h hT
  go_enter Tryd.func6, Tryd.ntmps6
  go_wp2_with fail
  refine (shown_any _ HT.out).mono ?_
  rintro e w1 ⟨rfl, hb1⟩
  go_wp2_with fail
  refine (doc_any _ l _ ((HL.out.below hb1).more hb1.size)).mono ?_
  rintro e w3 ⟨A4, c4, rfl, hk3, hb3⟩
  have hB3 := belowNext hb1 hb3
  have HK3 := Lib.hid (hk3.keep (S' := Under w3.heap.size) (fun _ h => h.2) (fun _ _ => rfl))
  clear hb1 hb3 hk3
  have HW := Lib.hid (madeB_weigh l)
  have HDW : Hid (weigh (docB l) ≤ 1000000) := Lib.hid (by
    have h1 := madeB_weigh l
    have h2 : DOC.size = 3 := by decide +kernel
    have h3 : ByteArray.empty.size = 0 := by decide +kernel
    simp only [docB, weigh, weighL, weighP, List.map_nil, List.sum_nil, h2, h3]; omega)
  have HDR := Lib.hid (docB_right l)
  have ht : isTxt DOC = false := by decide +kernel
  have HDS : Hid (sizeB (docB l) = 2 + totalB (madeB l)) := Lib.hid (by simp [docB, sizeB, ht])
  have HDD : Hid (depthB (docB l) = deepB (madeB l) + 1) := Lib.hid (by simp [docB, depthB, ht])
  have HDO : Hid (wordsB (docB l) = wordsAll (madeB l)) := Lib.hid (by simp [docB, wordsB, ht])
  have HND : Hid (Node w3 (Under w3.heap.size) (.agg #[.string ⟨#[100, 111, 99]⟩, .string ⟨#[]⟩, .slice none 0 0, .slice none 0 0, .slice A4 (madeB l).length c4]) (docB l)) := Lib.hid ⟨_, _, _, rfl, strs_none, pairs_none, HK3.out⟩
  clear ht
  generalize madeB l = ks at *
  generalize docB l = D at *
  go_wp2
  generalize hW4 : w3.alloc (.cells #[.string ⟨#[100, 111, 99]⟩, .string ⟨#[]⟩, .slice none 0 0, .slice none 0 0, .slice A4 ks.length c4] 26) = W4 at *
  have HX := Lib.hid (box5 (w := w3) (T := 26) (v0 := .string ⟨#[100, 111, 99]⟩) (v1 := .string ⟨#[]⟩) (v2 := .slice none 0 0) (v3 := .slice none 0 0) (v4 := .slice A4 ks.length c4) (Below.refl _ _))
  rw [hW4] at HX
  clear hW4
  have hlen : ks.length ≤ 1000 := by have := length_le_weigh ks; have := HW.out; omega
  go_loopw [5, 6, 7, 8] (fun s d ws i wr => ∃ (k : Nat) (st : ByteArray), k ≤ ks.length ∧ s = .int .i64 (2 + (totalB (ks.take k) : Int)) ∧ d = .int .i64 (deepB (ks.take k) : Int) ∧ ws = .string st ∧ Hid (st.data.toList = wordsAll (ks.take k)) ∧ i = .int .i64 k ∧ Below W4.heap.size W4 wr) (fun _ _ _ i _ => ks.length - (intOf i).toNat)
  case atStart => exact ⟨0, ⟨#[]⟩, by omega, by simp [totalB], by simp [deepB], rfl, Lib.hid (by simp [wordsAll]), rfl, Below.refl _ _⟩
  case round =>
    obtain ⟨i, st, hi, rfl, rfl, rfl, hst, rfl, hbr⟩ := hrel
    obtain ⟨x0, x1, x2, x3, x4, hbx, hzx⟩ := HX.out
    have hB4 := belowNext hbx hbr
    replace x0 := cell_kept x0 hbr
    replace x1 := cell_kept x1 hbr
    replace x2 := cell_kept x2 hbr
    replace x3 := cell_kept x3 hbr
    replace x4 := cell_kept x4 hbr
    clear hbx
    by_cases hlt : i < ks.length
    · obtain ⟨b, o, rfl, hub, hrow⟩ := HK3.out.get hlt
      have hlx : ks[i]? = some ks[i] := List.getElem?_eq_getElem hlt
      have HTK : Hid (ks.take (i + 1) = ks.take i ++ [ks[i]]) := Lib.hid (List.take_succ_eq_append_getElem hlt)
      generalize hx : ks[i] = x at *
      have hwx := weighAll_take_get ks i x HTK.out
      have hw760 := HW.out
      obtain ⟨xm, xa, xk, e0, e1, e2, e3, e4, exm, exa, exk⟩ := hrow.node hlx
      have f0 := cell_kept e0 hB4
      have f1 := cell_kept e1 hB4
      have f2 := cell_kept e2 hB4
      have f3 := cell_kept e3 hB4
      have f4 := cell_kept e4 hB4
      have HXN : Hid (Node wr (Under wr.heap.size) (.agg #[.string x.kind, .string x.text, xm, xa, xk]) x) := Lib.hid ((Node.below (B := w3.heap.size) ⟨_, _, _, rfl, exm, exa, exk⟩ hB4).more hB4.size)
      have hbl := cell_lt f0
      have hxl := cell_lt x0
      obtain ⟨A1, c1, rfl, _⟩ := exm.form
      obtain ⟨A2, c2, rfl, _⟩ := exa.form
      obtain ⟨A3, c3, rfl, _⟩ := exk.form
      have ht1 := total_le_weigh (ks.take i)
      have ht2 := size_le_weigh x
      have ht3 := deep_le_weigh (ks.take i)
      have ht4 := depth_le_weigh x
      clear e0 e1 e2 e3 e4 exm exa exk hx hlx hrow
      go_wp2_with fail
      refine (size_any _ x wr HXN.out (by omega)).mono ?_
      rintro e W5 ⟨rfl, hb5⟩
      replace f0 := cell_kept f0 hb5
      replace f1 := cell_kept f1 hb5
      replace f2 := cell_kept f2 hb5
      replace f3 := cell_kept f3 hb5
      replace f4 := cell_kept f4 hb5
      replace x0 := cell_kept x0 hb5
      replace x1 := cell_kept x1 hb5
      replace x2 := cell_kept x2 hb5
      replace x3 := cell_kept x3 hb5
      replace x4 := cell_kept x4 hb5
      have hbl5 := cell_lt f0
      have hxl5 := cell_lt x0
      go_wp2_with fail
      refine (depth_any _ x W5 ((HXN.out.below hb5).more hb5.size) (by omega)).mono ?_
      rintro e W6 ⟨rfl, hb6⟩
      replace f0 := cell_kept f0 hb6
      replace f1 := cell_kept f1 hb6
      replace f2 := cell_kept f2 hb6
      replace f3 := cell_kept f3 hb6
      replace f4 := cell_kept f4 hb6
      replace x0 := cell_kept x0 hb6
      replace x1 := cell_kept x1 hb6
      replace x2 := cell_kept x2 hb6
      replace x3 := cell_kept x3 hb6
      replace x4 := cell_kept x4 hb6
      have hbl6 := cell_lt f0
      have hxl6 := cell_lt x0
      have hb56 := belowNext hb5 hb6
      go_wp2_with fail
      refine (words_any _ x W6 ((HXN.out.below hb56).more hb56.size) (by omega)).mono ?_
      rintro e W7 ⟨rfl, hb7⟩
      have hb57 := belowNext hb56 hb7
      clear f0 f1 f2 f3 f4 x0 x1 x2 x3 x4
      have hs1 : st.size = (wordsAll (ks.take i)).length := by rw [← hst.out]; exact Lib.size_eq st
      have hs2 := wordsAll_le_weigh (ks.take i)
      have hs3 := words_le_weigh x
      have hs4 : ¬ 9223372036854775807 < st.size + (wordsB x).length := by omega
      clear hs1
      go_wp2
      refine ⟨⟨i + 1, st ++ ⟨(wordsB x).toArray⟩, by omega, ?_, ?_, rfl, Lib.hid ?_, by go_num, hbr.trans (hb57.mono hbr.size)⟩, by simp [intOf]; omega⟩
      · rw [HTK.out, totalB_append]; simp only [totalB]; congr 1; omega
      · rw [HTK.out, deepB_append]; simp only [deepB]; congr 1; omega
      · rw [HTK.out, wordsAll_append, ByteArray.data_append, Array.toList_append, hst.out]; simp [wordsAll]
    · have hfull : ks.take i = ks := List.take_of_length_le (by omega)
      have HST : Hid (st = ⟨(wordsB D).toArray⟩) := Lib.hid (by
        have h := hst.out
        rw [hfull, ← HDO.out] at h
        exact ByteArray.ext (Array.ext' (by simpa using h)))
      rw [hfull]
      have hD1 := HDS.out
      have hD2 := HDD.out
      have hD3 := HDW.out
      have hT1 := total_le_weigh ks
      have hT2 := deep_le_weigh ks
      have hT3 := HW.out
      have hND := (HND.out.below hB4).more hB4.size
      have HNR := Lib.hid hND
      have HTR := Lib.hid (HT.out.below (belowNext hB3 hB4))
      clear hND hfull hst
      have q1 : ((sizeB D : Nat) : Int) = 2 + (totalB ks : Int) := by rw [hD1]; omega
      have q2 : ((depthB D : Nat) : Int) = (deepB ks : Int) + 1 := by rw [hD2]; omega
      have Q1 := Lib.hid q1
      have Q2 := Lib.hid q2
      have HKR := Lib.hid ((HK3.out.below hB4).more hB4.size)
      clear q1 q2 hD1 hD2
      obtain ⟨S, hS⟩ : ∃ S : Int, S = 2 + (totalB ks : Int) := ⟨_, rfl⟩
      have hS1 : 2 ≤ S ∧ S ≤ 10000 := by omega
      have QT : Hid ((totalB ks : Int) = S - 2) := Lib.hid (by omega)
      rw [← hS] at Q1 ⊢
      clear hS hT1
      go_wp2_with fail
      refine (size_any _ D wr HNR.out HDW.out).mono ?_
      rintro e W5 ⟨rfl, hb5⟩
      rw [Q1.out]
      replace x0 := cell_kept x0 hb5
      replace x1 := cell_kept x1 hb5
      replace x2 := cell_kept x2 hb5
      replace x3 := cell_kept x3 hb5
      replace x4 := cell_kept x4 hb5
      go_wp2_with fail
      refine (depth_any _ D W5 ((HNR.out.below hb5).more hb5.size) HDW.out).mono ?_
      rintro e W6 ⟨rfl, hb6⟩
      rw [Q2.out]
      replace x0 := cell_kept x0 hb6
      replace x1 := cell_kept x1 hb6
      replace x2 := cell_kept x2 hb6
      replace x3 := cell_kept x3 hb6
      replace x4 := cell_kept x4 hb6
      have hb56 := belowNext hb5 hb6
      go_wp2_with fail
      refine (words_any _ D W6 ((HNR.out.below hb56).more hb56.size) HDW.out).mono ?_
      rintro e W7 ⟨rfl, hb7⟩
      rw [← HST.out]
      replace x0 := cell_kept x0 hb7
      replace x1 := cell_kept x1 hb7
      replace x2 := cell_kept x2 hb7
      replace x3 := cell_kept x3 hb7
      replace x4 := cell_kept x4 hb7
      have hb57 := belowNext hb56 hb7
      go_wp2_with fail
      refine (total_any _ ks W7 ((HKR.out.below hb57).more hb57.size) (by omega)).mono ?_
      rintro e W8 ⟨rfl, hb8⟩
      rw [QT.out]
      replace x0 := cell_kept x0 hb8
      replace x1 := cell_kept x1 hb8
      replace x2 := cell_kept x2 hb8
      replace x3 := cell_kept x3 hb8
      replace x4 := cell_kept x4 hb8
      have hb58 := belowNext hb57 hb8
      go_wp2_with fail
      refine (right_any _ D W8 ((HNR.out.below hb58).more hb58.size) HDW.out (HTR.out.below hb58)).mono ?_
      rintro e W9 ⟨rfl, hb9⟩
      rw [HDR.out]
      clear x0 x1 x2 x3 x4
      go_wp2
      go_ret
      exact ⟨rfl, belowNext hB3 (belowNext hB4 (belowNext hb58 hb9))⟩
end Go.Proofs.YtjfjmcdfomanfaaDoor
