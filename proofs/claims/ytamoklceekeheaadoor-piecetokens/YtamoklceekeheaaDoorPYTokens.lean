/-
  PieceTokens walked.
  PieceTokens: whatever raw numbers are handed in, the call answers true, and they read behind it as they read before. No condition is typed; the library's two tables of utf8 are as the program's text lays them (the card ties them).
-/
import Derived.Test.YtamoklceekeheaaDoorMC
import Derived.Test.YtamoklceekeheaaDoorMT
import Derived.Test.YtamoklceekeheaaDoorLaid
import Derived.Carry
import Derived.ChangeMaps5
namespace Go.Proofs.YtamoklceekeheaaDoor
open Go.RowKit Go.Sort Go.Maps

theorem startfit : ∀ {p : List Int} {t u : Tree}, goB t p = some u → isTxt u.kind = false → startB t p + totalB u.kids ≤ totalB t.kids := by
  intro p t u h hu
  obtain ⟨s, hs⟩ := spots_some u.kids 0 (totalB u.kids) (Nat.le_refl _)
  have := (List.getElem?_eq_some_iff.1 (spots_down p t u _ s h hu hs)).1
  rw [spotsB_len] at this; omega
set_option maxHeartbeats 20000000 in
set_option maxRecDepth 100000 in
theorem pieceTokens_walk (v v' : Value) (l l' : List Cel) (c1 c2 : Int) (w : World) (h : Cels w (Under w.heap.size) v l) (h' : Cels w (Under w.heap.size) v' l') (b1 : -9223372036854775808 ≤ c1) (b2 : c1 ≤ 9223372036854775807) (b3 : -9223372036854775808 ≤ c2) (b4 : c2 ≤ 9223372036854775807) (hT : Tabs w) :
    Calls Tryd.prog 6 #[v, v', .int .i64 c1, .int .i64 c2] w fun e w' => e = .returned (.bool true) ∧ Below w.heap.size w w' := by
  have HC := Lib.hid h
  have HC' := Lib.hid h'
  have HT := Lib.hid hT
  clear h hT h'
  go_enter Tryd.func6, Tryd.ntmps6
  go_wp2_with fail
  refine (shown5_any _ HT.out).mono ?_
  rintro e w1 ⟨rfl, hb1⟩
  have HB1 := Lib.hid hb1
  clear hb1
  go_wp2_with fail
  refine (doc_any _ l w1 ((HC.out.below HB1.out).more HB1.out.size)).mono ?_
  rintro e w2 ⟨A0, c0, rfl, hk2, hb2⟩
  have HB2 := Lib.hid (belowNext HB1.out hb2)
  have hdw := docB_weigh l
  have hmw := madeB_weigh l
  have htw := total_le_weigh (madeB l)
  have hsz := size_le_weigh (docB l)
  have HDR := Lib.hid (docB_right l)
  have HDP := Lib.hid (docB_depth l)
  have HK2 := Lib.hid (hk2.keep (S' := Under w2.heap.size) (fun _ h => h.2) (fun _ _ => rfl))
  obtain ⟨ha3, hd3, hl3⟩ := new_box w2 (.cells (docCells A0 (madeB l).length c0) 28)
  have HA3 := Lib.hid ha3
  have HX3 := Lib.hid hd3
  have HL3 := Lib.hid hl3
  clear hk2 hb2 ha3 hd3 hl3
  go_upto_region 5 with fail
  generalize w2.alloc (.cells (docCells A0 (madeB l).length c0) 28) = w3 at *
  have HB3 := Lib.hid (belowNext HB2.out HA3.out)
  have HND : Hid (∀ W, Below w3.heap.size w3 W → Node W (Under W.heap.size) (.agg (docCells A0 (madeB l).length c0)) (docB l)) := Lib.hid fun W hW => doc_node ((HK2.out.below (belowNext HA3.out hW)).more (belowNext HA3.out hW).size)
  generalize w2.heap.size = g0 at *
  have HXD : Hid (∀ W, Below w3.heap.size w3 W → W.heap[g0]? = some (.cells (docCells A0 (madeB l).length c0) 28)) := Lib.hid fun W hW => (hW.block _ HL3.out).trans HX3.out
  have HTW : Hid (∀ W, Below w3.heap.size w3 W → Tabs W) := Lib.hid fun W hW => HT.out.under (belowNext HB3.out hW)
  have HEN : Hid (∀ W, Below w3.heap.size w3 W → Below w.heap.size w W) := Lib.hid fun W hW => belowNext HB3.out hW
  have HAn : Hid (Below w3.heap.size w3 w3) := Lib.hid (Below.refl _ _)
  clear HK2 HB1 HB2 HA3 HX3 HL3
  obtain ⟨x0, x1, x2, x3, x4⟩ := cells5 (HXD.out w3 HAn.out)
  go_wp2_with fail
  refine (flat_any _ (docB l) c1 c2 w3 (HND.out _ HAn.out) (by omega) (docB_plain l) b1 b2 b3 b4).mono ?_
  rintro e w4 ⟨a, b, p, j, o, j', o', rfl, hab, hra, hrb, hb⟩
  obtain ⟨u, A, M, C, h3, ea, eb, hdm⟩ := three_flat (docB_plain l) (checkIs HDR.out).1 hra hrb hab
  have HAn := Lib.hid (belowNext HAn.out hb)
  have HRA := Lib.hid hra
  have HRB := Lib.hid hrb
  have HEA := Lib.hid ea
  have HEB := Lib.hid eb
  have H3 := Lib.hid h3
  have HM3 := Lib.hid (h3.deeps (checkIs HDR.out).1)
  have HW3 := Lib.hid h3.weighs
  clear hb hra hrb ea eb h3 hdm
  clear x0 x1 x2 x3 x4
  have hen := HEN.out _ HAn.out
  go_wp2_with fail
  refine (made_any _ l' w4 ((HC'.out.below hen).more hen.size)).mono ?_
  rintro e w5 ⟨vi, rfl, hk, hb⟩
  obtain ⟨i0, ic, rfl, _⟩ := hk.form
  have HAn := Lib.hid (belowNext HAn.out hb)
  have HKi : Hid (∀ W, Below w5.heap.size w5 W → Kids W (Under W.heap.size) (.slice i0 (madeB l').length ic) (madeB l')) := Lib.hid fun W hW => ((hk.keep (S' := Under w5.heap.size) (fun _ h => h.2) (fun _ _ => rfl)).below hW).more hW.size
  have HAi : Hid (Below w5.heap.size w5 w5) := Lib.hid (Below.refl _ _)
  have HRI := Lib.hid (madeB_ok l')
  have HBI : Hid (deepB (madeB l') ≤ 19 ∧ weighAll (madeB l') ≤ 760 ∧ totalB (madeB l') ≤ 760) := Lib.hid (by have h1 := madeB_deep l'; have h2 := madeB_weigh l'; have h3 := total_le_weigh (madeB l'); omega)
  clear hk hb hen
  have HBD := Lib.hid (three_bounds H3.out)
  obtain ⟨m, hm⟩ : ∃ m, Three.put (docB l) u p A (madeB l') C = m := ⟨_, rfl⟩
  have HME := Lib.hid hm
  have HMR := Lib.hid (H3.out.right HRI.out HDR.out (by have := HBD.out; have := HBI.out; omega) (by have := HBD.out; have := HBI.out; omega))
  rw [hm] at HMR
  have HTY2 : Hid (toksB m.kids = (toksB (madeB l)).take a ++ (toksB (madeB l') ++ (toksB (madeB l)).drop b)) := Lib.hid (by have := toks_put H3.out HRI.out; rw [← hm]; rw [HEA.out, HEB.out]; exact this)
  have HBM : Hid (weigh m ≤ 4000 ∧ sizeB m ≤ 1600) := Lib.hid (by have := HBD.out; have := HBI.out; have h2 := HMR.out.2.2.2.1; have h3 := HMR.out.2.2.2.2.1; omega)
  have HMK : Hid (weighAll m.kids ≤ 4000) := Lib.hid (by have := HBM.out; have := kids_weigh m; omega)
  have HAB : Hid (a ≤ b ∧ b ≤ (toksB (madeB l)).length ∧ (toksB (madeB l)).length ≤ 800 ∧ (toksB (madeB l')).length ≤ 800) := Lib.hid (by have := HBI.out; have h1 := H3.out.total; have h2 := HEA.out; have h3 := HEB.out; have h6 := startfit H3.out.go H3.out.plain; have h7 := docB_plain l; rw [toksB_len, toksB_len]; have h8 := sizeB_node h7; rw [docB_kids] at h6 h8; omega)
  clear hm
  obtain ⟨x0, x1, x2, x3, x4⟩ := cells5 (HXD.out w5 HAn.out)
  go_wp2_with fail
  refine (put_as _ _ w5 (HND.out _ HAn.out) (by have := HBD.out; have := HBI.out; omega) (HTW.out _ HAn.out) (HKi.out _ HAi.out) (by have := HBD.out; have := HBI.out; omega) HDR.out HRI.out H3.out HMR.out.1 HEA.out HEB.out HME.out).mono ?_
  rintro e w6 ⟨m1, mn1, mc1, m2, mn2, mc2, m3, mc3, rfl, hn, hb⟩
  obtain ⟨ha, hx, hl⟩ := new_box w6 (.cells #[.string m.kind, .string m.text, .slice m1 mn1 mc1, .slice m2 mn2 mc2, .slice m3 m.kids.length mc3] 28)
  have hbb := belowNext hb ha
  have HAn := Lib.hid (belowNext HAn.out hbb)
  have HAi := Lib.hid (belowNext HAi.out hbb)
  have HXm := Lib.hid hx
  have HLm := Lib.hid hl
  have HNm : Hid (Node (w6.alloc (.cells #[.string m.kind, .string m.text, .slice m1 mn1 mc1, .slice m2 mn2 mc2, .slice m3 m.kids.length mc3] 28)) (Under (w6.alloc (.cells #[.string m.kind, .string m.text, .slice m1 mn1 mc1, .slice m2 mn2 mc2, .slice m3 m.kids.length mc3] 28)).heap.size) (.agg #[.string m.kind, .string m.text, .slice m1 mn1 mc1, .slice m2 mn2 mc2, .slice m3 m.kids.length mc3]) m) := Lib.hid (hn.keep (fun b hb => Nat.lt_of_lt_of_le hb.2 ha.size) (fun b hb => ha.block b hb.2))
  clear hn hb ha hx hl hbb
  clear x0 x1 x2 x3 x4
  go_upto_region 8 with fail
  generalize w6.alloc (.cells #[.string m.kind, .string m.text, .slice m1 mn1 mc1, .slice m2 mn2 mc2, .slice m3 m.kids.length mc3] 28) = w7 at *
  generalize w6.heap.size = gm at *
  have HNWm : Hid (∀ W, Below w7.heap.size w7 W → Node W (Under W.heap.size) (.agg #[.string m.kind, .string m.text, .slice m1 mn1 mc1, .slice m2 mn2 mc2, .slice m3 m.kids.length mc3]) m) := Lib.hid fun W hW => (HNm.out.below hW).more hW.size
  have HXWm : Hid (∀ W, Below w7.heap.size w7 W → W.heap[gm]? = some (.cells #[.string m.kind, .string m.text, .slice m1 mn1 mc1, .slice m2 mn2 mc2, .slice m3 m.kids.length mc3] 28)) := Lib.hid fun W hW => (hW.block _ HLm.out).trans HXm.out
  have HAm : Hid (Below w7.heap.size w7 w7) := Lib.hid (Below.refl _ _)
  clear HNm HXm HLm
  obtain ⟨x0, x1, x2, x3, x4⟩ := cells5 (HXD.out w7 HAn.out)
  go_wp2_with fail
  refine (of_any _ (madeB l) w7 ((HND.out _ HAn.out)).kidsOf (by have := HBD.out; have := madeB_weigh l; omega)).mono ?_
  rintro e w8 ⟨vX, rfl, ht, hb⟩
  have htk := ht.toks
  obtain ⟨X0, Xc, rfl, _⟩ := htk.form
  have HAn := Lib.hid (belowNext HAn.out hb)
  have HAi := Lib.hid (belowNext HAi.out hb)
  have HAm := Lib.hid (belowNext HAm.out hb)
  have HTX : Hid (∀ W, Below w8.heap.size w8 W → Toks W (Under w8.heap.size) (.slice X0 (toksB (madeB l)).length Xc) (toksB (madeB l))) := Lib.hid fun W hW => htk.keep (fun _ h => h.2) (fun b hb => hW.block b hb.2)
  have HAX : Hid (Below w8.heap.size w8 w8) := Lib.hid (Below.refl _ _)
  clear ht htk hb
  clear x0 x1 x2 x3 x4
  obtain ⟨x0, x1, x2, x3, x4⟩ := cells5 (HXWm.out w8 HAm.out)
  go_wp2_with fail
  refine (of_any _ m.kids w8 ((HNWm.out _ HAm.out)).kidsOf (by have := HMK.out; omega)).mono ?_
  rintro e w9 ⟨vY, rfl, ht, hb⟩
  have htk := ht.toks
  obtain ⟨Y0, Yc, rfl, _⟩ := htk.form
  have HAn := Lib.hid (belowNext HAn.out hb)
  have HAi := Lib.hid (belowNext HAi.out hb)
  have HAm := Lib.hid (belowNext HAm.out hb)
  have HAX := Lib.hid (belowNext HAX.out hb)
  have HTY : Hid (∀ W, Below w9.heap.size w9 W → Toks W (Under w9.heap.size) (.slice Y0 (toksB m.kids).length Yc) (toksB m.kids)) := Lib.hid fun W hW => htk.keep (fun _ h => h.2) (fun b hb => hW.block b hb.2)
  have HAY : Hid (Below w9.heap.size w9 w9) := Lib.hid (Below.refl _ _)
  clear ht htk hb
  clear x0 x1 x2 x3 x4
  go_wp2_with fail
  refine (of_any _ (madeB l') w9 (HKi.out _ HAi.out) (by have := HBD.out; have := HBI.out; omega)).mono ?_
  rintro e w10 ⟨vZ, rfl, ht, hb⟩
  have htk := ht.toks
  obtain ⟨Z0, Zc, rfl, _⟩ := htk.form
  have HAn := Lib.hid (belowNext HAn.out hb)
  have HAi := Lib.hid (belowNext HAi.out hb)
  have HAm := Lib.hid (belowNext HAm.out hb)
  have HAX := Lib.hid (belowNext HAX.out hb)
  have HAY := Lib.hid (belowNext HAY.out hb)
  have HTZ : Hid (∀ W, Below w10.heap.size w10 W → Toks W (Under w10.heap.size) (.slice Z0 (toksB (madeB l')).length Zc) (toksB (madeB l'))) := Lib.hid fun W hW => htk.keep (fun _ h => h.2) (fun b hb => hW.block b hb.2)
  have HAZ : Hid (Below w10.heap.size w10 w10) := Lib.hid (Below.refl _ _)
  clear ht htk hb
  have HZN := Lib.hid (And.intro HAX.out.size (And.intro HAY.out.size HAZ.out.size))
  have hlen : (toksB m.kids).length + b = (toksB (madeB l)).length + a + (toksB (madeB l')).length := by rw [HTY2.out, List.length_append, List.length_append, List.length_take, List.length_drop]; have := HAB.out; omega
  have hY := HTY2.out
  generalize toksB (madeB l) = X at *
  generalize toksB (madeB l') = Z at *
  generalize toksB m.kids = Y at *
  have hb3 := HAB.out
  have HLEN := Lib.hid hlen
  have HYY := Lib.hid hY
  have e1 : (X.length : Int) - ((b : Int) - (a : Int)) + (Z.length : Int) = (Y.length : Int) := by omega
  have HE1 := Lib.hid e1
  have hbd : a ≤ b ∧ b ≤ X.length ∧ b ≤ 800 ∧ X.length ≤ 800 ∧ Z.length ≤ 800 ∧ Y.length ≤ 1600 := by omega
  clear hlen hY hb3 e1 hdw hmw htw hsz
  have hne : ((Y.length : Int) != (X.length : Int) - ((b : Int) - (a : Int)) + (Z.length : Int)) = false := by rw [HE1.out]; simp
  have hee : (Y.length : Int) = (X.length : Int) - ((b : Int) - (a : Int)) + (Z.length : Int) := HE1.out.symm
  go_upto_region 15 with fail
  clear hne hee
  go_wp2
  go_loopw [19] (fun i wr => ∃ k : Nat, k ≤ Y.length ∧ i = .int .i64 k ∧ Hid (Below w10.heap.size w10 wr)) (fun i _ => Y.length - (intOf i).toNat)
  case atStart => exact ⟨0, by omega, rfl, Lib.hid (Below.refl _ _)⟩
  case round =>
    obtain ⟨k, hk, rfl, hbr⟩ := hrel
    by_cases hlt : k < Y.length
    · have hyx : Y[k]? = some Y[k] := List.getElem?_eq_getElem hlt
      have HYK : Hid ((X.take a ++ (Z ++ X.drop b))[k]? = some Y[k]) := Lib.hid (by rw [← HYY.out]; exact hyx)
      generalize Y[k] = t at *
      have hzr := hbr.out.size
      have hzn := HZN.out
      obtain ⟨gy, oy, rfl, huy, y0, y1, y2⟩ := (HTY.out _ HAY.out).get hyx
      have hgy : gy < wr.heap.size := by have := HAY.out.size; unfold Under at huy; omega
      have y0' := cell_kept y0 hbr.out
      have y1' := cell_kept y1 hbr.out
      have y2' := cell_kept y2 hbr.out
      obtain ⟨ha4, hx4, hl4⟩ := new_box wr (.cells #[.int .u8 0, .string ⟨#[]⟩, .string ⟨#[]⟩] 53)
      have HB4 := Lib.hid (belowNext hbr.out ha4)
      have HX4 := Lib.hid hx4
      have HYC : Hid ((wr.alloc (.cells #[.int .u8 0, .string ⟨#[]⟩, .string ⟨#[]⟩] 53)).cell? ⟨gy, oy + k * 3, none⟩ = some (.int .u8 (t.kind : Int)) ∧ (wr.alloc (.cells #[.int .u8 0, .string ⟨#[]⟩, .string ⟨#[]⟩] 53)).cell? ⟨gy, oy + k * 3 + 1, none⟩ = some (.string t.text) ∧ (wr.alloc (.cells #[.int .u8 0, .string ⟨#[]⟩, .string ⟨#[]⟩] 53)).cell? ⟨gy, oy + k * 3 + 2, none⟩ = some (.string t.head)) := Lib.hid ⟨cell_kept y0' ha4, cell_kept y1' ha4, cell_kept y2' ha4⟩
      have HGY := Lib.hid hgy
      have HG4 := Lib.hid hbr.out.size
      clear y0 y1 y2 y0' y1' y2' ha4 hx4 hl4 huy hyx hzr hzn hgy
      go_upto_region 19 with fail
      generalize wr.alloc (.cells #[.int .u8 0, .string ⟨#[]⟩, .string ⟨#[]⟩] 53) = w4 at *
      generalize wr.heap.size = g4 at *
      have hgn := HGY.out
      have HEND : Hid (∀ W : World, W = put3z w4 g4 (.int .u8 (t.kind : Int)) (.string t.text) (.string t.head) → W.heap[g4]? = some (.cells #[.int .u8 (t.kind : Int), .string t.text, .string t.head] 53) ∧ W.cell? ⟨gy, oy + k * 3, none⟩ = some (.int .u8 (t.kind : Int)) ∧ W.cell? ⟨gy, oy + k * 3 + 1, none⟩ = some (.string t.text) ∧ W.cell? ⟨gy, oy + k * 3 + 2, none⟩ = some (.string t.head) ∧ Below w10.heap.size w10 W) := Lib.hid (by
        rintro W rfl
        have hob : (put3z w4 g4 (.int .u8 (t.kind : Int)) (.string t.text) (.string t.head)).heap[gy]? = w4.heap[gy]? := put3z_other (by omega)
        refine ⟨put3z_block HX4.out, (World.cell?_of_block (a := ⟨gy, _, none⟩) hob).trans HYC.out.1, (World.cell?_of_block (a := ⟨gy, _, none⟩) hob).trans HYC.out.2.1, (World.cell?_of_block (a := ⟨gy, _, none⟩) hob).trans HYC.out.2.2, put3z_below ?_ HB4.out⟩
        exact HG4.out)
      clear hgn
      obtain ⟨c0, c1', c2'⟩ := cells3 HX4.out
      have f0 := frozen_of_row _ _ 0 _ _ HX4.out
      have f1 := frozen_of_row _ _ 1 _ _ HX4.out
      have f2 := frozen_of_row _ _ 2 _ _ HX4.out
      by_cases hka : k < a
      · have hxk : X[k]? = some t := by have := HYK.out; rwa [List.getElem?_append_left (by rw [List.length_take]; omega), List.getElem?_take_of_lt hka] at this
        obtain ⟨gs, os, rfl, hus, s0, s1, s2⟩ := (HTX.out _ HAX.out).get hxk
        have s0 := cell_kept s0 HB4.out
        have s1 := cell_kept s1 HB4.out
        have s2 := cell_kept s2 HB4.out
        have hkx : k < X.length := (List.getElem?_eq_some_iff.1 hxk).1
        clear hxk hus
        go_upto_region 24 with fail
        clear c0 c1' c2' f0 f1 f2 s0 s1 s2
        have hend := HEND.out _ rfl
        unfold put3z at hend
        generalize ((w4.setCell ⟨g4, 0, none⟩ (.int .u8 (t.kind : Int))).setCell ⟨g4, 1, none⟩ (.string t.text)).setCell ⟨g4, 2, none⟩ (.string t.head) = w5 at *
        obtain ⟨hx5, z0, z1, z2, hb5⟩ := hend
        obtain ⟨c0, c1', c2'⟩ := cells3 hx5
        have HB5 := Lib.hid hb5
        clear hx5 hb5
        go_quiet (fail)
        go_wp2
        exact ⟨⟨k + 1, by omega, by go_num, Lib.hid (drawn_on HB5.out _)⟩, by simp [intOf]; omega⟩
      · by_cases hkz : k < a + Z.length
        · obtain ⟨j, hj⟩ : ∃ j, k = a + j := ⟨k - a, by omega⟩
          have hxk : Z[j]? = some t := by
            have := HYK.out
            rw [List.getElem?_append_right (by rw [List.length_take]; omega), List.length_take, List.getElem?_append_left (by omega)] at this
            rwa [show k - min a X.length = j by omega] at this
          obtain ⟨gs, os, rfl, hus, s0, s1, s2⟩ := (HTZ.out _ HAZ.out).get hxk
          have s0 := cell_kept s0 HB4.out
          have s1 := cell_kept s1 HB4.out
          have s2 := cell_kept s2 HB4.out
          have hkx : j < Z.length := (List.getElem?_eq_some_iff.1 hxk).1
          have hjj : (k : Int) - (a : Int) = (j : Int) := by omega
          have HJ := Lib.hid hj
          clear hxk hus hj
          go_upto_region 24 with fail
          clear c0 c1' c2' f0 f1 f2 s0 s1 s2
          have hend := HEND.out _ rfl
          unfold put3z at hend
          generalize ((w4.setCell ⟨g4, 0, none⟩ (.int .u8 (t.kind : Int))).setCell ⟨g4, 1, none⟩ (.string t.text)).setCell ⟨g4, 2, none⟩ (.string t.head) = w5 at *
          obtain ⟨hx5, z0, z1, z2, hb5⟩ := hend
          obtain ⟨c0, c1', c2'⟩ := cells3 hx5
          have HB5 := Lib.hid hb5
          clear hx5 hb5
          go_quiet (fail)
          go_wp2
          exact ⟨⟨k + 1, by omega, by go_num, Lib.hid (drawn_on HB5.out _)⟩, by simp [intOf]; omega⟩
        · obtain ⟨j1, hj1⟩ : ∃ j, k = Z.length + j := ⟨k - Z.length, by omega⟩
          obtain ⟨j3, hj3⟩ : ∃ j, j1 + b = a + j := ⟨j1 + b - a, by omega⟩
          have hxk : X[j3]? = some t := by
            have := HYK.out
            rw [List.getElem?_append_right (by rw [List.length_take]; omega), List.length_take, List.getElem?_append_right (by omega), List.getElem?_drop] at this
            rwa [show b + (k - min a X.length - Z.length) = j3 by omega] at this
          obtain ⟨gs, os, rfl, hus, s0, s1, s2⟩ := (HTX.out _ HAX.out).get hxk
          have s0 := cell_kept s0 HB4.out
          have s1 := cell_kept s1 HB4.out
          have s2 := cell_kept s2 HB4.out
          have hkx : j3 < X.length := (List.getElem?_eq_some_iff.1 hxk).1
          have hjj : (k : Int) - (Z.length : Int) = (j1 : Int) := by omega
          have hjk : (j1 : Int) + (b : Int) - (a : Int) = (j3 : Int) := by omega
          have hjl : j1 ≤ 1600 := by omega
          have HJ := Lib.hid (And.intro hj1 hj3)
          clear hxk hus hj1 hj3
          go_upto_region 24 with fail
          clear c0 c1' c2' f0 f1 f2 s0 s1 s2
          have hend := HEND.out _ rfl
          unfold put3z at hend
          generalize ((w4.setCell ⟨g4, 0, none⟩ (.int .u8 (t.kind : Int))).setCell ⟨g4, 1, none⟩ (.string t.text)).setCell ⟨g4, 2, none⟩ (.string t.head) = w5 at *
          obtain ⟨hx5, z0, z1, z2, hb5⟩ := hend
          obtain ⟨c0, c1', c2'⟩ := cells3 hx5
          have HB5 := Lib.hid hb5
          clear hx5 hb5
          go_quiet (fail)
          go_wp2
          exact ⟨⟨k + 1, by omega, by go_num, Lib.hid (drawn_on HB5.out _)⟩, by simp [intOf]; omega⟩
    · obtain rfl : k = Y.length := by omega
      have HENQ := Lib.hid (HEN.out _ (belowNext HAn.out hbr.out))
      go_wp2
      go_ret
      exact ⟨rfl, HENQ.out⟩
end Go.Proofs.YtamoklceekeheaaDoor

namespace Go.Proofs.YtamoklceekeheaaDoor
open Go.ChangeShapes Go.WideShapes Go.ChangeAt Go.RowKit Go.Lib Go.ChangeMaps

set_option maxRecDepth 100000 in
theorem pieceTokens_laid (os : Os) (args : Array Value) : laidMet Tryd.prog Rows.pieceTokensRow.laid ((laidWorld os).forCall (fun _ _ => 0) ⟨#[], args, []⟩).memory :=
  (LaidIn.of_run (l := [("unicode/utf8.acceptRanges", Lib.acceptData), ("unicode/utf8.first", Lib.firstData)]) [1, 0] 8 (by kernel_rfl) (by kernel_rfl) (by kernel_rfl) (by kernel_rfl)).met

set_option maxRecDepth 100000 in
theorem pieceTokens_contract (H : Type) (enc : TypeId × Value → H) (W : World) (base : Nat) (args : Array Value) (ds gs : List (DataW H)) (before : List MemPlace)
    (hval : ∀ (j : Nat) t v, Tryd.f6.params[j]? = some t → args[j]? = some v → Value.okWide Tryd.prog W .any base t v)
    (hW : DataW.Whole enc Tryd.prog Tryd.f6.params.toList Rows.pieceTokensSpec.vars false W args.toList ds gs before) (hL : Tabs W) :
    Calls Tryd.prog 6 args W fun e W' => ∃ v, e = .returned v ∧ Rows.pieceTokensSpec.post enc Tryd.prog Tryd.f6 false true false false W args v W' := by
  have hW' := hW
  have hlt : ∀ p ∈ before, p.block < W.heap.size := fun p hp => hW.lt p hp
  obtain ⟨p, q, hA0, hV, rfl, hfz, hnd⟩ := hW
  have hA : DataW.TrodAll enc Tryd.prog W 0 (fun _ => true) true Tryd.f6.params.toList args.toList ds p := hA0
  rw [Tryd.params6] at hA hval
  obtain ⟨v0, v1, v2, v3, d0, d1, d2, d3, p0, p1, p2, p3, hargs, rfl, rfl, h0, h1, h2, h3⟩ := trodAll_four hA
  obtain rfl : args = #[v0, v1, v2, v3] := by cases args; simp_all
  obtain ⟨rfl, rfl⟩ := trodVars_none hV
  obtain ⟨A0, len0, cap0, rfl⟩ := okWide_slice Tryd.underlying22 (hval 0 22 v0 rfl rfl)
  obtain ⟨A1, len1, cap1, rfl⟩ := okWide_slice Tryd.underlying22 (hval 1 22 v1 rfl rfl)
  obtain ⟨n2, rfl, rfl, rfl, ww2⟩ := open_int Tryd.underlying3 (hval 2 3 v2 rfl rfl) h2
  obtain ⟨lo2, hi2⟩ := bounds_i64 ww2
  obtain ⟨n3, rfl, rfl, rfl, ww3⟩ := open_int Tryd.underlying3 (hval 3 3 v3 rfl rfl) h3
  obtain ⟨lo3, hi3⟩ := bounds_i64 ww3
  have h0' := h0
  obtain ⟨fuel0, hf0⟩ := h0
  obtain ⟨l0, hl0⟩ := cels_of (by simpa [Value.cells] using hf0)
  have h1' := h1
  obtain ⟨fuel1, hf1⟩ := h1
  obtain ⟨l1, hl1⟩ := cels_of (by simpa [Value.cells] using hf1)
  refine (pieceTokens_walk _ _ l0 l1 n2 n3 W hl0 hl1 lo2 hi2 lo3 hi3 hL).mono fun e W' ⟨he, hb⟩ => ?_
  subst he
  have e1 : Rows.pieceTokensSpec.fn H ([d0, d1, .lit (.int .i64 n2), .lit (.int .i64 n3)] ++ []) = { results := [.lit (.bool true)], args := [d0, d1, .lit (.int .i64 n2), .lit (.int .i64 n3)] } := rfl
  refine ⟨_, rfl, _, _, _, [], p0 ++ p1, [], hW', ?_, ?_, ?_, hb.frame _, fun h => by cases h⟩
  · rw [e1]; exact trodAll_mk1 (shut_bool Tryd.underlying4 _)
  · rw [e1]
    have t2 := trodAll_mk4 (Below.trod laidOut (by kernel_rfl) (of_decide_eq_true (by kernel_rfl)) h0' hb (fun x hx => hlt x (by simp [hx]))) (Below.trod laidOut (by kernel_rfl) (of_decide_eq_true (by kernel_rfl)) h1' hb (fun x hx => hlt x (by simp [hx]))) (shut_int Tryd.underlying3 ww2) (shut_int Tryd.underlying3 ww3)
    simp only [List.append_nil] at t2
    exact t2
  · rw [e1]; rfl

theorem pieceTokens_reads (os : Os) {H : Type} (enc : TypeId × Value → H) : ∃ places, DataW.whole enc Tryd.prog ((laidWorld os).forCall (fun _ _ => 0) ⟨#[], #[.slice none 0 0, .slice none 0 0, .int .i64 0, .int .i64 0], []⟩).memory Tryd.f6.params.toList Rows.pieceTokensSpec.vars false #[Value.slice none 0 0, .slice none 0 0, .int .i64 0, .int .i64 0].toList 8 = some ([.nil, .nil, .lit (.int .i64 0), .lit (.int .i64 0)], [], places) :=
  ⟨[], by kernel_rfl⟩

set_option maxRecDepth 100000 in
theorem pieceTokens_lifted (os : Os) (started : os.Started) (H : Type) (enc : TypeId × Value → H) (F : Stop.Interp) :
    ReturnsInHanded {} Tryd.checked os 6 .any ((OpenSpec.ofChange Rows.pieceTokensSpec).preRow enc Tryd.prog Tryd.f6 Rows.pieceTokensRow.domain false Rows.pieceTokensRow.laid) (((OpenSpec.ofChange Rows.pieceTokensSpec).at F).post enc Tryd.prog Tryd.f6 false true false false) := by
  obtain ⟨places, hx⟩ := pieceTokens_reads os enc
  refine returnsInHanded_of_row (C := Tryd.checked) (s := OpenSpec.ofChange Rows.pieceTokensSpec) own started (by kernel_rfl) Tryd.func6
    (witness_row_at (enc := enc) (C := Tryd.checked) false (laidWorld os) #[.slice none 0 0, .slice none 0 0, .int .i64 0, .int .i64 0] rfl (by kernel_rfl) (by kernel_rfl) (by kernel_rfl)
      (OpenSpec.preRow_of_cond 8 hx (by kernel_rfl) (fun k hk => by cases hk) (by kernel_rfl) (pieceTokens_laid os _))) ?_
  intro W base args ds gs before hval hW _ _ _ hL _ _
  exact pieceTokens_contract H enc W base args ds gs before hval hW (tabs_of (by rw [← first_is, ← accept_is]; exact hL))

theorem pieceTokens_said : Rows.PieceTokensSaid :=
  OpenClaim.holds_of_cond 6 Tryd.f6 rfl rfl rfl rfl rfl rfl rfl ⟨rfl, rfl, rfl, rfl, rfl⟩ rfl rfl rfl rfl rfl (by kernel_rfl) Tryd.func6 (by kernel_rfl)
    (of_decide_eq_true (by kernel_rfl)) (by unfold Func.isWrapper; first | (rw [if_pos (by decide +kernel)]; kernel_rfl) | (rw [if_neg (by decide +kernel)]; exact ⟨rfl, rfl⟩))
    (fun os started H enc _ F => by rw [OpenClaim.pre_eq_preRow]; exact pieceTokens_lifted os started H enc F)

theorem pieceTokens_plain (f : FuncId) (fn : Func) (hf : Tryd.pinned.checked.prog.funcNamed "diptych/diptychlaw5.PieceTokens" = some f) (hfn : Tryd.pinned.checked.prog.funcs[f]? = some fn) :
    false = Tryd.pinned.checked.prog.looks [] ∧ ∀ (j : Nat) t, fn.params[j]? = some t → Tryd.pinned.checked.prog.wantsStandIn t = false := by
  obtain rfl : f = 6 := Option.some.inj ((show Tryd.prog.funcNamed "diptych/diptychlaw5.PieceTokens" = some 6 by kernel_rfl).symm.trans hf) |>.symm
  obtain rfl : fn = Tryd.f6 := (Option.some.inj (Tryd.func6.symm.trans hfn)).symm
  refine ⟨by kernel_rfl, fun j t ht => ?_⟩
  rw [Tryd.params6] at ht
  have h : t = 22 ∨ t = 3 := by simpa using Array.mem_of_getElem? ht
  rcases h with rfl | rfl
  · exact (show Tryd.prog.wantsStandIn 22 = false by kernel_rfl)
  · exact (show Tryd.prog.wantsStandIn 3 = false by kernel_rfl)

theorem pieceTokens_card : Rows.PieceTokensCardSaid :=
  Claim7.holds_tied_plain_at .later [] _ _ _ _ pieceTokens_said (fun _ h => by cases h) (by kernel_rfl) (fun _ h => by cases h) pieceTokens_row_tie rfl ⟨rfl, rfl⟩ (by kernel_rfl) rfl pieceTokens_plain (by kernel_rfl)
end Go.Proofs.YtamoklceekeheaaDoor
