/-
  PieceIn walked.
-/
import Derived.Test.YtamoklceekeheaaDoorMC
import Derived.Deep.DrawnRows
namespace Go.Proofs.YtamoklceekeheaaDoor
open Go.RowKit Go.Sort Go.Maps

set_option maxHeartbeats 20000000 in
set_option maxRecDepth 100000 in
theorem pieceIn_walk (v v' : Value) (l l' : List Cel) (c1 c2 : Int) (w : World) (h : Cels w (Under w.heap.size) v l) (h' : Cels w (Under w.heap.size) v' l') (b1 : -9223372036854775808 ≤ c1) (b2 : c1 ≤ 9223372036854775807) (b3 : -9223372036854775808 ≤ c2) (b4 : c2 ≤ 9223372036854775807) (hT : Tabs w) :
    Calls Tryd.prog 4 #[v, v', .int .i64 c1, .int .i64 c2] w fun e w' => e = .returned (.bool true) ∧ Below w.heap.size w w' := by
  have HC := Lib.hid h
  have HC' := Lib.hid h'
  have HT := Lib.hid hT
  clear h hT h'
  go_enter Tryd.func4, Tryd.ntmps4
  go_wp2_with fail
  refine (shown5_any _ HT.out).mono ?_
  rintro e w1 ⟨rfl, hb1⟩
  have HB1 := Lib.hid hb1
  clear hb1
  go_wp2_with fail
  refine (doc_any _ l w1 ((HC.out.below HB1.out).more HB1.out.size)).mono ?_
  rintro e w2 ⟨A0, c0, rfl, hk2, hb2⟩
  have HB2 := Lib.hid (belowNext HB1.out hb2)
  have hdw := docB_weigh l
  have hmw := madeB_weigh l
  have htw := total_le_weigh (madeB l)
  have hsz := size_le_weigh (docB l)
  have HDR := Lib.hid (docB_right l)
  have HDP := Lib.hid (docB_depth l)
  have HK2 := Lib.hid (hk2.keep (S' := Under w2.heap.size) (fun _ h => h.2) (fun _ _ => rfl))
  obtain ⟨ha3, hd3, hl3⟩ := new_box w2 (.cells (docCells A0 (madeB l).length c0) 28)
  have HA3 := Lib.hid ha3
  have HX3 := Lib.hid hd3
  have HL3 := Lib.hid hl3
  clear hk2 hb2 ha3 hd3 hl3
  go_upto_region 5 with fail
  generalize w2.alloc (.cells (docCells A0 (madeB l).length c0) 28) = w3 at *
  have HB3 := Lib.hid (belowNext HB2.out HA3.out)
  have HND : Hid (∀ W, Below w3.heap.size w3 W → Node W (Under W.heap.size) (.agg (docCells A0 (madeB l).length c0)) (docB l)) := Lib.hid fun W hW => doc_node ((HK2.out.below (belowNext HA3.out hW)).more (belowNext HA3.out hW).size)
  generalize w2.heap.size = g0 at *
  have HXD : Hid (∀ W, Below w3.heap.size w3 W → W.heap[g0]? = some (.cells (docCells A0 (madeB l).length c0) 28)) := Lib.hid fun W hW => (hW.block _ HL3.out).trans HX3.out
  have HTW : Hid (∀ W, Below w3.heap.size w3 W → Tabs W) := Lib.hid fun W hW => HT.out.under (belowNext HB3.out hW)
  have HEN : Hid (∀ W, Below w3.heap.size w3 W → Below w.heap.size w W) := Lib.hid fun W hW => belowNext HB3.out hW
  have HAn : Hid (Below w3.heap.size w3 w3) := Lib.hid (Below.refl _ _)
  clear HK2 HB1 HB2 HA3 HX3 HL3
  obtain ⟨x0, x1, x2, x3, x4⟩ := cells5 (HXD.out w3 HAn.out)
  go_wp2_with fail
  refine (flat_any _ (docB l) c1 c2 w3 (HND.out _ HAn.out) (by omega) (docB_plain l) b1 b2 b3 b4).mono ?_
  rintro e w4 ⟨a, b, p, j, o, j', o', rfl, hab, hra, hrb, hb⟩
  obtain ⟨u, A, M, C, h3, ea, eb, hdm⟩ := three_flat (docB_plain l) (checkIs HDR.out).1 hra hrb hab
  have HAn := Lib.hid (belowNext HAn.out hb)
  have HRA := Lib.hid hra
  have HRB := Lib.hid hrb
  have HEA := Lib.hid ea
  have HEB := Lib.hid eb
  have H3 := Lib.hid h3
  have HM3 := Lib.hid (h3.deeps (checkIs HDR.out).1)
  have HW3 := Lib.hid h3.weighs
  clear hb hra hrb ea eb h3 hdm
  clear x0 x1 x2 x3 x4
  have hen := HEN.out _ HAn.out
  go_wp2_with fail
  refine (made_any _ l' w4 ((HC'.out.below hen).more hen.size)).mono ?_
  rintro e w5 ⟨vi, rfl, hk, hb⟩
  obtain ⟨i0, ic, rfl, _⟩ := hk.form
  have HAn := Lib.hid (belowNext HAn.out hb)
  have HKi : Hid (∀ W, Below w5.heap.size w5 W → Kids W (Under W.heap.size) (.slice i0 (madeB l').length ic) (madeB l')) := Lib.hid fun W hW => ((hk.keep (S' := Under w5.heap.size) (fun _ h => h.2) (fun _ _ => rfl)).below hW).more hW.size
  have HAi : Hid (Below w5.heap.size w5 w5) := Lib.hid (Below.refl _ _)
  have HRI := Lib.hid (madeB_ok l')
  have HBI : Hid (deepB (madeB l') ≤ 19 ∧ weighAll (madeB l') ≤ 760 ∧ totalB (madeB l') ≤ 760) := Lib.hid (by have h1 := madeB_deep l'; have h2 := madeB_weigh l'; have h3 := total_le_weigh (madeB l'); omega)
  clear hk hb hen
  have HBD := Lib.hid (three_bounds H3.out)
  obtain ⟨m, hm⟩ : ∃ m, Three.put (docB l) u p A (madeB l') C = m := ⟨_, rfl⟩
  have HME := Lib.hid hm
  have HMR := Lib.hid (H3.out.right HRI.out HDR.out (by have := HBD.out; have := HBI.out; omega) (by have := HBD.out; have := HBI.out; omega))
  rw [hm] at HMR
  have HM3' := Lib.hid (H3.out.after HRI.out)
  rw [hm] at HM3'
  have HBM : Hid (weigh m ≤ 4000 ∧ depthB m ≤ 39 ∧ sizeB m ≤ 1600 ∧ startB m p = startB (docB l) p) := Lib.hid (by have := HBD.out; have := HBI.out; have h1 := HMR.out.2.2.1; have h2 := HMR.out.2.2.2.1; have h3 := HMR.out.2.2.2.2.1; have h4 := HMR.out.2.2.2.2.2; omega)
  have HYE : Hid (Three.put m (withKids u (joinB (A ++ (madeB l' ++ C)))) p A M C = docB l) := Lib.hid (by rw [← hm, put_again H3.out]; exact put_same H3.out)
  obtain ⟨s, hs⟩ : ∃ s : Nat, s = a + totalB (madeB l') := ⟨_, rfl⟩
  have HSE := Lib.hid hs
  have HSUM : Hid ((a : Int) + (totalB (madeB l') : Int) = (s : Int)) := Lib.hid (by omega)
  have HSB : Hid (a ≤ 100000 ∧ totalB (madeB l') ≤ 100000) := Lib.hid (by have := HBD.out; have := HBI.out; have := HEA.out; omega)
  clear hm hs
  obtain ⟨x0, x1, x2, x3, x4⟩ := cells5 (HXD.out w5 HAn.out)
  go_wp2_with fail
  refine (cut_three _ w5 (HND.out _ HAn.out) (by have := HBD.out; have := HBI.out; omega) (HTW.out _ HAn.out) HDR.out H3.out HEA.out HEB.out).mono ?_
  rintro e w6 ⟨k0, kc, rfl, hk, hb⟩
  have HAn := Lib.hid (belowNext HAn.out hb)
  have HAi := Lib.hid (belowNext HAi.out hb)
  have HKk : Hid (∀ W, Below w6.heap.size w6 W → Kids W (Under W.heap.size) (.slice k0 M.length kc) M) := Lib.hid fun W hW => ((hk.keep (S' := Under w6.heap.size) (fun _ h => h.2) (fun _ _ => rfl)).below hW).more hW.size
  have HAk : Hid (Below w6.heap.size w6 w6) := Lib.hid (Below.refl _ _)
  clear hk hb
  clear x0 x1 x2 x3 x4
  obtain ⟨x0, x1, x2, x3, x4⟩ := cells5 (HXD.out w6 HAn.out)
  go_wp2_with fail
  refine (put_as _ _ w6 (HND.out _ HAn.out) (by have := HBD.out; have := HBI.out; omega) (HTW.out _ HAn.out) (HKi.out _ HAi.out) (by have := HBD.out; have := HBI.out; omega) HDR.out HRI.out H3.out HMR.out.1 HEA.out HEB.out HME.out).mono ?_
  rintro e w7 ⟨m1, mn1, mc1, m2, mn2, mc2, m3, mc3, rfl, hn, hb⟩
  obtain ⟨ha, hx, hl⟩ := new_box w7 (.cells #[.string m.kind, .string m.text, .slice m1 mn1 mc1, .slice m2 mn2 mc2, .slice m3 m.kids.length mc3] 28)
  have hbb := belowNext hb ha
  have HAn := Lib.hid (belowNext HAn.out hbb)
  have HAi := Lib.hid (belowNext HAi.out hbb)
  have HAk := Lib.hid (belowNext HAk.out hbb)
  have HXm := Lib.hid hx
  have HLm := Lib.hid hl
  have HNm : Hid (Node (w7.alloc (.cells #[.string m.kind, .string m.text, .slice m1 mn1 mc1, .slice m2 mn2 mc2, .slice m3 m.kids.length mc3] 28)) (Under (w7.alloc (.cells #[.string m.kind, .string m.text, .slice m1 mn1 mc1, .slice m2 mn2 mc2, .slice m3 m.kids.length mc3] 28)).heap.size) (.agg #[.string m.kind, .string m.text, .slice m1 mn1 mc1, .slice m2 mn2 mc2, .slice m3 m.kids.length mc3]) m) := Lib.hid (hn.keep (fun b hb => Nat.lt_of_lt_of_le hb.2 ha.size) (fun b hb => ha.block b hb.2))
  clear hn hb ha hx hl hbb
  clear x0 x1 x2 x3 x4
  go_upto_region 9 with fail
  generalize w7.alloc (.cells #[.string m.kind, .string m.text, .slice m1 mn1 mc1, .slice m2 mn2 mc2, .slice m3 m.kids.length mc3] 28) = w8 at *
  generalize w7.heap.size = gm at *
  have HNWm : Hid (∀ W, Below w8.heap.size w8 W → Node W (Under W.heap.size) (.agg #[.string m.kind, .string m.text, .slice m1 mn1 mc1, .slice m2 mn2 mc2, .slice m3 m.kids.length mc3]) m) := Lib.hid fun W hW => (HNm.out.below hW).more hW.size
  have HXWm : Hid (∀ W, Below w8.heap.size w8 W → W.heap[gm]? = some (.cells #[.string m.kind, .string m.text, .slice m1 mn1 mc1, .slice m2 mn2 mc2, .slice m3 m.kids.length mc3] 28)) := Lib.hid fun W hW => (hW.block _ HLm.out).trans HXm.out
  have HAm : Hid (Below w8.heap.size w8 w8) := Lib.hid (Below.refl _ _)
  clear HNm HXm HLm
  go_wp2_with fail
  refine (total_any _ (madeB l') w8 (HKi.out _ HAi.out) (by have := HBD.out; have := HBI.out; omega)).mono ?_
  rintro e w9 ⟨rfl, hb⟩
  have HAn := Lib.hid (belowNext HAn.out hb)
  have HAi := Lib.hid (belowNext HAi.out hb)
  have HAk := Lib.hid (belowNext HAk.out hb)
  have HAm := Lib.hid (belowNext HAm.out hb)
  clear hb
  have hsb := HSB.out
  obtain ⟨x0, x1, x2, x3, x4⟩ := cells5 (HXWm.out w9 HAm.out)
  go_wp2_with fail
  rw [HSUM.out]
  refine (cut_three _ w9 (HNWm.out _ HAm.out) (by have := HBM.out; omega) (HTW.out _ HAn.out) HMR.out.1 HM3'.out (by have := HBM.out; have := HEA.out; omega) (by have := HBM.out; have := HEA.out; have := HSE.out; omega)).mono ?_
  rintro e w10 ⟨r0, rc, rfl, hk, hb⟩
  have HAn := Lib.hid (belowNext HAn.out hb)
  have HAi := Lib.hid (belowNext HAi.out hb)
  have HAk := Lib.hid (belowNext HAk.out hb)
  have HAm := Lib.hid (belowNext HAm.out hb)
  have HKr : Hid (∀ W, Below w10.heap.size w10 W → Kids W (Under W.heap.size) (.slice r0 (madeB l').length rc) (madeB l')) := Lib.hid fun W hW => ((hk.keep (S' := Under w10.heap.size) (fun _ h => h.2) (fun _ _ => rfl)).below hW).more hW.size
  have HAr : Hid (Below w10.heap.size w10 w10) := Lib.hid (Below.refl _ _)
  clear hk hb
  clear x0 x1 x2 x3 x4
  obtain ⟨x0, x1, x2, x3, x4⟩ := cells5 (HXWm.out w10 HAm.out)
  go_wp2_with fail
  rw [HSUM.out]
  refine (put_as _ _ w10 (HNWm.out _ HAm.out) (by have := HBM.out; omega) (HTW.out _ HAn.out) (HKk.out _ HAk.out) (by have := HBD.out; have := HBI.out; omega) HMR.out.1 H3.out.mid HM3'.out HDR.out (by have := HBM.out; have := HEA.out; omega) (by have := HBM.out; have := HEA.out; have := HSE.out; omega) HYE.out).mono ?_
  rintro e w11 ⟨y1, yn1, yc1, y2, yn2, yc2, y3, yc3, rfl, hn, hb⟩
  obtain ⟨ha, hx, hl⟩ := new_box w11 (.cells #[.string (docB l).kind, .string (docB l).text, .slice y1 yn1 yc1, .slice y2 yn2 yc2, .slice y3 (docB l).kids.length yc3] 28)
  have hbb := belowNext hb ha
  have HAn := Lib.hid (belowNext HAn.out hbb)
  have HAi := Lib.hid (belowNext HAi.out hbb)
  have HAk := Lib.hid (belowNext HAk.out hbb)
  have HAm := Lib.hid (belowNext HAm.out hbb)
  have HAr := Lib.hid (belowNext HAr.out hbb)
  have HXy := Lib.hid hx
  have HLy := Lib.hid hl
  have HNy : Hid (Node (w11.alloc (.cells #[.string (docB l).kind, .string (docB l).text, .slice y1 yn1 yc1, .slice y2 yn2 yc2, .slice y3 (docB l).kids.length yc3] 28)) (Under (w11.alloc (.cells #[.string (docB l).kind, .string (docB l).text, .slice y1 yn1 yc1, .slice y2 yn2 yc2, .slice y3 (docB l).kids.length yc3] 28)).heap.size) (.agg #[.string (docB l).kind, .string (docB l).text, .slice y1 yn1 yc1, .slice y2 yn2 yc2, .slice y3 (docB l).kids.length yc3]) (docB l)) := Lib.hid (hn.keep (fun b hb => Nat.lt_of_lt_of_le hb.2 ha.size) (fun b hb => ha.block b hb.2))
  clear hn hb ha hx hl hbb
  clear x0 x1 x2 x3 x4
  go_upto_region 12 with fail
  generalize w11.alloc (.cells #[.string (docB l).kind, .string (docB l).text, .slice y1 yn1 yc1, .slice y2 yn2 yc2, .slice y3 (docB l).kids.length yc3] 28) = w12 at *
  generalize w11.heap.size = gy at *
  have HNWy : Hid (∀ W, Below w12.heap.size w12 W → Node W (Under W.heap.size) (.agg #[.string (docB l).kind, .string (docB l).text, .slice y1 yn1 yc1, .slice y2 yn2 yc2, .slice y3 (docB l).kids.length yc3]) (docB l)) := Lib.hid fun W hW => (HNy.out.below hW).more hW.size
  have HXWy : Hid (∀ W, Below w12.heap.size w12 W → W.heap[gy]? = some (.cells #[.string (docB l).kind, .string (docB l).text, .slice y1 yn1 yc1, .slice y2 yn2 yc2, .slice y3 (docB l).kids.length yc3] 28)) := Lib.hid fun W hW => (hW.block _ HLy.out).trans HXy.out
  have HAy : Hid (Below w12.heap.size w12 w12) := Lib.hid (Below.refl _ _)
  clear HNy HXy HLy
  have HQ1 := Lib.hid (regrown_any (w := w12) (f := 19) (args := #[(.slice r0 (madeB l').length rc), (.slice i0 (madeB l').length ic)]) (v := .bool true) fun W hW => sameAll_any _ _ (madeB l') W (HKr.out W (belowNext HAr.out hW)) (HKi.out W (belowNext HAi.out hW)) (by have := HBD.out; have := HBI.out; omega))
  have HQ2 := Lib.hid (regrown_any (w := w12) (f := 16) (args := #[(.agg #[.string (docB l).kind, .string (docB l).text, .slice y1 yn1 yc1, .slice y2 yn2 yc2, .slice y3 (docB l).kids.length yc3]), (.agg (docCells A0 (madeB l).length c0))]) (v := .bool true) fun W hW => walk_res (nsame_any _ _ (docB l) (docB l) W (HNWy.out W (belowNext HAy.out hW)) (HND.out W (belowNext HAn.out hW)) (by have := HBD.out; have := HBI.out; omega) (by have := HBD.out; have := HBI.out; omega)) (sameB_self _))
  have HQ3 := Lib.hid (regrown_any (w := w12) (f := 17) (args := #[(.agg #[.string m.kind, .string m.text, .slice m1 mn1 mc1, .slice m2 mn2 mc2, .slice m3 m.kids.length mc3])]) (v := .int .i64 (sizeB m)) fun W hW => size_any _ m W (HNWm.out W (belowNext HAm.out hW)) (by have := HBM.out; omega))
  have HQ4 := Lib.hid (regrown_any (w := w12) (f := 17) (args := #[(.agg (docCells A0 (madeB l).length c0))]) (v := .int .i64 (sizeB (docB l))) fun W hW => size_any _ (docB l) W (HND.out W (belowNext HAn.out hW)) (by have := HBD.out; have := HBI.out; omega))
  have HQ5 := Lib.hid (regrown_any (w := w12) (f := 20) (args := #[(.agg #[.string m.kind, .string m.text, .slice m1 mn1 mc1, .slice m2 mn2 mc2, .slice m3 m.kids.length mc3])]) (v := .bool true) fun W hW => walk_res (right_any _ m W (HNWm.out W (belowNext HAm.out hW)) (by have := HBM.out; omega) (HTW.out W (belowNext HAn.out hW))) (by rw [HMR.out.1]; rfl))
  obtain ⟨xq0, xq1, xq2, xq3, xq4⟩ := cells5 (HXD.out w12 HAn.out)
  have xq0 := cell_regrown xq0
  have xq1 := cell_regrown xq1
  have xq2 := cell_regrown xq2
  have xq3 := cell_regrown xq3
  have xq4 := cell_regrown xq4
  obtain ⟨yq0, yq1, yq2, yq3, yq4⟩ := cells5 (HXWm.out w12 HAm.out)
  have yq0 := cell_regrown yq0
  have yq1 := cell_regrown yq1
  have yq2 := cell_regrown yq2
  have yq3 := cell_regrown yq3
  have yq4 := cell_regrown yq4
  obtain ⟨zq0, zq1, zq2, zq3, zq4⟩ := cells5 (HXWy.out w12 HAy.out)
  have zq0 := cell_regrown zq0
  have zq1 := cell_regrown zq1
  have zq2 := cell_regrown zq2
  have zq3 := cell_regrown zq3
  have zq4 := cell_regrown zq4
  have hsx := HMR.out.2.2.2.1
  have hbd := HBD.out
  have hbi := HBI.out
  have hea := HEA.out
  have heb := HEB.out
  have hbx := HBM.out
  generalize hsn : sizeB (docB l) = sn at *
  generalize hsxx : sizeB m = sx at *
  generalize htm : totalB M = tm at *
  generalize hti : totalB (madeB l') = ti at *
  have e2 : ((sx : Int) == (sn : Int) - ((b : Int) - (a : Int)) + (ti : Int)) = true := by rw [beq_iff_eq]; omega
  have v1 : a ≤ 1000000 := by omega
  have v2 : b ≤ 1000000 := by omega
  have v3 : a ≤ b := by omega
  have v4 : sn ≤ 1000000 := by omega
  have v5 : sx ≤ 1000000 := by omega
  have v7 : ti ≤ 1000000 := by omega
  have HV := Lib.hid (And.intro v1 (And.intro v2 (And.intro v3 (And.intro v4 (And.intro v5 v7)))))
  clear hsx hbd hbi hea heb hbx hsz hdw hmw htw hsn hsxx htm hti hsb
  have HENQ := Lib.hid (HEN.out _ HAn.out)
  refine wp_region_quiet_below (by kernel_rfl) (by kernel_rfl) ?_
  repeat (first | go_big_quiet_step (first | exact HQ1.out _ _ | exact HQ2.out _ _ | exact HQ3.out _ _ | exact HQ4.out _ _ | exact HQ5.out _ _) | quiet_step (first | exact HQ1.out _ _ | exact HQ2.out _ _ | exact HQ3.out _ _ | exact HQ4.out _ _ | exact HQ5.out _ _))
  refine wpQuiet_nil ?_
  intro _ hw'
  obtain ⟨⟨dq, osq⟩, hw''⟩ := hw'
  subst hw''
  have HBQ := Lib.hid (belowNext HENQ.out (below_regrown w12 dq osq))
  generalize grow (redrawn w12 dq) osq = wq at *
  go_wp2
  go_ret
  refine ⟨?_, HBQ.out⟩
  first
    | rfl
    | (have := HV.out; rw [IntWalk.wrap64_in _ (by omega), IntWalk.wrap64_in _ (by omega), IntWalk.wrap64_in _ (by omega)]; simp [e2])
    | simp [e2]
end Go.Proofs.YtamoklceekeheaaDoor
