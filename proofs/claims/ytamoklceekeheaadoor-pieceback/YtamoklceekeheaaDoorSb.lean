/-
  PieceBack walked.
-/
import Derived.Test.YtamoklceekeheaaDoorMC
import Derived.Deep.DrawnRows
namespace Go.Proofs.YtamoklceekeheaaDoor
open Go.RowKit Go.Sort Go.Maps

set_option maxHeartbeats 20000000 in
set_option maxRecDepth 100000 in
theorem pieceBack_walk (v : Value) (l : List Cel) (c1 c2 : Int) (w : World) (h : Cels w (Under w.heap.size) v l) (b1 : -9223372036854775808 ≤ c1) (b2 : c1 ≤ 9223372036854775807) (b3 : -9223372036854775808 ≤ c2) (b4 : c2 ≤ 9223372036854775807) (hT : Tabs w) :
    Calls Tryd.prog 3 #[v, .int .i64 c1, .int .i64 c2] w fun e w' => e = .returned (.bool true) ∧ Below w.heap.size w w' := by
  have HC := Lib.hid h
  have HT := Lib.hid hT
  clear h hT
  go_enter Tryd.func3, Tryd.ntmps3
  go_wp2_with fail
  refine (shown5_any _ HT.out).mono ?_
  rintro e w1 ⟨rfl, hb1⟩
  have HB1 := Lib.hid hb1
  clear hb1
  go_wp2_with fail
  refine (doc_any _ l w1 ((HC.out.below HB1.out).more HB1.out.size)).mono ?_
  rintro e w2 ⟨A0, c0, rfl, hk2, hb2⟩
  have HB2 := Lib.hid (belowNext HB1.out hb2)
  have hdw := docB_weigh l
  have hmw := madeB_weigh l
  have htw := total_le_weigh (madeB l)
  have hsz := size_le_weigh (docB l)
  have HDR := Lib.hid (docB_right l)
  have HDP := Lib.hid (docB_depth l)
  have HK2 := Lib.hid (hk2.keep (S' := Under w2.heap.size) (fun _ h => h.2) (fun _ _ => rfl))
  obtain ⟨ha3, hd3, hl3⟩ := new_box w2 (.cells (docCells A0 (madeB l).length c0) 28)
  have HA3 := Lib.hid ha3
  have HX3 := Lib.hid hd3
  have HL3 := Lib.hid hl3
  clear hk2 hb2 ha3 hd3 hl3
  go_upto_region 5 with fail
  generalize w2.alloc (.cells (docCells A0 (madeB l).length c0) 28) = w3 at *
  have HB3 := Lib.hid (belowNext HB2.out HA3.out)
  have HND : Hid (∀ W, Below w3.heap.size w3 W → Node W (Under W.heap.size) (.agg (docCells A0 (madeB l).length c0)) (docB l)) := Lib.hid fun W hW => doc_node ((HK2.out.below (belowNext HA3.out hW)).more (belowNext HA3.out hW).size)
  generalize w2.heap.size = g0 at *
  have HXD : Hid (∀ W, Below w3.heap.size w3 W → W.heap[g0]? = some (.cells (docCells A0 (madeB l).length c0) 28)) := Lib.hid fun W hW => (hW.block _ HL3.out).trans HX3.out
  have HTW : Hid (∀ W, Below w3.heap.size w3 W → Tabs W) := Lib.hid fun W hW => HT.out.under (belowNext HB3.out hW)
  have HEN : Hid (∀ W, Below w3.heap.size w3 W → Below w.heap.size w W) := Lib.hid fun W hW => belowNext HB3.out hW
  have HAn : Hid (Below w3.heap.size w3 w3) := Lib.hid (Below.refl _ _)
  clear HK2 HB1 HB2 HA3 HX3 HL3
  obtain ⟨x0, x1, x2, x3, x4⟩ := cells5 (HXD.out w3 HAn.out)
  go_wp2_with fail
  refine (flat_any _ (docB l) c1 c2 w3 (HND.out _ HAn.out) (by omega) (docB_plain l) b1 b2 b3 b4).mono ?_
  rintro e w4 ⟨a, b, p, j, o, j', o', rfl, hab, hra, hrb, hb⟩
  obtain ⟨u, A, M, C, h3, ea, eb, hdm⟩ := three_flat (docB_plain l) (checkIs HDR.out).1 hra hrb hab
  have HAn := Lib.hid (belowNext HAn.out hb)
  have HRA := Lib.hid hra
  have HRB := Lib.hid hrb
  have HEA := Lib.hid ea
  have HEB := Lib.hid eb
  have H3 := Lib.hid h3
  have HM3 := Lib.hid (h3.deeps (checkIs HDR.out).1)
  have HW3 := Lib.hid h3.weighs
  clear hb hra hrb ea eb h3 hdm
  clear x0 x1 x2 x3 x4
  have HBD := Lib.hid (three_bounds H3.out)
  obtain ⟨x, hx⟩ : ∃ x, Three.put (docB l) u p A [] C = x := ⟨_, rfl⟩
  obtain ⟨z, hz⟩ : ∃ z, Three.put (docB l) u p (joinB (A ++ M)) M C = z := ⟨_, rfl⟩
  have HXE := Lib.hid hx
  have HZE := Lib.hid hz
  have HXR := Lib.hid (H3.out.right (l := []) (by simp [rowB]) HDR.out (by have := HBD.out; simp only [deepB]; omega) (by have := HBD.out; simp only [totalB]; omega))
  rw [hx] at HXR
  have HX3 := Lib.hid (H3.out.after (l := []) (by simp [rowB]))
  rw [hx] at HX3
  have HBX : Hid (weigh x ≤ 2400 ∧ depthB x ≤ 20 ∧ sizeB x ≤ 800 ∧ startB x p = startB (docB l) p) := Lib.hid (by have := HBD.out; have h1 := HXR.out.2.2.1; have h2 := HXR.out.2.2.2.1; have h3 := HXR.out.2.2.2.2.1; have h4 := HXR.out.2.2.2.2.2; simp only [deepB, totalB, weighAll] at h1 h2 h3; omega)
  have HYE : Hid (Three.put x (withKids u (joinB (A ++ ([] ++ C)))) p A M C = docB l) := Lib.hid (by rw [← hx, put_again H3.out]; exact put_same H3.out)
  have HZ3 := Lib.hid (three_end H3.out)
  have HZR := Lib.hid ((three_end H3.out).right (l := M) H3.out.mid HDR.out (by have := HBD.out; omega) (by have := HBD.out; omega))
  rw [hz] at HZR
  have HBZ : Hid (weigh z ≤ 4000) := Lib.hid (by have := HBD.out; have h3 := HZR.out.2.2.2.2.1; omega)
  have HTE := Lib.hid (three_end_total H3.out)
  clear hx hz
  obtain ⟨x0, x1, x2, x3, x4⟩ := cells5 (HXD.out w4 HAn.out)
  go_wp2_with fail
  refine (cut_three _ w4 (HND.out _ HAn.out) (by have := HBD.out; omega) (HTW.out _ HAn.out) HDR.out H3.out HEA.out HEB.out).mono ?_
  rintro e w5 ⟨k0, kc, rfl, hk, hb⟩
  have HAn := Lib.hid (belowNext HAn.out hb)
  have HKk : Hid (∀ W, Below w5.heap.size w5 W → Kids W (Under W.heap.size) (.slice k0 M.length kc) M) := Lib.hid fun W hW => ((hk.keep (S' := Under w5.heap.size) (fun _ h => h.2) (fun _ _ => rfl)).below hW).more hW.size
  have HAk : Hid (Below w5.heap.size w5 w5) := Lib.hid (Below.refl _ _)
  clear hk hb
  clear x0 x1 x2 x3 x4
  obtain ⟨x0, x1, x2, x3, x4⟩ := cells5 (HXD.out w5 HAn.out)
  go_wp2_with fail
  refine (put_as _ _ w5 (HND.out _ HAn.out) (by have := HBD.out; omega) (HTW.out _ HAn.out) (HKk.out _ HAk.out) (by have := HBD.out; omega) HDR.out H3.out.mid H3.out HDR.out HEA.out HEB.out (put_same H3.out)).mono ?_
  rintro e w6 ⟨m1, mn1, mc1, m2, mn2, mc2, m3, mc3, rfl, hn, hb⟩
  obtain ⟨ha, hx, hl⟩ := new_box w6 (.cells #[.string (docB l).kind, .string (docB l).text, .slice m1 mn1 mc1, .slice m2 mn2 mc2, .slice m3 (docB l).kids.length mc3] 28)
  have hbb := belowNext hb ha
  have HAn := Lib.hid (belowNext HAn.out hbb)
  have HAk := Lib.hid (belowNext HAk.out hbb)
  have HXm := Lib.hid hx
  have HLm := Lib.hid hl
  have HNm : Hid (Node (w6.alloc (.cells #[.string (docB l).kind, .string (docB l).text, .slice m1 mn1 mc1, .slice m2 mn2 mc2, .slice m3 (docB l).kids.length mc3] 28)) (Under (w6.alloc (.cells #[.string (docB l).kind, .string (docB l).text, .slice m1 mn1 mc1, .slice m2 mn2 mc2, .slice m3 (docB l).kids.length mc3] 28)).heap.size) (.agg #[.string (docB l).kind, .string (docB l).text, .slice m1 mn1 mc1, .slice m2 mn2 mc2, .slice m3 (docB l).kids.length mc3]) (docB l)) := Lib.hid (hn.keep (fun b hb => Nat.lt_of_lt_of_le hb.2 ha.size) (fun b hb => ha.block b hb.2))
  clear hn hb ha hx hl hbb
  clear x0 x1 x2 x3 x4
  go_upto_region 8 with fail
  generalize w6.alloc (.cells #[.string (docB l).kind, .string (docB l).text, .slice m1 mn1 mc1, .slice m2 mn2 mc2, .slice m3 (docB l).kids.length mc3] 28) = w7 at *
  generalize w6.heap.size = gm at *
  have HNWm : Hid (∀ W, Below w7.heap.size w7 W → Node W (Under W.heap.size) (.agg #[.string (docB l).kind, .string (docB l).text, .slice m1 mn1 mc1, .slice m2 mn2 mc2, .slice m3 (docB l).kids.length mc3]) (docB l)) := Lib.hid fun W hW => (HNm.out.below hW).more hW.size
  have HXWm : Hid (∀ W, Below w7.heap.size w7 W → W.heap[gm]? = some (.cells #[.string (docB l).kind, .string (docB l).text, .slice m1 mn1 mc1, .slice m2 mn2 mc2, .slice m3 (docB l).kids.length mc3] 28)) := Lib.hid fun W hW => (hW.block _ HLm.out).trans HXm.out
  have HAm : Hid (Below w7.heap.size w7 w7) := Lib.hid (Below.refl _ _)
  clear HNm HXm HLm
  obtain ⟨x0, x1, x2, x3, x4⟩ := cells5 (HXD.out w7 HAn.out)
  go_wp2_with fail
  refine (put_as _ _ w7 (HND.out _ HAn.out) (by have := HBD.out; omega) (HTW.out _ HAn.out) kids_nil (by simp [weighAll]) HDR.out (by simp [rowB]) H3.out HXR.out.1 HEA.out HEB.out HXE.out).mono ?_
  rintro e w8 ⟨xx1, xxn1, xxc1, xx2, xxn2, xxc2, xx3, xxc3, rfl, hn, hb⟩
  obtain ⟨ha, hx, hl⟩ := new_box w8 (.cells #[.string x.kind, .string x.text, .slice xx1 xxn1 xxc1, .slice xx2 xxn2 xxc2, .slice xx3 x.kids.length xxc3] 28)
  have hbb := belowNext hb ha
  have HAn := Lib.hid (belowNext HAn.out hbb)
  have HAk := Lib.hid (belowNext HAk.out hbb)
  have HAm := Lib.hid (belowNext HAm.out hbb)
  have HXxx := Lib.hid hx
  have HLxx := Lib.hid hl
  have HNxx : Hid (Node (w8.alloc (.cells #[.string x.kind, .string x.text, .slice xx1 xxn1 xxc1, .slice xx2 xxn2 xxc2, .slice xx3 x.kids.length xxc3] 28)) (Under (w8.alloc (.cells #[.string x.kind, .string x.text, .slice xx1 xxn1 xxc1, .slice xx2 xxn2 xxc2, .slice xx3 x.kids.length xxc3] 28)).heap.size) (.agg #[.string x.kind, .string x.text, .slice xx1 xxn1 xxc1, .slice xx2 xxn2 xxc2, .slice xx3 x.kids.length xxc3]) x) := Lib.hid (hn.keep (fun b hb => Nat.lt_of_lt_of_le hb.2 ha.size) (fun b hb => ha.block b hb.2))
  clear hn hb ha hx hl hbb
  clear x0 x1 x2 x3 x4
  go_upto_region 9 with fail
  generalize w8.alloc (.cells #[.string x.kind, .string x.text, .slice xx1 xxn1 xxc1, .slice xx2 xxn2 xxc2, .slice xx3 x.kids.length xxc3] 28) = w9 at *
  generalize w8.heap.size = gxx at *
  have HNWxx : Hid (∀ W, Below w9.heap.size w9 W → Node W (Under W.heap.size) (.agg #[.string x.kind, .string x.text, .slice xx1 xxn1 xxc1, .slice xx2 xxn2 xxc2, .slice xx3 x.kids.length xxc3]) x) := Lib.hid fun W hW => (HNxx.out.below hW).more hW.size
  have HXWxx : Hid (∀ W, Below w9.heap.size w9 W → W.heap[gxx]? = some (.cells #[.string x.kind, .string x.text, .slice xx1 xxn1 xxc1, .slice xx2 xxn2 xxc2, .slice xx3 x.kids.length xxc3] 28)) := Lib.hid fun W hW => (hW.block _ HLxx.out).trans HXxx.out
  have HAxx : Hid (Below w9.heap.size w9 w9) := Lib.hid (Below.refl _ _)
  clear HNxx HXxx HLxx
  obtain ⟨x0, x1, x2, x3, x4⟩ := cells5 (HXWxx.out w9 HAxx.out)
  go_wp2_with fail
  refine (put_as _ _ w9 (HNWxx.out _ HAxx.out) (by have := HBX.out; omega) (HTW.out _ HAn.out) (HKk.out _ HAk.out) (by have := HBD.out; omega) HXR.out.1 H3.out.mid HX3.out HDR.out (by have := HBX.out; have := HEA.out; omega) (by have := HBX.out; have := HEA.out; simp only [totalB]; omega) HYE.out).mono ?_
  rintro e w10 ⟨y1, yn1, yc1, y2, yn2, yc2, y3, yc3, rfl, hn, hb⟩
  obtain ⟨ha, hx, hl⟩ := new_box w10 (.cells #[.string (docB l).kind, .string (docB l).text, .slice y1 yn1 yc1, .slice y2 yn2 yc2, .slice y3 (docB l).kids.length yc3] 28)
  have hbb := belowNext hb ha
  have HAn := Lib.hid (belowNext HAn.out hbb)
  have HAk := Lib.hid (belowNext HAk.out hbb)
  have HAm := Lib.hid (belowNext HAm.out hbb)
  have HAxx := Lib.hid (belowNext HAxx.out hbb)
  have HXy := Lib.hid hx
  have HLy := Lib.hid hl
  have HNy : Hid (Node (w10.alloc (.cells #[.string (docB l).kind, .string (docB l).text, .slice y1 yn1 yc1, .slice y2 yn2 yc2, .slice y3 (docB l).kids.length yc3] 28)) (Under (w10.alloc (.cells #[.string (docB l).kind, .string (docB l).text, .slice y1 yn1 yc1, .slice y2 yn2 yc2, .slice y3 (docB l).kids.length yc3] 28)).heap.size) (.agg #[.string (docB l).kind, .string (docB l).text, .slice y1 yn1 yc1, .slice y2 yn2 yc2, .slice y3 (docB l).kids.length yc3]) (docB l)) := Lib.hid (hn.keep (fun b hb => Nat.lt_of_lt_of_le hb.2 ha.size) (fun b hb => ha.block b hb.2))
  clear hn hb ha hx hl hbb
  clear x0 x1 x2 x3 x4
  go_upto_region 10 with fail
  generalize w10.alloc (.cells #[.string (docB l).kind, .string (docB l).text, .slice y1 yn1 yc1, .slice y2 yn2 yc2, .slice y3 (docB l).kids.length yc3] 28) = w11 at *
  generalize w10.heap.size = gy at *
  have HNWy : Hid (∀ W, Below w11.heap.size w11 W → Node W (Under W.heap.size) (.agg #[.string (docB l).kind, .string (docB l).text, .slice y1 yn1 yc1, .slice y2 yn2 yc2, .slice y3 (docB l).kids.length yc3]) (docB l)) := Lib.hid fun W hW => (HNy.out.below hW).more hW.size
  have HXWy : Hid (∀ W, Below w11.heap.size w11 W → W.heap[gy]? = some (.cells #[.string (docB l).kind, .string (docB l).text, .slice y1 yn1 yc1, .slice y2 yn2 yc2, .slice y3 (docB l).kids.length yc3] 28)) := Lib.hid fun W hW => (hW.block _ HLy.out).trans HXy.out
  have HAy : Hid (Below w11.heap.size w11 w11) := Lib.hid (Below.refl _ _)
  clear HNy HXy HLy
  obtain ⟨x0, x1, x2, x3, x4⟩ := cells5 (HXD.out w11 HAn.out)
  go_wp2_with fail
  refine (put_as _ _ w11 (HND.out _ HAn.out) (by have := HBD.out; omega) (HTW.out _ HAn.out) (HKk.out _ HAk.out) (by have := HBD.out; omega) HDR.out H3.out.mid HZ3.out HZR.out.1 (by have := HTE.out; have := HEB.out; omega) (by have := HTE.out; have := HEB.out; simp only [totalB]; omega) HZE.out).mono ?_
  rintro e w12 ⟨z1, zn1, zc1, z2, zn2, zc2, z3, zc3, rfl, hn, hb⟩
  obtain ⟨ha, hx, hl⟩ := new_box w12 (.cells #[.string z.kind, .string z.text, .slice z1 zn1 zc1, .slice z2 zn2 zc2, .slice z3 z.kids.length zc3] 28)
  have hbb := belowNext hb ha
  have HAn := Lib.hid (belowNext HAn.out hbb)
  have HAk := Lib.hid (belowNext HAk.out hbb)
  have HAm := Lib.hid (belowNext HAm.out hbb)
  have HAxx := Lib.hid (belowNext HAxx.out hbb)
  have HAy := Lib.hid (belowNext HAy.out hbb)
  have HXz := Lib.hid hx
  have HLz := Lib.hid hl
  have HNz : Hid (Node (w12.alloc (.cells #[.string z.kind, .string z.text, .slice z1 zn1 zc1, .slice z2 zn2 zc2, .slice z3 z.kids.length zc3] 28)) (Under (w12.alloc (.cells #[.string z.kind, .string z.text, .slice z1 zn1 zc1, .slice z2 zn2 zc2, .slice z3 z.kids.length zc3] 28)).heap.size) (.agg #[.string z.kind, .string z.text, .slice z1 zn1 zc1, .slice z2 zn2 zc2, .slice z3 z.kids.length zc3]) z) := Lib.hid (hn.keep (fun b hb => Nat.lt_of_lt_of_le hb.2 ha.size) (fun b hb => ha.block b hb.2))
  clear hn hb ha hx hl hbb
  clear x0 x1 x2 x3 x4
  go_upto_region 11 with fail
  generalize w12.alloc (.cells #[.string z.kind, .string z.text, .slice z1 zn1 zc1, .slice z2 zn2 zc2, .slice z3 z.kids.length zc3] 28) = w13 at *
  generalize w12.heap.size = gz at *
  have HNWz : Hid (∀ W, Below w13.heap.size w13 W → Node W (Under W.heap.size) (.agg #[.string z.kind, .string z.text, .slice z1 zn1 zc1, .slice z2 zn2 zc2, .slice z3 z.kids.length zc3]) z) := Lib.hid fun W hW => (HNz.out.below hW).more hW.size
  have HXWz : Hid (∀ W, Below w13.heap.size w13 W → W.heap[gz]? = some (.cells #[.string z.kind, .string z.text, .slice z1 zn1 zc1, .slice z2 zn2 zc2, .slice z3 z.kids.length zc3] 28)) := Lib.hid fun W hW => (hW.block _ HLz.out).trans HXz.out
  have HAz : Hid (Below w13.heap.size w13 w13) := Lib.hid (Below.refl _ _)
  clear HNz HXz HLz
  have HQ1 := Lib.hid (regrown_any (w := w13) (f := 15) (args := #[(.slice k0 M.length kc)]) (v := .int .i64 (totalB M)) fun W hW => total_any _ M W (HKk.out W (belowNext HAk.out hW)) (by have := HBD.out; omega))
  have HQ2 := Lib.hid (regrown_any (w := w13) (f := 16) (args := #[(.agg #[.string (docB l).kind, .string (docB l).text, .slice m1 mn1 mc1, .slice m2 mn2 mc2, .slice m3 (docB l).kids.length mc3]), (.agg (docCells A0 (madeB l).length c0))]) (v := .bool true) fun W hW => walk_res (nsame_any _ _ (docB l) (docB l) W (HNWm.out W (belowNext HAm.out hW)) (HND.out W (belowNext HAn.out hW)) (by have := HBD.out; omega) (by have := HBD.out; omega)) (sameB_self _))
  have HQ3 := Lib.hid (regrown_any (w := w13) (f := 17) (args := #[(.agg #[.string x.kind, .string x.text, .slice xx1 xxn1 xxc1, .slice xx2 xxn2 xxc2, .slice xx3 x.kids.length xxc3])]) (v := .int .i64 (sizeB x)) fun W hW => size_any _ x W (HNWxx.out W (belowNext HAxx.out hW)) (by have := HBX.out; omega))
  have HQ4 := Lib.hid (regrown_any (w := w13) (f := 17) (args := #[(.agg (docCells A0 (madeB l).length c0))]) (v := .int .i64 (sizeB (docB l))) fun W hW => size_any _ (docB l) W (HND.out W (belowNext HAn.out hW)) (by have := HBD.out; omega))
  have HQ5 := Lib.hid (regrown_any (w := w13) (f := 16) (args := #[(.agg #[.string (docB l).kind, .string (docB l).text, .slice y1 yn1 yc1, .slice y2 yn2 yc2, .slice y3 (docB l).kids.length yc3]), (.agg (docCells A0 (madeB l).length c0))]) (v := .bool true) fun W hW => walk_res (nsame_any _ _ (docB l) (docB l) W (HNWy.out W (belowNext HAy.out hW)) (HND.out W (belowNext HAn.out hW)) (by have := HBD.out; omega) (by have := HBD.out; omega)) (sameB_self _))
  have HQ6 := Lib.hid (regrown_any (w := w13) (f := 17) (args := #[(.agg #[.string z.kind, .string z.text, .slice z1 zn1 zc1, .slice z2 zn2 zc2, .slice z3 z.kids.length zc3])]) (v := .int .i64 (sizeB z)) fun W hW => size_any _ z W (HNWz.out W (belowNext HAz.out hW)) (by have := HBZ.out; omega))
  obtain ⟨xq0, xq1, xq2, xq3, xq4⟩ := cells5 (HXD.out w13 HAn.out)
  have xq0 := cell_regrown xq0
  have xq1 := cell_regrown xq1
  have xq2 := cell_regrown xq2
  have xq3 := cell_regrown xq3
  have xq4 := cell_regrown xq4
  obtain ⟨yq0, yq1, yq2, yq3, yq4⟩ := cells5 (HXWm.out w13 HAm.out)
  have yq0 := cell_regrown yq0
  have yq1 := cell_regrown yq1
  have yq2 := cell_regrown yq2
  have yq3 := cell_regrown yq3
  have yq4 := cell_regrown yq4
  obtain ⟨zq0, zq1, zq2, zq3, zq4⟩ := cells5 (HXWxx.out w13 HAxx.out)
  have zq0 := cell_regrown zq0
  have zq1 := cell_regrown zq1
  have zq2 := cell_regrown zq2
  have zq3 := cell_regrown zq3
  have zq4 := cell_regrown zq4
  obtain ⟨qq0, qq1, qq2, qq3, qq4⟩ := cells5 (HXWy.out w13 HAy.out)
  have qq0 := cell_regrown qq0
  have qq1 := cell_regrown qq1
  have qq2 := cell_regrown qq2
  have qq3 := cell_regrown qq3
  have qq4 := cell_regrown qq4
  obtain ⟨tq0, tq1, tq2, tq3, tq4⟩ := cells5 (HXWz.out w13 HAz.out)
  have tq0 := cell_regrown tq0
  have tq1 := cell_regrown tq1
  have tq2 := cell_regrown tq2
  have tq3 := cell_regrown tq3
  have tq4 := cell_regrown tq4
  have hsx := HXR.out.2.2.2.1
  have hsz2 := HZR.out.2.2.2.1
  have hbd := HBD.out
  have hea := HEA.out
  have heb := HEB.out
  have hbx := HBX.out
  have hsizez := size_le_weigh z
  have hbz := HBZ.out
  simp only [totalB] at hsx hsz2
  generalize hsn : sizeB (docB l) = sn at *
  generalize hsxx : sizeB x = sx at *
  generalize hszz : sizeB z = sz at *
  generalize htm : totalB M = tm at *
  have e1 : ((tm : Int) == (b : Int) - (a : Int)) = true := by rw [beq_iff_eq]; omega
  have e2 : ((sx : Int) == (sn : Int) - ((b : Int) - (a : Int))) = true := by rw [beq_iff_eq]; omega
  have e3 : ((sz : Int) == (sn : Int) + ((b : Int) - (a : Int))) = true := by rw [beq_iff_eq]; omega
  have u1 : (tm : Int) = (b : Int) - (a : Int) := by omega
  have u2 : (sx : Int) = (sn : Int) - ((b : Int) - (a : Int)) := by omega
  have u3 : (sz : Int) = (sn : Int) + ((b : Int) - (a : Int)) := by omega
  have v1 : a ≤ 1000000 := by omega
  have v2 : b ≤ 1000000 := by omega
  have v3 : a ≤ b := by omega
  have v4 : sn ≤ 1000000 := by omega
  have v5 : sx ≤ 1000000 := by omega
  have v6 : sz ≤ 1000000 := by omega
  have v7 : tm ≤ 1000000 := by omega
  have HV := Lib.hid (And.intro v1 (And.intro v2 (And.intro v3 (And.intro v4 (And.intro v5 (And.intro v6 v7))))))
  clear hsx hsz2 hbd hea heb hbx hsizez hbz hsz hdw hmw htw u1 u2 u3 hsn hsxx hszz htm
  have HENQ := Lib.hid (HEN.out _ HAn.out)
  refine wp_region_quiet_below (by kernel_rfl) (by kernel_rfl) ?_
  repeat (first | go_big_quiet_step (first | exact HQ1.out _ _ | exact HQ2.out _ _ | exact HQ3.out _ _ | exact HQ4.out _ _ | exact HQ5.out _ _ | exact HQ6.out _ _) | quiet_step (first | exact HQ1.out _ _ | exact HQ2.out _ _ | exact HQ3.out _ _ | exact HQ4.out _ _ | exact HQ5.out _ _ | exact HQ6.out _ _))
  refine wpQuiet_nil ?_
  intro _ hw'
  obtain ⟨⟨dq, osq⟩, hw''⟩ := hw'
  subst hw''
  have HBQ := Lib.hid (belowNext HENQ.out (below_regrown w13 dq osq))
  generalize grow (redrawn w13 dq) osq = wq at *
  go_wp2
  go_ret
  refine ⟨?_, HBQ.out⟩
  first
    | rfl
    | (have := HV.out; rw [IntWalk.wrap64_in _ (by omega), IntWalk.wrap64_in _ (by omega), IntWalk.wrap64_in _ (by omega)]; simp [e1, e2, e3])
    | simp [e1, e2, e3]
end Go.Proofs.YtamoklceekeheaaDoor
