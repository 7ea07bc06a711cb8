/-
  PieceApart walked.
  PieceApart: whatever raw numbers are handed in, the call answers true, and they read behind it as they read before. No condition is typed; the library's two tables of utf8 are as the program's text lays them (the card ties them).
-/
import Derived.Test.YtamoklceekeheaaDoorMC
import Derived.Test.YtamoklceekeheaaDoorSg
import Derived.Test.YtamoklceekeheaaDoorLaid
import Derived.Carry
import Derived.ChangeMaps5
namespace Go.Proofs.YtamoklceekeheaaDoor
open Go.RowKit Go.Sort Go.Maps

theorem drawn_on5 {B : Nat} {a w : World} (h : Below B a w) (n : Nat) : Below B a (w.drewN n) := h.trans ⟨rfl, rfl, rfl, Nat.le_refl _, fun _ _ => rfl⟩
set_option maxHeartbeats 20000000 in
set_option maxRecDepth 100000 in
theorem pieceApart_walk (v : Value) (l : List Cel) (c1 c2 : Int) (w : World) (h : Cels w (Under w.heap.size) v l) (b1 : -9223372036854775808 ≤ c1) (b2 : c1 ≤ 9223372036854775807) (b3 : -9223372036854775808 ≤ c2) (b4 : c2 ≤ 9223372036854775807) (hT : Tabs w) :
    Calls Tryd.prog 8 #[v, .int .i64 c1, .int .i64 c2] w fun e w' => e = .returned (.bool true) ∧ Below w.heap.size w w' := by
  have HC := Lib.hid h
  have HT := Lib.hid hT
  clear h hT
  go_enter Tryd.func8, Tryd.ntmps8
  go_wp2_with fail
  refine (shown5_any _ HT.out).mono ?_
  rintro e w1 ⟨rfl, hb1⟩
  have HB1 := Lib.hid hb1
  clear hb1
  go_wp2_with fail
  refine (doc_any _ l w1 ((HC.out.below HB1.out).more HB1.out.size)).mono ?_
  rintro e w2 ⟨A0, c0, rfl, hk2, hb2⟩
  have HB2 := Lib.hid (belowNext HB1.out hb2)
  have hdw := docB_weigh l
  have hmw := madeB_weigh l
  have htw := total_le_weigh (madeB l)
  have hsz := size_le_weigh (docB l)
  have HDR := Lib.hid (docB_right l)
  have HDP := Lib.hid (docB_depth l)
  have HK2 := Lib.hid (hk2.keep (S' := Under w2.heap.size) (fun _ h => h.2) (fun _ _ => rfl))
  obtain ⟨ha3, hd3, hl3⟩ := new_box w2 (.cells (docCells A0 (madeB l).length c0) 28)
  have HA3 := Lib.hid ha3
  have HX3 := Lib.hid hd3
  have HL3 := Lib.hid hl3
  clear hk2 hb2 ha3 hd3 hl3
  go_upto_region 5 with fail
  generalize w2.alloc (.cells (docCells A0 (madeB l).length c0) 28) = w3 at *
  have HB3 := Lib.hid (belowNext HB2.out HA3.out)
  have HND : Hid (∀ W, Below w3.heap.size w3 W → Node W (Under W.heap.size) (.agg (docCells A0 (madeB l).length c0)) (docB l)) := Lib.hid fun W hW => doc_node ((HK2.out.below (belowNext HA3.out hW)).more (belowNext HA3.out hW).size)
  generalize w2.heap.size = g0 at *
  have HXD : Hid (∀ W, Below w3.heap.size w3 W → W.heap[g0]? = some (.cells (docCells A0 (madeB l).length c0) 28)) := Lib.hid fun W hW => (hW.block _ HL3.out).trans HX3.out
  have HTW : Hid (∀ W, Below w3.heap.size w3 W → Tabs W) := Lib.hid fun W hW => HT.out.under (belowNext HB3.out hW)
  have HEN : Hid (∀ W, Below w3.heap.size w3 W → Below w.heap.size w W) := Lib.hid fun W hW => belowNext HB3.out hW
  have HAn : Hid (Below w3.heap.size w3 w3) := Lib.hid (Below.refl _ _)
  clear HK2 HB1 HB2 HA3 HX3 HL3
  have htw2 : totalB (madeB l) ≤ 760 := by omega
  have hp1 := pickN_lo c1 ((totalB (madeB l) : Int) + 1) (by omega)
  have hp2 := pickN_hi c1 ((totalB (madeB l) : Int) + 1) (by omega)
  have hp3 := pickN_lo c2 ((totalB (madeB l) : Int) + 1) (by omega)
  have hp4 := pickN_hi c2 ((totalB (madeB l) : Int) + 1) (by omega)
  obtain ⟨a, ha⟩ : ∃ n : Nat, pickN c1 ((totalB (madeB l) : Int) + 1) = (n : Int) := ⟨(pickN c1 ((totalB (madeB l) : Int) + 1)).toNat, by omega⟩
  obtain ⟨b, hb⟩ : ∃ n : Nat, pickN c2 ((totalB (madeB l) : Int) + 1) = (n : Int) := ⟨(pickN c2 ((totalB (madeB l) : Int) + 1)).toNat, by omega⟩
  have HPA := Lib.hid ha
  have HPB := Lib.hid hb
  have HAT : Hid (a ≤ totalB (madeB l) ∧ b ≤ totalB (madeB l)) := Lib.hid (by omega)
  have HPN : Hid ((0 : Int) < (totalB (madeB l) : Int) + 1 ∧ (totalB (madeB l) : Int) + 1 ≤ 1000000) := Lib.hid ⟨by omega, by omega⟩
  have HTOT : Hid (∀ W, Below w3.heap.size w3 W → Calls Tryd.prog 15 #[.slice A0 (madeB l).length c0] W fun e w' => e = .returned (.int .i64 (totalB (madeB l))) ∧ Below W.heap.size W w') := Lib.hid fun W hW => total_any _ (madeB l) W ((HND.out W hW).kidsOf) (by omega)
  clear hp1 hp2 hp3 hp4 ha hb htw
  obtain ⟨T, hTT⟩ : ∃ T, totalB (madeB l) = T := ⟨_, rfl⟩
  rw [hTT] at HPA HPB HPN HTOT HAT htw2
  have HTT := Lib.hid hTT
  clear hTT
  obtain ⟨x0, x1, x2, x3, x4⟩ := cells5 (HXD.out w3 HAn.out)
  go_wp2_with fail
  refine (HTOT.out _ HAn.out).mono ?_
  rintro e w4 ⟨rfl, hb⟩
  have HAn := Lib.hid (belowNext HAn.out hb)
  clear hb
  clear x0 x1 x2 x3 x4
  go_wp2_with fail
  refine (pick_any c1 ((T : Int) + 1) w4 HPN.out.1 HPN.out.2 b1 b2).mono ?_
  rintro e wz ⟨rfl, rfl⟩
  rw [HPA.out]
  obtain ⟨x0, x1, x2, x3, x4⟩ := cells5 (HXD.out w4 HAn.out)
  go_wp2_with fail
  refine (HTOT.out _ HAn.out).mono ?_
  rintro e w5 ⟨rfl, hb⟩
  have HAn := Lib.hid (belowNext HAn.out hb)
  clear hb
  clear x0 x1 x2 x3 x4
  go_wp2_with fail
  refine (pick_any c2 ((T : Int) + 1) w5 HPN.out.1 HPN.out.2 b3 b4).mono ?_
  rintro e wz ⟨rfl, rfl⟩
  rw [HPB.out]
  obtain ⟨lo, hlo⟩ : ∃ x : Nat, min (a : Int) (b : Int) = (x : Int) := ⟨min a b, by omega⟩
  obtain ⟨hi, hhi⟩ : ∃ x : Nat, max (a : Int) (b : Int) = (x : Int) := ⟨max a b, by omega⟩
  have HLO := Lib.hid hlo
  have HHI := Lib.hid hhi
  have HLH : Hid (lo ≤ hi ∧ hi ≤ T ∧ hi ≤ 760) := Lib.hid (by have := HAT.out; omega)
  obtain ⟨p, j1, o1, u1, hra, _⟩ := resolve_some (docB_plain l) (k := lo) (by have := HLH.out; have := HTT.out; rw [docB_kids]; omega)
  obtain ⟨p2, j2, o2, u2, hrb, _⟩ := resolve_some (docB_plain l) (k := hi) (by have := HLH.out; have := HTT.out; rw [docB_kids]; omega)
  have HRA := Lib.hid hra
  have HRB := Lib.hid hrb
  have HWT : Hid (weigh (docB l) ≤ 800) := Lib.hid (by omega)
  clear hlo hhi hra hrb hsz hdw hmw htw2
  obtain ⟨x0, x1, x2, x3, x4⟩ := cells5 (HXD.out w5 HAn.out)
  go_wp2_with fail
  rw [HLO.out]
  refine (resolve_any _ (docB l) (lo : Int) w5 (HND.out _ HAn.out) (by have := HWT.out; omega) (by omega) (by have := HLH.out; omega)).mono ?_
  rintro e w6 ⟨hb, hr⟩
  rw [HRA.out] at hr
  rcases hr with ⟨hr, _⟩ | ⟨p', j', o', P1, qx, hr, rfl, hi4⟩
  · cases hr
  simp only [Option.some.injEq, Prod.mk.injEq] at hr
  obtain ⟨rfl, rfl, rfl⟩ := hr
  obtain ⟨ha, hx, hl⟩ := new_box w6 (.cells #[.slice P1 p.length qx, .int .i64 (j1 : Int), .int .i64 (o1 : Int)] 56)
  have hbb := belowNext hb ha
  have HAn := Lib.hid (belowNext HAn.out hbb)
  have HIx := Lib.hid (hi4.keep (S' := Under w6.heap.size) (w' := w6.alloc (.cells #[.slice P1 p.length qx, .int .i64 (j1 : Int), .int .i64 (o1 : Int)] 56)) (fun _ h => h.2) (fun b hb => ha.block b hb.2))
  have HXx := Lib.hid hx
  have HLx := Lib.hid hl
  clear hb hi4 ha hx hl hbb
  clear x0 x1 x2 x3 x4
  go_upto_region 8 with fail
  generalize w6.alloc (.cells #[.slice P1 p.length qx, .int .i64 (j1 : Int), .int .i64 (o1 : Int)] 56) = w7 at *
  generalize w6.heap.size = gx at *
  have HSx : Hid (∀ W, Below w7.heap.size w7 W → W.heap[gx]? = some (.cells #[.slice P1 p.length qx, .int .i64 (j1 : Int), .int .i64 (o1 : Int)] 56) ∧ Ints W (Under W.heap.size) (.slice P1 p.length qx) p) := Lib.hid fun W hW => ⟨(hW.block _ HLx.out).trans HXx.out, HIx.out.keep (fun b hb => Nat.lt_of_lt_of_le (Nat.lt_trans hb HLx.out) hW.size) (fun b hb => hW.block b (Nat.lt_trans hb HLx.out))⟩
  have HAx : Hid (Below w7.heap.size w7 w7) := Lib.hid (Below.refl _ _)
  clear HXx HLx HIx
  obtain ⟨x0, x1, x2, x3, x4⟩ := cells5 (HXD.out w7 HAn.out)
  go_wp2_with fail
  rw [HHI.out]
  refine (resolve_any _ (docB l) (hi : Int) w7 (HND.out _ HAn.out) (by have := HWT.out; omega) (by omega) (by have := HLH.out; omega)).mono ?_
  rintro e w8 ⟨hb, hr⟩
  rw [HRB.out] at hr
  rcases hr with ⟨hr, _⟩ | ⟨p', j', o', P2, qy, hr, rfl, hi4⟩
  · cases hr
  simp only [Option.some.injEq, Prod.mk.injEq] at hr
  obtain ⟨rfl, rfl, rfl⟩ := hr
  obtain ⟨ha, hx, hl⟩ := new_box w8 (.cells #[.slice P2 p2.length qy, .int .i64 (j2 : Int), .int .i64 (o2 : Int)] 56)
  have hbb := belowNext hb ha
  have HAn := Lib.hid (belowNext HAn.out hbb)
  have HAx := Lib.hid (belowNext HAx.out hbb)
  have HIy := Lib.hid (hi4.keep (S' := Under w8.heap.size) (w' := w8.alloc (.cells #[.slice P2 p2.length qy, .int .i64 (j2 : Int), .int .i64 (o2 : Int)] 56)) (fun _ h => h.2) (fun b hb => ha.block b hb.2))
  have HXy := Lib.hid hx
  have HLy := Lib.hid hl
  clear hb hi4 ha hx hl hbb
  clear x0 x1 x2 x3 x4
  go_upto_region 9 with fail
  generalize w8.alloc (.cells #[.slice P2 p2.length qy, .int .i64 (j2 : Int), .int .i64 (o2 : Int)] 56) = w9 at *
  generalize w8.heap.size = gy at *
  have HSy : Hid (∀ W, Below w9.heap.size w9 W → W.heap[gy]? = some (.cells #[.slice P2 p2.length qy, .int .i64 (j2 : Int), .int .i64 (o2 : Int)] 56) ∧ Ints W (Under W.heap.size) (.slice P2 p2.length qy) p2) := Lib.hid fun W hW => ⟨(hW.block _ HLy.out).trans HXy.out, HIy.out.keep (fun b hb => Nat.lt_of_lt_of_le (Nat.lt_trans hb HLy.out) hW.size) (fun b hb => hW.block b (Nat.lt_trans hb HLy.out))⟩
  have HAy : Hid (Below w9.heap.size w9 w9) := Lib.hid (Below.refl _ _)
  clear HXy HLy HIy
  obtain ⟨s0, s1, s2⟩ := cells3 (HSx.out _ HAx.out).1
  obtain ⟨r0, r1, r2⟩ := cells3 (HSy.out _ HAy.out).1
  have hl1 := (HSx.out _ HAx.out).2.len
  have hl2 := (HSy.out _ HAy.out).2.len
  have hpl : p.length ≤ 9223372036854775807 := by have := hl1.2; unfold maxLen at this; omega
  have hpl2 : p2.length ≤ 9223372036854775807 := by have := hl2.2; unfold maxLen at this; omega
  have hc1 : p.length ≤ qx := hl1.2.1
  have hc2 : p2.length ≤ qy := hl2.2.1
  clear hl1 hl2
  go_upto_region 10 with fail
  clear s0 s1 s2 r0 r1 r2
  go_wp2
  go_loopw [15, 16] (fun s i wr => ∃ (k : Nat) (q : Bool), k ≤ p.length ∧ i = .int .i64 k ∧ s = .bool q ∧ Hid (q = true → p.length = p2.length ∧ p.take k = p2.take k) ∧ Hid (q = false → p ≠ p2) ∧ Hid (Below w9.heap.size w9 wr)) (fun _ i _ => p.length - (intOf i).toNat)
  case atStart => exact ⟨0, ((p.length : Int) == (p2.length : Int)), by omega, rfl, rfl, Lib.hid (fun h => ⟨by rw [beq_iff_eq] at h; omega, by simp⟩), Lib.hid (fun h e => by rw [e] at h; simp at h), Lib.hid (Below.refl _ _)⟩
  case round =>
    obtain ⟨k, q, hk, rfl, rfl, hq1, hq2, hbr⟩ := hrel
    have hsx := HSx.out _ (belowNext HAx.out hbr.out)
    have hsy := HSy.out _ (belowNext HAy.out hbr.out)
    obtain ⟨s0, s1, s2⟩ := cells3 hsx.1
    obtain ⟨r0, r1, r2⟩ := cells3 hsy.1
    have HIX := Lib.hid hsx.2
    have HIY := Lib.hid hsy.2
    clear hsx hsy
    by_cases hc : k < p.length ∧ q = true
    · obtain ⟨hlt, rfl⟩ := hc
      obtain ⟨hle, htk⟩ := hq1.out rfl
      have hlt2 : k < p2.length := by omega
      have hxk : p[k]? = some p[k] := List.getElem?_eq_getElem hlt
      have hyk : p2[k]? = some p2[k] := List.getElem?_eq_getElem hlt2
      have HT1 : Hid (p.take (k + 1) = p.take k ++ [p[k]]) := Lib.hid (by rw [List.take_add_one, hxk]; rfl)
      have HT2 : Hid (p2.take (k + 1) = p2.take k ++ [p2[k]]) := Lib.hid (by rw [List.take_add_one, hyk]; rfl)
      obtain ⟨gb, ob, rfl, _, k0⟩ := HIX.out.get hxk
      obtain ⟨gc, oc, rfl, _, k1⟩ := HIY.out.get hyk
      have HXK := Lib.hid hxk
      have HYK := Lib.hid hyk
      have HLE := Lib.hid hle
      have HTK := Lib.hid htk
      clear hxk hyk hle htk
      generalize p[k] = e1 at *
      generalize p2[k] = e2 at *
      go_wp2
      go_quiet (fail)
      go_wp2
      refine ⟨⟨k + 1, (e1 == e2), by omega, by go_num, rfl, Lib.hid (fun h => ⟨HLE.out, ?_⟩), Lib.hid (fun h e => ?_), Lib.hid (drawn_on5 hbr.out _)⟩, by simp [intOf]; omega⟩
      · rw [HT1.out, HT2.out, HTK.out, beq_iff_eq.1 h]
      · have h1 := HXK.out
        rw [e, HYK.out] at h1
        rw [Option.some.inj h1] at h; simp at h
    · have HEN5 := Lib.hid (HEN.out _ (belowNext HAn.out hbr.out))
      have HAw := Lib.hid (belowNext HAn.out hbr.out)
      clear HIX HIY
      by_cases hpp : p = p2
      · have hq : q = true := by cases q with | true => rfl | false => exact absurd hpp (hq2.out rfl)
        subst hq
        obtain rfl : k = p.length := by have h1 : ¬ k < p.length := fun h => hc ⟨h, rfl⟩; omega
        subst hpp
        have hnlt : ¬ (p.length : Int) < (p.length : Int) := by omega
        obtain ⟨u, A, M, C, h3, ea, eb, hdm⟩ := three_flat (docB_plain l) (checkIs HDR.out).1 HRA.out HRB.out HLH.out.1
        have HBD := Lib.hid (three_bounds h3)
        have H3 := Lib.hid h3
        have HEA := Lib.hid ea
        have HEB := Lib.hid eb
        obtain ⟨x, hx⟩ : ∃ x, Three.put (docB l) u p A [] C = x := ⟨_, rfl⟩
        have HXE := Lib.hid hx
        have HXR := Lib.hid (h3.right (l := []) (by simp [rowB]) HDR.out (by have := HBD.out; simp only [deepB]; omega) (by have := HBD.out; simp only [totalB]; omega))
        rw [hx] at HXR
        clear h3 ea eb hdm hx hc hq1 hq2
        obtain ⟨x0, x1, x2, x3, x4⟩ := cells5 (HXD.out _ HAw.out)
        go_wp2_with fail
        rw [HLO.out, HHI.out]
        refine (cut_three _ wr (HND.out _ HAw.out) (by have := HBD.out; omega) (HTW.out _ HAw.out) HDR.out H3.out HEA.out HEB.out).mono ?_
        rintro e wa ⟨k0, kc, rfl, hkk, hba⟩
        have HKK := Lib.hid (hkk.keep (S' := Under wa.heap.size) (fun _ h => h.2) (fun _ _ => rfl))
        have HAa := Lib.hid (belowNext HAw.out hba)
        have HEa := Lib.hid (belowNext HEN5.out hba)
        clear hkk hba x0 x1 x2 x3 x4 s0 s1 s2 r0 r1 r2
        obtain ⟨x0, x1, x2, x3, x4⟩ := cells5 (HXD.out _ HAa.out)
        go_wp2_with fail
        rw [HLO.out, HHI.out]
        refine (put_as _ _ wa (HND.out _ HAa.out) (by have := HBD.out; omega) (HTW.out _ HAa.out) kids_nil (by simp [weighAll]) HDR.out (by simp [rowB]) H3.out HXR.out.1 HEA.out HEB.out HXE.out).mono ?_
        rintro e wb ⟨D1, dn1, dc1, D2, dn2, dc2, D3, dc3, rfl, hn, hbb⟩
        obtain ⟨hax, _, _⟩ := new_box wb (.cells #[.string x.kind, .string x.text, .slice D1 dn1 dc1, .slice D2 dn2 dc2, .slice D3 x.kids.length dc3] 28)
        have HSab := Lib.hid (belowNext hbb hax)
        clear hn hbb hax x0 x1 x2 x3 x4
        go_upto_region 18 with fail
        generalize wb.alloc (.cells #[.string x.kind, .string x.text, .slice D1 dn1 dc1, .slice D2 dn2 dc2, .slice D3 x.kids.length dc3] 28) = wd at *
        go_wp2_with fail
        refine (total_any _ M wd ((HKK.out.below HSab.out).more HSab.out.size) (by have := HBD.out; omega)).mono ?_
        rintro e we ⟨rfl, hbe⟩
        have HEe := Lib.hid (belowNext (belowNext HEa.out HSab.out) hbe)
        have htm : (totalB M : Int) = (hi : Int) - (lo : Int) := by have := HEA.out; have := HEB.out; omega
        rw [htm]
        have hlo := HLO.out
        have hhi := HHI.out
        have hlh := HLH.out
        have hz1 : lo ≤ hi ∧ hi ≤ 760 := by omega
        clear hbe htm hlh
        go_wp2
        go_ret
        refine ⟨?_, HEe.out⟩
        first | rfl | simp
      · have hq : q = false := by
          cases q with
          | false => rfl
          | true =>
            exfalso
            have h1 : k = p.length := by have h1 : ¬ k < p.length := fun h => hc ⟨h, rfl⟩; omega
            obtain ⟨h2, h3⟩ := hq1.out rfl
            rw [h1, List.take_length, h2, List.take_length] at h3
            exact hpp h3
        subst hq
        clear hc hq1 hq2
        obtain ⟨x0, x1, x2, x3, x4⟩ := cells5 (HXD.out _ HAw.out)
        by_cases hkk : k < p.length
        all_goals
          go_wp2_with fail
          rw [HLO.out, HHI.out]
          refine (cut_apart _ (docB l) lo hi p p2 j1 o1 j2 o2 wr (HND.out _ HAw.out) (by have := HWT.out; omega) (HTW.out _ HAw.out) (isDoc_of (docB_plain l) HDR.out) hpp HRA.out HRB.out HLH.out.1 (by have := HLH.out; omega)).mono ?_
          rintro e wa ⟨rfl, hba⟩
          have HAa := Lib.hid (belowNext HAw.out hba)
          have HEa := Lib.hid (belowNext HEN5.out hba)
          clear hba x0 x1 x2 x3 x4 s0 s1 s2 r0 r1 r2
          obtain ⟨x0, x1, x2, x3, x4⟩ := cells5 (HXD.out _ HAa.out)
          go_wp2_with fail
          rw [HLO.out, HHI.out]
          refine (put_apart _ _ (docB l) [] lo hi p p2 j1 o1 j2 o2 wa (HND.out _ HAa.out) (by have := HWT.out; omega) (HTW.out _ HAa.out) kids_nil (by simp [weighAll]) (by simp [joinB, weighAll]) (isDoc_of (docB_plain l) HDR.out) (areKids_of (by simp [rowB])) hpp HRA.out HRB.out HLH.out.1 (by have := HLH.out; omega)).mono ?_
          rintro e wb ⟨rfl, hbb⟩
          have HEb := Lib.hid (belowNext HEa.out hbb)
          clear hbb x0 x1 x2 x3 x4
          go_wp2
          go_ret
          exact ⟨rfl, HEb.out.alloc HEb.out.size _⟩
end Go.Proofs.YtamoklceekeheaaDoor

namespace Go.Proofs.YtamoklceekeheaaDoor
open Go.ChangeShapes Go.WideShapes Go.ChangeAt Go.RowKit Go.Lib Go.ChangeMaps

set_option maxRecDepth 100000 in
theorem pieceApart_laid (os : Os) (args : Array Value) : laidMet Tryd.prog Rows.pieceApartRow.laid ((laidWorld os).forCall (fun _ _ => 0) ⟨#[], args, []⟩).memory :=
  (LaidIn.of_run (l := [("unicode/utf8.acceptRanges", Lib.acceptData), ("unicode/utf8.first", Lib.firstData)]) [1, 0] 8 (by kernel_rfl) (by kernel_rfl) (by kernel_rfl) (by kernel_rfl)).met

set_option maxRecDepth 100000 in
theorem pieceApart_contract (H : Type) (enc : TypeId × Value → H) (W : World) (base : Nat) (args : Array Value) (ds gs : List (DataW H)) (before : List MemPlace)
    (hval : ∀ (j : Nat) t v, Tryd.f8.params[j]? = some t → args[j]? = some v → Value.okWide Tryd.prog W .any base t v)
    (hW : DataW.Whole enc Tryd.prog Tryd.f8.params.toList Rows.pieceApartSpec.vars false W args.toList ds gs before) (hL : Tabs W) :
    Calls Tryd.prog 8 args W fun e W' => ∃ v, e = .returned v ∧ Rows.pieceApartSpec.post enc Tryd.prog Tryd.f8 false true false false W args v W' := by
  have hW' := hW
  have hlt : ∀ p ∈ before, p.block < W.heap.size := fun p hp => hW.lt p hp
  obtain ⟨p, q, hA0, hV, rfl, hfz, hnd⟩ := hW
  have hA : DataW.TrodAll enc Tryd.prog W 0 (fun _ => true) true Tryd.f8.params.toList args.toList ds p := hA0
  rw [Tryd.params8] at hA hval
  obtain ⟨v0, v1, v2, d0, d1, d2, p0, p1, p2, hargs, rfl, rfl, h0, h1, h2⟩ := trodAll_three hA
  obtain rfl : args = #[v0, v1, v2] := by cases args; simp_all
  obtain ⟨rfl, rfl⟩ := trodVars_none hV
  obtain ⟨A0, len0, cap0, rfl⟩ := okWide_slice Tryd.underlying22 (hval 0 22 v0 rfl rfl)
  obtain ⟨n1, rfl, rfl, rfl, ww1⟩ := open_int Tryd.underlying3 (hval 1 3 v1 rfl rfl) h1
  obtain ⟨lo1, hi1⟩ := bounds_i64 ww1
  obtain ⟨n2, rfl, rfl, rfl, ww2⟩ := open_int Tryd.underlying3 (hval 2 3 v2 rfl rfl) h2
  obtain ⟨lo2, hi2⟩ := bounds_i64 ww2
  have h0' := h0
  obtain ⟨fuel0, hf0⟩ := h0
  obtain ⟨l0, hl0⟩ := cels_of (by simpa [Value.cells] using hf0)
  refine (pieceApart_walk _ l0 n1 n2 W hl0 lo1 hi1 lo2 hi2 hL).mono fun e W' ⟨he, hb⟩ => ?_
  subst he
  have e1 : Rows.pieceApartSpec.fn H ([d0, .lit (.int .i64 n1), .lit (.int .i64 n2)] ++ []) = { results := [.lit (.bool true)], args := [d0, .lit (.int .i64 n1), .lit (.int .i64 n2)] } := rfl
  refine ⟨_, rfl, _, _, _, [], p0, [], hW', ?_, ?_, ?_, hb.frame _, fun h => by cases h⟩
  · rw [e1]; exact trodAll_mk1 (shut_bool Tryd.underlying4 _)
  · rw [e1]
    have t2 := trodAll_mk3 (Below.trod laidOut (by kernel_rfl) (of_decide_eq_true (by kernel_rfl)) h0' hb (fun x hx => hlt x (by simp [hx]))) (shut_int Tryd.underlying3 ww1) (shut_int Tryd.underlying3 ww2)
    simp only [List.append_nil] at t2
    exact t2
  · rw [e1]; rfl

theorem pieceApart_reads (os : Os) {H : Type} (enc : TypeId × Value → H) : ∃ places, DataW.whole enc Tryd.prog ((laidWorld os).forCall (fun _ _ => 0) ⟨#[], #[.slice none 0 0, .int .i64 0, .int .i64 0], []⟩).memory Tryd.f8.params.toList Rows.pieceApartSpec.vars false #[Value.slice none 0 0, .int .i64 0, .int .i64 0].toList 8 = some ([.nil, .lit (.int .i64 0), .lit (.int .i64 0)], [], places) :=
  ⟨[], by kernel_rfl⟩

set_option maxRecDepth 100000 in
theorem pieceApart_lifted (os : Os) (started : os.Started) (H : Type) (enc : TypeId × Value → H) (F : Stop.Interp) :
    ReturnsInHanded {} Tryd.checked os 8 .any ((OpenSpec.ofChange Rows.pieceApartSpec).preRow enc Tryd.prog Tryd.f8 Rows.pieceApartRow.domain false Rows.pieceApartRow.laid) (((OpenSpec.ofChange Rows.pieceApartSpec).at F).post enc Tryd.prog Tryd.f8 false true false false) := by
  obtain ⟨places, hx⟩ := pieceApart_reads os enc
  refine returnsInHanded_of_row (C := Tryd.checked) (s := OpenSpec.ofChange Rows.pieceApartSpec) own started (by kernel_rfl) Tryd.func8
    (witness_row_at (enc := enc) (C := Tryd.checked) false (laidWorld os) #[.slice none 0 0, .int .i64 0, .int .i64 0] rfl (by kernel_rfl) (by kernel_rfl) (by kernel_rfl)
      (OpenSpec.preRow_of_cond 8 hx (by kernel_rfl) (fun k hk => by cases hk) (by kernel_rfl) (pieceApart_laid os _))) ?_
  intro W base args ds gs before hval hW _ _ _ hL _ _
  exact pieceApart_contract H enc W base args ds gs before hval hW (tabs_of (by rw [← first_is, ← accept_is]; exact hL))

theorem pieceApart_said : Rows.PieceApartSaid :=
  OpenClaim.holds_of_cond 8 Tryd.f8 rfl rfl rfl rfl rfl rfl rfl ⟨rfl, rfl, rfl, rfl, rfl⟩ rfl rfl rfl rfl rfl (by kernel_rfl) Tryd.func8 (by kernel_rfl)
    (of_decide_eq_true (by kernel_rfl)) (by unfold Func.isWrapper; first | (rw [if_pos (by decide +kernel)]; kernel_rfl) | (rw [if_neg (by decide +kernel)]; exact ⟨rfl, rfl⟩))
    (fun os started H enc _ F => by rw [OpenClaim.pre_eq_preRow]; exact pieceApart_lifted os started H enc F)

theorem pieceApart_plain (f : FuncId) (fn : Func) (hf : Tryd.pinned.checked.prog.funcNamed "diptych/diptychlaw5.PieceApart" = some f) (hfn : Tryd.pinned.checked.prog.funcs[f]? = some fn) :
    false = Tryd.pinned.checked.prog.looks [] ∧ ∀ (j : Nat) t, fn.params[j]? = some t → Tryd.pinned.checked.prog.wantsStandIn t = false := by
  obtain rfl : f = 8 := Option.some.inj ((show Tryd.prog.funcNamed "diptych/diptychlaw5.PieceApart" = some 8 by kernel_rfl).symm.trans hf) |>.symm
  obtain rfl : fn = Tryd.f8 := (Option.some.inj (Tryd.func8.symm.trans hfn)).symm
  refine ⟨by kernel_rfl, fun j t ht => ?_⟩
  rw [Tryd.params8] at ht
  have h : t = 22 ∨ t = 3 := by simpa using Array.mem_of_getElem? ht
  rcases h with rfl | rfl
  · exact (show Tryd.prog.wantsStandIn 22 = false by kernel_rfl)
  · exact (show Tryd.prog.wantsStandIn 3 = false by kernel_rfl)

theorem pieceApart_card : Rows.PieceApartCardSaid :=
  Claim7.holds_tied_plain_at .later [] _ _ _ _ pieceApart_said (fun _ h => by cases h) (by kernel_rfl) (fun _ h => by cases h) pieceApart_row_tie rfl ⟨rfl, rfl⟩ (by kernel_rfl) rfl pieceApart_plain (by kernel_rfl)
end Go.Proofs.YtamoklceekeheaaDoor
