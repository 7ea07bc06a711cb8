/-
  TokenChange walked: the same token.
-/
import Derived.Test.YtaepolgmojkglaaDoorNC
namespace Go.Proofs.YtaepolgmojkglaaDoor
open Go.RowKit Go.Sort Go.Maps

set_option maxHeartbeats 8000000 in
set_option maxRecDepth 100000 in
theorem tokenChange_0 (va : Value) (a : List Cel) (at' to' : Int) (w : World) (ha : Cels w (Under w.heap.size) va a) (h0 : -9223372036854775808 ≤ at') (h1 : at' ≤ 9223372036854775807) (h2 : -9223372036854775808 ≤ to') (h3 : to' ≤ 9223372036854775807) (hT : Tabs w)
    (hcase : ∀ z x, (toksB (madeB a))[(pickN at' ((toksB (madeB a)).length : Int)).toNat]? = some z → otherT[(pickN to' 6).toNat]? = some x → z = x) :
    Calls Tryd.prog 5 #[va, .int .i64 at', .int .i64 to'] w fun e w' => e = .returned (.bool true) ∧ Below w.heap.size w w' := by
  have HA := Lib.hid ha
  have HT := Lib.hid hT
  have HCS := Lib.hid hcase
  clear ha hT hcase
  go_enter Tryd.func5, Tryd.ntmps5
  go_wp2_with fail
  refine (shown3_any _).mono ?_
  rintro e w1 ⟨rfl, hb1⟩
  have HB1 := Lib.hid hb1
  clear hb1
  go_wp2_with fail
  refine (made_any _ a w1 ((HA.out.below HB1.out).more HB1.out.size)).mono ?_
  rintro e w2 ⟨v2, rfl, hk2, hb2⟩
  have HB2 := Lib.hid (belowNext HB1.out hb2)
  have HX2 := Lib.hid (kids_from hk2)
  have HRX : Hid (rowB none (madeB a) = true) := Lib.hid (madeB_ok a)
  have HSX : Hid (∀ t ∈ toksB (madeB a), Slim t) := Lib.hid (made_slim a)
  have HWX : Hid (weighAll (madeB a) ≤ 760 ∧ deepB (madeB a) ≤ 19 ∧ totalB (madeB a) ≤ 57 ∧ (toksB (madeB a)).length ≤ 57) := Lib.hid ⟨madeB_weigh a, madeB_deep a, made_count a, made_toks a⟩
  clear hk2 hb2
  generalize madeB a = k at *
  have HCH : Hid (∀ n w x, (toksB k)[n]? = some w → x ∈ otherT → _) := Lib.hid fun n w x hw hx => build_change HRX.out (by have := HWX.out; omega) (by have := HWX.out; omega) (n := n) (w := w) (x := x) hw hx
  have HINJ : Hid (∀ C, rowB none C = true → toksB C = toksB k → C = k) := Lib.hid fun C hC he => kids_inj hC HRX.out he
  generalize htz : toksB k = t at *
  have HTZ := Lib.hid htz
  clear htz
  obtain ⟨A2, c2, rfl, _⟩ := HX2.out.form
  go_wp2_with fail
  refine (of_some _ k w2 HX2.out (by have := HWX.out; omega)).mono ?_
  rintro e w3 ⟨v3, rfl, ht3, hb3, hn3⟩
  rw [HTZ.out] at ht3
  have HB3 := Lib.hid (belowNext HB2.out hb3)
  have HT3 := Lib.hid (toks_from' ht3.toks)
  have HZ3 := Lib.hid hb3.size
  obtain ⟨g3, c3, rfl, hc3⟩ := ht3.some hn3
  have HG3 : Hid (w2.heap.size ≤ g3 ∧ ∃ cur, w3.heap[g3]? = some (.cells cur 34)) := Lib.hid (ht3.block rfl)
  have HX3 : Hid (∀ W, (∀ b, b < w2.heap.size → W.heap[b]? = w3.heap[b]?) → Kids W (Under w2.heap.size) (.slice A2 k.length c2) k) := Lib.hid fun W hW => HX2.out.keep (fun _ h => h) fun b hb => (hW b hb).trans (hb3.block b hb)
  have hlt : t.length ≤ 57 := HWX.out.2.2.2
  clear ht3 hb3 hn3 HX2
  by_cases hz : t.length = 0
  · rw [hz]
    clear hz hc3
    go_wp2
    go_ret
    exact ⟨rfl, HB3.out⟩
  · have hz' : ¬ (t.length : Int) = 0 := by omega
    have HB4 : Hid (Below w3.heap.size w3 (w3.alloc OtherO)) := Lib.hid ((Below.refl _ _).alloc (Nat.le_refl _) _)
    have HO4 : Hid ((w3.alloc OtherO).heap[w3.heap.size]? = some OtherO) := Lib.hid (heap_new _ _)
    go_wp2_with fail
    generalize w3.alloc OtherO = W4 at *
    refine (pick_any at' (t.length : Int) W4 (by omega) (by omega) h0 h1).mono ?_
    rintro e W4' ⟨rfl, rfl⟩
    have hlo := pickN_lo at' (t.length : Int) (by omega)
    have hhi := pickN_hi at' (t.length : Int) (by omega)
    obtain ⟨n, hn⟩ : ∃ n : Nat, pickN at' (t.length : Int) = (n : Int) := ⟨_, (Int.toNat_of_nonneg hlo).symm⟩
    rw [hn] at hlo hhi HCS ⊢
    rw [Int.toNat_natCast] at HCS
    have hnt : n < t.length := by omega
    clear hn hlo
    have hax : t[n]? = some t[n] := List.getElem?_eq_getElem hnt
    generalize t[n] = z at *
    have HAX := Lib.hid hax
    obtain ⟨b, o, he, hu, x0, x1, x2⟩ := (toks_keep HT3.out HB4.out).get hax
    injection he with he; injection he with he1 he2; subst he1; subst he2
    rw [Nat.zero_add] at x0 x1 x2
    have HX012 := Lib.hid (And.intro x0 (And.intro x1 x2))
    have HB5 : Hid (Below W4.heap.size W4 (W4.alloc (TokO z))) := Lib.hid ((Below.refl _ _).alloc (Nat.le_refl _) _)
    have HZ5 : Hid ((W4.alloc (TokO z)).heap[W4.heap.size]? = some (TokO z)) := Lib.hid (heap_new _ _)
    clear hax
    go_wp2_with fail
    generalize W4.alloc (TokO z) = W5 at *
    refine (pick_any to' 6 W5 (by omega) (by omega) h2 h3).mono ?_
    rintro e W5' ⟨rfl, rfl⟩
    have hlo := pickN_lo to' 6 (by omega)
    have hhi2 := pickN_hi to' 6 (by omega)
    obtain ⟨m, hm⟩ : ∃ m : Nat, pickN to' 6 = (m : Int) := ⟨_, (Int.toNat_of_nonneg hlo).symm⟩
    rw [hm] at hlo hhi2 HCS ⊢
    rw [Int.toNat_natCast] at HCS
    have hm6 : m < 6 := by omega
    clear hm hlo
    obtain ⟨x, hx, q0, q1, q2⟩ := other_cells ((HB5.out.block _ (heap_lt HO4.out)).trans HO4.out) hm6
    have HP := Lib.hid (HCS.out z x HAX.out hx)
    have HXO : Hid (x ∈ otherT) := Lib.hid (List.mem_of_getElem? hx)
    have y0 := cell_kept x0 HB5.out
    have y1 := cell_kept x1 HB5.out
    have y2 := cell_kept x2 HB5.out
    have HG5 : Hid (∃ cur, W5.heap[g3]? = some (.cells cur 34)) := Lib.hid (by
      obtain ⟨_, cur, hc⟩ := HG3.out
      have h4 := (HB4.out.block _ (heap_lt hc)).trans hc
      exact ⟨cur, (HB5.out.block _ (heap_lt h4)).trans h4⟩)
    obtain ⟨cur, hcur⟩ := HG5.out
    have f0 := frozen_of_row _ _ (n * 3) _ _ hcur
    have f1 := frozen_of_row _ _ (n * 3 + 1) _ _ hcur
    have f2 := frozen_of_row _ _ (n * 3 + 2) _ _ hcur
    clear x0 x1 x2 hx hcur
    go_wp2_with fail
    have HWB5 : Hid (Below w.heap.size w W5) := Lib.hid (belowNext (belowNext HB3.out HB4.out) HB5.out)
    have HB6 : Hid (Below w.heap.size w (put3 W5 g3 (n * 3) x)) := Lib.hid (put3_below (Nat.le_trans HB2.out.size HG3.out.1) HWB5.out)
    have HT6 : Hid (Toks (put3 W5 g3 (n * 3) x) (Under (put3 W5 g3 (n * 3) x).heap.size) (.slice (some ⟨g3, 0, none⟩) t.length c3) (t.set n x)) := Lib.hid (by rw [put3_size]; exact toks_put3 (toks_keep (toks_keep HT3.out HB4.out) HB5.out) HAX.out)
    have HK6 : Hid (Kids (put3 W5 g3 (n * 3) x) (Under w2.heap.size) (.slice A2 k.length c2) k) := Lib.hid (HX3.out _ fun b hb => by
      have hz3 := HZ3.out
      have hz4 := HB4.out.size
      rw [put3_other (by have := HG3.out.1; omega), HB5.out.block b (by omega), HB4.out.block b (by omega)])
    have HZ6 : Hid ((put3 W5 g3 (n * 3) x).heap[W4.heap.size]? = some (TokO z)) := Lib.hid (by
      obtain ⟨_, cur, hc⟩ := HG3.out
      have hg := heap_lt hc
      have hz4 := HB4.out.size
      rw [put3_other (by omega)]; exact HZ5.out)
    have HZS : Hid (w2.heap.size ≤ (put3 W5 g3 (n * 3) x).heap.size) := Lib.hid (by rw [put3_size]; have := HZ3.out; have := HB4.out.size; have := HB5.out.size; omega)
    have HLS : Hid ((t.set n x).length ≤ 57) := Lib.hid (by rw [List.length_set]; exact hlt)
    have HSL : Hid (∀ y ∈ t.set n x, Slim y) := Lib.hid fun y hy => (List.mem_or_eq_of_mem_set hy).elim (HSX.out y) (fun e => by rw [e]; exact other_slim HXO.out)
    have HTW : Hid (tokW (t.set n x) ≤ 5187) := Lib.hid (by have h1 := slim_tokW _ HSL.out; have h2 := HLS.out; omega)
    have HBW := Lib.hid (build_weigh (t.set n x))
    have HSN : Hid ((t.set n x)[n]? = some x) := Lib.hid (List.getElem?_set_self hnt)
    have HSB := Lib.hid (set_back (x := x) HAX.out)
    have HC := Lib.hid (HCH.out n z x HAX.out HXO.out)
    change Calls _ _ _ (put3 W5 g3 (n * 3) x) _
    clear q0 q1 q2 y0 y1 y2 f0 f1 f2 HX012 HG5 HO4 HZ5 HB4 HB5 HT3 HG3 HX3 HWB5 HCH hm6 hhi2
    generalize put3 W5 g3 (n * 3) x = W6 at *
    generalize t.set n x = s at *
    refine (tbuild_any _ s W6 HT6.out (by have := HLS.out; omega) (slim_bound HSL.out) (by have := HTW.out; omega) (HT.out.below HB6.out)).mono ?_
    rintro e w7 ⟨v7, rfl, hk7, hb7⟩
    have HB7 := Lib.hid (belowNext HB6.out hb7)
    rcases HC.out with hbd | ⟨C, hrC, hbd, htC⟩
    · rw [hbd] at hk7 ⊢
      obtain ⟨A7, c7, rfl, _⟩ := hk7.form
      clear hbd hk7 hb7
      go_wp2
      go_ret
      exact ⟨rfl, HB7.out⟩
    · rw [hbd] at hk7 ⊢ HBW
      have HC7 := Lib.hid (kids_from hk7)
      have HT7 := Lib.hid (toks_keep HT6.out hb7)
      have HK7 := Lib.hid (kids_keep (HK6.out.keep (S' := Under W6.heap.size) (fun _ h => Nat.lt_of_lt_of_le h HZS.out) (fun _ _ => rfl)) hb7)
      have HZ7 := Lib.hid ((hb7.block _ (heap_lt HZ6.out)).trans HZ6.out)
      have HEQ : Hid (C = k ↔ z = x) := Lib.hid ⟨fun e => HSB.out.1 (by rw [← htC, e]; exact HTZ.out), fun e => HINJ.out C hrC (htC.trans (HSB.out.2 e))⟩
      have HTC := Lib.hid htC
      have HCW : Hid (weighAll C ≤ 50000) := Lib.hid (by have h1 := HBW.out; have h2 := HTW.out; simp only at h1; omega)
      have HKW : Hid (weighAll k ≤ 1000000) := Lib.hid (by have := HWX.out; omega)
      obtain ⟨A7, c7, rfl, _⟩ := hk7.form
      clear hbd hk7 hb7 htC hrC HT6 HK6 HZ6 HBW HC HINJ HTZ HSB HSX HRX HZS HXO HAX HCS
      have z7 := tokO_cells HZ7.out
      obtain ⟨b0, b1, b2⟩ := z7
      obtain ⟨b, o, he, hu, y0, y1, y2⟩ := HT7.out.get HSN.out
      injection he with he; injection he with he1 he2; subst he1; subst he2
      rw [Nat.zero_add] at y0 y1 y2
      have HCL := Lib.hid (And.intro (And.intro b0 (And.intro b1 b2)) (And.intro y0 (And.intro y1 y2)))
      have D0 : Hid (Below w7.heap.size w7 w7.drew) := Lib.hid (Below.refl w7.heap.size w7).drew
      have h5 : Hid (Below w7.heap.size w7 w7) := Lib.hid (Below.refl _ _)
      have hnt2 : (n : Int) < (t.length : Int) := by omega
      have hzx := HP.out
      have HCK : Hid (C = k) := Lib.hid (HEQ.out.2 hzx)
      subst hzx
      go_wp2_with fail
      go_region_with (first
        | (go_at_call 10; refine (sameAll_full (weighAll C) C k _ _ _ (Nat.le_refl _) (by have := HCW.out; omega) HKW.out (kids_keep HC7.out (by first | exact D0.out | exact h5.out)) (kids_keep HK7.out (by first | exact D0.out | exact h5.out))).mono ?_; rintro e w8 ⟨r, rfl, hr, hb8⟩; obtain rfl : r = true := hr.2 HCK.out; have H8 := Lib.hid (D0.out.trans (hb8.mono (Nat.le_refl _))); have b0' := cell_kept HCL.out.1.1 H8.out; have b1' := cell_kept HCL.out.1.2.1 H8.out; have b2' := cell_kept HCL.out.1.2.2 H8.out; have y0' := cell_kept HCL.out.2.1 H8.out; have y1' := cell_kept HCL.out.2.2.1 H8.out; have y2' := cell_kept HCL.out.2.2.2 H8.out; clear hb8 hr)
        | (go_at_call 8; refine (of_some _ C _ (kids_keep HC7.out (by first | exact H10.out | exact H8.out)) (by have := HCW.out; omega)).mono ?_; rintro e w9 ⟨v9, rfl, ht9, hb9, hn9⟩; rw [HTC.out] at ht9; have HO9 := Lib.hid (toks_from' ht9.toks); have hk9 := ht9.toks; obtain ⟨A9, c9, rfl, _⟩ := hk9.form; have H9 := Lib.hid (show Below w7.heap.size w7 w9 from by first | exact H10.out.trans (hb9.mono H10.out.size) | exact H8.out.trans (hb9.mono H8.out.size)); have HBB9 := Lib.hid hb9; clear ht9 hk9 hb9 hn9)
        | (go_at_call 14; refine (as_any _ s _ (toks_keep HT7.out (by first | exact H9.out | exact H8.out)) (by have := HLS.out; omega)).mono ?_; rintro e w10 ⟨v10, rfl, ht10, hb10⟩; have HA10 := Lib.hid (toks_from' ht10); obtain ⟨A10, c10, rfl, _⟩ := ht10.form; have H10 := Lib.hid (show Below w7.heap.size w7 w10 from by first | exact H9.out.trans (hb10.mono H9.out.size) | exact H8.out.trans (hb10.mono H8.out.size)); have HBB10 := Lib.hid hb10; clear ht10 hb10)
        | (go_at_call 13; refine (same3_any _ _ s s _ (by first | exact toks_keep HO9.out HBB10.out | exact HO9.out) (by first | exact toks_keep HA10.out HBB9.out | exact HA10.out) (by have := HLS.out; omega) (by have := HLS.out; omega)).mono ?_; rintro e w11 ⟨rfl, hb11⟩; rw [decide_eq_true rfl]; have HB11 := Lib.hid (show Below w.heap.size w w11 from by first | exact belowNext HB7.out (H10.out.trans (hb11.mono H10.out.size)) | exact belowNext HB7.out (H9.out.trans (hb11.mono H9.out.size))); clear hb11))
      all_goals
        go_wp2
        go_ret
        exact ⟨rfl, HB11.out⟩
end Go.Proofs.YtaepolgmojkglaaDoor
