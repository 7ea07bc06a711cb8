/-
  TokenRows walked.
-/
import Derived.Test.YtkhfdoionjocgaaRp
import Derived.Test.YtkhfdoionjocgaaRs
import Derived.Test.YtkhfdoionjocgaaW13a
import Derived.Deep.DrawnRows
namespace Go.Proofs.Ytkhfdoionjocgaa
open Go.RowKit Go.Sort Go.Maps

theorem tkeep {w w' : World} {v : Value} {l : List Tok} (h : Toks w (Under w.heap.size) v l) (hb : Below w.heap.size w w') : Toks w' (Under w'.heap.size) v l := h.keep (fun _ hk => Nat.lt_of_lt_of_le hk hb.size) (fun b hk => hb.block b hk)
theorem kkeep {w w' : World} {v : Value} {l : List Tree} (h : Kids w (Under w.heap.size) v l) (hb : Below w.heap.size w w') : Kids w' (Under w'.heap.size) v l := h.keep (fun _ hk => Nat.lt_of_lt_of_le hk hb.size) (fun b hk => hb.block b hk)
theorem tfrom {w : World} {B : Nat} {v : Value} {l : List Tok} (h : Toks w (From B w.heap.size) v l) : Toks w (Under w.heap.size) v l := h.keep (fun _ hk => hk.2) (fun _ _ => rfl)
/-- A literal row of one node. -/
theorem kids_lit {W : World} {g : Nat} {x : Tree} {A1 A2 A3 : Option Addr} {c1 c2 c3 : Nat} (h : W.heap[g]? = some (NodeO x A1 A2 A3 x.marks.length c1 x.attrs.length c2 x.kids.length c3))
    (hN : Node W (Under W.heap.size) (.agg #[.string x.kind, .string x.text, .slice A1 x.marks.length c1, .slice A2 x.attrs.length c2, .slice A3 x.kids.length c3]) x) : Kids W (Under W.heap.size) (.slice (some ⟨g, 0, none⟩) 1 1) [x] := by
  obtain ⟨c0, c1', c2', c3', c4⟩ := five_cells h
  obtain ⟨vm, va, vk, hv, hm, ha, hk⟩ := hN
  simp only [Value.agg.injEq, Array.mk.injEq, List.cons.injEq, and_true, true_and] at hv
  obtain ⟨rfl, rfl, rfl⟩ := hv
  exact kids_row1 c0 c1' c2' c3' c4 hm ha hk (heap_lt h)

attribute [local go_sem ↓] Go.wp_at_zero Go.wp_at_succ
set_option maxHeartbeats 64000000 in
set_option maxRecDepth 100000 in
theorem tokenRows_walk (va vn : Value) (a : List Cel) (x : Tree) (w : World) (ha : Cels w (Under w.heap.size) va a) (hx : Node w (Under w.heap.size) vn x) (hwx : weigh x ≤ 1048576) :
    Calls Try.prog 3 #[va, vn] w fun e w' => e = .returned (.bool true) ∧ Below w.heap.size w w' := by
  have HA := Lib.hid ha
  obtain ⟨vm, vp, vk, rfl, hm, hp, hk⟩ := hx
  obtain ⟨A1, c1, rfl, _⟩ := hm.form
  obtain ⟨A2, c2, rfl, _⟩ := hp.form
  obtain ⟨A3, c3, rfl, _⟩ := hk.form
  have HXN : Hid (∀ W, Below w.heap.size w W → Node W (Under W.heap.size) (.agg #[.string x.kind, .string x.text, .slice A1 x.marks.length c1, .slice A2 x.attrs.length c2, .slice A3 x.kids.length c3]) x) := Lib.hid fun W hW => Node.keep (S := Under w.heap.size) ⟨_, _, _, rfl, hm, hp, hk⟩ (fun _ h => Nat.lt_of_lt_of_le h hW.size) (fun b h => hW.block b h)
  have HB1 : Hid (Below w.heap.size w (w.alloc (NodeO x A1 A2 A3 x.marks.length c1 x.attrs.length c2 x.kids.length c3))) := Lib.hid ((Below.refl _ _).alloc (Nat.le_refl _) _)
  have HX1 : Hid ((w.alloc (NodeO x A1 A2 A3 x.marks.length c1 x.attrs.length c2 x.kids.length c3)).heap[w.heap.size]? = some (NodeO x A1 A2 A3 x.marks.length c1 x.attrs.length c2 x.kids.length c3)) := Lib.hid (heap_new _ _)
  have HWX : Hid (x.kind.size + x.text.size + weighL x.marks + weighP x.attrs ≤ 1048576) := Lib.hid (by obtain ⟨k, t, m, a, l⟩ := x; simp only [weigh, Tree.kind, Tree.text, Tree.marks, Tree.attrs] at *; omega)
  clear ha hm hp hk
  go_enter Try.func3, Try.ntmps3
  go_wp2_with fail
  generalize w.alloc (NodeO x A1 A2 A3 x.marks.length c1 x.attrs.length c2 x.kids.length c3) = W1 at *
  refine (shown3_any _).mono ?_
  rintro e w1 ⟨rfl, hb1⟩
  have HB2 := Lib.hid (belowNext HB1.out hb1)
  have HX2 := Lib.hid ((hb1.block _ (heap_lt HX1.out)).trans HX1.out)
  obtain ⟨n0, n1, n2, n3, n4⟩ := five_cells HX2.out
  clear hb1
  go_wp2_with fail
  obtain ⟨vm, vp, vk, hv, hm, hp, hk⟩ := HXN.out w1 HB2.out
  simp only [Value.agg.injEq, Array.mk.injEq, List.cons.injEq, and_true, true_and] at hv
  obtain ⟨rfl, rfl, rfl⟩ := hv
  refine (short_any x A1 A2 A3 c1 c2 x.kids.length c3 w1 hm hp HWX.out).mono ?_
  rintro e w2 ⟨r, rfl, hr, hb2⟩
  have HB3 := Lib.hid (belowNext HB2.out hb2)
  have HX3 := Lib.hid ((hb2.block _ (heap_lt HX2.out)).trans HX2.out)
  have HR := Lib.hid hr
  clear n0 n1 n2 n3 n4 hb2 hr hm hp hk
  obtain ⟨n0, n1, n2, n3, n4⟩ := five_cells HX3.out
  cases r with
  | false =>
    go_wp2
    go_ret
    exact ⟨rfl, HB3.out⟩
  | true =>
    by_cases hk0 : x.kids = []
    · have hkl : ¬ (0 : Int) < (x.kids.length : Int) := by rw [hk0]; simp
      have HWS : Hid (weigh x ≤ 502) := Lib.hid (by
        have h1 := HR.out rfl
        obtain ⟨k, t, m, a, l⟩ := x
        simp only [Tree.kind, Tree.text, Tree.marks, Tree.attrs, Tree.kids] at *
        subst hk0
        simp only [weigh, weighAll]; omega)
      clear hk0
      go_wp2_with fail
      refine (made_any _ a w2 ((HA.out.below HB3.out).more HB3.out.size)).mono ?_
      rintro e w4 ⟨v4, rfl, hk4, hb4⟩
      have HB4 := Lib.hid (belowNext HB3.out hb4)
      have HK4 := Lib.hid (hk4.keep (S' := Under w4.heap.size) (fun _ h => h.2) (fun _ _ => rfl))
      have HX4 := Lib.hid ((hb4.block _ (heap_lt HX3.out)).trans HX3.out)
      have HWK : Hid (weighAll (madeB a) ≤ 760) := Lib.hid (madeB_weigh a)
      generalize madeB a = k at *
      generalize htk : toksB k = tk at *
      have HTZ := Lib.hid htk
      have HTL : Hid (tk.length ≤ 760) := Lib.hid (by rw [← htk, toksB_len]; exact Nat.le_trans (total_le_weigh _) HWK.out)
      have HTOT : Hid (totalB k = tk.length) := Lib.hid (by rw [← htk, toksB_len])
      obtain ⟨A4, c4, rfl, _⟩ := hk4.form
      clear n0 n1 n2 n3 n4 hk4 hb4 htk
      go_wp2_with fail
      refine (of_some _ k w4 HK4.out (by have := HWK.out; omega)).mono ?_
      rintro e w6 ⟨v6, rfl, ht6, hb6, hn6⟩
      rw [HTZ.out] at ht6
      have HB6 := Lib.hid (belowNext HB4.out hb6)
      have HT6 := Lib.hid (tfrom ht6.toks)
      have HK6 := Lib.hid (kkeep HK4.out hb6)
      have HX6 := Lib.hid ((hb6.block _ (heap_lt HX4.out)).trans HX4.out)
      obtain ⟨A6, c6, rfl, _⟩ := HT6.out.form
      clear ht6 hb6 hn6
      have D0 : Hid (Below w6.heap.size w6 w6.drew) := Lib.hid (Below.refl w6.heap.size w6).drew
      have h5 : Hid (Below w6.heap.size w6 w6) := Lib.hid (Below.refl _ _)
      have HBX : Hid (∀ W, Below w6.heap.size w6 W → W.heap[w.heap.size]? = some (NodeO x A1 A2 A3 x.marks.length c1 x.attrs.length c2 x.kids.length c3)) := Lib.hid fun W hW => (hW.block _ (heap_lt HX6.out)).trans HX6.out
      generalize hto : toksB [x] = tx at *
      have HTO := Lib.hid hto
      have HOL : Hid (tx.length ≤ 502) := Lib.hid (by rw [← hto, toksB_len]; have h1 := total_le_weigh [x]; have h2 := HWS.out; simp only [weighAll] at h1; omega)
      have HW1 : Hid (weighAll [x] ≤ 502) := Lib.hid (by have h2 := HWS.out; simp only [weighAll]; omega)
      clear hto
      go_wp2_with fail
      go_region_with (first
        | (go_at_call_of 9 A4; refine (rof_walk _ k _ _ (Nat.le_refl _) (by have := HWK.out; omega) (kkeep HK6.out (by first | with_reducible exact D0.out | with_reducible exact h5.out))).mono ?_; rintro e w7 ⟨v7, rfl, ht7, hb7⟩; rw [HTZ.out] at ht7; have HT7 := Lib.hid (tfrom ht7); obtain ⟨A7, c7, rfl, _⟩ := ht7.form; have H7 := Lib.hid (D0.out.trans (hb7.mono (Nat.le_refl _))); clear ht7 hb7)
        | (go_at_call_of 8 A6; refine (same3_any _ _ tk tk _ (tkeep HT6.out H7.out) HT7.out (by have := HTL.out; omega) (by have := HTL.out; omega)).mono ?_; rintro e w8 ⟨rfl, hb8⟩; rw [decide_eq_true rfl]; have H8 := Lib.hid (H7.out.trans (hb8.mono H7.out.size)); clear hb8)
        | (go_at_call 10; refine (total_any _ k _ (kkeep HK6.out H8.out) (by have := HWK.out; omega)).mono ?_; rintro e w9 ⟨rfl, hb9⟩; rw [HTOT.out]; have H9 := Lib.hid (H8.out.trans (hb9.mono H8.out.size)); have HB9 := Lib.hid (belowNext HB6.out H9.out); have HZ9 := Lib.hid (HBX.out _ H9.out); obtain ⟨n0, n1, n2, n3, n4⟩ := five_cells HZ9.out; have hlt9 := heap_lt HZ9.out; clear hb9)
        | (go_at_call 7; refine (of_some _ [x] _ (kids_lit (by first | with_reducible exact heap_new _ _ | with_reducible exact heap_old _ _ _ (heap_new _ _) | with_reducible exact heap_new' _ _ (by simp) | with_reducible exact HL12.out _ (heap_new _ _) | with_reducible exact HL12.out _ (heap_old _ _ _ (heap_new _ _)) | with_reducible exact HL12.out _ (heap_new' _ _ (by simp))) (HXN.out _ (by first | with_reducible exact HB12.out | with_reducible exact HB12.out.alloc HB12.out.size _ | with_reducible exact HB9.out.alloc HB9.out.size _ | with_reducible exact (HB9.out.alloc HB9.out.size _).alloc (Nat.le_trans HB9.out.size (by simp)) _))) (by have := HW1.out; omega)).mono ?_; rintro e w11 ⟨v11, rfl, ht11, hb11, _⟩; rw [HTO.out] at ht11; have hk11 := ht11.toks; have HO11 := Lib.hid (tfrom hk11); obtain ⟨A11, c11, rfl, _⟩ := hk11.form; have HB11 := Lib.hid (show Below w.heap.size w w11 from belowNext (by first | with_reducible exact HB12.out | with_reducible exact HB12.out.alloc HB12.out.size _ | with_reducible exact HB9.out.alloc HB9.out.size _ | with_reducible exact (HB9.out.alloc HB9.out.size _).alloc (Nat.le_trans HB9.out.size (by simp)) _) hb11); have HL11 := Lib.hid (fun g h => (hb11.block g (heap_lt (o := NodeO x A1 A2 A3 x.marks.length c1 x.attrs.length c2 x.kids.length c3) h)).trans h); (try have HC11 := Lib.hid (show Below w12.heap.size w12 w11 from by first | with_reducible exact hb11 | with_reducible exact belowNext ((Below.refl _ _).alloc (Nat.le_refl _) _) hb11)); have HZ11 := Lib.hid (HL11.out _ (by first | with_reducible exact HZ12.out | with_reducible exact heap_old _ _ _ HZ12.out | with_reducible exact heap_old _ _ _ HZ9.out | with_reducible exact heap_old _ _ _ (heap_old _ _ _ HZ9.out))); obtain ⟨n0', n1', n2', n3', n4'⟩ := five_cells HZ11.out; have hlt' := heap_lt HZ11.out; clear ht11 hk11 hb11)
        | (go_at_call 9; refine (rof_walk _ [x] _ _ (Nat.le_refl _) (by have := HW1.out; omega) (kids_lit (by first | with_reducible exact heap_new _ _ | with_reducible exact heap_old _ _ _ (heap_new _ _) | with_reducible exact heap_new' _ _ (by simp) | with_reducible exact HL11.out _ (heap_new _ _) | with_reducible exact HL11.out _ (heap_old _ _ _ (heap_new _ _)) | with_reducible exact HL11.out _ (heap_new' _ _ (by simp))) (HXN.out _ (by first | with_reducible exact HB11.out | with_reducible exact HB11.out.alloc HB11.out.size _ | with_reducible exact HB9.out.alloc HB9.out.size _ | with_reducible exact (HB9.out.alloc HB9.out.size _).alloc (Nat.le_trans HB9.out.size (by simp)) _)))).mono ?_; rintro e w12 ⟨v12, rfl, ht12, hb12⟩; rw [HTO.out] at ht12; have hk12 := ht12; have HO12 := Lib.hid (tfrom hk12); obtain ⟨A12, c12, rfl, _⟩ := hk12.form; have HB12 := Lib.hid (show Below w.heap.size w w12 from belowNext (by first | with_reducible exact HB11.out | with_reducible exact HB11.out.alloc HB11.out.size _ | with_reducible exact HB9.out.alloc HB9.out.size _ | with_reducible exact (HB9.out.alloc HB9.out.size _).alloc (Nat.le_trans HB9.out.size (by simp)) _) hb12); have HL12 := Lib.hid (fun g h => (hb12.block g (heap_lt (o := NodeO x A1 A2 A3 x.marks.length c1 x.attrs.length c2 x.kids.length c3) h)).trans h); (try have HC12 := Lib.hid (show Below w11.heap.size w11 w12 from by first | with_reducible exact hb12 | with_reducible exact belowNext ((Below.refl _ _).alloc (Nat.le_refl _) _) hb12)); have HZ12 := Lib.hid (HL12.out _ (by first | with_reducible exact HZ11.out | with_reducible exact heap_old _ _ _ HZ11.out | with_reducible exact heap_old _ _ _ HZ9.out | with_reducible exact heap_old _ _ _ (heap_old _ _ _ HZ9.out))); obtain ⟨n0', n1', n2', n3', n4'⟩ := five_cells HZ12.out; have hlt' := heap_lt HZ12.out; clear ht12 hk12 hb12)
        | (go_at_call 8; refine (same3_any _ _ tx tx _ (by first | with_reducible exact tkeep HO11.out HC12.out | with_reducible exact HO11.out) (by first | with_reducible exact tkeep HO12.out HC11.out | with_reducible exact HO12.out) (by have := HOL.out; omega) (by have := HOL.out; omega)).mono ?_; rintro e w13 ⟨rfl, hb13⟩; rw [decide_eq_true rfl]; have HB13 := Lib.hid (show Below w.heap.size w w13 from by first | with_reducible exact belowNext HB12.out hb13 | with_reducible exact belowNext HB11.out hb13); clear hb13))
      all_goals
        go_wp2
        go_ret
        exact ⟨rfl, HB13.out⟩
    · have hkl : (0 : Int) < (x.kids.length : Int) := by have := List.length_pos_iff.2 hk0; omega
      clear hk0
      go_wp2
      go_ret
      exact ⟨rfl, HB3.out⟩
end Go.Proofs.Ytkhfdoionjocgaa
