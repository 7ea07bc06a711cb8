/-
  TokenLens walked.
-/
import Derived.Test.YtdcgffepdgldmaaK7
namespace Go.Proofs.Ytdcgffepdgldmaa
open Go.RowKit Go.Sort Go.Maps

theorem TRow.some {w : World} {base : Nat} {v : Value} {l : List Tok} (h : TRow w base v l) (hn : v ≠ .slice none 0 0) : ∃ g c, v = .slice (some ⟨g, 0, none⟩) l.length c ∧ l.length ≤ c := by
  rcases h.form with ⟨e, _⟩ | h
  · exact absurd e hn
  · exact h
/-- A part of a row. -/
theorem Toks.part {w : World} {S : Nat → Prop} {A : Option Addr} {c : Nat} {l : List Tok} (h : Toks w S (.slice A l.length c) l) (i n : Nat) (hin : i + n ≤ l.length) {A' : Option Addr} {d : Nat} (hd : n ≤ d) (hdc : d ≤ c) (hA : n = 0 ∨ ∃ b o, A = some ⟨b, o, none⟩ ∧ A' = some ⟨b, o + i * 3, none⟩) : Toks w S (.slice A' n d) ((l.drop i).take n) := by
  obtain ⟨A0, c', hv, h1, h2, h3⟩ := h
  injection hv with hv1 hv2 hv3
  subst hv3
  have hl : ((l.drop i).take n).length = n := by rw [List.length_take, List.length_drop]; omega
  refine ⟨_, d, by rw [hl], by omega, by omega, ?_⟩
  rcases hA with rfl | ⟨b, o, rfl, rfl⟩
  · exact .inl (by simp)
  · by_cases h0 : (l.drop i).take n = []
    · exact .inl h0
    · rcases h3 with rfl | ⟨b', o', ha, hb, hc⟩
      · simp at h0
      · rw [← hv1] at ha
        injection ha with ha
        injection ha with ha1 ha2
        subst ha1; subst ha2
        refine .inr ⟨b, o + i * 3, rfl, hb, fun j t hj => ?_⟩
        have hjn : j < n := by have := (List.getElem?_eq_some_iff.1 hj).1; omega
        rw [List.getElem?_take_of_lt hjn, List.getElem?_drop] at hj
        have := hc (i + j) t hj
        rw [show o + (i + j) * 3 = o + i * 3 + j * 3 by omega] at this
        exact this

set_option maxHeartbeats 8000000 in
set_option maxRecDepth 100000 in
theorem tokenLens_walk (va vb : Value) (a b : List Cel) (w : World) (ha : Cels w (Under w.heap.size) va a) (hb : Cels w (Under w.heap.size) vb b) :
    Calls Try.prog 5 #[va, vb] w fun e w' => e = .returned (.bool true) ∧ Below w.heap.size w w' := by
  have HA := Lib.hid ha
  have HB := Lib.hid hb
  clear ha hb
  go_enter Try.func5, Try.ntmps5
  go_wp2_with fail
  refine (shown3_any _).mono ?_
  rintro e w1 ⟨rfl, hb1⟩
  have HB1 := Lib.hid hb1
  clear hb1
  go_wp2_with fail
  refine (made_any _ a w1 ((HA.out.below HB1.out).more HB1.out.size)).mono ?_
  rintro e w2 ⟨v2, rfl, hk2, hb2⟩
  have HB2 := Lib.hid (belowNext HB1.out hb2)
  have HK2 := Lib.hid (hk2.keep (S' := Under w2.heap.size) (fun _ h => h.2) (fun _ _ => rfl))
  obtain ⟨A2, c2, rfl, _⟩ := hk2.form
  clear hk2 hb2
  go_wp2_with fail
  refine (of_some _ (madeB a) w2 HK2.out (by have := madeB_weigh a; omega)).mono ?_
  rintro e w3 ⟨v3, rfl, ht3, hb3, hn3⟩
  have HB3 := Lib.hid (belowNext HB2.out hb3)
  have HX3 := Lib.hid (ht3.toks.keep (S' := Under w3.heap.size) (fun _ h => h.2) (fun _ _ => rfl))
  have HFX := Lib.hid (ht3.some hn3)
  obtain ⟨A3, c3, rfl, hcx⟩ := HX3.out.form
  have hlx := toks_len_made a
  generalize toksB (madeB a) = x at *
  clear ht3 hb3 HK2 hn3
  go_wp2_with fail
  refine (made_any _ b w3 ((HB.out.below HB3.out).more HB3.out.size)).mono ?_
  rintro e w4 ⟨v4, rfl, hk4, hb4⟩
  have HB4 := Lib.hid (belowNext HB3.out hb4)
  have HX4 := Lib.hid (HX3.out.keep (S' := Under w4.heap.size) (fun _ h => Nat.lt_of_lt_of_le h hb4.size) (fun i h => hb4.block i h))
  have HK4 := Lib.hid (hk4.keep (S' := Under w4.heap.size) (fun _ h => h.2) (fun _ _ => rfl))
  obtain ⟨A4, c4, rfl, _⟩ := hk4.form
  clear hk4 hb4 HX3
  go_wp2_with fail
  refine (of_some _ (madeB b) w4 HK4.out (by have := madeB_weigh b; omega)).mono ?_
  rintro e w5 ⟨v5, rfl, ht5, hb5, hn5⟩
  have HB5 := Lib.hid (belowNext HB4.out hb5)
  have HX5 := Lib.hid (HX4.out.keep (S' := Under w5.heap.size) (fun _ h => Nat.lt_of_lt_of_le h hb5.size) (fun i h => hb5.block i h))
  have HY5 := Lib.hid (ht5.toks.keep (S' := Under w5.heap.size) (fun _ h => h.2) (fun _ _ => rfl))
  have HFY := Lib.hid (ht5.some hn5)
  obtain ⟨A5, c5, rfl, hcy⟩ := HY5.out.form
  have hly := toks_len_made b
  generalize toksB (madeB b) = y at *
  clear ht5 hb5 HK4 HX4 hn5
  go_wp2_with fail
  refine (tsame_any _ _ x y w5 HX5.out HY5.out (by omega) (by omega)).mono ?_
  rintro e w6 ⟨rfl, hb6⟩
  have HB6 := Lib.hid (belowNext HB5.out hb6)
  have HX6 := Lib.hid (HX5.out.keep (S' := Under w6.heap.size) (fun _ h => Nat.lt_of_lt_of_le h hb6.size) (fun i h => hb6.block i h))
  have HY6 := Lib.hid (HY5.out.keep (S' := Under w6.heap.size) (fun _ h => Nat.lt_of_lt_of_le h hb6.size) (fun i h => hb6.block i h))
  clear hb6 HX5 HY5
  go_wp2_with fail
  refine (tback_any _ _ x y w6 HX6.out HY6.out (by omega) (by omega)).mono ?_
  rintro e w7 ⟨rfl, hb7⟩
  have HB7 := Lib.hid (belowNext HB6.out hb7)
  have HX7 := Lib.hid (HX6.out.keep (S' := Under w7.heap.size) (fun _ h => Nat.lt_of_lt_of_le h hb7.size) (fun i h => hb7.block i h))
  have HY7 := Lib.hid (HY6.out.keep (S' := Under w7.heap.size) (fun _ h => Nat.lt_of_lt_of_le h hb7.size) (fun i h => hb7.block i h))
  clear hb7 HX6 HY6
  have HLA := Lib.hid (lens_all x y)
  have HSY := Lib.hid (same_symm y x)
  have HBY := Lib.hid (back_symm y x)
  obtain ⟨hs1, hs2⟩ := back_sum x y
  generalize sameN x y = n at *
  generalize backN x y = m at *
  have hg1 : ¬ min (x.length : Int) (y.length : Int) < (n : Int) + (m : Int) := by omega
  have hg2 : decide (min (x.length : Int) (y.length : Int) < (n : Int) + (m : Int)) = false := by simp; omega
  have hXK : ∀ W, Below w7.heap.size w7 W → Toks W (Under w7.heap.size) (.slice A3 x.length c3) x := fun W hW => HX7.out.keep (fun _ h => h) (fun i h => hW.block i h)
  have hYK : ∀ W, Below w7.heap.size w7 W → Toks W (Under w7.heap.size) (.slice A5 y.length c5) y := fun W hW => HY7.out.keep (fun _ h => h) (fun i h => hW.block i h)
  have HXK := Lib.hid hXK
  have HYK := Lib.hid hYK
  have HBZ : Hid (Below w7.heap.size w7 (w7.alloc (.cells #[] 40))) := Lib.hid ((Below.refl _ _).alloc (Nat.le_refl _) _)
  have HZ0 : Hid (TRow (w7.alloc (.cells #[] 40)) w7.heap.size (.slice (some ⟨w7.heap.size, 0, none⟩) 0 0) []) := Lib.hid ⟨rfl, .inr ⟨w7.heap.size, 0, #[], rfl, Nat.le_refl _, heap_new _ _, Nat.le_refl _, by unfold maxLen; omega, rfl, rfl⟩⟩
  clear hXK hYK
  obtain ⟨ym, hym⟩ : ∃ ym : Nat, (y.length : Int) - (m : Int) = (ym : Int) := ⟨y.length - m, by omega⟩
  obtain ⟨xm, hxm⟩ : ∃ xm : Nat, (x.length : Int) - (m : Int) = (xm : Int) := ⟨x.length - m, by omega⟩
  have j1 : n ≤ c3 := by omega
  have j2 : ym ≤ c5 := by omega
  have j3 : n ≤ ym := by omega
  have j4 : xm ≤ x.length := by omega
  have j5 : x.length ≤ c3 := by omega
  have LX : Hid (x.length ≤ 1000000) := Lib.hid (by omega)
  have LY : Hid (y.length ≤ 1000000) := Lib.hid (by omega)
  have LT1 : Hid (([] : List Tok).length + (x.take n).length ≤ 1000000) := Lib.hid (by rw [List.length_take]; simp; omega)
  have LT2 : Hid (([] ++ x.take n).length + ((y.drop n).take (ym - n)).length ≤ 1000000) := Lib.hid (by simp only [List.length_append, List.length_take, List.length_nil, List.length_drop]; omega)
  have LT3 : Hid (([] ++ x.take n ++ (y.drop n).take (ym - n)).length + ((x.drop xm).take (x.length - xm)).length ≤ 1000000) := Lib.hid (by simp only [List.length_append, List.length_take, List.length_nil, List.length_drop]; omega)
  have HLB : Hid ([] ++ x.take n ++ (y.drop n).take (ym - n) ++ (x.drop xm).take (x.length - xm) = y) := Lib.hid (by
    have h := HLA.out
    rw [show y.length - m - n = ym - n by omega, show x.length - m = xm by omega] at h
    rw [List.take_of_length_le (l := x.drop xm) (by rw [List.length_drop]; exact Nat.le_refl _)]
    exact h)
  have hQ : 0 ≤ (n : Int) := by omega
  obtain ⟨gx, dx, hx1, hdx⟩ := HFX.out
  injection hx1 with hx1 hx2 hx3
  subst hx1
  clear hx3 hdx hx2
  obtain ⟨gy, dy, hy1, hdy⟩ := HFY.out
  injection hy1 with hy1 hy2 hy3
  subst hy1
  clear hy3 hdy hy2
  by_cases u1 : n = c5
  · subst u1
    by_cases u2 : xm = c3
    · subst u2
      have HS1 : Hid (∀ W, Below w7.heap.size w7 W → Toks W (Under w7.heap.size) (.slice (some ⟨gx, 0, none⟩) n xm) (x.take n)) := Lib.hid fun W hW => (HXK.out W hW).part 0 n (by omega) (by omega) (by omega) (.inr ⟨gx, 0, rfl, by simp⟩)
      have HS2 : Hid (∀ W, Below w7.heap.size w7 W → Toks W (Under w7.heap.size) (.slice (some ⟨gy, 0, none⟩) 0 0) ((y.drop n).take (ym - n))) := Lib.hid fun W hW => (by rw [show ym - n = 0 by omega]; exact (HYK.out W hW).part n 0 (by omega) (by omega) (by omega) (.inl rfl))
      have HS3 : Hid (∀ W, Below w7.heap.size w7 W → Toks W (Under w7.heap.size) (.slice (some ⟨gx, 0, none⟩) 0 0) ((x.drop xm).take (x.length - xm))) := Lib.hid fun W hW => (by rw [show x.length - xm = 0 by omega]; exact (HXK.out W hW).part xm 0 (by omega) (by omega) (by omega) (.inl rfl))
      go_wp2_with (first
        | (at_builtin; refine wpList_append_toks rfl (.tmp 43) (.tmp 46) rfl w7.heap.size (Under w7.heap.size) _ _ [] (x.take n) rfl rfl HZ0.out (HS1.out _ HBZ.out) LT1.out HBZ.out.size ?_; intro v1 z1 ht1 hgr1; have HT1 := Lib.hid ht1; have HZ1 := Lib.hid (HBZ.out.trans ((Below.refl _ _).grown hgr1 HBZ.out.size fun k hk => (HZ0.out.block hk).1)); clear ht1 hgr1)
        | (at_builtin; refine wpList_append_toks rfl (.tmp 48) (.tmp 55) rfl w7.heap.size (Under w7.heap.size) _ _ _ _ rfl rfl HT1.out (HS2.out _ HZ1.out) LT2.out HZ1.out.size ?_; intro v2 z2 ht2 hgr2; have HT2 := Lib.hid ht2; have HZ2 := Lib.hid (HZ1.out.trans ((Below.refl _ _).grown hgr2 HZ1.out.size fun k hk => (HT1.out.block hk).1)); clear ht2 hgr2)
        | (at_builtin; refine wpList_append_toks rfl (.tmp 57) (.tmp 63) rfl w7.heap.size (Under w7.heap.size) _ _ _ _ rfl rfl HT2.out (HS3.out _ HZ2.out) LT3.out HZ2.out.size ?_; intro v3 z3 ht3 hgr3; have HT3 := Lib.hid ht3; have HZ3 := Lib.hid (HZ2.out.trans ((Below.refl _ _).grown hgr3 HZ2.out.size fun k hk => (HT2.out.block hk).1)); clear ht3 hgr3))
      refine (as_any _ y z3 ((HYK.out z3 HZ3.out).keep (fun _ h => Nat.lt_of_lt_of_le h HZ3.out.size) (fun _ _ => rfl)) LY.out).mono ?_
      rintro e z4 ⟨v4, rfl, hk4, hb4⟩
      have HZ4 := Lib.hid (HZ3.out.trans (hb4.mono HZ3.out.size))
      have HZT := Lib.hid (HT3.out.toks.keep (S' := Under z4.heap.size) (fun _ h => Nat.lt_of_lt_of_le h.2 hb4.size) (fun i h => hb4.block i h.2))
      have HYT := Lib.hid (hk4.keep (S' := Under z4.heap.size) (fun _ h => h.2) (fun _ _ => rfl))
      clear hk4 hb4
      go_wp2_with fail
      rw [HLB.out] at HZT
      refine (same3_any _ _ y y z4 HZT.out HYT.out LY.out LY.out).mono ?_
      rintro e z5 ⟨rfl, hb5⟩
      rw [decide_eq_true rfl]
      have HZ5 := Lib.hid (HZ4.out.trans (hb5.mono HZ4.out.size))
      clear hb5
      go_wp2_with fail
      refine (tsame_any _ _ y x z5 ((HYK.out z5 HZ5.out).keep (fun _ h => Nat.lt_of_lt_of_le h HZ5.out.size) (fun _ _ => rfl)) ((HXK.out z5 HZ5.out).keep (fun _ h => Nat.lt_of_lt_of_le h HZ5.out.size) (fun _ _ => rfl)) (Nat.le_trans LY.out (by decide)) (Nat.le_trans LX.out (by decide))).mono ?_
      rintro e z6 ⟨rfl, hb6⟩
      rw [HSY.out]
      have HZ6 := Lib.hid (HZ5.out.trans (hb6.mono HZ5.out.size))
      clear hb6
      go_wp2_with fail
      refine (tback_any _ _ y x z6 ((HYK.out z6 HZ6.out).keep (fun _ h => Nat.lt_of_lt_of_le h HZ6.out.size) (fun _ _ => rfl)) ((HXK.out z6 HZ6.out).keep (fun _ h => Nat.lt_of_lt_of_le h HZ6.out.size) (fun _ _ => rfl)) (Nat.le_trans LY.out (by decide)) (Nat.le_trans LX.out (by decide))).mono ?_
      rintro e z7 ⟨rfl, hb7⟩
      rw [HBY.out]
      have HZ7 := Lib.hid (belowNext HB7.out (HZ6.out.trans (hb7.mono HZ6.out.size)))
      clear hb7
      go_wp2
      go_ret
      exact ⟨rfl, HZ7.out⟩
    · have u3 : ¬ c3 = xm := fun e => u2 e.symm
      have HS1 : Hid (∀ W, Below w7.heap.size w7 W → Toks W (Under w7.heap.size) (.slice (some ⟨gx, 0, none⟩) n c3) (x.take n)) := Lib.hid fun W hW => (HXK.out W hW).part 0 n (by omega) (by omega) (by omega) (.inr ⟨gx, 0, rfl, by simp⟩)
      have HS2 : Hid (∀ W, Below w7.heap.size w7 W → Toks W (Under w7.heap.size) (.slice (some ⟨gy, 0, none⟩) 0 0) ((y.drop n).take (ym - n))) := Lib.hid fun W hW => (by rw [show ym - n = 0 by omega]; exact (HYK.out W hW).part n 0 (by omega) (by omega) (by omega) (.inl rfl))
      have HS3 : Hid (∀ W, Below w7.heap.size w7 W → Toks W (Under w7.heap.size) (.slice (some ⟨gx, xm * 3, none⟩) (x.length - xm) (c3 - xm)) ((x.drop xm).take (x.length - xm))) := Lib.hid fun W hW => (HXK.out W hW).part xm (x.length - xm) (by omega) (by omega) (by omega) (.inr ⟨gx, 0, rfl, by simp⟩)
      go_wp2_with (first
        | (at_builtin; refine wpList_append_toks rfl (.tmp 43) (.tmp 46) rfl w7.heap.size (Under w7.heap.size) _ _ [] (x.take n) rfl rfl HZ0.out (HS1.out _ HBZ.out) LT1.out HBZ.out.size ?_; intro v1 z1 ht1 hgr1; have HT1 := Lib.hid ht1; have HZ1 := Lib.hid (HBZ.out.trans ((Below.refl _ _).grown hgr1 HBZ.out.size fun k hk => (HZ0.out.block hk).1)); clear ht1 hgr1)
        | (at_builtin; refine wpList_append_toks rfl (.tmp 48) (.tmp 55) rfl w7.heap.size (Under w7.heap.size) _ _ _ _ rfl rfl HT1.out (HS2.out _ HZ1.out) LT2.out HZ1.out.size ?_; intro v2 z2 ht2 hgr2; have HT2 := Lib.hid ht2; have HZ2 := Lib.hid (HZ1.out.trans ((Below.refl _ _).grown hgr2 HZ1.out.size fun k hk => (HT1.out.block hk).1)); clear ht2 hgr2)
        | (at_builtin; refine wpList_append_toks rfl (.tmp 57) (.tmp 63) rfl w7.heap.size (Under w7.heap.size) _ _ _ _ rfl rfl HT2.out (HS3.out _ HZ2.out) LT3.out HZ2.out.size ?_; intro v3 z3 ht3 hgr3; have HT3 := Lib.hid ht3; have HZ3 := Lib.hid (HZ2.out.trans ((Below.refl _ _).grown hgr3 HZ2.out.size fun k hk => (HT2.out.block hk).1)); clear ht3 hgr3))
      refine (as_any _ y z3 ((HYK.out z3 HZ3.out).keep (fun _ h => Nat.lt_of_lt_of_le h HZ3.out.size) (fun _ _ => rfl)) LY.out).mono ?_
      rintro e z4 ⟨v4, rfl, hk4, hb4⟩
      have HZ4 := Lib.hid (HZ3.out.trans (hb4.mono HZ3.out.size))
      have HZT := Lib.hid (HT3.out.toks.keep (S' := Under z4.heap.size) (fun _ h => Nat.lt_of_lt_of_le h.2 hb4.size) (fun i h => hb4.block i h.2))
      have HYT := Lib.hid (hk4.keep (S' := Under z4.heap.size) (fun _ h => h.2) (fun _ _ => rfl))
      clear hk4 hb4
      go_wp2_with fail
      rw [HLB.out] at HZT
      refine (same3_any _ _ y y z4 HZT.out HYT.out LY.out LY.out).mono ?_
      rintro e z5 ⟨rfl, hb5⟩
      rw [decide_eq_true rfl]
      have HZ5 := Lib.hid (HZ4.out.trans (hb5.mono HZ4.out.size))
      clear hb5
      go_wp2_with fail
      refine (tsame_any _ _ y x z5 ((HYK.out z5 HZ5.out).keep (fun _ h => Nat.lt_of_lt_of_le h HZ5.out.size) (fun _ _ => rfl)) ((HXK.out z5 HZ5.out).keep (fun _ h => Nat.lt_of_lt_of_le h HZ5.out.size) (fun _ _ => rfl)) (Nat.le_trans LY.out (by decide)) (Nat.le_trans LX.out (by decide))).mono ?_
      rintro e z6 ⟨rfl, hb6⟩
      rw [HSY.out]
      have HZ6 := Lib.hid (HZ5.out.trans (hb6.mono HZ5.out.size))
      clear hb6
      go_wp2_with fail
      refine (tback_any _ _ y x z6 ((HYK.out z6 HZ6.out).keep (fun _ h => Nat.lt_of_lt_of_le h HZ6.out.size) (fun _ _ => rfl)) ((HXK.out z6 HZ6.out).keep (fun _ h => Nat.lt_of_lt_of_le h HZ6.out.size) (fun _ _ => rfl)) (Nat.le_trans LY.out (by decide)) (Nat.le_trans LX.out (by decide))).mono ?_
      rintro e z7 ⟨rfl, hb7⟩
      rw [HBY.out]
      have HZ7 := Lib.hid (belowNext HB7.out (HZ6.out.trans (hb7.mono HZ6.out.size)))
      clear hb7
      go_wp2
      go_ret
      exact ⟨rfl, HZ7.out⟩
  · have u4 : ¬ c5 = n := fun e => u1 e.symm
    by_cases u2 : xm = c3
    · subst u2
      have HS1 : Hid (∀ W, Below w7.heap.size w7 W → Toks W (Under w7.heap.size) (.slice (some ⟨gx, 0, none⟩) n xm) (x.take n)) := Lib.hid fun W hW => (HXK.out W hW).part 0 n (by omega) (by omega) (by omega) (.inr ⟨gx, 0, rfl, by simp⟩)
      have HS2 : Hid (∀ W, Below w7.heap.size w7 W → Toks W (Under w7.heap.size) (.slice (some ⟨gy, n * 3, none⟩) (ym - n) (c5 - n)) ((y.drop n).take (ym - n))) := Lib.hid fun W hW => (HYK.out W hW).part n (ym - n) (by omega) (by omega) (by omega) (.inr ⟨gy, 0, rfl, by simp⟩)
      have HS3 : Hid (∀ W, Below w7.heap.size w7 W → Toks W (Under w7.heap.size) (.slice (some ⟨gx, 0, none⟩) 0 0) ((x.drop xm).take (x.length - xm))) := Lib.hid fun W hW => (by rw [show x.length - xm = 0 by omega]; exact (HXK.out W hW).part xm 0 (by omega) (by omega) (by omega) (.inl rfl))
      go_wp2_with (first
        | (at_builtin; refine wpList_append_toks rfl (.tmp 43) (.tmp 46) rfl w7.heap.size (Under w7.heap.size) _ _ [] (x.take n) rfl rfl HZ0.out (HS1.out _ HBZ.out) LT1.out HBZ.out.size ?_; intro v1 z1 ht1 hgr1; have HT1 := Lib.hid ht1; have HZ1 := Lib.hid (HBZ.out.trans ((Below.refl _ _).grown hgr1 HBZ.out.size fun k hk => (HZ0.out.block hk).1)); clear ht1 hgr1)
        | (at_builtin; refine wpList_append_toks rfl (.tmp 48) (.tmp 55) rfl w7.heap.size (Under w7.heap.size) _ _ _ _ rfl rfl HT1.out (HS2.out _ HZ1.out) LT2.out HZ1.out.size ?_; intro v2 z2 ht2 hgr2; have HT2 := Lib.hid ht2; have HZ2 := Lib.hid (HZ1.out.trans ((Below.refl _ _).grown hgr2 HZ1.out.size fun k hk => (HT1.out.block hk).1)); clear ht2 hgr2)
        | (at_builtin; refine wpList_append_toks rfl (.tmp 57) (.tmp 63) rfl w7.heap.size (Under w7.heap.size) _ _ _ _ rfl rfl HT2.out (HS3.out _ HZ2.out) LT3.out HZ2.out.size ?_; intro v3 z3 ht3 hgr3; have HT3 := Lib.hid ht3; have HZ3 := Lib.hid (HZ2.out.trans ((Below.refl _ _).grown hgr3 HZ2.out.size fun k hk => (HT2.out.block hk).1)); clear ht3 hgr3))
      refine (as_any _ y z3 ((HYK.out z3 HZ3.out).keep (fun _ h => Nat.lt_of_lt_of_le h HZ3.out.size) (fun _ _ => rfl)) LY.out).mono ?_
      rintro e z4 ⟨v4, rfl, hk4, hb4⟩
      have HZ4 := Lib.hid (HZ3.out.trans (hb4.mono HZ3.out.size))
      have HZT := Lib.hid (HT3.out.toks.keep (S' := Under z4.heap.size) (fun _ h => Nat.lt_of_lt_of_le h.2 hb4.size) (fun i h => hb4.block i h.2))
      have HYT := Lib.hid (hk4.keep (S' := Under z4.heap.size) (fun _ h => h.2) (fun _ _ => rfl))
      clear hk4 hb4
      go_wp2_with fail
      rw [HLB.out] at HZT
      refine (same3_any _ _ y y z4 HZT.out HYT.out LY.out LY.out).mono ?_
      rintro e z5 ⟨rfl, hb5⟩
      rw [decide_eq_true rfl]
      have HZ5 := Lib.hid (HZ4.out.trans (hb5.mono HZ4.out.size))
      clear hb5
      go_wp2_with fail
      refine (tsame_any _ _ y x z5 ((HYK.out z5 HZ5.out).keep (fun _ h => Nat.lt_of_lt_of_le h HZ5.out.size) (fun _ _ => rfl)) ((HXK.out z5 HZ5.out).keep (fun _ h => Nat.lt_of_lt_of_le h HZ5.out.size) (fun _ _ => rfl)) (Nat.le_trans LY.out (by decide)) (Nat.le_trans LX.out (by decide))).mono ?_
      rintro e z6 ⟨rfl, hb6⟩
      rw [HSY.out]
      have HZ6 := Lib.hid (HZ5.out.trans (hb6.mono HZ5.out.size))
      clear hb6
      go_wp2_with fail
      refine (tback_any _ _ y x z6 ((HYK.out z6 HZ6.out).keep (fun _ h => Nat.lt_of_lt_of_le h HZ6.out.size) (fun _ _ => rfl)) ((HXK.out z6 HZ6.out).keep (fun _ h => Nat.lt_of_lt_of_le h HZ6.out.size) (fun _ _ => rfl)) (Nat.le_trans LY.out (by decide)) (Nat.le_trans LX.out (by decide))).mono ?_
      rintro e z7 ⟨rfl, hb7⟩
      rw [HBY.out]
      have HZ7 := Lib.hid (belowNext HB7.out (HZ6.out.trans (hb7.mono HZ6.out.size)))
      clear hb7
      go_wp2
      go_ret
      exact ⟨rfl, HZ7.out⟩
    · have u3 : ¬ c3 = xm := fun e => u2 e.symm
      have HS1 : Hid (∀ W, Below w7.heap.size w7 W → Toks W (Under w7.heap.size) (.slice (some ⟨gx, 0, none⟩) n c3) (x.take n)) := Lib.hid fun W hW => (HXK.out W hW).part 0 n (by omega) (by omega) (by omega) (.inr ⟨gx, 0, rfl, by simp⟩)
      have HS2 : Hid (∀ W, Below w7.heap.size w7 W → Toks W (Under w7.heap.size) (.slice (some ⟨gy, n * 3, none⟩) (ym - n) (c5 - n)) ((y.drop n).take (ym - n))) := Lib.hid fun W hW => (HYK.out W hW).part n (ym - n) (by omega) (by omega) (by omega) (.inr ⟨gy, 0, rfl, by simp⟩)
      have HS3 : Hid (∀ W, Below w7.heap.size w7 W → Toks W (Under w7.heap.size) (.slice (some ⟨gx, xm * 3, none⟩) (x.length - xm) (c3 - xm)) ((x.drop xm).take (x.length - xm))) := Lib.hid fun W hW => (HXK.out W hW).part xm (x.length - xm) (by omega) (by omega) (by omega) (.inr ⟨gx, 0, rfl, by simp⟩)
      go_wp2_with (first
        | (at_builtin; refine wpList_append_toks rfl (.tmp 43) (.tmp 46) rfl w7.heap.size (Under w7.heap.size) _ _ [] (x.take n) rfl rfl HZ0.out (HS1.out _ HBZ.out) LT1.out HBZ.out.size ?_; intro v1 z1 ht1 hgr1; have HT1 := Lib.hid ht1; have HZ1 := Lib.hid (HBZ.out.trans ((Below.refl _ _).grown hgr1 HBZ.out.size fun k hk => (HZ0.out.block hk).1)); clear ht1 hgr1)
        | (at_builtin; refine wpList_append_toks rfl (.tmp 48) (.tmp 55) rfl w7.heap.size (Under w7.heap.size) _ _ _ _ rfl rfl HT1.out (HS2.out _ HZ1.out) LT2.out HZ1.out.size ?_; intro v2 z2 ht2 hgr2; have HT2 := Lib.hid ht2; have HZ2 := Lib.hid (HZ1.out.trans ((Below.refl _ _).grown hgr2 HZ1.out.size fun k hk => (HT1.out.block hk).1)); clear ht2 hgr2)
        | (at_builtin; refine wpList_append_toks rfl (.tmp 57) (.tmp 63) rfl w7.heap.size (Under w7.heap.size) _ _ _ _ rfl rfl HT2.out (HS3.out _ HZ2.out) LT3.out HZ2.out.size ?_; intro v3 z3 ht3 hgr3; have HT3 := Lib.hid ht3; have HZ3 := Lib.hid (HZ2.out.trans ((Below.refl _ _).grown hgr3 HZ2.out.size fun k hk => (HT2.out.block hk).1)); clear ht3 hgr3))
      refine (as_any _ y z3 ((HYK.out z3 HZ3.out).keep (fun _ h => Nat.lt_of_lt_of_le h HZ3.out.size) (fun _ _ => rfl)) LY.out).mono ?_
      rintro e z4 ⟨v4, rfl, hk4, hb4⟩
      have HZ4 := Lib.hid (HZ3.out.trans (hb4.mono HZ3.out.size))
      have HZT := Lib.hid (HT3.out.toks.keep (S' := Under z4.heap.size) (fun _ h => Nat.lt_of_lt_of_le h.2 hb4.size) (fun i h => hb4.block i h.2))
      have HYT := Lib.hid (hk4.keep (S' := Under z4.heap.size) (fun _ h => h.2) (fun _ _ => rfl))
      clear hk4 hb4
      go_wp2_with fail
      rw [HLB.out] at HZT
      refine (same3_any _ _ y y z4 HZT.out HYT.out LY.out LY.out).mono ?_
      rintro e z5 ⟨rfl, hb5⟩
      rw [decide_eq_true rfl]
      have HZ5 := Lib.hid (HZ4.out.trans (hb5.mono HZ4.out.size))
      clear hb5
      go_wp2_with fail
      refine (tsame_any _ _ y x z5 ((HYK.out z5 HZ5.out).keep (fun _ h => Nat.lt_of_lt_of_le h HZ5.out.size) (fun _ _ => rfl)) ((HXK.out z5 HZ5.out).keep (fun _ h => Nat.lt_of_lt_of_le h HZ5.out.size) (fun _ _ => rfl)) (Nat.le_trans LY.out (by decide)) (Nat.le_trans LX.out (by decide))).mono ?_
      rintro e z6 ⟨rfl, hb6⟩
      rw [HSY.out]
      have HZ6 := Lib.hid (HZ5.out.trans (hb6.mono HZ5.out.size))
      clear hb6
      go_wp2_with fail
      refine (tback_any _ _ y x z6 ((HYK.out z6 HZ6.out).keep (fun _ h => Nat.lt_of_lt_of_le h HZ6.out.size) (fun _ _ => rfl)) ((HXK.out z6 HZ6.out).keep (fun _ h => Nat.lt_of_lt_of_le h HZ6.out.size) (fun _ _ => rfl)) (Nat.le_trans LY.out (by decide)) (Nat.le_trans LX.out (by decide))).mono ?_
      rintro e z7 ⟨rfl, hb7⟩
      rw [HBY.out]
      have HZ7 := Lib.hid (belowNext HB7.out (HZ6.out.trans (hb7.mono HZ6.out.size)))
      clear hb7
      go_wp2
      go_ret
      exact ⟨rfl, HZ7.out⟩
end Go.Proofs.Ytdcgffepdgldmaa
