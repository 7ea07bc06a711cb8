/-
  What two rows begin and end with alike: plain facts; TokenEnds walked.
-/
import Derived.Test.YtdcgffepdgldmaaK4
import Derived.Test.YtdcgffepdgldmaaW13a
namespace Go.Proofs.Ytdcgffepdgldmaa
open Go.RowKit Go.Sort Go.Maps

theorem same_at : ∀ (a b : List Tok) (i : Nat), i < sameN a b → a[i]? = b[i]?
  | [], b, i, h => by cases b <;> simp [sameN] at h
  | a :: x, [], i, h => by simp [sameN] at h
  | a :: x, b :: y, i, h => by
    rw [sameN] at h
    split at h
    · rename_i he
      cases i with
      | zero => simp [he]
      | succ i => simpa using same_at x y i (by omega)
    · omega
theorem same_stop : ∀ (a b : List Tok), sameN a b < a.length → sameN a b < b.length → a[sameN a b]? ≠ b[sameN a b]?
  | [], b, h, _ => by simp at h
  | a :: x, [], _, h => by simp at h
  | a :: x, b :: y, h, h' => by
    by_cases he : a = b
    · have e : sameN (a :: x) (b :: y) = sameN x y + 1 := by rw [sameN, if_pos he]
      rw [e] at h h' ⊢
      simp only [List.length_cons, Nat.add_lt_add_iff_right] at h h'
      simpa using same_stop x y h h'
    · have e : sameN (a :: x) (b :: y) = 0 := by rw [sameN, if_neg he]
      rw [e]
      simpa using he
theorem back_sum (a b : List Tok) : sameN a b + backN a b ≤ a.length ∧ sameN a b + backN a b ≤ b.length := by
  have := sameN_le a b; unfold backN; omega
theorem back_at (a b : List Tok) (i : Nat) (h : i < backN a b) : a[a.length - 1 - i]? = b[b.length - 1 - i]? := by
  have h1 := back_sum a b
  have h2 : backN a b ≤ sameN a.reverse b.reverse := Nat.min_le_left _ _
  rw [get_rev (by omega), get_rev (by omega)]
  exact same_at _ _ i (by omega)
theorem back_stop (a b : List Tok) (h : sameN a b + backN a b < min a.length b.length) : a[a.length - 1 - backN a b]? ≠ b[b.length - 1 - backN a b]? := by
  have he : backN a b = sameN a.reverse b.reverse := by unfold backN at h ⊢; omega
  rw [get_rev (by omega), get_rev (by omega), he]
  have h1 := sameN_le a b
  exact same_stop _ _ (by rw [List.length_reverse, ← he]; omega) (by rw [List.length_reverse, ← he]; omega)

theorem tok_ne {x y : Tok} (h : x ≠ y) : ((x.kind : Int) == (y.kind : Int)) = false ∨ (((x.kind : Int) == (y.kind : Int)) = true ∧ (x.text.toList == y.text.toList) = false) ∨ (((x.kind : Int) == (y.kind : Int)) = true ∧ (x.text.toList == y.text.toList) = true ∧ (x.head.toList == y.head.toList) = false) := by
  have := tok_eq x y
  cases q0 : ((x.kind : Int) == (y.kind : Int)) with
  | false => exact .inl rfl
  | true =>
    cases q1 : (x.text.toList == y.text.toList) with
    | false => exact .inr (.inl ⟨rfl, rfl⟩)
    | true =>
      cases q2 : (x.head.toList == y.head.toList) with
      | false => exact .inr (.inr ⟨rfl, rfl, rfl⟩)
      | true => exact absurd (this.2 ⟨q0, q1, q2⟩) h
theorem toks_len_made (l : List Cel) : (toksB (madeB l)).length ≤ 760 := by
  rw [toksB_len]; exact Nat.le_trans (total_le_weigh _) (madeB_weigh l)

set_option maxHeartbeats 8000000 in
set_option maxRecDepth 100000 in
theorem tokenEnds_walk (va vb : Value) (a b : List Cel) (w : World) (ha : Cels w (Under w.heap.size) va a) (hb : Cels w (Under w.heap.size) vb b) :
    Calls Try.prog 4 #[va, vb] w fun e w' => e = .returned (.bool true) ∧ Below w.heap.size w w' := by
  have HA := Lib.hid ha
  have HB := Lib.hid hb
  clear ha hb
  go_enter Try.func4, Try.ntmps4
  go_wp2_with fail
  refine (shown3_any _).mono ?_
  rintro e w1 ⟨rfl, hb1⟩
  have HB1 := Lib.hid hb1
  clear hb1
  go_wp2_with fail
  refine (made_any _ a w1 ((HA.out.below HB1.out).more HB1.out.size)).mono ?_
  rintro e w2 ⟨v2, rfl, hk2, hb2⟩
  have HB2 := Lib.hid (belowNext HB1.out hb2)
  have HK2 := Lib.hid (hk2.keep (S' := Under w2.heap.size) (fun _ h => h.2) (fun _ _ => rfl))
  obtain ⟨A2, c2, rfl, _⟩ := hk2.form
  clear hk2 hb2
  go_wp2_with fail
  refine (of_any _ (madeB a) w2 HK2.out (by have := madeB_weigh a; omega)).mono ?_
  rintro e w3 ⟨v3, rfl, ht3, hb3⟩
  have HB3 := Lib.hid (belowNext HB2.out hb3)
  have HX3 := Lib.hid (ht3.toks.keep (S' := Under w3.heap.size) (fun _ h => h.2) (fun _ _ => rfl))
  obtain ⟨A3, c3, rfl, _⟩ := HX3.out.form
  have hlx := toks_len_made a
  generalize toksB (madeB a) = x at *
  clear ht3 hb3 HK2
  go_wp2_with fail
  refine (made_any _ b w3 ((HB.out.below HB3.out).more HB3.out.size)).mono ?_
  rintro e w4 ⟨v4, rfl, hk4, hb4⟩
  have HB4 := Lib.hid (belowNext HB3.out hb4)
  have HX4 := Lib.hid (HX3.out.keep (S' := Under w4.heap.size) (fun _ h => Nat.lt_of_lt_of_le h hb4.size) (fun i h => hb4.block i h))
  have HK4 := Lib.hid (hk4.keep (S' := Under w4.heap.size) (fun _ h => h.2) (fun _ _ => rfl))
  obtain ⟨A4, c4, rfl, _⟩ := hk4.form
  clear hk4 hb4 HX3
  go_wp2_with fail
  refine (of_any _ (madeB b) w4 HK4.out (by have := madeB_weigh b; omega)).mono ?_
  rintro e w5 ⟨v5, rfl, ht5, hb5⟩
  have HB5 := Lib.hid (belowNext HB4.out hb5)
  have HX5 := Lib.hid (HX4.out.keep (S' := Under w5.heap.size) (fun _ h => Nat.lt_of_lt_of_le h hb5.size) (fun i h => hb5.block i h))
  have HY5 := Lib.hid (ht5.toks.keep (S' := Under w5.heap.size) (fun _ h => h.2) (fun _ _ => rfl))
  obtain ⟨A5, c5, rfl, _⟩ := HY5.out.form
  have hly := toks_len_made b
  generalize toksB (madeB b) = y at *
  clear ht5 hb5 HK4 HX4
  go_wp2_with fail
  refine (tsame_any _ _ x y w5 HX5.out HY5.out (by omega) (by omega)).mono ?_
  rintro e w6 ⟨rfl, hb6⟩
  have HB6 := Lib.hid (belowNext HB5.out hb6)
  have HX6 := Lib.hid (HX5.out.keep (S' := Under w6.heap.size) (fun _ h => Nat.lt_of_lt_of_le h hb6.size) (fun i h => hb6.block i h))
  have HY6 := Lib.hid (HY5.out.keep (S' := Under w6.heap.size) (fun _ h => Nat.lt_of_lt_of_le h hb6.size) (fun i h => hb6.block i h))
  clear hb6 HX5 HY5
  go_wp2_with fail
  refine (tback_any _ _ x y w6 HX6.out HY6.out (by omega) (by omega)).mono ?_
  rintro e w7 ⟨rfl, hb7⟩
  have HB7 := Lib.hid (belowNext HB6.out hb7)
  have HX7 := Lib.hid (HX6.out.keep (S' := Under w7.heap.size) (fun _ h => Nat.lt_of_lt_of_le h hb7.size) (fun i h => hb7.block i h))
  have HY7 := Lib.hid (HY6.out.keep (S' := Under w7.heap.size) (fun _ h => Nat.lt_of_lt_of_le h hb7.size) (fun i h => hb7.block i h))
  clear hb7 HX6 HY6
  have HSA := Lib.hid (same_at x y)
  have HSS := Lib.hid (same_stop x y)
  have HBA := Lib.hid (back_at x y)
  have HBS := Lib.hid (back_stop x y)
  obtain ⟨hs1, hs2⟩ := back_sum x y
  generalize sameN x y = n at *
  generalize backN x y = m at *
  have hg1 : ¬ min (x.length : Int) (y.length : Int) < (n : Int) + (m : Int) := by omega
  go_wp2
  go_loopw [10] (fun i wr => ∃ k : Nat, k ≤ n ∧ i = .int .i64 k ∧ Below w7.heap.size w7 wr) (fun i _ => n - (intOf i).toNat)
  case atStart => exact ⟨0, by omega, rfl, Below.refl _ _⟩
  case round =>
    obtain ⟨k, hkn, rfl, hbr⟩ := hrel
    by_cases hlt : k < n
    · have hlt1 : k < x.length := by omega
      have hlt2 : k < y.length := by omega
      have hax : x[k]? = some x[k] := List.getElem?_eq_getElem hlt1
      have hby : y[k]? = some x[k] := (HSA.out k hlt).symm.trans hax
      generalize x[k] = t at *
      obtain ⟨g1, o1, rfl, hu1, x0, x1, x2⟩ := HX7.out.get hax
      obtain ⟨g2, o2, rfl, hu2, y0, y1, y2⟩ := HY7.out.get hby
      have k0 := cell_kept x0 hbr
      have k1 := cell_kept x1 hbr
      have k2 := cell_kept x2 hbr
      have m0 := cell_kept y0 hbr
      have m1 := cell_kept y1 hbr
      have m2 := cell_kept y2 hbr
      clear x0 x1 x2 y0 y1 y2 hax hby
      go_wp2
      go_quiet (fail)
      go_wp2
      exact ⟨⟨k + 1, by omega, by go_num, drawn_on hbr _⟩, by simp [intOf]; omega⟩
    · have HBR := Lib.hid (belowNext HB7.out hbr)
      have HX8 := Lib.hid (HX7.out.keep (S' := Under wr.heap.size) (fun _ h => Nat.lt_of_lt_of_le h hbr.size) (fun i h => hbr.block i h))
      have HY8 := Lib.hid (HY7.out.keep (S' := Under wr.heap.size) (fun _ h => Nat.lt_of_lt_of_le h hbr.size) (fun i h => hbr.block i h))
      clear hbr
      go_wp2
      go_loopw [11] (fun i wz => ∃ k : Nat, k ≤ m ∧ i = .int .i64 ((k : Int) + 1) ∧ Below wr.heap.size wr wz) (fun i _ => m + 1 - (intOf i).toNat)
      case atStart => exact ⟨0, by omega, rfl, Below.refl _ _⟩
      case round =>
        obtain ⟨k2, hkm, rfl, hbr⟩ := hrel
        by_cases hlm : k2 < m
        · have hlt1 : k2 < x.length := by omega
          have hlt2 : k2 < y.length := by omega
          have hax : x[x.length - 1 - k2]? = some (x[x.length - 1 - k2]'(by omega)) := List.getElem?_eq_getElem (by omega)
          have hby : y[y.length - 1 - k2]? = some (x[x.length - 1 - k2]'(by omega)) := (HBA.out k2 hlm).symm.trans hax
          generalize x[x.length - 1 - k2]'(by omega) = t at *
          obtain ⟨g1, o1, rfl, hu1, x0, x1, x2⟩ := HX8.out.get hax
          obtain ⟨g2, o2, rfl, hu2, y0, y1, y2⟩ := HY8.out.get hby
          have k0 := cell_kept x0 hbr
          have k1 := cell_kept x1 hbr
          have k2' := cell_kept x2 hbr
          have m0 := cell_kept y0 hbr
          have m1 := cell_kept y1 hbr
          have m2 := cell_kept y2 hbr
          obtain ⟨ia, hia⟩ : ∃ ia : Nat, x.length - 1 - k2 = ia := ⟨_, rfl⟩
          obtain ⟨ib, hib⟩ : ∃ ib : Nat, y.length - 1 - k2 = ib := ⟨_, rfl⟩
          rw [hia] at k0 k1 k2'
          rw [hib] at m0 m1 m2
          have ja : (x.length : Int) - ((k2 : Int) + 1) = (ia : Int) := by omega
          have jb : (y.length : Int) - ((k2 : Int) + 1) = (ib : Int) := by omega
          have la : ia < x.length := by omega
          have lb : ib < y.length := by omega
          have g3 : (k2 : Int) + 1 ≤ (m : Int) := by omega
          clear x0 x1 x2 y0 y1 y2 hax hby hia hib
          go_wp2
          go_quiet (fail)
          go_wp2
          exact ⟨⟨k2 + 1, by omega, by go_num, drawn_on hbr _⟩, by simp [intOf]; omega⟩
        · have HB9 := Lib.hid (belowNext HBR.out hbr)
          have HX9 := Lib.hid (HX8.out.keep (S' := Under wr.heap.size) (fun _ h => Nat.lt_of_lt_of_le h hbr.size) (fun i h => hbr.block i h))
          have HY9 := Lib.hid (HY8.out.keep (S' := Under wr.heap.size) (fun _ h => Nat.lt_of_lt_of_le h hbr.size) (fun i h => hbr.block i h))
          have g3 : ¬ (k2 : Int) + 1 ≤ (m : Int) := by omega
          clear hbr HX8 HY8 HBR
          by_cases hA : n < x.length ∧ n < y.length
          · have hax : x[n]? = some (x[n]'(by omega)) := List.getElem?_eq_getElem (by omega)
            have hby : y[n]? = some (y[n]'(by omega)) := List.getElem?_eq_getElem (by omega)
            have HNE : Hid (x[n]'(by omega) ≠ y[n]'(by omega)) := Lib.hid (fun e => HSS.out (by omega) (by omega) (by rw [hax, hby, e]))
            generalize x[n]'(by omega) = tx at *
            generalize y[n]'(by omega) = ty at *
            obtain ⟨g1, o1, rfl, _, k0, k1, k3⟩ := HX9.out.get hax
            obtain ⟨g2, o2, rfl, _, m0, m1, m2⟩ := HY9.out.get hby
            have l1 : (n : Int) < (x.length : Int) := by omega
            have l2 : (n : Int) < (y.length : Int) := by omega
            clear hax hby
            rcases tok_ne HNE.out with q0 | ⟨q0, q1⟩ | ⟨q0, q1, q2⟩
            · go_wp2
              go_quiet (fail)
              generalize hwq : World.drewN wr _ = wq
              have HQ : Hid (Below wr.heap.size wr wq) := Lib.hid (by rw [← hwq]; exact drawn_on (Below.refl _ _) _)
              clear hwq
              clear k0 k1 k3 m0 m1 m2
              by_cases hS : n + m = min x.length y.length
              · have e1 : ((n : Int) + (m : Int) == min (x.length : Int) (y.length : Int)) = true := by simp; omega
                go_wp2_with fail
                refine wp_region_quiet_below (by kernel_rfl) (by kernel_rfl) ?_
                repeat (first | go_big_quiet_step (fail) | quiet_step (fail))
                refine wpQuiet_nil ?_
                intro _ hw'
                obtain ⟨⟨dq2, osq2⟩, hw''⟩ := hw'
                subst hw''
                have HQ2 := Lib.hid (below_regrown wq dq2 osq2)
                generalize grow (redrawn wq dq2) osq2 = wq2 at *
                go_wp2
                go_ret
                exact ⟨rfl, belowNext (belowNext HB9.out HQ.out) HQ2.out⟩
              · have e1 : ((n : Int) + (m : Int) == min (x.length : Int) (y.length : Int)) = false := by simp; omega
                have hax2 : x[x.length - 1 - m]? = some (x[x.length - 1 - m]'(by omega)) := List.getElem?_eq_getElem (by omega)
                have hby2 : y[y.length - 1 - m]? = some (y[y.length - 1 - m]'(by omega)) := List.getElem?_eq_getElem (by omega)
                have HNE2 : Hid (x[x.length - 1 - m]'(by omega) ≠ y[y.length - 1 - m]'(by omega)) := Lib.hid (fun e => HBS.out (by omega) (by rw [hax2, hby2, e]))
                generalize x[x.length - 1 - m]'(by omega) = tx at *
                generalize y[y.length - 1 - m]'(by omega) = ty at *
                obtain ⟨a1, p1, ea1, _, x0, x1, x2⟩ := HX9.out.get hax2
                obtain ⟨a2, p2, ea2, _, y0, y1, y2⟩ := HY9.out.get hby2
                first | (subst ea1) | (injection ea1 with ea1; injection ea1 with eb1 eo1; subst eb1; subst eo1)
                first | (subst ea2) | (injection ea2 with ea2; injection ea2 with eb2 eo2; subst eb2; subst eo2)
                have r0 := cell_kept x0 HQ.out
                have r1 := cell_kept x1 HQ.out
                have r2 := cell_kept x2 HQ.out
                have s0 := cell_kept y0 HQ.out
                have s1 := cell_kept y1 HQ.out
                have s2 := cell_kept y2 HQ.out
                obtain ⟨ia, hia⟩ : ∃ ia : Nat, x.length - 1 - m = ia := ⟨_, rfl⟩
                obtain ⟨ib, hib⟩ : ∃ ib : Nat, y.length - 1 - m = ib := ⟨_, rfl⟩
                rw [hia] at r0 r1 r2
                rw [hib] at s0 s1 s2
                have ja : (x.length : Int) - 1 - (m : Int) = (ia : Int) := by omega
                have jb : (y.length : Int) - 1 - (m : Int) = (ib : Int) := by omega
                have la : ia < x.length := by omega
                have lb : ib < y.length := by omega
                clear x0 x1 x2 y0 y1 y2 hax2 hby2 hia hib
                rcases tok_ne HNE2.out with q3 | ⟨q3, q4⟩ | ⟨q3, q4, q5⟩
                all_goals
                  go_wp2
                  go_quiet (fail)
                  go_wp2
                  go_ret
                  exact ⟨rfl, drawn_on (belowNext HB9.out HQ.out) _⟩
            · go_wp2
              go_quiet (fail)
              generalize hwq : World.drewN wr _ = wq
              have HQ : Hid (Below wr.heap.size wr wq) := Lib.hid (by rw [← hwq]; exact drawn_on (Below.refl _ _) _)
              clear hwq
              clear k0 k1 k3 m0 m1 m2
              by_cases hS : n + m = min x.length y.length
              · have e1 : ((n : Int) + (m : Int) == min (x.length : Int) (y.length : Int)) = true := by simp; omega
                go_wp2_with fail
                refine wp_region_quiet_below (by kernel_rfl) (by kernel_rfl) ?_
                repeat (first | go_big_quiet_step (fail) | quiet_step (fail))
                refine wpQuiet_nil ?_
                intro _ hw'
                obtain ⟨⟨dq2, osq2⟩, hw''⟩ := hw'
                subst hw''
                have HQ2 := Lib.hid (below_regrown wq dq2 osq2)
                generalize grow (redrawn wq dq2) osq2 = wq2 at *
                go_wp2
                go_ret
                exact ⟨rfl, belowNext (belowNext HB9.out HQ.out) HQ2.out⟩
              · have e1 : ((n : Int) + (m : Int) == min (x.length : Int) (y.length : Int)) = false := by simp; omega
                have hax2 : x[x.length - 1 - m]? = some (x[x.length - 1 - m]'(by omega)) := List.getElem?_eq_getElem (by omega)
                have hby2 : y[y.length - 1 - m]? = some (y[y.length - 1 - m]'(by omega)) := List.getElem?_eq_getElem (by omega)
                have HNE2 : Hid (x[x.length - 1 - m]'(by omega) ≠ y[y.length - 1 - m]'(by omega)) := Lib.hid (fun e => HBS.out (by omega) (by rw [hax2, hby2, e]))
                generalize x[x.length - 1 - m]'(by omega) = tx at *
                generalize y[y.length - 1 - m]'(by omega) = ty at *
                obtain ⟨a1, p1, ea1, _, x0, x1, x2⟩ := HX9.out.get hax2
                obtain ⟨a2, p2, ea2, _, y0, y1, y2⟩ := HY9.out.get hby2
                first | (subst ea1) | (injection ea1 with ea1; injection ea1 with eb1 eo1; subst eb1; subst eo1)
                first | (subst ea2) | (injection ea2 with ea2; injection ea2 with eb2 eo2; subst eb2; subst eo2)
                have r0 := cell_kept x0 HQ.out
                have r1 := cell_kept x1 HQ.out
                have r2 := cell_kept x2 HQ.out
                have s0 := cell_kept y0 HQ.out
                have s1 := cell_kept y1 HQ.out
                have s2 := cell_kept y2 HQ.out
                obtain ⟨ia, hia⟩ : ∃ ia : Nat, x.length - 1 - m = ia := ⟨_, rfl⟩
                obtain ⟨ib, hib⟩ : ∃ ib : Nat, y.length - 1 - m = ib := ⟨_, rfl⟩
                rw [hia] at r0 r1 r2
                rw [hib] at s0 s1 s2
                have ja : (x.length : Int) - 1 - (m : Int) = (ia : Int) := by omega
                have jb : (y.length : Int) - 1 - (m : Int) = (ib : Int) := by omega
                have la : ia < x.length := by omega
                have lb : ib < y.length := by omega
                clear x0 x1 x2 y0 y1 y2 hax2 hby2 hia hib
                rcases tok_ne HNE2.out with q3 | ⟨q3, q4⟩ | ⟨q3, q4, q5⟩
                all_goals
                  go_wp2
                  go_quiet (fail)
                  go_wp2
                  go_ret
                  exact ⟨rfl, drawn_on (belowNext HB9.out HQ.out) _⟩
            · go_wp2
              go_quiet (fail)
              generalize hwq : World.drewN wr _ = wq
              have HQ : Hid (Below wr.heap.size wr wq) := Lib.hid (by rw [← hwq]; exact drawn_on (Below.refl _ _) _)
              clear hwq
              clear k0 k1 k3 m0 m1 m2
              by_cases hS : n + m = min x.length y.length
              · have e1 : ((n : Int) + (m : Int) == min (x.length : Int) (y.length : Int)) = true := by simp; omega
                go_wp2_with fail
                refine wp_region_quiet_below (by kernel_rfl) (by kernel_rfl) ?_
                repeat (first | go_big_quiet_step (fail) | quiet_step (fail))
                refine wpQuiet_nil ?_
                intro _ hw'
                obtain ⟨⟨dq2, osq2⟩, hw''⟩ := hw'
                subst hw''
                have HQ2 := Lib.hid (below_regrown wq dq2 osq2)
                generalize grow (redrawn wq dq2) osq2 = wq2 at *
                go_wp2
                go_ret
                exact ⟨rfl, belowNext (belowNext HB9.out HQ.out) HQ2.out⟩
              · have e1 : ((n : Int) + (m : Int) == min (x.length : Int) (y.length : Int)) = false := by simp; omega
                have hax2 : x[x.length - 1 - m]? = some (x[x.length - 1 - m]'(by omega)) := List.getElem?_eq_getElem (by omega)
                have hby2 : y[y.length - 1 - m]? = some (y[y.length - 1 - m]'(by omega)) := List.getElem?_eq_getElem (by omega)
                have HNE2 : Hid (x[x.length - 1 - m]'(by omega) ≠ y[y.length - 1 - m]'(by omega)) := Lib.hid (fun e => HBS.out (by omega) (by rw [hax2, hby2, e]))
                generalize x[x.length - 1 - m]'(by omega) = tx at *
                generalize y[y.length - 1 - m]'(by omega) = ty at *
                obtain ⟨a1, p1, ea1, _, x0, x1, x2⟩ := HX9.out.get hax2
                obtain ⟨a2, p2, ea2, _, y0, y1, y2⟩ := HY9.out.get hby2
                first | (subst ea1) | (injection ea1 with ea1; injection ea1 with eb1 eo1; subst eb1; subst eo1)
                first | (subst ea2) | (injection ea2 with ea2; injection ea2 with eb2 eo2; subst eb2; subst eo2)
                have r0 := cell_kept x0 HQ.out
                have r1 := cell_kept x1 HQ.out
                have r2 := cell_kept x2 HQ.out
                have s0 := cell_kept y0 HQ.out
                have s1 := cell_kept y1 HQ.out
                have s2 := cell_kept y2 HQ.out
                obtain ⟨ia, hia⟩ : ∃ ia : Nat, x.length - 1 - m = ia := ⟨_, rfl⟩
                obtain ⟨ib, hib⟩ : ∃ ib : Nat, y.length - 1 - m = ib := ⟨_, rfl⟩
                rw [hia] at r0 r1 r2
                rw [hib] at s0 s1 s2
                have ja : (x.length : Int) - 1 - (m : Int) = (ia : Int) := by omega
                have jb : (y.length : Int) - 1 - (m : Int) = (ib : Int) := by omega
                have la : ia < x.length := by omega
                have lb : ib < y.length := by omega
                clear x0 x1 x2 y0 y1 y2 hax2 hby2 hia hib
                rcases tok_ne HNE2.out with q3 | ⟨q3, q4⟩ | ⟨q3, q4, q5⟩
                all_goals
                  go_wp2
                  go_quiet (fail)
                  go_wp2
                  go_ret
                  exact ⟨rfl, drawn_on (belowNext HB9.out HQ.out) _⟩
          · have l1 : decide ((n : Int) < (x.length : Int)) = false ∨ decide ((n : Int) < (y.length : Int)) = false := by simp; omega
            by_cases hA1 : n < x.length
            · have l2 : decide ((n : Int) < (x.length : Int)) = true := by simp; omega
              have l3 : decide ((n : Int) < (y.length : Int)) = false := by simp; omega
              have l4 : decide (n < y.length) = false := by simp; omega
              clear l1
              go_wp2_with fail
              refine wp_region_quiet_below (by kernel_rfl) (by kernel_rfl) ?_
              repeat (first | go_big_quiet_step (fail) | quiet_step (fail))
              refine wpQuiet_nil ?_
              intro _ hw'
              obtain ⟨⟨dq, osq⟩, hw''⟩ := hw'
              subst hw''
              have HQ := Lib.hid (below_regrown wr dq osq)
              generalize grow (redrawn wr dq) osq = wq at *
              by_cases hS : n + m = min x.length y.length
              · have e1 : ((n : Int) + (m : Int) == min (x.length : Int) (y.length : Int)) = true := by simp; omega
                go_wp2_with fail
                refine wp_region_quiet_below (by kernel_rfl) (by kernel_rfl) ?_
                repeat (first | go_big_quiet_step (fail) | quiet_step (fail))
                refine wpQuiet_nil ?_
                intro _ hw'
                obtain ⟨⟨dq2, osq2⟩, hw''⟩ := hw'
                subst hw''
                have HQ2 := Lib.hid (below_regrown wq dq2 osq2)
                generalize grow (redrawn wq dq2) osq2 = wq2 at *
                go_wp2
                go_ret
                exact ⟨rfl, belowNext (belowNext HB9.out HQ.out) HQ2.out⟩
              · have e1 : ((n : Int) + (m : Int) == min (x.length : Int) (y.length : Int)) = false := by simp; omega
                have hax2 : x[x.length - 1 - m]? = some (x[x.length - 1 - m]'(by omega)) := List.getElem?_eq_getElem (by omega)
                have hby2 : y[y.length - 1 - m]? = some (y[y.length - 1 - m]'(by omega)) := List.getElem?_eq_getElem (by omega)
                have HNE2 : Hid (x[x.length - 1 - m]'(by omega) ≠ y[y.length - 1 - m]'(by omega)) := Lib.hid (fun e => HBS.out (by omega) (by rw [hax2, hby2, e]))
                generalize x[x.length - 1 - m]'(by omega) = tx at *
                generalize y[y.length - 1 - m]'(by omega) = ty at *
                obtain ⟨a1, p1, ea1, _, x0, x1, x2⟩ := HX9.out.get hax2
                obtain ⟨a2, p2, ea2, _, y0, y1, y2⟩ := HY9.out.get hby2
                first | (subst ea1) | (injection ea1 with ea1; injection ea1 with eb1 eo1; subst eb1; subst eo1)
                first | (subst ea2) | (injection ea2 with ea2; injection ea2 with eb2 eo2; subst eb2; subst eo2)
                have r0 := cell_kept x0 HQ.out
                have r1 := cell_kept x1 HQ.out
                have r2 := cell_kept x2 HQ.out
                have s0 := cell_kept y0 HQ.out
                have s1 := cell_kept y1 HQ.out
                have s2 := cell_kept y2 HQ.out
                obtain ⟨ia, hia⟩ : ∃ ia : Nat, x.length - 1 - m = ia := ⟨_, rfl⟩
                obtain ⟨ib, hib⟩ : ∃ ib : Nat, y.length - 1 - m = ib := ⟨_, rfl⟩
                rw [hia] at r0 r1 r2
                rw [hib] at s0 s1 s2
                have ja : (x.length : Int) - 1 - (m : Int) = (ia : Int) := by omega
                have jb : (y.length : Int) - 1 - (m : Int) = (ib : Int) := by omega
                have la : ia < x.length := by omega
                have lb : ib < y.length := by omega
                clear x0 x1 x2 y0 y1 y2 hax2 hby2 hia hib
                rcases tok_ne HNE2.out with q3 | ⟨q3, q4⟩ | ⟨q3, q4, q5⟩
                all_goals
                  go_wp2
                  go_quiet (fail)
                  go_wp2
                  go_ret
                  exact ⟨rfl, drawn_on (belowNext HB9.out HQ.out) _⟩
            · have l2 : decide ((n : Int) < (x.length : Int)) = false := by simp; omega
              clear l1
              go_wp2_with fail
              refine wp_region_quiet_below (by kernel_rfl) (by kernel_rfl) ?_
              repeat (first | go_big_quiet_step (fail) | quiet_step (fail))
              refine wpQuiet_nil ?_
              intro _ hw'
              obtain ⟨⟨dq, osq⟩, hw''⟩ := hw'
              subst hw''
              have HQ := Lib.hid (below_regrown wr dq osq)
              generalize grow (redrawn wr dq) osq = wq at *
              by_cases hS : n + m = min x.length y.length
              · have e1 : ((n : Int) + (m : Int) == min (x.length : Int) (y.length : Int)) = true := by simp; omega
                go_wp2_with fail
                refine wp_region_quiet_below (by kernel_rfl) (by kernel_rfl) ?_
                repeat (first | go_big_quiet_step (fail) | quiet_step (fail))
                refine wpQuiet_nil ?_
                intro _ hw'
                obtain ⟨⟨dq2, osq2⟩, hw''⟩ := hw'
                subst hw''
                have HQ2 := Lib.hid (below_regrown wq dq2 osq2)
                generalize grow (redrawn wq dq2) osq2 = wq2 at *
                go_wp2
                go_ret
                exact ⟨rfl, belowNext (belowNext HB9.out HQ.out) HQ2.out⟩
              · have e1 : ((n : Int) + (m : Int) == min (x.length : Int) (y.length : Int)) = false := by simp; omega
                have hax2 : x[x.length - 1 - m]? = some (x[x.length - 1 - m]'(by omega)) := List.getElem?_eq_getElem (by omega)
                have hby2 : y[y.length - 1 - m]? = some (y[y.length - 1 - m]'(by omega)) := List.getElem?_eq_getElem (by omega)
                have HNE2 : Hid (x[x.length - 1 - m]'(by omega) ≠ y[y.length - 1 - m]'(by omega)) := Lib.hid (fun e => HBS.out (by omega) (by rw [hax2, hby2, e]))
                generalize x[x.length - 1 - m]'(by omega) = tx at *
                generalize y[y.length - 1 - m]'(by omega) = ty at *
                obtain ⟨a1, p1, ea1, _, x0, x1, x2⟩ := HX9.out.get hax2
                obtain ⟨a2, p2, ea2, _, y0, y1, y2⟩ := HY9.out.get hby2
                first | (subst ea1) | (injection ea1 with ea1; injection ea1 with eb1 eo1; subst eb1; subst eo1)
                first | (subst ea2) | (injection ea2 with ea2; injection ea2 with eb2 eo2; subst eb2; subst eo2)
                have r0 := cell_kept x0 HQ.out
                have r1 := cell_kept x1 HQ.out
                have r2 := cell_kept x2 HQ.out
                have s0 := cell_kept y0 HQ.out
                have s1 := cell_kept y1 HQ.out
                have s2 := cell_kept y2 HQ.out
                obtain ⟨ia, hia⟩ : ∃ ia : Nat, x.length - 1 - m = ia := ⟨_, rfl⟩
                obtain ⟨ib, hib⟩ : ∃ ib : Nat, y.length - 1 - m = ib := ⟨_, rfl⟩
                rw [hia] at r0 r1 r2
                rw [hib] at s0 s1 s2
                have ja : (x.length : Int) - 1 - (m : Int) = (ia : Int) := by omega
                have jb : (y.length : Int) - 1 - (m : Int) = (ib : Int) := by omega
                have la : ia < x.length := by omega
                have lb : ib < y.length := by omega
                clear x0 x1 x2 y0 y1 y2 hax2 hby2 hia hib
                rcases tok_ne HNE2.out with q3 | ⟨q3, q4⟩ | ⟨q3, q4, q5⟩
                all_goals
                  go_wp2
                  go_quiet (fail)
                  go_wp2
                  go_ret
                  exact ⟨rfl, drawn_on (belowNext HB9.out HQ.out) _⟩
end Go.Proofs.Ytdcgffepdgldmaa
