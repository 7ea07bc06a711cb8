/-
  TokenLens.
-/
import Derived.Test.YtkhfdoionjocgaaK5
namespace Go.Proofs.Ytkhfdoionjocgaa
open Go.RowKit Go.Sort Go.Maps
theorem rtok_info : (Try.prog.info? 48).map (fun i => (i.zero, i.size, i.bytes)) = some (some (.agg #[.int .u8 0, .string ⟨#[]⟩, .string ⟨#[]⟩]), 3, 40) := by kernel_rfl
theorem toks_of_own {w : World} {base : Nat} {e : TypeId} {v : Value} {l : List Tok} (h : w.ownsRow base e 3 v l.length (l.flatMap tokCells)) : Toks w (From base w.heap.size) v l := by
  rcases h.2 with ⟨rfl, hm⟩ | ⟨g, cap, cur, rfl, hb, hg, hnc, hcap, hsz, htk⟩
  · exact ⟨none, 0, by rw [hm], by omega, by unfold maxLen; omega, .inl (List.eq_nil_of_length_eq_zero hm)⟩
  · refine ⟨_, cap, rfl, hnc, hcap, .inr ⟨g, 0, rfl, ⟨hb, (Array.getElem?_eq_some_iff.1 hg).1⟩, fun i t hi => ?_⟩⟩
    have hlt : i < l.length := (List.getElem?_eq_some_iff.1 hi).1
    have each : ∀ j u, j < 3 → (tokCells t)[j]? = some u → w.cell? ⟨g, 0 + i * 3 + j, none⟩ = some u := fun j u hj hu => by
      have e := flat3 l i j t hi hj
      rw [hu, ← htk, List.getElem?_take, if_pos (by omega)] at e
      rw [Nat.zero_add]
      simpa [World.cell?, hg] using e
    exact ⟨by simpa using each 0 _ (by omega) rfl, each 1 _ (by omega) rfl, each 2 _ (by omega) rfl⟩

theorem take_ne {a b : List Tok} {k : Nat} {x y : Tok} (hx : a[k]? = some x) (hy : b[k]? = some y) (h : x ≠ y) : decide (a = b) = false := by
  rw [decide_eq_false_iff_not]; rintro rfl; exact h (Option.some.inj (hx.symm.trans hy))

set_option maxHeartbeats 4000000 in
set_option maxRecDepth 100000 in
theorem same3_any (va vb : Value) (a b : List Tok) (w : World) (ha : Toks w (Under w.heap.size) va a) (hb : Toks w (Under w.heap.size) vb b) (hla : a.length ≤ 1000000) (hlb : b.length ≤ 1000000) :
    Calls Try.prog 8 #[va, vb] w fun e w' => e = .returned (.bool (decide (a = b))) ∧ Below w.heap.size w w' := by
  obtain ⟨A1, c1, rfl, _⟩ := ha.form
  obtain ⟨A2, c2, rfl, _⟩ := hb.form
  have HA := Lib.hid ha
  have HB := Lib.hid hb
  clear ha hb
  by_cases hl : a.length = b.length
  · have hl' : ((a.length : Int) != (b.length : Int)) = false := by simp [hl]
    have HL := Lib.hid hl
    clear hl
    go_enter Try.func8, Try.ntmps8
    go_wp2
    go_loopw [5] (fun i wr => ∃ k : Nat, k ≤ a.length ∧ i = .int .i64 k ∧ Hid (a.take k = b.take k) ∧ Below w.heap.size w wr) (fun i _ => a.length - (intOf i).toNat)
    case atStart => exact ⟨0, by omega, rfl, Lib.hid rfl, Below.refl _ _⟩
    case round =>
      obtain ⟨k, hk, rfl, hst, hbr⟩ := hrel
      by_cases hlt : k < a.length
      · have hltb : k < b.length := by have := HL.out; omega
        have hax : a[k]? = some a[k] := List.getElem?_eq_getElem hlt
        have hby : b[k]? = some b[k] := List.getElem?_eq_getElem hltb
        have HTA : Hid (a.take (k + 1) = a.take k ++ [a[k]]) := Lib.hid (List.take_succ_eq_append_getElem hlt)
        have HTB : Hid (b.take (k + 1) = b.take k ++ [b[k]]) := Lib.hid (List.take_succ_eq_append_getElem hltb)
        generalize a[k] = x at *
        generalize b[k] = y at *
        have HNE := Lib.hid (take_ne hax hby)
        obtain ⟨g1, o1, rfl, hu1, x0, x1, x2⟩ := HA.out.get hax
        obtain ⟨g2, o2, rfl, hu2, y0, y1, y2⟩ := HB.out.get hby
        have k0 := cell_regrown (cell_kept x0 hbr)
        have k1 := cell_regrown (cell_kept x1 hbr)
        have k2 := cell_regrown (cell_kept x2 hbr)
        have m0 := cell_regrown (cell_kept y0 hbr)
        have m1 := cell_regrown (cell_kept y1 hbr)
        have m2 := cell_regrown (cell_kept y2 hbr)
        have lkb : (k : Int) < (b.length : Int) := by omega
        clear x0 x1 x2 y0 y1 y2 hax hby
        by_cases hxy : x = y
        · subst hxy
          go_wp2_with fail
          refine wp_region_quiet_below (by kernel_rfl) (by kernel_rfl) ?_
          repeat (first | go_big_quiet_step (fail) | quiet_step (fail))
          refine wpQuiet_nil ?_
          intro _ hw'
          obtain ⟨⟨dq, osq⟩, hw''⟩ := hw'
          subst hw''
          have HQ := Lib.hid (below_regrown wr dq osq)
          generalize grow (redrawn wr dq) osq = wq at *
          go_wp2
          exact ⟨⟨k + 1, by omega, by go_num, Lib.hid (by rw [HTA.out, HTB.out, hst.out]), belowNext hbr HQ.out⟩, by simp [intOf]; omega⟩
        · have HR := Lib.hid (HNE.out hxy)
          rcases tok_ne hxy with q0 | ⟨q0, q1⟩ | ⟨q0, q1, q2⟩
          · have p0 : ((x.kind : Int) != (y.kind : Int)) = true := by simp [bne, q0]
            clear q0
            go_wp2_with fail
            refine wp_region_quiet_below (by kernel_rfl) (by kernel_rfl) ?_
            repeat (first | go_big_quiet_step (fail) | quiet_step (fail))
            refine wpQuiet_nil ?_
            intro _ hw'
            obtain ⟨⟨dq, osq⟩, hw''⟩ := hw'
            subst hw''
            have HQ := Lib.hid (below_regrown wr dq osq)
            generalize grow (redrawn wr dq) osq = wq at *
            go_wp2
            go_ret
            exact ⟨ret_bool HR.out.symm, belowNext hbr HQ.out⟩
          · have p0 : ((x.kind : Int) != (y.kind : Int)) = false := by simp [bne, q0]
            have p1 : (x.text.toList != y.text.toList) = true := by simp [bne, q1]
            clear q0
            go_wp2_with fail
            refine wp_region_quiet_below (by kernel_rfl) (by kernel_rfl) ?_
            repeat (first | go_big_quiet_step (fail) | quiet_step (fail))
            refine wpQuiet_nil ?_
            intro _ hw'
            obtain ⟨⟨dq, osq⟩, hw''⟩ := hw'
            subst hw''
            have HQ := Lib.hid (below_regrown wr dq osq)
            generalize grow (redrawn wr dq) osq = wq at *
            go_wp2
            go_ret
            exact ⟨ret_bool HR.out.symm, belowNext hbr HQ.out⟩
          · have p0 : ((x.kind : Int) != (y.kind : Int)) = false := by simp [bne, q0]
            have p1 : (x.text.toList != y.text.toList) = false := by simp [bne, q1]
            have p2 : (x.head.toList != y.head.toList) = true := by simp [bne, q2]
            clear q0
            go_wp2_with fail
            refine wp_region_quiet_below (by kernel_rfl) (by kernel_rfl) ?_
            repeat (first | go_big_quiet_step (fail) | quiet_step (fail))
            refine wpQuiet_nil ?_
            intro _ hw'
            obtain ⟨⟨dq, osq⟩, hw''⟩ := hw'
            subst hw''
            have HQ := Lib.hid (below_regrown wr dq osq)
            generalize grow (redrawn wr dq) osq = wq at *
            go_wp2
            go_ret
            exact ⟨ret_bool HR.out.symm, belowNext hbr HQ.out⟩
      · go_wp2
        go_ret
        refine ⟨ret_bool ?_, hbr⟩
        have h := hst.out
        rw [List.take_of_length_le (by omega), List.take_of_length_le (by have := HL.out; omega)] at h
        exact (decide_eq_true h).symm
  · have hl' : ((a.length : Int) != (b.length : Int)) = true := by simp; omega
    have HN : Hid (decide (a = b) = false) := Lib.hid (by rw [decide_eq_false_iff_not]; rintro rfl; exact hl rfl)
    clear hl
    go_enter Try.func8, Try.ntmps8
    go_wp2
    go_ret
    exact ⟨ret_bool HN.out.symm, Below.refl _ _⟩
end Go.Proofs.Ytkhfdoionjocgaa
