/-
  TokenLens.
-/
import Derived.Test.YtdcgffepdgldmaaK5
namespace Go.Proofs.Ytdcgffepdgldmaa
open Go.RowKit Go.Sort Go.Maps
theorem rtok_info : (Try.prog.info? 51).map (fun i => (i.zero, i.size, i.bytes)) = some (some (.agg #[.int .u8 0, .string ⟨#[]⟩, .string ⟨#[]⟩]), 3, 40) := by kernel_rfl
theorem toks_of_own {w : World} {base : Nat} {e : TypeId} {v : Value} {l : List Tok} (h : w.ownsRow base e 3 v l.length (l.flatMap tokCells)) : Toks w (From base w.heap.size) v l := by
  rcases h.2 with ⟨rfl, hm⟩ | ⟨g, cap, cur, rfl, hb, hg, hnc, hcap, hsz, htk⟩
  · exact ⟨none, 0, by rw [hm], by omega, by unfold maxLen; omega, .inl (List.eq_nil_of_length_eq_zero hm)⟩
  · refine ⟨_, cap, rfl, hnc, hcap, .inr ⟨g, 0, rfl, ⟨hb, (Array.getElem?_eq_some_iff.1 hg).1⟩, fun i t hi => ?_⟩⟩
    have hlt : i < l.length := (List.getElem?_eq_some_iff.1 hi).1
    have each : ∀ j u, j < 3 → (tokCells t)[j]? = some u → w.cell? ⟨g, 0 + i * 3 + j, none⟩ = some u := fun j u hj hu => by
      have e := flat3 l i j t hi hj
      rw [hu, ← htk, List.getElem?_take, if_pos (by omega)] at e
      rw [Nat.zero_add]
      simpa [World.cell?, hg] using e
    exact ⟨by simpa using each 0 _ (by omega) rfl, each 1 _ (by omega) rfl, each 2 _ (by omega) rfl⟩

set_option maxHeartbeats 4000000 in
set_option maxRecDepth 100000 in
theorem as_any (va : Value) (a : List Tok) (w : World) (ha : Toks w (Under w.heap.size) va a) (hla : a.length ≤ 1000000) :
    Calls Try.prog 15 #[va] w fun e w' => ∃ v, e = .returned v ∧ Toks w' (From w.heap.size w'.heap.size) v a ∧ Below w.heap.size w w' := by
  obtain ⟨A1, c1, rfl, _⟩ := ha.form
  have HA := Lib.hid ha
  clear ha
  go_enter Try.func15, Try.ntmps15
  go_wp2
  go_loopw [3, 4] (fun v i wr => ∃ k : Nat, k ≤ a.length ∧ i = .int .i64 k ∧ wr.ownsRow w.heap.size 51 3 v k ((a.take k).flatMap tokCells) ∧ Below w.heap.size w wr) (fun _ i _ => a.length - (intOf i).toNat)
  case atStart => exact ⟨0, by omega, rfl, ⟨rfl, .inl ⟨rfl, rfl⟩⟩, Below.refl _ _⟩
  case round =>
    obtain ⟨k, hk, rfl, hown, hbr⟩ := hrel
    have hws := hbr.size
    by_cases hlt : k < a.length
    · have hax : a[k]? = some a[k] := List.getElem?_eq_getElem hlt
      have HTK : Hid (a.take (k + 1) = a.take k ++ [a[k]]) := Lib.hid (List.take_succ_eq_append_getElem hlt)
      generalize a[k] = x at *
      obtain ⟨g1, o1, rfl, hu1, x0, x1, x2⟩ := HA.out.get hax
      have k0 := cell_kept x0 hbr
      have k1 := cell_kept x1 hbr
      have k2 := cell_kept x2 hbr
      have HOWN := Lib.hid hown
      obtain ⟨B3, m3, d3, rfl⟩ := ownsRow_form hown
      clear x0 x1 x2 hax hown
      have hlen : (a.take k).length = k := by rw [List.length_take]; omega
      have HBA : Hid (Below wr.heap.size wr (wr.alloc (.cells #[.int .u8 (x.kind : Int), .string x.text, .string x.head] 51)).drew) := Lib.hid (((Below.refl _ _).alloc (Nat.le_refl _) _).drew)
      have HOW2 : Hid ((wr.alloc (.cells #[.int .u8 (x.kind : Int), .string x.text, .string x.head] 51)).drew.ownsRow w.heap.size 51 3 (.slice B3 m3 d3) k ((a.take k).flatMap tokCells)) := Lib.hid (ownsRow_keep HOWN.out fun g hg => HBA.out.block _ (HOWN.out.lt g hg).2)
      have HF : Hid (∀ j u, (tokCells x)[j]? = some u → (wr.alloc (.cells #[.int .u8 (x.kind : Int), .string x.text, .string x.head] 51)).drew.cell? ⟨wr.heap.size, j, none⟩ = some u) := Lib.hid (fun j u hj => fresh_cell wr _ _ j u (by simpa [tokCells] using hj))
      have hbz : w.heap.size ≤ (wr.alloc (.cells #[.int .u8 (x.kind : Int), .string x.text, .string x.head] 51)).drew.heap.size := Nat.le_trans hws HBA.out.size
      have hk8 : k + 1 ≤ 100000000 := by omega
      have HBZ := Lib.hid hbz
      clear hbz hlen
      go_wp2
      go_region_law (refine step_append_gen Try.underlying34 rtok_info rfl (by decide) (by decide) rfl (.tmp 11) (.tmp 28) rfl w.heap.size (.slice B3 m3 d3) k _ wr.heap.size 1 (tokCells x) rfl rfl HOW2.out rfl HF.out (tok_one _) hk8 HBZ.out ?_; intro v6 w6 hown6 hg6; obtain ⟨B6, m6, d6, rfl⟩ := ownsRow_form hown6; have HOW6 := Lib.hid hown6; have HB6 := Lib.hid (hbr.trans ((HBA.out.mono hws).trans ((Below.refl _ _).grown hg6 HBZ.out fun k hk => (HOW2.out.lt k hk).1))); clear hown6 hg6)
      all_goals
        go_wp2
        exact ⟨⟨k + 1, by omega, by go_num, by rw [HTK.out, List.flatMap_append]; simpa using HOW6.out, HB6.out⟩, by simp [intOf]; omega⟩
    · go_wp2
      go_ret
      obtain rfl : k = a.length := by omega
      refine ⟨_, rfl, ?_, hbr⟩
      rw [List.take_length] at hown
      exact toks_of_own hown
theorem take_ne {a b : List Tok} {k : Nat} {x y : Tok} (hx : a[k]? = some x) (hy : b[k]? = some y) (h : x ≠ y) : decide (a = b) = false := by
  rw [decide_eq_false_iff_not]; rintro rfl; exact h (Option.some.inj (hx.symm.trans hy))

set_option maxHeartbeats 4000000 in
set_option maxRecDepth 100000 in
theorem same3_any (va vb : Value) (a b : List Tok) (w : World) (ha : Toks w (Under w.heap.size) va a) (hb : Toks w (Under w.heap.size) vb b) (hla : a.length ≤ 1000000) (hlb : b.length ≤ 1000000) :
    Calls Try.prog 10 #[va, vb] w fun e w' => e = .returned (.bool (decide (a = b))) ∧ Below w.heap.size w w' := by
  obtain ⟨A1, c1, rfl, _⟩ := ha.form
  obtain ⟨A2, c2, rfl, _⟩ := hb.form
  have HA := Lib.hid ha
  have HB := Lib.hid hb
  clear ha hb
  by_cases hl : a.length = b.length
  · have hl' : ((a.length : Int) != (b.length : Int)) = false := by simp [hl]
    have HL := Lib.hid hl
    clear hl
    go_enter Try.func10, Try.ntmps10
    go_wp2
    go_loopw [5] (fun i wr => ∃ k : Nat, k ≤ a.length ∧ i = .int .i64 k ∧ Hid (a.take k = b.take k) ∧ Below w.heap.size w wr) (fun i _ => a.length - (intOf i).toNat)
    case atStart => exact ⟨0, by omega, rfl, Lib.hid rfl, Below.refl _ _⟩
    case round =>
      obtain ⟨k, hk, rfl, hst, hbr⟩ := hrel
      by_cases hlt : k < a.length
      · have hltb : k < b.length := by have := HL.out; omega
        have hax : a[k]? = some a[k] := List.getElem?_eq_getElem hlt
        have hby : b[k]? = some b[k] := List.getElem?_eq_getElem hltb
        have HTA : Hid (a.take (k + 1) = a.take k ++ [a[k]]) := Lib.hid (List.take_succ_eq_append_getElem hlt)
        have HTB : Hid (b.take (k + 1) = b.take k ++ [b[k]]) := Lib.hid (List.take_succ_eq_append_getElem hltb)
        generalize a[k] = x at *
        generalize b[k] = y at *
        have HNE := Lib.hid (take_ne hax hby)
        obtain ⟨g1, o1, rfl, hu1, x0, x1, x2⟩ := HA.out.get hax
        obtain ⟨g2, o2, rfl, hu2, y0, y1, y2⟩ := HB.out.get hby
        have k0 := cell_regrown (cell_kept x0 hbr)
        have k1 := cell_regrown (cell_kept x1 hbr)
        have k2 := cell_regrown (cell_kept x2 hbr)
        have m0 := cell_regrown (cell_kept y0 hbr)
        have m1 := cell_regrown (cell_kept y1 hbr)
        have m2 := cell_regrown (cell_kept y2 hbr)
        have lkb : (k : Int) < (b.length : Int) := by omega
        clear x0 x1 x2 y0 y1 y2 hax hby
        by_cases hxy : x = y
        · subst hxy
          go_wp2_with fail
          refine wp_region_quiet_below (by kernel_rfl) (by kernel_rfl) ?_
          repeat (first | go_big_quiet_step (fail) | quiet_step (fail))
          refine wpQuiet_nil ?_
          intro _ hw'
          obtain ⟨⟨dq, osq⟩, hw''⟩ := hw'
          subst hw''
          have HQ := Lib.hid (below_regrown wr dq osq)
          generalize grow (redrawn wr dq) osq = wq at *
          go_wp2
          exact ⟨⟨k + 1, by omega, by go_num, Lib.hid (by rw [HTA.out, HTB.out, hst.out]), belowNext hbr HQ.out⟩, by simp [intOf]; omega⟩
        · have HR := Lib.hid (HNE.out hxy)
          rcases tok_ne hxy with q0 | ⟨q0, q1⟩ | ⟨q0, q1, q2⟩
          · have p0 : ((x.kind : Int) != (y.kind : Int)) = true := by simp [bne, q0]
            clear q0
            go_wp2_with fail
            refine wp_region_quiet_below (by kernel_rfl) (by kernel_rfl) ?_
            repeat (first | go_big_quiet_step (fail) | quiet_step (fail))
            refine wpQuiet_nil ?_
            intro _ hw'
            obtain ⟨⟨dq, osq⟩, hw''⟩ := hw'
            subst hw''
            have HQ := Lib.hid (below_regrown wr dq osq)
            generalize grow (redrawn wr dq) osq = wq at *
            go_wp2
            go_ret
            exact ⟨ret_bool HR.out.symm, belowNext hbr HQ.out⟩
          · have p0 : ((x.kind : Int) != (y.kind : Int)) = false := by simp [bne, q0]
            have p1 : (x.text.toList != y.text.toList) = true := by simp [bne, q1]
            clear q0
            go_wp2_with fail
            refine wp_region_quiet_below (by kernel_rfl) (by kernel_rfl) ?_
            repeat (first | go_big_quiet_step (fail) | quiet_step (fail))
            refine wpQuiet_nil ?_
            intro _ hw'
            obtain ⟨⟨dq, osq⟩, hw''⟩ := hw'
            subst hw''
            have HQ := Lib.hid (below_regrown wr dq osq)
            generalize grow (redrawn wr dq) osq = wq at *
            go_wp2
            go_ret
            exact ⟨ret_bool HR.out.symm, belowNext hbr HQ.out⟩
          · have p0 : ((x.kind : Int) != (y.kind : Int)) = false := by simp [bne, q0]
            have p1 : (x.text.toList != y.text.toList) = false := by simp [bne, q1]
            have p2 : (x.head.toList != y.head.toList) = true := by simp [bne, q2]
            clear q0
            go_wp2_with fail
            refine wp_region_quiet_below (by kernel_rfl) (by kernel_rfl) ?_
            repeat (first | go_big_quiet_step (fail) | quiet_step (fail))
            refine wpQuiet_nil ?_
            intro _ hw'
            obtain ⟨⟨dq, osq⟩, hw''⟩ := hw'
            subst hw''
            have HQ := Lib.hid (below_regrown wr dq osq)
            generalize grow (redrawn wr dq) osq = wq at *
            go_wp2
            go_ret
            exact ⟨ret_bool HR.out.symm, belowNext hbr HQ.out⟩
      · go_wp2
        go_ret
        refine ⟨ret_bool ?_, hbr⟩
        have h := hst.out
        rw [List.take_of_length_le (by omega), List.take_of_length_le (by have := HL.out; omega)] at h
        exact (decide_eq_true h).symm
  · have hl' : ((a.length : Int) != (b.length : Int)) = true := by simp; omega
    have HN : Hid (decide (a = b) = false) := Lib.hid (by rw [decide_eq_false_iff_not]; rintro rfl; exact hl rfl)
    clear hl
    go_enter Try.func10, Try.ntmps10
    go_wp2
    go_ret
    exact ⟨ret_bool HN.out.symm, Below.refl _ _⟩
end Go.Proofs.Ytdcgffepdgldmaa
