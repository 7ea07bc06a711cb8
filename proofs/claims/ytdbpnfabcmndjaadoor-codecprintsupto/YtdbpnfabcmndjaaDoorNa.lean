/-
  The document's Name, formed, Value and rise: what they answer.
-/
import Derived.Test.YtdbpnfabcmndjaaDoorRfA
namespace Go.Proofs.YtdbpnfabcmndjaaDoor
open Go.RowKit Go.Sort

set_option maxHeartbeats 1100000 in
theorem rname_any (s : ByteArray) (w : World) (hs : s.size ≤ maxLen) :
    Calls Tryd.prog 8 #[.string s] w fun e w' => e = .returned (.bool (nameB s)) ∧ w' = w := by
  unfold maxLen at hs
  go_enter Tryd.func8, Tryd.ntmps8
  go_wp2
  go_loop [3] (fun i => ∃ k : Nat, k ≤ s.size ∧ i = .int .i64 k ∧ Hid (∀ j, j < k → small (s.data.toList.getD j 0) = true)) (fun i => s.size - (intOf i).toNat)
  case atStart => exact ⟨0, by omega, rfl, fun j hj => absurd hj (by omega)⟩
  case round =>
    obtain ⟨k, hk, rfl, hall⟩ := hrel
    by_cases hlt : k < s.size
    · have HB := Lib.hid (nameB_bad s k hlt)
      have HG := Lib.hid (byte_getD s k hlt)
      by_cases hlo : s[k].toNat < 97
      · have HF := Lib.hid (HB.out (by unfold small; rw [decide_eq_false (p := 97 ≤ s[k].toNat) (by omega), Bool.false_and]))
        go_wp2
        go_ret
        exact ⟨ret_bool HF.out.symm, rfl⟩
      · by_cases hhi : 122 < s[k].toNat
        · have HF := Lib.hid (HB.out (by unfold small; rw [decide_eq_false (p := s[k].toNat ≤ 122) (by omega), Bool.and_false]))
          go_wp2
          go_ret
          exact ⟨ret_bool HF.out.symm, rfl⟩
        · have HT : Hid (∀ j, j < k + 1 → small (s.data.toList.getD j 0) = true) := Lib.hid fun j hj => by
            by_cases e : j < k
            · exact hall j e
            · obtain rfl : j = k := by omega
              rw [HG.out]; unfold small
              rw [decide_eq_true (p := 97 ≤ s[j].toNat) (by omega), decide_eq_true (p := s[j].toNat ≤ 122) (by omega)]; rfl
          go_wp2
          exact ⟨⟨k + 1, by omega, by go_num, HT.out⟩, by simp [intOf]; omega⟩
    · have HA : Hid (∀ j, j < s.size → small (s.data.toList.getD j 0) = true) := Lib.hid fun j hj => hall j (by omega)
      by_cases h1 : 1 ≤ s.size
      · by_cases h8 : s.size ≤ 8
        · cases ht : isTxt s with
          | true =>
            have ht' : (s.toList == [116, 101, 120, 116]) = true := ht
            have HN : Hid (nameB s = false) := Lib.hid (by simp [nameB, ht])
            clear ht
            go_wp2
            go_ret
            exact ⟨ret_bool HN.out.symm, rfl⟩
          | false =>
            have ht' : (s.toList == [116, 101, 120, 116]) = false := ht
            have HN : Hid (nameB s = true) := Lib.hid (nameB_true s h1 h8 ht HA.out)
            clear ht
            go_wp2
            go_ret
            exact ⟨ret_bool HN.out.symm, rfl⟩
        · have HN : Hid (nameB s = false) := Lib.hid (by simp [nameB, h8])
          go_wp2
          go_ret
          exact ⟨ret_bool HN.out.symm, rfl⟩
      · have HN : Hid (nameB s = false) := Lib.hid (by simp [nameB, h1])
        go_wp2
        go_ret
        exact ⟨ret_bool HN.out.symm, rfl⟩

theorem back_bytes (s : ByteArray) : ((runesBytes ((pts s.data.toList).map fun r : Nat => (r : Int))).toList == s.toList) = Lib.validD s.data.toList := by
  rw [Lib.toList_data, Lib.toList_data, runesBytes_data]
  exact back_same s.data.toList

set_option maxHeartbeats 1100000 in
theorem rrunes2_any (s : ByteArray) (w : World) (hs : s.size ≤ 1100000) :
    Calls Tryd.prog 36 #[.string s] w fun e w' => (∃ A c, e = .returned (.tuple #[.slice A (Lib.runeCount s) c, .bool (Lib.validD s.data.toList)])) ∧ Below w.heap.size w w' := by
  obtain ⟨c, obj, hrun, hc, hcell⟩ := run_runes w s (by omega)
  have hback := rrun_back (w.drew.alloc obj) w.heap.size c (pts s.data.toList) hcell
  have hback2 := rrun_back (w.drew.alloc obj).drew w.heap.size c (pts s.data.toList) hcell
  have HX : Hid (Below w.heap.size w (w.drew.alloc obj).drew) := Lib.hid (((Below.refl _ _).drew).alloc (Nat.le_refl _) _).drew
  have HL : Hid ((pts s.data.toList).length = Lib.runeCount s) := Lib.hid (by rw [pts_count, Lib.runeCountL_eq])
  have HV := Lib.hid (back_bytes s)
  clear hcell hc
  generalize runesBytes ((pts s.data.toList).map fun r : Nat => (r : Int)) = sr at *
  generalize (pts s.data.toList).length = np at *
  generalize w.heap.size = g at *
  generalize hW : w.drew.alloc obj = W at *
  go_enter Tryd.func36, Tryd.ntmps36
  go_wp2_with fail
  go_region
  all_goals
    go_wp2
    exact bodyPost_ret (v := .tuple #[.slice (some ⟨g, 0, none⟩) np c, .bool (sr.toList == s.toList)]) (by simp [results, Tryd.results36, go_sem]) rfl ⟨⟨_, _, by rw [HV.out, HL.out]⟩, HX.out⟩

set_option maxHeartbeats 1100000 in
theorem rformed_any (s : ByteArray) (w : World) (hs : s.size ≤ 1100000) :
    Calls Tryd.prog 33 #[.string s] w fun e w' => e = .returned (.bool (Lib.validD s.data.toList)) ∧ Below w.heap.size w w' := by
  go_enter Tryd.func33, Tryd.ntmps33
  go_wp2_with fail
  refine (rrunes2_any s w hs).mono ?_
  rintro e w1 ⟨⟨A, c, rfl⟩, hb1⟩
  generalize hv : Lib.validD s.data.toList = b at *
  have HV := Lib.hid hv
  clear hv
  go_wp2
  go_ret
  exact ⟨ret_bool HV.out.symm, hb1⟩

set_option maxHeartbeats 1100000 in
theorem rvalue_any (s : ByteArray) (w : World) (hs : s.size ≤ 1100000) :
    Calls Tryd.prog 10 #[.string s] w fun e w' => e = .returned (.bool (valueB s)) ∧ Below w.heap.size w w' := by
  by_cases h : s.size ≤ 40
  · have HV : Hid (valueB s = Lib.validD s.data.toList) := Lib.hid (by simp [valueB, h])
    go_enter Tryd.func10, Tryd.ntmps10
    go_wp2_with fail
    refine (rformed_any s w hs).mono ?_
    rintro e w1 ⟨rfl, hb1⟩
    generalize Lib.validD s.data.toList = b at *
    go_wp2
    go_ret
    exact ⟨ret_bool HV.out.symm, hb1⟩
  · have HV : Hid (valueB s = false) := Lib.hid (by simp [valueB, h])
    go_enter Tryd.func10, Tryd.ntmps10
    go_wp2
    go_ret
    exact ⟨ret_bool HV.out.symm, Below.refl _ _⟩

theorem less_flip : ∀ x y : List UInt8, (Op.bytesLess x y || x == y) = !Op.bytesLess y x
  | [], [] => rfl
  | a :: x, [] => by simp [Op.bytesLess]
  | [], b :: y => by simp [Op.bytesLess]
  | a :: x, b :: y => by
    have ih := less_flip x y
    rcases Nat.lt_trichotomy a.toNat b.toNat with h | h | h
    · have h1 : a < b := UInt8.lt_iff_toNat_lt.2 h
      have h2 : ¬ b < a := fun e => by have := UInt8.lt_iff_toNat_lt.1 e; omega
      have h3 : ¬ b = a := fun e => by subst e; omega
      simp [Op.bytesLess, h1, h2, h3]
    · obtain rfl : a = b := UInt8.toNat_inj.1 h
      have h2 : ¬ a < a := fun e => by have := UInt8.lt_iff_toNat_lt.1 e; omega
      simp only [Op.bytesLess, h2, decide_false, Bool.false_or, beq_self_eq_true, Bool.true_and, List.cons_beq_cons]
      exact ih
    · have h1 : b < a := UInt8.lt_iff_toNat_lt.2 h
      have h2 : ¬ a < b := fun e => by have := UInt8.lt_iff_toNat_lt.1 e; omega
      have h3 : ¬ a = b := fun e => by subst e; omega
      simp [Op.bytesLess, h1, h2, h3]

set_option maxHeartbeats 1100000 in
theorem rrise_any (v : Value) (l : List ByteArray) (S : Nat → Prop) (w : World) (h : Strs w S v l) (hS : ∀ b, S b → b < w.heap.size) (hw : weighL l ≤ 1100000) :
    Calls Tryd.prog 55 #[v] w fun e w' => e = .returned (.bool (marksB l)) ∧ Below w.heap.size w w' := by
  have hlen := length_le_weighL l
  obtain ⟨A, c, rfl, hc⟩ := h.form
  have H := Lib.hid h
  have HS := Lib.hid hS
  clear h hS
  go_enter Tryd.func55, Tryd.ntmps55
  go_wp2
  go_loopw [3] (fun i wr => ∃ k : Nat, k ≤ l.length ∧ i = .int .i64 k ∧ Below w.heap.size w wr ∧ Hid (∀ j, j < k → markOk l j = true)) (fun i _ => l.length - (intOf i).toNat)
  case atStart => exact ⟨0, by omega, rfl, Below.refl _ _, fun j hj => absurd hj (by omega)⟩
  case round =>
    obtain ⟨k, hk, rfl, hbr, hall⟩ := hrel
    by_cases hlt : k < l.length
    · obtain ⟨b, o, rfl, hub, hcell⟩ := H.out.get hlt
      have hbl := HS.out b hub
      have HCL : Hid (∀ i, i < l.length → wr.cell? ⟨b, o + i, none⟩ = some (.string (l.getD i ByteArray.empty))) := Lib.hid fun i hi => (hbr.cell (p := ⟨b, o + i, none⟩) hbl).trans (hcell i hi)
      have hs := weighL_get (getD_some ByteArray.empty hlt)
      have HB := Lib.hid (all_range_false (p := markOk l) k hlt)
      have k0 := cell_regrown (HCL.out k hlt)
      generalize hsk : l.getD k ByteArray.empty = sk at *
      have Hsk := Lib.hid hsk
      clear hsk hcell
      go_wp2_with fail
      cases hnm : nameB sk with
      | false =>
        have HN := Lib.hid (regrown_same (w := wr) fun W => by have := rname_any sk W (by unfold maxLen; omega); rwa [hnm] at this)
        have HN' := Lib.hid hnm
        clear hnm
        refine wp_region_quiet_below (by kernel_rfl) (by kernel_rfl) ?_
        repeat (first | go_big_quiet_step (exact HN.out _ _) | quiet_step (exact HN.out _ _))
        refine wpQuiet_nil ?_
        intro _ hw'
        obtain ⟨⟨dq, osq⟩, hw''⟩ := hw'
        subst hw''
        go_wp2
        go_ret
        exact ⟨ret_bool (HB.out (by unfold markOk; rw [Hsk.out, HN'.out]; rfl)).symm, belowNext hbr (below_regrown wr dq osq)⟩
      | true =>
        have HN := Lib.hid (regrown_same (w := wr) fun W => by have := rname_any sk W (by unfold maxLen; omega); rwa [hnm] at this)
        have HN' := Lib.hid hnm
        clear hnm
        by_cases h0 : k = 0
        · have g0 : decide (0 < k) = false := by simp; omega
          have H0 := Lib.hid h0
          clear h0
          refine wp_region_quiet_below (by kernel_rfl) (by kernel_rfl) ?_
          repeat (first | go_big_quiet_step (exact HN.out _ _) | quiet_step (exact HN.out _ _))
          refine wpQuiet_nil ?_
          intro _ hw'
          obtain ⟨⟨dq, osq⟩, hw''⟩ := hw'
          subst hw''
          go_wp2
          exact ⟨⟨k + 1, by omega, by go_num, belowNext hbr (below_regrown wr dq osq), step_all hall.out (by unfold markOk; rw [Hsk.out, HN'.out, decide_eq_true H0.out]; rfl)⟩, by simp [intOf]; omega⟩
        · have g0 : decide (0 < k) = true := by simp; omega
          have g1 : ((k : Int) - 1).toNat = k - 1 := by omega
          have k2 := cell_regrown (HCL.out (k - 1) (by omega))
          generalize hsp : l.getD (k - 1) ByteArray.empty = sp at *
          have Hsp := Lib.hid hsp
          clear hsp
          have hfl := less_flip sk.toList sp.toList
          cases hb1 : Op.bytesLess sk.toList sp.toList with
          | true =>
            have HL : Hid (less sp sk = false) := Lib.hid (by unfold less; rw [hb1, Bool.true_or] at hfl; simpa using hfl.symm)
            clear hfl
            refine wp_region_quiet_below (by kernel_rfl) (by kernel_rfl) ?_
            repeat (first | go_big_quiet_step (exact HN.out _ _) | quiet_step (exact HN.out _ _))
            refine wpQuiet_nil ?_
            intro _ hw'
            obtain ⟨⟨dq, osq⟩, hw''⟩ := hw'
            subst hw''
            go_wp2
            go_ret
            exact ⟨ret_bool (HB.out (by unfold markOk; rw [Hsk.out, HN'.out, Hsp.out, HL.out, decide_eq_false h0]; rfl)).symm, belowNext hbr (below_regrown wr dq osq)⟩
          | false =>
            cases hb2 : (sk.toList == sp.toList) with
            | true =>
              have HL : Hid (less sp sk = false) := Lib.hid (by unfold less; rw [hb1, hb2, Bool.false_or] at hfl; simpa using hfl.symm)
              clear hfl
              refine wp_region_quiet_below (by kernel_rfl) (by kernel_rfl) ?_
              repeat (first | go_big_quiet_step (exact HN.out _ _) | quiet_step (exact HN.out _ _))
              refine wpQuiet_nil ?_
              intro _ hw'
              obtain ⟨⟨dq, osq⟩, hw''⟩ := hw'
              subst hw''
              go_wp2
              go_ret
              exact ⟨ret_bool (HB.out (by unfold markOk; rw [Hsk.out, HN'.out, Hsp.out, HL.out, decide_eq_false h0]; rfl)).symm, belowNext hbr (below_regrown wr dq osq)⟩
            | false =>
              have HL : Hid (less sp sk = true) := Lib.hid (by unfold less; rw [hb1, hb2, Bool.false_or] at hfl; simpa using hfl.symm)
              clear hfl
              refine wp_region_quiet_below (by kernel_rfl) (by kernel_rfl) ?_
              repeat (first | go_big_quiet_step (exact HN.out _ _) | quiet_step (exact HN.out _ _))
              refine wpQuiet_nil ?_
              intro _ hw'
              obtain ⟨⟨dq, osq⟩, hw''⟩ := hw'
              subst hw''
              go_wp2
              exact ⟨⟨k + 1, by omega, by go_num, belowNext hbr (below_regrown wr dq osq), step_all hall.out (by unfold markOk; rw [Hsk.out, HN'.out, Hsp.out, HL.out]; simp)⟩, by simp [intOf]; omega⟩
    · go_wp2
      go_ret
      exact ⟨ret_bool (all_range_true fun i hi => hall.out i (by omega)).symm, hbr⟩
end Go.Proofs.YtdbpnfabcmndjaaDoor
