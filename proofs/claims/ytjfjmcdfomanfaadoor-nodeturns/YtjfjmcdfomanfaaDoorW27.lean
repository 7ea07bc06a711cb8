/-
  NodeTwice: plain facts, and the walk.
-/
import Derived.Test.YtjfjmcdfomanfaaDoorW26
import Derived.Test.YtjfjmcdfomanfaaDoorW16
import Derived.Test.YtjfjmcdfomanfaaDoorW17
namespace Go.Proofs.YtjfjmcdfomanfaaDoor
open Go.RowKit Go.Sort

theorem row_formed : ∀ (l : List Tree) (p : Option Tree), rowB p l = true → ∀ x ∈ l, formedB x = true
  | [], _, _, x, hx => by cases hx
  | y :: l, p, h, x, hx => by
    simp only [rowB, Bool.and_eq_true] at h
    rcases List.mem_cons.1 hx with e | e
    · subst e; exact h.2.1
    · exact row_formed l (some y) h.2.2 x e
def docOf (ks : List Tree) : Tree := .mk DOC ByteArray.empty [] [] ks
theorem docOf_right (ks : List Tree) (hr : rowB none ks = true) (hd : deepB ks ≤ 19) (hw : weighAll ks ≤ 760) : checkB (docOf ks) = 0 := by
  have hs := total_le_weigh ks
  have ht : isTxt DOC = false := by decide +kernel
  have hf : formedB (docOf ks) = true := by
    unfold docOf
    rw [formedB_node ht, hr]
    show (nameB DOC && (ByteArray.empty.toList.isEmpty && (decide (([] : List ByteArray).length = 0) && attrsB [])) && true) = true
    decide +kernel
  have h1 : depthB (docOf ks) = deepB ks + 1 := by simp [docOf, depthB, ht]
  have h2 : sizeB (docOf ks) = 2 + totalB ks := by simp [docOf, sizeB, ht]
  rw [checkB, if_pos hf, if_neg (by omega), if_neg (by omega)]
theorem docOf_weigh (ks : List Tree) (hw : weighAll ks ≤ 760) : weigh (docOf ks) ≤ 1000000 := by
  have h2 : DOC.size = 3 := by decide +kernel
  have h3 : ByteArray.empty.size = 0 := by decide +kernel
  simp only [docOf, weigh, weighL, weighP, List.map_nil, List.sum_nil, h2, h3]; omega
theorem docOf_size (ks : List Tree) : sizeB (docOf ks) = 2 + totalB ks := by
  have ht : isTxt DOC = false := by decide +kernel
  simp [docOf, sizeB, ht]
theorem docOf_words (ks : List Tree) : wordsB (docOf ks) = wordsAll ks := by
  have ht : isTxt DOC = false := by decide +kernel
  simp [docOf, wordsB, ht]

def turnB (ks : List Tree) (t : Nat) : List Tree := ks.drop t ++ ks.take t
theorem turnB_weigh (ks : List Tree) (t : Nat) : weighAll (turnB ks t) = weighAll ks := by
  have h := weighAll_append (ks.take t) (ks.drop t)
  rw [List.take_append_drop] at h
  rw [turnB, weighAll_append]; omega
theorem turnB_deep (ks : List Tree) (t : Nat) : deepB (turnB ks t) = deepB ks := by
  have h := deepB_append (ks.take t) (ks.drop t)
  rw [List.take_append_drop] at h
  rw [turnB, deepB_append]; omega
theorem turnB_mem {ks : List Tree} {t : Nat} {x : Tree} (h : x ∈ turnB ks t) : x ∈ ks := by
  rcases List.mem_append.1 h with h | h
  · exact List.mem_of_mem_drop h
  · exact List.mem_of_mem_take h

/-- What stands behind 'turned := ..'. -/
def TwiceMid (W3 : World) (L : List Tree) (s : Value) (wx : World) : Prop := ∃ A c, s = .slice A L.length c ∧ Kids wx (Under wx.heap.size) (.slice A L.length c) L ∧ Below W3.heap.size W3 wx
theorem twiceMid_of {W3 w9 : World} {v : Value} {L : List Tree} (h : Own w9 W3.heap.size (Under W3.heap.size) v L) (hb : Below W3.heap.size W3 w9) : TwiceMid W3 L v w9 := by
  have hk := h.kids (S' := Under w9.heap.size) (fun b hb' => Nat.lt_of_lt_of_le hb' hb.size) (fun g hg => (h.block_ge g hg).2)
  obtain ⟨A, c, rfl, _⟩ := h.form
  exact ⟨A, c, rfl, hk, hb⟩

set_option maxHeartbeats 4000000 in
theorem nodeTwice_walk (v : Value) (l : List Cel) (turn : Int) (w : World) (h : Cels w (Under w.heap.size) v l) (h0 : -9223372036854775808 ≤ turn) (h1 : turn ≤ 9223372036854775807) (hT : Tabs w) :
    Calls Tryd.prog 4 #[v, .int .i64 turn] w fun e w' => e = .returned (.bool true) ∧ Below w.heap.size w w' := by
  have HL := Lib.hid h
  have HT := Lib.hid hT
  clear h hT
  go_enter Tryd.func4, Tryd.ntmps4
  go_wp2_with fail
  refine (shown_any _ HT.out).mono ?_
  rintro e w1 ⟨rfl, hb1⟩
  go_wp2_with fail
  refine (made_any _ l _ ((HL.out.below hb1).more hb1.size)).mono ?_
  rintro e W3 ⟨v3, rfl, hk3, hb3⟩
  have hB3 := belowNext hb1 hb3
  have HK3 := Lib.hid (hk3.keep (S' := Under W3.heap.size) (fun _ h => h.2) (fun _ _ => rfl))
  obtain ⟨A4, c4, rfl, hc4⟩ := hk3.form
  have hw3 := madeB_weigh l
  have hl3 := length_le_weigh (madeB l)
  have HROW := Lib.hid (madeB_ok l)
  have HDEEP := Lib.hid (madeB_deep l)
  generalize madeB l = ks at *
  clear hk3 hb1 hb3
  go_wp2_with fail
  obtain ⟨t, ht⟩ : ∃ t : Nat, max 0 (min turn (ks.length : Int)) = t := ⟨(max 0 (min turn (ks.length : Int))).toNat, by omega⟩
  have htl : t ≤ ks.length := by omega
  rw [ht]
  clear ht
  have HEA : Hid (((W3.alloc (Obj.cells #[] 26)).drew).heap[W3.heap.size]? = some (Obj.cells #[] 26)) := Lib.hid (heap_new _ _)
  have HBA : Hid (Below W3.heap.size W3 ((W3.alloc (Obj.cells #[] 26)).drew)) := Lib.hid ((Below.refl _ _).alloc (Nat.le_refl _) _).drew
  have HML : Hid ((ks.drop t).length + (ks.take t).length ≤ 1000000) := Lib.hid (by rw [List.length_drop, List.length_take]; omega)
  have hml : (ks.drop t).length ≤ 1000000 := by rw [List.length_drop]; omega
  go_cut [8] (fun s8 wx => TwiceMid W3 (turnB ks t) s8 wx)
  case first =>
    by_cases hpos : 0 < ks.length
    · obtain ⟨b, o, rfl, _, _⟩ := HK3.out.get hpos
      have HF : Hid (Kids W3 (Under W3.heap.size) (.slice (some ⟨b, o, none⟩) t c4) (ks.take t)) := Lib.hid (HK3.out.front htl)
      by_cases htc : t = c4
      · subst htc
        have HKB : Hid (Kids W3 (Under W3.heap.size) (.slice (some ⟨b, o, none⟩) 0 0) (ks.drop t)) := Lib.hid (by rw [List.drop_of_length_le (by omega)]; exact kids_empty _)
        go_region_law (first
          | ((with_reducible refine step_app1 (Nat.le_refl _) (x := .slice (some ⟨b, o, none⟩) 0 0) rfl (.tmp 22) (.tmp 25) rfl rfl rfl HEA.out (Nat.le_refl _) HBA.out HKB.out hml ?_); intro v6 w6 hown6 hB6 hk6; have HO6 := Lib.hid hown6; clear hk6 hown6)
          | (refine step_app2 (Nat.le_refl _) (v := v6) (L2 := ks.take t) rfl (.tmp 26) (.tmp 29) rfl rfl rfl HO6.out hB6 (HF.out.below hB6).src HML.out ?_; intro v9 w9 hown9 hB9; have HM := Lib.hid (twiceMid_of hown9 hB9); clear hown9 hB9))
        all_goals
          go_wp2_with fail
          go_meet
          exact HM.out
      · have htc' : t < c4 := by omega
        have hif : ¬ c4 = t := by omega
        have htc2 : t ≤ c4 := by omega
        have HKB : Hid (Kids W3 (Under W3.heap.size) (.slice (some ⟨b, o + t * 5, none⟩) (ks.length - t) (c4 - t)) (ks.drop t)) := Lib.hid (HK3.out.back htl)
        go_region_law (first
          | ((with_reducible refine step_app1 (Nat.le_refl _) (x := .slice (some ⟨b, o + t * 5, none⟩) (ks.length - t) (c4 - t)) rfl (.tmp 22) (.tmp 25) rfl rfl rfl HEA.out (Nat.le_refl _) HBA.out HKB.out hml ?_); intro v6 w6 hown6 hB6 hk6; have HO6 := Lib.hid hown6; clear hk6 hown6)
          | (refine step_app2 (Nat.le_refl _) (v := v6) (L2 := ks.take t) rfl (.tmp 26) (.tmp 29) rfl rfl rfl HO6.out hB6 (HF.out.below hB6).src HML.out ?_; intro v9 w9 hown9 hB9; have HM := Lib.hid (twiceMid_of hown9 hB9); clear hown9 hB9))
        all_goals
          go_wp2_with fail
          go_meet
          exact HM.out
    · have hks : ks = [] := List.eq_nil_of_length_eq_zero (by omega)
      subst hks
      obtain rfl : t = 0 := by simpa using htl
      have hcm : c4 ≤ maxLen := by obtain ⟨_, _, hv, _, h, _⟩ := HK3.out; injection hv with _ _ hv; rw [hv]; exact h
      have HKE : Hid (∀ A', Kids W3 (Under W3.heap.size) (.slice A' 0 c4) []) := Lib.hid (fun A' => ⟨A', c4, rfl, Nat.zero_le _, hcm, .inl rfl⟩)
      rw [show (([] : List Tree).length : Int) = 0 from rfl, show ([] : List Tree).length = 0 from rfl, show ((0 : Nat) : Int) = 0 from rfl]
      clear HK3 HML hml hcm HROW HDEEP hw3 hl3 hc4 htl hpos
      cases A4 with
      | none =>
        go_region_law (first
          | ((with_reducible refine step_app1 (Nat.le_refl _) (L := []) (x := .slice none 0 c4) rfl (.tmp 22) (.tmp 25) rfl rfl rfl HEA.out (Nat.le_refl _) HBA.out (HKE.out _) (Nat.zero_le _) ?_); intro v6 w6 hown6 hB6 hk6; have HO6 := Lib.hid hown6; clear hk6 hown6)
          | (refine step_app2 (Nat.le_refl _) (v := v6) (L := []) (L2 := []) (x := .slice none 0 c4) rfl (.tmp 26) (.tmp 29) rfl rfl rfl HO6.out hB6 ((HKE.out _).below hB6).src (Nat.zero_le _) ?_; intro v9 w9 hown9 hB9; have HM := Lib.hid (twiceMid_of hown9 hB9); clear hown9 hB9))
        all_goals
          go_wp2_with fail
          go_meet
          exact HM.out
      | some a =>
        by_cases hc0 : c4 = 0
        · subst hc0
          go_region_law (first
            | ((with_reducible refine step_app1 (Nat.le_refl _) (L := []) (x := .slice (some a) 0 0) rfl (.tmp 22) (.tmp 25) rfl rfl rfl HEA.out (Nat.le_refl _) HBA.out (HKE.out _) (Nat.zero_le _) ?_); intro v6 w6 hown6 hB6 hk6; have HO6 := Lib.hid hown6; clear hk6 hown6)
            | (refine step_app2 (Nat.le_refl _) (v := v6) (L := []) (L2 := []) (x := .slice (some a) 0 0) rfl (.tmp 26) (.tmp 29) rfl rfl rfl HO6.out hB6 ((HKE.out _).below hB6).src (Nat.zero_le _) ?_; intro v9 w9 hown9 hB9; have HM := Lib.hid (twiceMid_of hown9 hB9); clear hown9 hB9))
          all_goals
            go_wp2_with fail
            go_meet
            exact HM.out
        · have hc0' : ¬ c4 = 0 := hc0
          go_region_law (first
            | ((with_reducible refine step_app1 (Nat.le_refl _) (L := []) (x := .slice (some a) 0 c4) rfl (.tmp 22) (.tmp 25) rfl rfl rfl HEA.out (Nat.le_refl _) HBA.out (HKE.out _) (Nat.zero_le _) ?_); intro v6 w6 hown6 hB6 hk6; have HO6 := Lib.hid hown6; clear hk6 hown6)
            | (refine step_app2 (Nat.le_refl _) (v := v6) (L := []) (L2 := []) (x := .slice (some a) 0 c4) rfl (.tmp 26) (.tmp 29) rfl rfl rfl HO6.out hB6 ((HKE.out _).below hB6).src (Nat.zero_le _) ?_; intro v9 w9 hown9 hB9; have HM := Lib.hid (twiceMid_of hown9 hB9); clear hown9 hB9))
          all_goals
            go_wp2_with fail
            go_meet
            exact HM.out
  case rest =>
    obtain ⟨A5, c5, rfl, hk5, hb5⟩ := hcut
    have hB5 := belowNext hB3 hb5
    have HWT : Hid (weighAll (turnB ks t) ≤ 760) := Lib.hid (by rw [turnB_weigh]; exact hw3)
    have HFM : Hid (∀ x ∈ turnB ks t, formedB x = true) := Lib.hid (fun x hx => row_formed ks none HROW.out x (turnB_mem hx))
    have HDT : Hid (deepB (turnB ks t) ≤ 19) := Lib.hid (by rw [turnB_deep]; exact HDEEP.out)
    have HK5 := Lib.hid hk5
    generalize turnB ks t = T at *
    clear hk5 hb5 hB3 HK3 HEA HBA HML hml HROW HDEEP
    have HRJ := Lib.hid (joinB_row T HFM.out)
    have HDJ : Hid (deepB (joinB T) ≤ 19) := Lib.hid (Nat.le_trans (joinB_deep T) HDT.out)
    have HWJ : Hid (weighAll (joinB T) ≤ 760) := Lib.hid (Nat.le_trans (joinB_weigh T) HWT.out)
    have HSJ := Lib.hid (joinB_stays (joinB T) HRJ.out)
    have HTJ := Lib.hid (joinB_total T HFM.out)
    have HOJ := Lib.hid (joinB_words T)
    have hT760 := HWT.out
    have hJ760 := HWJ.out
    have hlT := length_le_weigh T
    have hlJ := length_le_weigh (joinB T)
    go_wp2_with fail
    refine (join_any _ T wc HK5.out (by omega)).mono ?_
    rintro e w6 ⟨v6, rfl, hk6, hb6⟩
    have HK6 := Lib.hid hk6
    obtain ⟨A6, c6, rfl, hc6⟩ := hk6.form
    clear hk6
    go_wp2_with fail
    refine (join_any _ (joinB T) w6 HK6.out (by omega)).mono ?_
    rintro e w7 ⟨v7, rfl, hk7, hb7⟩
    rw [HSJ.out] at hk7
    have HK7 := Lib.hid hk7
    obtain ⟨A7, c7, rfl, hc7⟩ := hk7.form
    clear hk7
    generalize hJ : joinB T = J at *
    clear hJ
    have hB6 := belowNext hb6 hb7
    have HS1 : Hid (sizeB (docOf J) = 2 + totalB J) := Lib.hid (docOf_size J)
    have HS2 : Hid (wordsB (docOf J) = wordsB (docOf T)) := Lib.hid (by rw [docOf_words, docOf_words]; exact HOJ.out)
    have HS3 : Hid (checkB (docOf J) = 0) := Lib.hid (docOf_right J HRJ.out HDJ.out HWJ.out)
    have hd1 := docOf_weigh J HWJ.out
    have hd2 := docOf_weigh T HWT.out
    have htt := total_le_weigh T
    have htj := total_le_weigh J
    go_wp2_with fail
    generalize hW8 : w7.alloc (.cells #[.string ⟨#[100, 111, 99]⟩, .string ⟨#[]⟩, .slice none 0 0, .slice none 0 0, .slice A6 J.length c6] 26) = W8
    obtain ⟨x0, x1, x2, x3, x4, hbx, hzx⟩ := box5 (w := w7) (T := 26) (v0 := .string ⟨#[100, 111, 99]⟩) (v1 := .string ⟨#[]⟩) (v2 := .slice none 0 0) (v3 := .slice none 0 0) (v4 := .slice A6 J.length c6) (Below.refl _ _)
    rw [hW8] at x0 x1 x2 x3 x4 hbx hzx
    have hB8 := belowNext hB6 hbx
    have HKT : Hid (Kids W8 (Under W8.heap.size) (.slice A5 T.length c5) T) := Lib.hid ((HK5.out.below hB8).more hB8.size)
    have HKJ : Hid (Kids W8 (Under W8.heap.size) (.slice A6 J.length c6) J) := Lib.hid ((HK6.out.below (belowNext hb7 hbx)).more (belowNext hb7 hbx).size)
    have HKM : Hid (Kids W8 (Under W8.heap.size) (.slice A7 J.length c7) J) := Lib.hid ((HK7.out.below hbx).more hbx.size)
    have HT8 := Lib.hid (HT.out.below (belowNext hB5 hB8))
    have HND : Hid (Node W8 (Under W8.heap.size) (.agg #[.string ⟨#[100, 111, 99]⟩, .string ⟨#[]⟩, .slice none 0 0, .slice none 0 0, .slice A6 J.length c6]) (docOf J)) := Lib.hid ⟨_, _, _, rfl, strs_none, pairs_none, HKJ.out⟩
    have HNT : Hid (Node W8 (Under W8.heap.size) (.agg #[.string ⟨#[100, 111, 99]⟩, .string ⟨#[]⟩, .slice none 0 0, .slice none 0 0, .slice A5 T.length c5]) (docOf T)) := Lib.hid ⟨_, _, _, rfl, strs_none, pairs_none, HKT.out⟩
    clear hW8 hbx
    refine (sameAll_any _ _ J W8 HKJ.out HKM.out (by omega)).mono ?_
    rintro e w9 ⟨rfl, hb9⟩
    replace x0 := cell_kept x0 hb9
    replace x1 := cell_kept x1 hb9
    replace x2 := cell_kept x2 hb9
    replace x3 := cell_kept x3 hb9
    replace x4 := cell_kept x4 hb9
    go_wp2_with fail
    refine (total_any _ J w9 ((HKJ.out.below hb9).more hb9.size) (by omega)).mono ?_
    rintro e w10 ⟨rfl, hb10⟩
    rw [HTJ.out]
    replace x0 := cell_kept x0 hb10
    replace x1 := cell_kept x1 hb10
    replace x2 := cell_kept x2 hb10
    replace x3 := cell_kept x3 hb10
    replace x4 := cell_kept x4 hb10
    have hA10 := belowNext hb9 hb10
    go_wp2_with fail
    refine (total_any _ T w10 ((HKT.out.below hA10).more hA10.size) (by omega)).mono ?_
    rintro e w11 ⟨rfl, hb11⟩
    replace x0 := cell_kept x0 hb11
    replace x1 := cell_kept x1 hb11
    replace x2 := cell_kept x2 hb11
    replace x3 := cell_kept x3 hb11
    replace x4 := cell_kept x4 hb11
    have hA11 := belowNext hA10 hb11
    go_wp2_with fail
    refine (words_any _ (docOf J) w11 ((HND.out.below hA11).more hA11.size) hd1).mono ?_
    rintro e w12 ⟨rfl, hb12⟩
    rw [HS2.out]
    replace x0 := cell_kept x0 hb12
    replace x1 := cell_kept x1 hb12
    replace x2 := cell_kept x2 hb12
    replace x3 := cell_kept x3 hb12
    replace x4 := cell_kept x4 hb12
    have hA12 := belowNext hA11 hb12
    go_wp2_with fail
    refine (words_any _ (docOf T) w12 ((HNT.out.below hA12).more hA12.size) hd2).mono ?_
    rintro e w13 ⟨rfl, hb13⟩
    replace x0 := cell_kept x0 hb13
    replace x1 := cell_kept x1 hb13
    replace x2 := cell_kept x2 hb13
    replace x3 := cell_kept x3 hb13
    replace x4 := cell_kept x4 hb13
    have hA13 := belowNext hA12 hb13
    generalize wordsB (docOf T) = ws at *
    go_wp2_with fail
    refine (check_any _ (docOf J) w13 ((HND.out.below hA13).more hA13.size) hd1 (HT8.out.below hA13)).mono ?_
    rintro e w14 ⟨rfl, hb14⟩
    rw [HS3.out]
    replace x0 := cell_kept x0 hb14
    replace x1 := cell_kept x1 hb14
    replace x2 := cell_kept x2 hb14
    replace x3 := cell_kept x3 hb14
    replace x4 := cell_kept x4 hb14
    have hA14 := belowNext hA13 hb14
    go_wp2_with fail
    refine (size_any _ (docOf J) w14 ((HND.out.below hA14).more hA14.size) hd1).mono ?_
    rintro e w15 ⟨rfl, hb15⟩
    rw [HS1.out]
    replace x0 := cell_kept x0 hb15
    replace x1 := cell_kept x1 hb15
    replace x2 := cell_kept x2 hb15
    replace x3 := cell_kept x3 hb15
    replace x4 := cell_kept x4 hb15
    have hA15 := belowNext hA14 hb15
    go_wp2_with fail
    refine (total_any _ J w15 ((HKJ.out.below hA15).more hA15.size) (by omega)).mono ?_
    rintro e w16 ⟨rfl, hb16⟩
    have hA16 := belowNext hA15 hb16
    clear x0 x1 x2 x3 x4
    have hq : (((2 + totalB J : Nat) : Int) == 2 + (totalB J : Int)) = true := by rw [beq_iff_eq]; omega
    go_wp2
    go_ret
    exact ⟨rfl, belowNext hB5 (belowNext hB8 hA16)⟩
end Go.Proofs.YtjfjmcdfomanfaaDoor
