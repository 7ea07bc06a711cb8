/-
  The reader's attrs.
-/
import Derived.Test.YtdcgffepdgldmaaDoorD6
namespace Go.Proofs.YtdcgffepdgldmaaDoor
open Go.RowKit Go.Sort Go.Maps

set_option maxHeartbeats 4000000 in
set_option maxRecDepth 100000 in
theorem rd_attrs (R : Nat) (lq : List UInt8) (x : Bool) (w : World) (h : Rd w R lq x) (hl : lq.length ≤ 10000000) :
    Calls Tryd.prog 101 #[.pointer (some ⟨R, 0, none⟩)] w fun e w' =>
      ∃ v, e = .returned v ∧ PRow w' w.heap.size v (attrsL lq).1 ∧ Rd w' R (attrsL lq).2.1 (x || (attrsL lq).2.2) ∧ OnlyR R w w' := by
  have hRw := h.lt
  go_enter Tryd.func101, Tryd.ntmps101
  go_wp2_with fail
  refine (rd_take R lq x ⟨#[40]⟩ w h).mono ?_
  rintro e w1 ⟨rfl, h1, o1⟩
  have H1 := Lib.hid h1
  have O1 := Lib.hid o1
  have hw1 := o1.size
  clear h h1 o1
  by_cases hp : Lib.hasPrefix lq (⟨#[40]⟩ : ByteArray).data.toList = true
  · have h1 := H1.out
    rw [trim_yes hp] at h1
    have HM : Hid (attrsL lq = ((attrL (lq.drop 1)).1 :: (restAttrs ((attrL (lq.drop 1)).2.getD [])).1, wantL [41] (restAttrs ((attrL (lq.drop 1)).2.getD [])).2.1,
      ((attrL (lq.drop 1)).2.isNone || (restAttrs ((attrL (lq.drop 1)).2.getD [])).2.2) || !Lib.hasPrefix (restAttrs ((attrL (lq.drop 1)).2.getD [])).2.1 [41])) := Lib.hid (by unfold attrsL; exact if_pos hp)
    change Rd w1 R (lq.drop 1) x at h1
    have hl1 : (lq.drop 1).length ≤ 10000000 := by rw [List.length_drop]; omega
    rw [hp]
    generalize lq.drop 1 = l1 at *
    have H2 := Lib.hid h1
    clear h1 H1 hp
    go_wp2_with fail
    refine (rd_attr R l1 x w1 H2.out (by omega)).mono ?_
    rintro e w2 ⟨rfl, h3, o3⟩
    have hw2 := o3.size
    have O3 := Lib.hid (O1.out.trans o3)
    have H3 := Lib.hid h3
    clear h3 o3
    have hl2 : ((attrL l1).2.getD []).length ≤ 10000000 := Nat.le_trans (attr_le l1) hl1
    have HM2 := Lib.hid HM.out
    clear HM hl1
    generalize (attrL l1).1 = n1 at *
    generalize (attrL l1).2.getD [] = l2 at *
    generalize (attrL l1).2.isNone = x1 at *
    have hon : PRow (w2.alloc (.cells #[.string n1.1, .string n1.2] 48)) w.heap.size (.slice (some ⟨w2.heap.size, 0, none⟩) 1 1) [n1] := World.ownsRow_lit w2 #[.string n1.1, .string n1.2] 1 (by omega) (by unfold maxLen; omega) rfl
    have HON := Lib.hid hon
    have hbl : Below w2.heap.size w2 (w2.alloc (.cells #[.string n1.1, .string n1.2] 48)) := (Below.refl _ _).alloc (Nat.le_refl _) _
    have HBL := Lib.hid hbl
    clear hon hbl
    go_wp2
    go_loopg [3] l2.length (fun g s3 wx => ∃ (m : List (ByteArray × ByteArray)) (l' : List UInt8) (x' : Bool), l'.length ≤ g ∧ m.length + l'.length ≤ 10000001 ∧ PRow wx w.heap.size s3 m ∧ Rd wx R l' x' ∧ OnlyR R w wx ∧ m ++ (restAttrs l').1 = n1 :: (restAttrs l2).1 ∧ (restAttrs l').2.1 = (restAttrs l2).2.1 ∧ (x' || (restAttrs l').2.2) = ((x || x1) || (restAttrs l2).2.2))
    case atStart =>
      exact ⟨[n1], l2, x || x1, Nat.le_refl _, by simp; omega, HON.out, H3.out.below HBL.out, O3.out.thenBelow HBL.out (by omega), rfl, rfl, rfl⟩
    case round =>
      obtain ⟨m, l', x', hg, hml, hs, hr, ho, hq1, hq2, hq3⟩ := hrel
      have HS := Lib.hid hs
      have HR := Lib.hid hr
      have HO := Lib.hid ho
      have HQ1 := Lib.hid hq1
      have HQ2 := Lib.hid hq2
      have HQ3 := Lib.hid hq3
      have hz := ho.size
      clear hs hr ho hq1 hq2 hq3
      go_wp2_with fail
      refine (rd_take R l' x' ⟨#[32]⟩ wr HR.out).mono ?_
      rintro e w3 ⟨rfl, h3, o3⟩
      have hz3 := o3.size
      have HO3 := Lib.hid (HO.out.trans o3)
      have HS3 := Lib.hid (ownsRow_only HS.out o3 hRw)
      have HR3 := Lib.hid h3
      clear h3 o3
      by_cases hc : Lib.hasPrefix l' (⟨#[32]⟩ : ByteArray).data.toList = true
      · have h3 := HR3.out
        rw [trim_yes hc] at h3
        change Rd w3 R (l'.drop 1) x' at h3
        have HY := Lib.hid (restAttrs_yes hc)
        have hne : 1 ≤ l'.length := by
          cases l' with
          | nil => simp [Lib.hasPrefix, List.isPrefixOf] at hc
          | cons _ _ => simp
        have hl4 : (l'.drop 1).length + 1 = l'.length := by rw [List.length_drop]; omega
        rw [hc]
        generalize l'.drop 1 = l4 at *
        have HR4 := Lib.hid h3
        clear h3 HR3 hc
        go_wp2_with fail
        refine (rd_attr R l4 x' w3 HR4.out (by omega)).mono ?_
        rintro e w4 ⟨rfl, h5, o5⟩
        have hz5 := o5.size
        have HO5 := Lib.hid (HO3.out.trans o5)
        have hs5 := ownsRow_only HS3.out o5 hRw
        have hl5 := attr_le l4
        have hy := HY.out
        generalize (attrL l4).1 = n5 at *
        generalize (attrL l4).2.getD [] = l5 at *
        generalize (attrL l4).2.isNone = x5 at *
        have HY5 := Lib.hid hy
        have HS5 : Hid ((w4.alloc (.cells #[.string n5.1, .string n5.2] 48)).ownsRow w.heap.size 48 2 u3 m.length (flatA m)) := Lib.hid (World.ownsRow.alloc hs5 _)
        have HB5 : Hid (Below w4.heap.size w4 (w4.alloc (.cells #[.string n5.1, .string n5.2] 48))) := Lib.hid ((Below.refl _ _).alloc (Nat.le_refl _) _)
        have HC5 : Hid (∀ j u, [Value.string n5.1, Value.string n5.2][j]? = some u → (w4.alloc (.cells #[.string n5.1, .string n5.2] 48)).cell? ⟨w4.heap.size, j, none⟩ = some u) := Lib.hid fun j u hj => fresh_cell w4 #[.string n5.1, .string n5.2] _ j u (by simpa using hj)
        have HR5 := Lib.hid (h5.below HB5.out)
        have hz6 := HB5.out.size
        have HLT := hs5.lt
        have HL5 : Hid (∀ k, Value.ownBlock u3 = some k → w.heap.size ≤ k) := Lib.hid fun k hk => (HLT k hk).1
        clear h5 o5 hs5 hy HY HLT
        go_wp2_with (at_builtin; refine wpList_append_gen Tryd.underlying24 pair_info rfl (by decide) (by decide) rfl (.tmp 12) (.tmp 15) rfl w.heap.size u3 m.length _ w4.heap.size 1 [.string n5.1, .string n5.2] rfl rfl HS5.out rfl HC5.out (by intro u hu; simp only [List.mem_cons, List.not_mem_nil, or_false] at hu; rcases hu with rfl | rfl <;> rfl) (by omega) (by omega) ?_; intro v' w6 hown' hg')
        have hsr : PRow w6 w.heap.size v' (m ++ [n5]) := by unfold PRow; rw [List.length_append, flatA_append]; exact hown'
        have HSR := Lib.hid hsr
        have hbw : Below w.heap.size (w4.alloc (.cells #[.string n5.1, .string n5.2] 48)) w6 := (Below.refl _ _).grown hg' (by omega) HL5.out
        have HR6 := Lib.hid (HR5.out.under hbw hRw)
        have HO6 := Lib.hid ((HO5.out.thenBelow HB5.out (by omega)).thenBelow hbw (Nat.le_refl _))
        clear hsr hown' hg' hbw
        go_wp2
        go_roundg l5.length
        case measure => omega
        case rel =>
          refine ⟨m ++ [n5], l5, x' || x5, Nat.le_refl _, by rw [List.length_append, List.length_singleton]; omega, HSR.out, HR6.out, HO6.out, ?_, ?_, ?_⟩
          · rw [← HQ1.out, HY5.out, List.append_assoc]; rfl
          · rw [← HQ2.out, HY5.out]
          · rw [← HQ3.out, HY5.out, Bool.or_assoc]
      · have hcf : Lib.hasPrefix l' (⟨#[32]⟩ : ByteArray).data.toList = false := Bool.eq_false_iff.2 hc
        have h3 := HR3.out
        rw [trim_no hcf] at h3
        have e1 := HQ1.out
        have e2 := HQ2.out
        have e3 := HQ3.out
        rw [restAttrs_no hcf] at e1 e2 e3
        have HE1 := Lib.hid ((List.append_nil m).symm.trans e1)
        have HE2 : Hid (l' = (restAttrs l2).2.1) := Lib.hid e2
        have HE3 : Hid (x' = ((x || x1) || (restAttrs l2).2.2)) := Lib.hid ((Bool.or_false x').symm.trans e3)
        have HR4 := Lib.hid h3
        clear h3 HR3 e1 e2 e3 hc
        rw [hcf]
        go_wp2_with fail
        refine (rd_want R l' x' ⟨#[41]⟩ w3 HR4.out).mono ?_
        rintro e w4 ⟨rfl, h4, o4⟩
        have HO4 := Lib.hid (HO3.out.trans o4)
        have HS4 := Lib.hid (ownsRow_only HS3.out o4 hRw)
        have HR5 := Lib.hid h4
        clear h4 o4
        go_wp2
        go_ret
        refine ⟨_, rfl, ?_, ?_, HO4.out⟩
        · rw [HM2.out]; show PRow w4 w.heap.size _ (n1 :: _); rw [← HE1.out]; exact HS4.out
        · rw [HM2.out]
          show Rd w4 R (wantL [41] (restAttrs l2).2.1) (x || ((x1 || (restAttrs l2).2.2) || !Lib.hasPrefix (restAttrs l2).2.1 [41]))
          have := HR5.out
          rw [HE3.out, HE2.out] at this
          rw [← Bool.or_assoc, ← Bool.or_assoc]
          exact this
  · have hpf : Lib.hasPrefix lq (⟨#[40]⟩ : ByteArray).data.toList = false := Bool.eq_false_iff.2 hp
    have HM : Hid (attrsL lq = ([], lq, false)) := Lib.hid (by unfold attrsL; exact if_neg hp)
    have h1 := H1.out
    rw [trim_no hpf] at h1
    have H2 := Lib.hid h1
    clear h1 H1 hp
    rw [hpf]
    go_wp2
    go_ret
    refine ⟨_, rfl, ?_, ?_, O1.out⟩
    · rw [HM.out]; exact World.ownsRow_nil _ _ _ _
    · rw [HM.out]; simpa using H2.out
end Go.Proofs.YtdcgffepdgldmaaDoor
