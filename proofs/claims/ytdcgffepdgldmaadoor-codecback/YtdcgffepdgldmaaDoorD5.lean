/-
  append of one thing to a row of the call's own; the reader's marks.
-/
import Derived.Test.YtdcgffepdgldmaaDoorD4
import Derived.Test.YtdcgffepdgldmaaDoorAp
namespace Go.Proofs.YtdcgffepdgldmaaDoor
open Go.RowKit Go.Sort Go.Maps

theorem ownsRow_only {w w' : World} {R base : Nat} {e : TypeId} {size : Nat} {v : Value} {n : Nat} {xs : List Value} (h : w.ownsRow base e size v n xs) (o : OnlyR R w w') (hR : R < base) : w'.ownsRow base e size v n xs := by
  refine ⟨h.1, ?_⟩
  rcases h.2 with hn | ⟨g, cap, cur, hv, hb, hg, rest⟩
  · exact .inl hn
  · exact .inr ⟨g, cap, cur, hv, hb, (o.block g (Array.getElem?_eq_some_iff.1 hg).1 (by omega)).trans hg, rest⟩

theorem drops_le (l : List UInt8) : (l.dropWhile small).length ≤ l.length := (List.dropWhile_sublist small).length_le
/-- The names behind the first, each with its comma ahead; and what is left. -/
def restNames (l : List UInt8) : List ByteArray × List UInt8 :=
  match l with
  | [] => ([], [])
  | c :: r => if c == 44 then (⟨(r.takeWhile small).toArray⟩ :: (restNames (r.dropWhile small)).1, (restNames (r.dropWhile small)).2) else ([], c :: r)
termination_by l.length
decreasing_by all_goals (have := drops_le r; simp only [List.length_cons]; omega)

theorem restNames_yes {l : List UInt8} (h : Lib.hasPrefix l [44] = true) : restNames l = (⟨((l.drop 1).takeWhile small).toArray⟩ :: (restNames ((l.drop 1).dropWhile small)).1, (restNames ((l.drop 1).dropWhile small)).2) := by
  cases l with
  | nil => simp [Lib.hasPrefix, List.isPrefixOf] at h
  | cons c r =>
    have hc : (c == 44) = true := by simp [Lib.hasPrefix, List.isPrefixOf] at h; simp [h]
    rw [restNames.eq_def]; simp only [hc, if_true]; rfl
theorem restNames_no {l : List UInt8} (h : Lib.hasPrefix l [44] = false) : restNames l = ([], l) := by
  cases l with
  | nil => rw [restNames.eq_def]
  | cons c r =>
    have hc : (c == 44) = false := by simp [Lib.hasPrefix, List.isPrefixOf] at h; simp; exact fun e => h e.symm
    rw [restNames.eq_def]; simp only [hc]; rfl

/-- Marks: what they are, what is left, whether they stand right. -/
def marksL (l : List UInt8) : List ByteArray × List UInt8 × Bool :=
  if Lib.hasPrefix l [60] then
    (⟨((l.drop 1).takeWhile small).toArray⟩ :: (restNames ((l.drop 1).dropWhile small)).1, wantL [62] (restNames ((l.drop 1).dropWhile small)).2, Lib.hasPrefix (restNames ((l.drop 1).dropWhile small)).2 [62])
  else ([], l, true)

/-- A row of strings of the call's own. -/
def SRow (w : World) (base : Nat) (v : Value) (m : List ByteArray) : Prop := w.ownsRow base 9 1 v m.length (m.map .string)
theorem SRow.strs {w : World} {base : Nat} {v : Value} {m : List ByteArray} (h : SRow w base v m) : Strs w (From base w.heap.size) v m := by
  rcases h.2 with ⟨rfl, hm⟩ | ⟨g, cap, cur, rfl, hb, hg, hnc, hcap, hsz, htk⟩
  · exact ⟨none, 0, by rw [hm], by omega, by unfold maxLen; omega, .inl (List.eq_nil_of_length_eq_zero hm)⟩
  · refine ⟨_, cap, rfl, hnc, hcap, .inr ⟨g, 0, rfl, ⟨hb, (Array.getElem?_eq_some_iff.1 hg).1⟩, fun i s hi => ?_⟩⟩
    have hlt : i < m.length := (List.getElem?_eq_some_iff.1 hi).1
    have e : (m.map Value.string)[i]? = some (.string s) := by rw [List.getElem?_map, hi]; rfl
    rw [← htk, List.getElem?_take, if_pos (by omega)] at e
    rw [Nat.zero_add]
    simpa [World.cell?, hg] using e

set_option maxHeartbeats 4000000 in
set_option maxRecDepth 100000 in
theorem rd_marks (R : Nat) (lq : List UInt8) (x : Bool) (w : World) (h : Rd w R lq x) (hl : lq.length ≤ 10000000) :
    Calls Tryd.prog 98 #[.pointer (some ⟨R, 0, none⟩)] w fun e w' =>
      ∃ v, e = .returned v ∧ SRow w' w.heap.size v (marksL lq).1 ∧ Rd w' R (marksL lq).2.1 (x || !(marksL lq).2.2) ∧ OnlyR R w w' := by
  have hRw := h.lt
  go_enter Tryd.func98, Tryd.ntmps98
  go_wp2_with fail
  refine (rd_take R lq x ⟨#[60]⟩ w h).mono ?_
  rintro e w1 ⟨rfl, h1, o1⟩
  have H1 := Lib.hid h1
  have O1 := Lib.hid o1
  have hw1 := o1.size
  clear h h1 o1
  by_cases hp : Lib.hasPrefix lq (⟨#[60]⟩ : ByteArray).data.toList = true
  · have h1 := H1.out
    rw [trim_yes hp] at h1
    have HM : Hid (marksL lq = (⟨((lq.drop 1).takeWhile small).toArray⟩ :: (restNames ((lq.drop 1).dropWhile small)).1, wantL [62] (restNames ((lq.drop 1).dropWhile small)).2, Lib.hasPrefix (restNames ((lq.drop 1).dropWhile small)).2 [62])) := Lib.hid (by unfold marksL; exact if_pos hp)
    change Rd w1 R (lq.drop 1) x at h1
    have hl1 : (lq.drop 1).length ≤ 10000000 := by rw [List.length_drop]; omega
    rw [hp]
    generalize lq.drop 1 = l1 at *
    have H2 := Lib.hid h1
    clear h1 H1 hp
    go_wp2_with fail
    refine (rd_name R l1 x w1 H2.out (by omega)).mono ?_
    rintro e w2 ⟨rfl, h3, o3⟩
    have hw2 := o3.size
    have O3 := Lib.hid (O1.out.trans o3)
    have H3 := Lib.hid h3
    clear h3 o3
    obtain ⟨n1, hn1⟩ : ∃ n1 : ByteArray, n1 = ⟨(l1.takeWhile small).toArray⟩ := ⟨_, rfl⟩
    have hl2 : (l1.dropWhile small).length ≤ 10000000 := Nat.le_trans (drops_le l1) hl1
    have hm := HM.out
    rw [← hn1] at hm ⊢
    have HM2 := Lib.hid hm
    clear hm HM hn1 hl1
    generalize l1.dropWhile small = l2 at *
    have hon : SRow (w2.alloc (.cells #[.string n1] 9)) w.heap.size (.slice (some ⟨w2.heap.size, 0, none⟩) 1 1) [n1] := World.ownsRow_lit w2 #[.string n1] 1 (by omega) (by unfold maxLen; omega) rfl
    have HON := Lib.hid hon
    have hbl : Below w2.heap.size w2 (w2.alloc (.cells #[.string n1] 9)) := (Below.refl _ _).alloc (Nat.le_refl _) _
    have HBL := Lib.hid hbl
    clear hon hbl
    go_wp2
    go_loopg [3] l2.length (fun g s3 wx => ∃ (m : List ByteArray) (l' : List UInt8), l'.length ≤ g ∧ m.length + l'.length ≤ 10000001 ∧ SRow wx w.heap.size s3 m ∧ Rd wx R l' x ∧ OnlyR R w wx ∧ m ++ (restNames l').1 = n1 :: (restNames l2).1 ∧ (restNames l').2 = (restNames l2).2)
    case atStart =>
      exact ⟨[n1], l2, Nat.le_refl _, by simp; omega, HON.out, H3.out.below HBL.out, O3.out.thenBelow HBL.out (by omega), rfl, rfl⟩
    case round =>
      obtain ⟨m, l', hg, hml, hs, hr, ho, hq1, hq2⟩ := hrel
      have HS := Lib.hid hs
      have HR := Lib.hid hr
      have HO := Lib.hid ho
      have HQ1 := Lib.hid hq1
      have HQ2 := Lib.hid hq2
      have hz := ho.size
      clear hs hr ho hq1 hq2
      go_wp2_with fail
      refine (rd_take R l' x ⟨#[44]⟩ wr HR.out).mono ?_
      rintro e w3 ⟨rfl, h3, o3⟩
      have hz3 := o3.size
      have HO3 := Lib.hid (HO.out.trans o3)
      have HS3 := Lib.hid (ownsRow_only HS.out o3 hRw)
      have HR3 := Lib.hid h3
      clear h3 o3
      by_cases hc : Lib.hasPrefix l' (⟨#[44]⟩ : ByteArray).data.toList = true
      · have h3 := HR3.out
        rw [trim_yes hc] at h3
        change Rd w3 R (l'.drop 1) x at h3
        have HY := Lib.hid (restNames_yes hc)
        have hne : 1 ≤ l'.length := by
          cases l' with
          | nil => simp [Lib.hasPrefix, List.isPrefixOf] at hc
          | cons _ _ => simp
        have hl4 : (l'.drop 1).length + 1 = l'.length := by rw [List.length_drop]; omega
        rw [hc]
        generalize l'.drop 1 = l4 at *
        have HR4 := Lib.hid h3
        clear h3 HR3 hc
        go_wp2_with fail
        refine (rd_name R l4 x w3 HR4.out (by omega)).mono ?_
        rintro e w4 ⟨rfl, h5, o5⟩
        have hz5 := o5.size
        have HO5 := Lib.hid (HO3.out.trans o5)
        have hs5 := ownsRow_only HS3.out o5 hRw
        have hl5 := drops_le l4
        obtain ⟨n5, hn5⟩ : ∃ n5 : ByteArray, n5 = ⟨(l4.takeWhile small).toArray⟩ := ⟨_, rfl⟩
        have hy := HY.out
        rw [← hn5] at hy ⊢
        generalize l4.dropWhile small = l5 at *
        have HY5 := Lib.hid hy
        have HS5 : Hid ((w4.alloc (.cells #[.string n5] 9)).ownsRow w.heap.size 9 1 u3 m.length (m.map .string)) := Lib.hid (World.ownsRow.alloc hs5 _)
        have HB5 : Hid (Below w4.heap.size w4 (w4.alloc (.cells #[.string n5] 9))) := Lib.hid ((Below.refl _ _).alloc (Nat.le_refl _) _)
        have HC5 : Hid (∀ j u, [Value.string n5][j]? = some u → (w4.alloc (.cells #[.string n5] 9)).cell? ⟨w4.heap.size, j, none⟩ = some u) := Lib.hid fun j u hj => fresh_cell w4 #[.string n5] _ j u (by simpa using hj)
        have HR5 := Lib.hid (h5.below HB5.out)
        have hz6 := HB5.out.size
        have HLT := hs5.lt
        have HL5 : Hid (∀ k, Value.ownBlock u3 = some k → w.heap.size ≤ k) := Lib.hid fun k hk => (HLT k hk).1
        clear h5 o5 hs5 hy hn5 HY HLT
        go_wp2_with (at_builtin; refine wpList_append_gen Tryd.underlying23 str_info rfl (by decide) (by decide) rfl (.tmp 12) (.tmp 15) rfl w.heap.size u3 m.length _ w4.heap.size 1 [.string n5] rfl rfl HS5.out rfl HC5.out (by intro u hu; simp only [List.mem_singleton] at hu; subst hu; rfl) (by omega) (by omega) ?_; intro v' w6 hown' hg')
        have hsr : SRow w6 w.heap.size v' (m ++ [n5]) := by unfold SRow; rw [List.length_append, List.map_append]; exact hown'
        have HSR := Lib.hid hsr
        have hbw : Below w.heap.size (w4.alloc (.cells #[.string n5] 9)) w6 := (Below.refl _ _).grown hg' (by omega) HL5.out
        have HR6 := Lib.hid (HR5.out.under hbw hRw)
        have HO6 := Lib.hid ((HO5.out.thenBelow HB5.out (by omega)).thenBelow hbw (Nat.le_refl _))
        clear hsr hown' hg' hbw
        go_wp2
        go_roundg l5.length
        case measure => omega
        case rel =>
          refine ⟨m ++ [n5], l5, Nat.le_refl _, by rw [List.length_append, List.length_singleton]; omega, HSR.out, HR6.out, HO6.out, ?_, ?_⟩
          · rw [← HQ1.out, HY5.out, List.append_assoc]; rfl
          · rw [← HQ2.out, HY5.out]
      · have hcf : Lib.hasPrefix l' (⟨#[44]⟩ : ByteArray).data.toList = false := Bool.eq_false_iff.2 hc
        have h3 := HR3.out
        rw [trim_no hcf] at h3
        have e1 := HQ1.out
        have e2 := HQ2.out
        rw [restNames_no hcf] at e1 e2
        have HE1 := Lib.hid ((List.append_nil m).symm.trans e1)
        have HE2 : Hid (l' = (restNames l2).2) := Lib.hid e2
        have HR4 := Lib.hid h3
        clear h3 HR3 e1 e2 hc
        rw [hcf]
        go_wp2_with fail
        refine (rd_want R l' x ⟨#[62]⟩ w3 HR4.out).mono ?_
        rintro e w4 ⟨rfl, h4, o4⟩
        have HO4 := Lib.hid (HO3.out.trans o4)
        have HS4 := Lib.hid (ownsRow_only HS3.out o4 hRw)
        have HR5 := Lib.hid h4
        clear h4 o4
        go_wp2
        go_ret
        refine ⟨_, rfl, ?_, ?_, HO4.out⟩
        · rw [HM2.out]; show SRow w4 w.heap.size _ (n1 :: _); rw [← HE1.out]; exact HS4.out
        · rw [HM2.out]; show Rd w4 R (wantL [62] (restNames l2).2) (x || !Lib.hasPrefix (restNames l2).2 [62]); rw [← HE2.out]; exact HR5.out
  · have hpf : Lib.hasPrefix lq (⟨#[60]⟩ : ByteArray).data.toList = false := Bool.eq_false_iff.2 hp
    have HM : Hid (marksL lq = ([], lq, true)) := Lib.hid (by unfold marksL; exact if_neg hp)
    have h1 := H1.out
    rw [trim_no hpf] at h1
    have H2 := Lib.hid h1
    clear h1 H1 hp
    rw [hpf]
    go_wp2
    go_ret
    refine ⟨_, rfl, ?_, ?_, O1.out⟩
    · rw [HM.out]; exact World.ownsRow_nil _ _ _ _
    · rw [HM.out]; simpa using H2.out
end Go.Proofs.YtdcgffepdgldmaaDoor
