/-
  CodecParts walked: a node is written as its head, and its kids as they are written.
-/
import Derived.Test.YtdcgffepdgldmaaDoorD19
import Derived.Test.YtdcgffepdgldmaaDoorC4
import Derived.Test.YtdcgffepdgldmaaDoorSameP
import Derived.Test.YtdcgffepdgldmaaDoorT1
import Derived.Lib.QuietBelow
namespace Go.Proofs.YtdcgffepdgldmaaDoor
open Go.RowKit Go.Sort Go.Maps

theorem check_parts {t : Tree} (h : checkB t = 0) : formedB t = true ∧ depthB t ≤ 40 ∧ sizeB t ≤ 4000 := by
  unfold checkB at h
  split at h
  · rename_i hf
    split at h
    · cases h
    · split at h
      · cases h
      · exact ⟨hf, by omega, by omega⟩
  · cases h
theorem depth_mem : ∀ (l : List Tree) (x : Tree), x ∈ l → depthB x ≤ deepB l
  | [], x, h => by cases h
  | y :: l, x, h => by
    rw [deepB]
    rcases List.mem_cons.1 h with rfl | h
    · omega
    · have := depth_mem l x h; omega
theorem total_mem : ∀ (l : List Tree) (x : Tree), x ∈ l → sizeB x ≤ totalB l
  | [], x, h => by cases h
  | y :: l, x, h => by
    rw [totalB]
    rcases List.mem_cons.1 h with rfl | h
    · omega
    · have := total_mem l x h; omega
theorem kid_check (l : List Cel) (x : Tree) (h : x ∈ madeB l) : checkB x = 0 := by
  obtain ⟨h1, h2, h3⟩ := check_parts (docB_right l)
  have hk : isTxt DOC = false := by decide +kernel
  unfold docB at h1 h2 h3
  rw [formedB, hk] at h1
  rw [depthB, hk] at h2
  rw [sizeB, hk] at h3
  simp only [Bool.false_eq_true, if_false, Bool.and_eq_true] at h1 h2 h3
  have e1 := row_all (madeB l) none h1.2 x h
  have e2 := depth_mem _ x h
  have e3 := total_mem _ x h
  unfold checkB
  rw [if_pos e1, if_neg (by omega), if_neg (by omega)]
theorem docB_write (l : List Cel) : writeB (docB l) = headW (docB l) ++ 91 :: (writeAllB (madeB l) ++ [93]) := by
  have hk : isTxt DOC = false := by decide +kernel
  unfold docB
  rw [writeB, hk]; simp [headW, Tree.kind, Tree.attrs, hk]
theorem text_write {t : Tree} (h : isTxt t.kind = true) : writeB t = quoteL t.text.data.toList ++ headW t := by
  obtain ⟨k, x, m, a, l⟩ := t
  simp only [Tree.kind] at h
  rw [writeB, h]; simp [headW, Tree.kind, Tree.marks, Tree.text, h]
theorem heap_ltD {w : World} {g : Nat} {o : Obj} (h : w.heap[g]? = some o) : g < w.heap.size := (Array.getElem?_eq_some_iff.1 h).1
theorem size_of {a : ByteArray} {l : List UInt8} (h : a.data.toList = l) : a.size = l.length := by rw [← h, Array.length_toList]; rfl
theorem app_list (a b : ByteArray) : (a ++ b).data.toList = a.data.toList ++ b.data.toList := by rw [ByteArray.data_append]; simp

set_option maxHeartbeats 8000000 in
set_option maxRecDepth 100000 in
theorem codecParts_walk (v : Value) (l : List Cel) (w : World) (h : Cels w (Under w.heap.size) v l) (hT : Tabs w) :
    Calls Tryd.prog 5 #[v] w fun e w' => e = .returned (.bool true) ∧ Below w.heap.size w w' := by
  have HA := Lib.hid h
  have HT := Lib.hid hT
  clear h hT
  go_enter Tryd.func5, Tryd.ntmps5
  go_wp2_with fail
  refine (shown2_any _ HT.out).mono ?_
  rintro e w1 ⟨rfl, hb1⟩
  have HB1 := Lib.hid hb1
  clear hb1
  go_wp2_with fail
  refine (doc_any _ l _ ((HA.out.below HB1.out).more HB1.out.size)).mono ?_
  rintro e w2 ⟨A2, c2, rfl, hk2, hb2⟩
  have HB2 := Lib.hid (belowNext HB1.out hb2)
  have HK2 := Lib.hid (hk2.keep (S' := Under w2.heap.size) (fun _ h => h.2) (fun _ _ => rfl))
  clear hk2 hb2
  go_wp2_with fail
  have hA3 : Below w2.heap.size w2 (w2.alloc (.cells #[.string ⟨#[100, 111, 99]⟩, .string ⟨#[]⟩, .slice none 0 0, .slice none 0 0, .slice A2 (madeB l).length c2] 27)) := (Below.refl _ _).alloc (Nat.le_refl _) _
  have hP3 := heap_alloc_new w2 (.cells #[.string ⟨#[100, 111, 99]⟩, .string ⟨#[]⟩, .slice none 0 0, .slice none 0 0, .slice A2 (madeB l).length c2] 27)
  generalize w2.alloc (.cells #[.string ⟨#[100, 111, 99]⟩, .string ⟨#[]⟩, .slice none 0 0, .slice none 0 0, .slice A2 (madeB l).length c2] 27) = W3 at *
  have HK3 := Lib.hid (HK2.out.below hA3)
  have hz3 := hA3.size
  have hn3 : Node W3 (Under W3.heap.size) (.agg #[.string ⟨#[100, 111, 99]⟩, .string ⟨#[]⟩, .slice none 0 0, .slice none 0 0, .slice A2 (madeB l).length c2]) (docB l) := ⟨_, _, _, rfl, strs_none, pairs_none, HK3.out.keep (fun _ h => Nat.lt_of_lt_of_le h hz3) (fun _ _ => rfl)⟩
  have HB3 := Lib.hid (belowNext HB2.out hA3)
  have HWD : Hid (weigh (docB l) ≤ 1000) := Lib.hid (by have := madeB_weigh l; unfold docB; simp only [weigh, weighL, weighP, List.map_nil, List.sum_nil]; rw [show DOC.size = 3 from rfl, show ByteArray.empty.size = 0 from rfl]; omega)
  refine (head_any _ (docB l) W3 hn3 (Nat.le_trans HWD.out (by decide))).mono ?_
  rintro e w4 ⟨rfl, hb4⟩
  have HP4 := Lib.hid ((hb4.block _ (heap_ltD hP3)).trans hP3)
  have HK4 := Lib.hid (HK3.out.below (hb4.mono hz3))
  have HB4 := Lib.hid (belowNext HB3.out hb4)
  have hz4 := Nat.le_trans hz3 hb4.size
  clear hb4 hn3 HK3 hA3 hP3 HK2
  obtain ⟨k0, k1, k2, k3, k4⟩ := five_cells HP4.out
  obtain ⟨hs, hhs⟩ : ∃ hs : ByteArray, hs = ⟨(headW (docB l)).toArray⟩ := ⟨_, rfl⟩
  rw [← hhs]
  have HHS : Hid (hs.data.toList = headW (docB l)) := Lib.hid (by rw [hhs])
  have hhl : (headW (docB l)).length ≤ 5000 := by have := headW_le (docB l); have := HWD.out; omega
  have hsz : hs.size ≤ 5000 := by rw [size_of HHS.out]; exact hhl
  have hol : ¬ 9223372036854775807 < hs.size + 1 := by omega
  obtain ⟨s0, hs0⟩ : ∃ s0 : ByteArray, hs ++ ⟨#[91]⟩ = s0 := ⟨_, rfl⟩
  have HS0 : Hid (s0.data.toList = headW (docB l) ++ [91]) := Lib.hid (by rw [← hs0, app_list, HHS.out])
  clear hhs
  go_wp2
  clear hs0 hol hsz
  have HC4 := Lib.hid k4
  clear k0 k1 k2 k3 k4 HHS hhl
  obtain ⟨ks, hks⟩ : ∃ ks : List Tree, madeB l = ks := ⟨_, rfl⟩
  have HKC : Hid (∀ x ∈ ks, checkB x = 0) := Lib.hid (by rw [← hks]; exact kid_check l)
  have HKW : Hid (weighAll ks ≤ 760) := Lib.hid (by rw [← hks]; exact madeB_weigh l)
  have HKS : Hid (madeB l = ks) := Lib.hid hks
  have HDW : Hid (writeB (docB l) = headW (docB l) ++ 91 :: (writeAllB ks ++ [93])) := Lib.hid (by rw [← hks]; exact docB_write l)
  rw [hks] at HK4 HP4 HC4 ⊢
  have hkl : ks.length ≤ 760 := by have := length_le_weigh ks; have := HKW.out; omega
  clear hks
  go_loopw [5, 6] (fun s i wr => ∃ (k : Nat) (st : ByteArray), k ≤ ks.length ∧ i = .int .i64 k ∧ s = .string st ∧ Hid (st.data.toList = headW (docB l) ++ 91 :: writeAllB (ks.take k)) ∧ Below w4.heap.size w4 wr) (fun _ i _ => ks.length - (intOf i).toNat)
  case atStart => exact ⟨0, s0, by omega, rfl, rfl, Lib.hid (by rw [HS0.out]; simp [writeAllB]), Below.refl _ _⟩
  case round =>
    obtain ⟨k, st, hk, rfl, rfl, hst, hbr⟩ := hrel
    have c4 := cell_kept HC4.out hbr
    by_cases hlt : k < ks.length
    · obtain ⟨b, o, rfl, hub, hrow⟩ := HK4.out.get hlt
      have hlx : ks[k]? = some ks[k] := List.getElem?_eq_getElem hlt
      have HTK : Hid (ks.take (k + 1) = ks.take k ++ [ks[k]]) := Lib.hid (List.take_succ_eq_append_getElem hlt)
      generalize hx : ks[k] = x at *
      have HCX := Lib.hid (HKC.out x (List.mem_of_getElem? hlx))
      have hwx : weigh x ≤ 760 := by have := weigh_mem (List.mem_of_getElem? hlx); have := HKW.out; omega
      obtain ⟨xm, xa, xk, e0, e1, e2, e3, e4, exm, exa, exk⟩ := hrow.node hlx
      have HXN : Hid (Node w4 (Under w4.heap.size) (.agg #[.string x.kind, .string x.text, xm, xa, xk]) x) := Lib.hid (Node.keep (S := Under w2.heap.size) ⟨_, _, _, rfl, exm, exa, exk⟩ (fun _ h => Nat.lt_of_lt_of_le h hz4) (fun _ _ => rfl))
      obtain ⟨A1, d1, rfl, _⟩ := exm.form
      obtain ⟨A5, d5, rfl, _⟩ := exa.form
      obtain ⟨A6, d6, rfl, _⟩ := exk.form
      have HE := Lib.hid (And.intro e0 (And.intro e1 (And.intro e2 (And.intro e3 e4))))
      have f0 := cell_kept e0 hbr
      have f1 := cell_kept e1 hbr
      have f2 := cell_kept e2 hbr
      have f3 := cell_kept e3 hbr
      have f4 := cell_kept e4 hbr
      have HB5 := Lib.hid (belowNext HB4.out hbr)
      clear e0 e1 e2 e3 e4 exm exa exk hx hlx hrow
      go_wp2_with fail
      refine (print_any _ x wr ((HXN.out.below hbr).more hbr.size) (by omega) (HT.out.below HB5.out)).mono ?_
      rintro e w5 ⟨rfl, hb5⟩
      obtain ⟨t, ht⟩ : ∃ t : ByteArray, t = ⟨(printB x).toArray⟩ := ⟨_, rfl⟩
      rw [← ht, HCX.out]
      have HTT : Hid (t.data.toList = writeB x) := Lib.hid (by rw [ht]; show printB x = _; exact if_pos HCX.out)
      have hB5 := hbr.trans (hb5.mono hbr.size)
      have HB6 := Lib.hid (belowNext HB5.out hb5)
      have htz : t.size ≤ 4000 := by rw [size_of HTT.out]; have := writeB_le x; omega
      clear f0 f1 f2 f3 f4 c4 hb5 ht
      go_wp2_with fail
      refine (parse_any t w5 (by omega) (HT.out.below HB6.out)).mono ?_
      rintro e w6 ⟨v6, rfl, hn6, hb6⟩
      rw [HTT.out, parse_back x HCX.out] at hn6 ⊢
      obtain ⟨P2, m2, e2, P3, m3, e3, P4, m4, e4, rfl⟩ := node_form hn6
      have hx6 : Below w6.heap.size w6 (w6.alloc (.cells #[.string x.kind, .string x.text, .slice P2 m2 e2, .slice P3 m3 e3, .slice P4 m4 e4] 27)) := (Below.refl _ _).alloc (Nat.le_refl _) _
      have hz6 := hb6.size
      have HX := Lib.hid (hb6.trans (hx6.mono hz6))
      have HM6 := Lib.hid (hn6.keep (S' := Under (w6.alloc (.cells #[.string x.kind, .string x.text, .slice P2 m2 e2, .slice P3 m3 e3, .slice P4 m4 e4] 27)).heap.size) (fun b hb => Nat.lt_of_lt_of_le hb.2 hx6.size) fun b hb => hx6.block b hb.2)
      have hs6 := heap_alloc_new w6 (.cells #[.string x.kind, .string x.text, .slice P2 m2 e2, .slice P3 m3 e3, .slice P4 m4 e4] 27)
      have hB6 := hB5.trans (HX.out.mono hB5.size)
      have HB7 := Lib.hid (belowNext HB6.out HX.out)
      have hSM : ∀ W, Below (w6.alloc (.cells #[.string x.kind, .string x.text, .slice P2 m2 e2, .slice P3 m3 e3, .slice P4 m4 e4] 27)).heap.size (w6.alloc (.cells #[.string x.kind, .string x.text, .slice P2 m2 e2, .slice P3 m3 e3, .slice P4 m4 e4] 27)) W → Calls Tryd.prog 21 #[.agg #[.string x.kind, .string x.text, .slice P2 m2 e2, .slice P3 m3 e3, .slice P4 m4 e4], .agg #[.string x.kind, .string x.text, .slice A1 x.marks.length d1, .slice A5 x.attrs.length d5, .slice A6 x.kids.length d6]] W fun e w' => e = .returned (.bool true) ∧ Below W.heap.size W w' := fun W hW =>
        walk_res (nsame_any _ _ x x W ((HM6.out.below hW).more hW.size) (((HXN.out.below hB6).more hB6.size).below hW |>.more hW.size) (by omega) (by omega)) (sameB_self x)
      have HSM := Lib.hid (regrown_any hSM)
      obtain ⟨p0, p1, p2, p3, p4⟩ := five_cells hs6
      have r0 := cell_regrown p0
      have r1 := cell_regrown p1
      have r2 := cell_regrown p2
      have r3 := cell_regrown p3
      have r4 := cell_regrown p4
      have f0 := cell_regrown (cell_kept HE.out.1 hB6)
      have f1 := cell_regrown (cell_kept HE.out.2.1 hB6)
      have f2 := cell_regrown (cell_kept HE.out.2.2.1 hB6)
      have f3 := cell_regrown (cell_kept HE.out.2.2.2.1 hB6)
      have f4 := cell_regrown (cell_kept HE.out.2.2.2.2 hB6)
      have c4 := cell_regrown (cell_kept HC4.out hB6)
      clear hn6 hb6 hx6 hs6 hB5 p0 p1 p2 p3 p4 hSM
      go_wp2_with fail
      generalize w6.alloc (.cells #[.string x.kind, .string x.text, .slice P2 m2 e2, .slice P3 m3 e3, .slice P4 m4 e4] 27) = W7 at *
      refine wp_region_quiet_below (by kernel_rfl) (by kernel_rfl) ?_
      repeat (first | go_big_quiet_step (exact HSM.out _ _) | quiet_step (exact HSM.out _ _))
      refine wpQuiet_nil ?_
      intro _ hw'
      obtain ⟨⟨dq, osq⟩, hw''⟩ := hw'
      subst hw''
      have hb8 := below_regrown W7 dq osq
      have hB8 := hB6.trans (hb8.mono hB6.size)
      have HB8 := Lib.hid (belowNext HB7.out hb8)
      clear hb8 r0 r1 r2 r3 r4 f0 f1 f2 f3 f4 c4
      generalize grow (redrawn W7 dq) osq = w8 at *
      have f0 := cell_regrown (cell_kept HE.out.1 hB8)
      have f1 := cell_regrown (cell_kept HE.out.2.1 hB8)
      have f2 := cell_regrown (cell_kept HE.out.2.2.1 hB8)
      have f3 := cell_regrown (cell_kept HE.out.2.2.2.1 hB8)
      have f4 := cell_regrown (cell_kept HE.out.2.2.2.2 hB8)
      have c4 := cell_regrown (cell_kept HC4.out hB8)
      have hst2 : st.size ≤ 100000 := by
        rw [size_of hst.out, List.length_append, List.length_cons]
        have h1 := headW_le (docB l)
        have h2 := writeAllB_le (ks.take k)
        have h3 := weighAll_take ks k
        have := HKW.out; have := HWD.out; omega
      have hol : ¬ 9223372036854775807 < st.size + t.size := by omega
      have HN8 : Hid ((st ++ t).data.toList = headW (docB l) ++ 91 :: writeAllB (ks.take (k + 1))) := Lib.hid (by rw [app_list, hst.out, HTT.out, HTK.out, writeAllB_append]; simp [writeAllB])
      cases hkx : isTxt x.kind with
      | true =>
        have hk' : (x.kind.toList == [116, 101, 120, 116]) = true := hkx
        obtain ⟨q, hq⟩ : ∃ q : ByteArray, (⟨(quoteL x.text.data.toList).toArray⟩ : ByteArray) = q := ⟨_, rfl⟩
        obtain ⟨hd, hhd⟩ : ∃ hd : ByteArray, (⟨(headW x).toArray⟩ : ByteArray) = hd := ⟨_, rfl⟩
        have htq : t = q ++ hd := ByteArray.ext (Array.ext' (by rw [HTT.out, text_write hkx, app_list, ← hq, ← hhd]))
        have hqz : q.size + hd.size ≤ 4000 := by rw [htq] at htz; simpa using htz
        have hol2 : ¬ 9223372036854775807 < q.size + hd.size := by omega
        have HQ := Lib.hid (regrown_any (w := w8) (f := 25) (args := #[.string x.text]) (v := .string q) fun W _ => by rw [← hq]; exact quote_any x.text W (by have := text_le_weigh x; omega))
        have HH := Lib.hid (regrown_any (w := w8) (f := 24) (args := #[.agg #[.string x.kind, .string x.text, .slice A1 x.marks.length d1, .slice A5 x.attrs.length d5, .slice A6 x.kids.length d6]]) (v := .string hd) fun W hW => by rw [← hhd]; exact head_any _ x W (((HXN.out.below hB8).more hB8.size).below hW |>.more hW.size) (by omega))
        subst htq
        clear hq hhd hkx
        go_wp2_with fail
        refine wp_region_quiet_below (by kernel_rfl) (by kernel_rfl) ?_
        repeat (first | go_big_quiet_step (first | exact HQ.out _ _ | exact HH.out _ _) | quiet_step (first | exact HQ.out _ _ | exact HH.out _ _))
        refine wpQuiet_nil ?_
        intro _ hw'
        obtain ⟨⟨dq2, osq2⟩, hw''⟩ := hw'
        subst hw''
        have hb9 := below_regrown w8 dq2 osq2
        have hB9 := hB8.trans (hb9.mono hB8.size)
        clear hb9 f0 f1 f2 f3 f4 c4
        generalize grow (redrawn w8 dq2) osq2 = w9 at *
        go_wp2
        exact ⟨⟨k + 1, _, by omega, by go_num, rfl, HN8, hB9⟩, by simp [intOf]; omega⟩
      | false =>
        have hk' : (x.kind.toList == [116, 101, 120, 116]) = false := hkx
        clear hkx
        go_wp2_with fail
        refine wp_region_quiet_below (by kernel_rfl) (by kernel_rfl) ?_
        repeat (first | go_big_quiet_step (fail) | quiet_step (fail))
        refine wpQuiet_nil ?_
        intro _ hw'
        obtain ⟨⟨dq2, osq2⟩, hw''⟩ := hw'
        subst hw''
        have hb9 := below_regrown w8 dq2 osq2
        have hB9 := hB8.trans (hb9.mono hB8.size)
        clear hb9 f0 f1 f2 f3 f4 c4
        generalize grow (redrawn w8 dq2) osq2 = w9 at *
        go_wp2
        exact ⟨⟨k + 1, _, by omega, by go_num, rfl, HN8, hB9⟩, by simp [intOf]; omega⟩
    · obtain rfl : k = ks.length := by omega
      have hB5 := hbr
      have q4 := cell_kept HC4.out hbr
      obtain ⟨z0, z1, z2, z3, z4⟩ := five_cells HP4.out
      have f0 := cell_kept z0 hbr
      have f1 := cell_kept z1 hbr
      have f2 := cell_kept z2 hbr
      have f3 := cell_kept z3 hbr
      have HB5 := Lib.hid (belowNext HB4.out hbr)
      have HND : Hid (Node wr (Under wr.heap.size) (.agg #[.string ⟨#[100, 111, 99]⟩, .string ⟨#[]⟩, .slice none 0 0, .slice none 0 0, .slice A2 ks.length c2]) (docB l)) := Lib.hid ⟨_, _, _, rfl, strs_none, pairs_none, by rw [show (docB l).kids = ks from HKS.out]; exact (HK4.out.below (hbr.mono hz4)).keep (fun _ h => Nat.lt_of_lt_of_le h (Nat.le_trans hz4 hbr.size)) (fun _ _ => rfl)⟩
      clear z0 z1 z2 z3 z4 c4
      go_wp2_with fail
      refine (print_any _ (docB l) wr HND.out (Nat.le_trans HWD.out (by decide)) (HT.out.below HB5.out)).mono ?_
      rintro e w5 ⟨rfl, hb5⟩
      have HB6 := Lib.hid (belowNext HB5.out hb5)
      rw [docB_right l]
      obtain ⟨t, ht⟩ : ∃ t : ByteArray, t = ⟨(printB (docB l)).toArray⟩ := ⟨_, rfl⟩
      rw [← ht]
      have HTT : Hid (t.data.toList = writeB (docB l)) := Lib.hid (by rw [ht]; show printB (docB l) = _; exact if_pos (docB_right l))
      have htl : t.size ≤ 10000 := by rw [size_of HTT.out]; have := writeB_le (docB l); have := HWD.out; omega
      have hte : t = st ++ ⟨#[93]⟩ := ByteArray.ext (Array.ext' (by rw [HTT.out, HDW.out, app_list, hst.out, List.take_length]; simp))
      have hsz : st.size + 1 = t.size := by rw [hte, ByteArray.size_append]; rfl
      have hol : ¬ 9223372036854775807 < st.size + 1 := by omega
      have heq : (t.toList == (st ++ ⟨#[93]⟩ : ByteArray).toList) = true := by rw [← hte]; simp
      clear ht hb5 hsz hte
      go_wp2
      go_ret
      exact ⟨rfl, HB6.out⟩
end Go.Proofs.YtdcgffepdgldmaaDoor
