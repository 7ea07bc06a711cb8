/-
  What the codec's writing calls answer: writeMarks, writeAttrs, writeHead, writeAll, written, Print.
-/
import Derived.Test.YtdbpnfabcmndjaaDoorC1
namespace Go.Proofs.YtdbpnfabcmndjaaDoor
open Go.RowKit Go.Sort

theorem marksW_cons {l : List ByteArray} (h : l ≠ []) : marksW l = 60 :: (commaM l ++ [62]) := by cases l with | nil => exact absurd rfl h | cons x l => rfl
theorem attrsW_cons {l : List (ByteArray × ByteArray)} (h : l ≠ []) : attrsW l = 40 :: (blankA l ++ [41]) := by cases l with | nil => exact absurd rfl h | cons x l => rfl
theorem commaM_take_le (l : List ByteArray) (k : Nat) : (commaM (l.take k)).length ≤ weighL l := by
  have h1 := commaM_le (l.take k)
  have h2 : weighL (l.take k) + weighL (l.drop k) = weighL l := by unfold weighL; rw [← List.sum_append, ← List.map_append, List.take_append_drop]
  omega
theorem blankA_take_le (l : List (ByteArray × ByteArray)) (k : Nat) : (blankA (l.take k)).length ≤ 4 * weighP l := by
  have h1 := blankA_le (l.take k)
  have h2 : weighP (l.take k) + weighP (l.drop k) = weighP l := by unfold weighP; rw [← List.sum_append, ← List.map_append, List.take_append_drop]
  omega

set_option maxHeartbeats 1100000 in
theorem writeMarks_any (B b : Nat) (acc : List UInt8) (v : Value) (l : List ByteArray) (w : World) (hB : Buil w B b acc) (h : Strs w (Under B) v l) (hw : weighL l ≤ 1100000) (hacc : acc.length ≤ 45000000) (hBw : B ≤ w.heap.size) :
    Calls Tryd.prog 60 #[.pointer (some ⟨b, 0, none⟩), v] w (WPost B b w (acc ++ marksW l)) := by
  have hlen := length_le_weighL l
  obtain ⟨A, c, rfl, hc⟩ := h.form
  have HB := Lib.hid hB
  have HL := Lib.hid h
  clear hB h
  rcases Nat.eq_zero_or_pos l.length with h0 | h0
  · have HE : Hid (acc ++ marksW l = acc) := Lib.hid (by rw [List.eq_nil_of_length_eq_zero h0]; simp [marksW])
    have q : ((l.length : Int) == 0) = true := by rw [beq_iff_eq]; omega
    clear h0
    go_enter Tryd.func60, Tryd.ntmps60
    go_wp2
    go_end0
    exact ⟨rfl, by rw [HE.out]; exact HB.out, Below.refl _ _, Rest.refl _ _⟩
  · have HE : Hid (acc ++ marksW l = (acc ++ 60 :: commaM l) ++ [62]) := Lib.hid (by rw [marksW_cons (fun e => by rw [e] at h0; simp at h0)]; simp)
    have q : ((l.length : Int) == 0) = false := by rw [beq_eq_false_iff_ne]; omega
    go_enter Tryd.func60, Tryd.ntmps60
    go_wp2_with fail
    refine (byteN_any B b acc 60 60 w (by decide) HB.out (by omega) hBw).mono ?_
    rintro e w1 ⟨rfl, hb1, hB1, hr1⟩
    have HB1 := Lib.hid hb1
    have HW1 := Lib.hid (And.intro hB1 hr1)
    clear hb1 hB1 hr1
    go_wp2
    go_loopw [13] (fun i wr => ∃ k : Nat, k ≤ l.length ∧ i = .int .i64 k ∧ Hid (Buil wr B b (acc ++ 60 :: commaM (l.take k))) ∧ Below B w wr ∧ Hid (Rest b w wr)) (fun i _ => l.length - (intOf i).toNat)
    case atStart => exact ⟨0, by omega, rfl, Lib.hid (by simpa [commaM] using HB1.out), HW1.out.1, Lib.hid HW1.out.2⟩
    case round =>
      obtain ⟨k, hk, rfl, hcr, hbr, hrr⟩ := hrel
      have hws := hbr.size
      have hel := commaM_take_le l k
      have hal : (acc ++ 60 :: commaM (l.take k)).length ≤ 80000000 := by rw [List.length_append, List.length_cons]; omega
      by_cases hlt : k < l.length
      · obtain ⟨g, o, rfl, hub, hcell⟩ := HL.out.get hlt
        have hc1 := (hbr.cell (p := ⟨g, o + k, none⟩) hub).trans (hcell k hlt)
        have hsz := weighL_get (getD_some ByteArray.empty hlt)
        have HTK : Hid (commaM (l.take (k + 1)) = if (l.take k).isEmpty then (l.getD k ByteArray.empty).data.toList else commaM (l.take k) ++ 44 :: (l.getD k ByteArray.empty).data.toList) := Lib.hid (by
          rw [show l.take (k + 1) = l.take k ++ [l.getD k ByteArray.empty] by rw [List.take_succ_eq_append_getElem hlt, List.getD_eq_getElem?_getD, List.getElem?_eq_getElem hlt]; rfl, commaM_snoc])
        generalize l.getD k ByteArray.empty = x at *
        clear hcell
        rcases Nat.eq_zero_or_pos k with hk0 | hk0
        · have HTK' : Hid (acc ++ 60 :: commaM (l.take (k + 1)) = (acc ++ 60 :: commaM (l.take k)) ++ x.data.toList) := Lib.hid (by rw [HTK.out, hk0]; simp [commaM])
          have g0 : decide (0 < k) = false := by simp; omega
          generalize acc ++ 60 :: commaM (l.take k) = A1 at *
          clear hk0
          go_wp2_with fail
          refine (write_any B b A1 x wr hcr.out (by omega) (by omega)).mono ?_
          rintro e w3 ⟨rfl, hb3, hB3, hr3⟩
          have HB3 := Lib.hid hb3
          have HR3 := Lib.hid (hrr.out.trans hr3)
          have hW3 := hbr.trans hB3
          clear hb3 hr3 hB3
          go_wp2
          exact ⟨⟨k + 1, by omega, by go_num, Lib.hid (by rw [HTK'.out]; exact HB3.out), hW3, HR3⟩, by simp [intOf]; omega⟩
        · have HTK' : Hid (acc ++ 60 :: commaM (l.take (k + 1)) = ((acc ++ 60 :: commaM (l.take k)) ++ [44]) ++ x.data.toList) := Lib.hid (by
            have : (l.take k).isEmpty = false := by rw [List.isEmpty_eq_false_iff]; intro e; have := congrArg List.length e; rw [List.length_take, List.length_nil] at this; omega
            rw [HTK.out, this]; simp)
          generalize acc ++ 60 :: commaM (l.take k) = A1 at *
          have g0 : decide (0 < k) = true := by simpa using hk0
          go_wp2_with fail
          refine (byteN_any B b A1 44 44 wr (by decide) hcr.out (by omega) (by omega)).mono ?_
          rintro e w2 ⟨rfl, hb2, hB2, hr2⟩
          have HB2 := Lib.hid hb2
          have HR2 := Lib.hid (hrr.out.trans hr2)
          have hW2 := hbr.trans hB2
          have hws2 := hW2.size
          clear hb2 hr2 hB2
          go_wp2_with fail
          refine (write_any B b (A1 ++ [44]) x w2 HB2.out (by rw [List.length_append, List.length_singleton]; omega) (by omega)).mono ?_
          rintro e w3 ⟨rfl, hb3, hB3, hr3⟩
          have HB3 := Lib.hid hb3
          have HR3 := Lib.hid (HR2.out.trans hr3)
          have hW3 := hW2.trans hB3
          clear hb3 hr3 hB3
          go_wp2
          exact ⟨⟨k + 1, by omega, by go_num, Lib.hid (by rw [HTK'.out]; exact HB3.out), hW3, HR3⟩, by simp [intOf]; omega⟩
      · rw [List.take_of_length_le (by omega)] at hcr hal
        clear hel
        go_wp2_with fail
        refine (byteN_any B b _ 62 62 wr (by decide) hcr.out (by omega) (by omega)).mono ?_
        rintro e w3 ⟨rfl, hb3, hB3, hr3⟩
        have HB3 := Lib.hid hb3
        have HR3 := Lib.hid (hrr.out.trans hr3)
        have hW3 := hbr.trans hB3
        clear hb3 hr3 hB3
        go_wp2
        go_end0
        exact ⟨rfl, by rw [HE.out]; exact HB3.out, hW3, HR3.out⟩

set_option maxHeartbeats 2000000 in
theorem writeAttrs_any (B b : Nat) (acc : List UInt8) (v : Value) (l : List (ByteArray × ByteArray)) (w : World) (hB : Buil w B b acc) (h : Pairs w (Under B) v l) (hw : weighP l ≤ 1100000) (hacc : acc.length ≤ 40000000) (hBw : B ≤ w.heap.size) :
    Calls Tryd.prog 61 #[.pointer (some ⟨b, 0, none⟩), v] w (WPost B b w (acc ++ attrsW l)) := by
  have hlen := length_le_weighP l
  obtain ⟨A, c, rfl, hc⟩ := h.form
  have HB := Lib.hid hB
  have HL := Lib.hid h
  clear hB h
  rcases Nat.eq_zero_or_pos l.length with h0 | h0
  · have HE : Hid (acc ++ attrsW l = acc) := Lib.hid (by rw [List.eq_nil_of_length_eq_zero h0]; simp [attrsW])
    have q : ((l.length : Int) == 0) = true := by rw [beq_iff_eq]; omega
    clear h0
    go_enter Tryd.func61, Tryd.ntmps61
    go_wp2
    go_end0
    exact ⟨rfl, by rw [HE.out]; exact HB.out, Below.refl _ _, Rest.refl _ _⟩
  · have HE : Hid (acc ++ attrsW l = (acc ++ 40 :: blankA l) ++ [41]) := Lib.hid (by rw [attrsW_cons (fun e => by rw [e] at h0; simp at h0)]; simp)
    have q : ((l.length : Int) == 0) = false := by rw [beq_eq_false_iff_ne]; omega
    go_enter Tryd.func61, Tryd.ntmps61
    go_wp2_with fail
    refine (byteN_any B b acc 40 40 w (by decide) HB.out (by omega) hBw).mono ?_
    rintro e w1 ⟨rfl, hb1, hB1, hr1⟩
    have HB1 := Lib.hid hb1
    have HW1 := Lib.hid (And.intro hB1 hr1)
    clear hb1 hB1 hr1
    go_wp2
    go_loopw [13] (fun i wr => ∃ k : Nat, k ≤ l.length ∧ i = .int .i64 k ∧ Hid (Buil wr B b (acc ++ 40 :: blankA (l.take k))) ∧ Below B w wr ∧ Hid (Rest b w wr)) (fun i _ => l.length - (intOf i).toNat)
    case atStart => exact ⟨0, by omega, rfl, Lib.hid (by simpa [blankA] using HB1.out), HW1.out.1, Lib.hid HW1.out.2⟩
    case round =>
      obtain ⟨k, hk, rfl, hcr, hbr, hrr⟩ := hrel
      have hws := hbr.size
      have hel := blankA_take_le l k
      have hal : (acc ++ 40 :: blankA (l.take k)).length ≤ 45000000 := by rw [List.length_append, List.length_cons]; omega
      by_cases hlt : k < l.length
      · obtain ⟨g, o, rfl, hub, hcell⟩ := HL.out.get hlt
        have hc1 := (hbr.cell (p := ⟨g, o + k * 2, none⟩) hub).trans (hcell k hlt).1
        have hc2 := (hbr.cell (p := ⟨g, o + k * 2 + 1, none⟩) hub).trans (hcell k hlt).2
        have hsz := weighP_get (getD_some (ByteArray.empty, ByteArray.empty) hlt)
        have HTK : Hid (blankA (l.take (k + 1)) = if (l.take k).isEmpty then attrW (pairAt l k) else blankA (l.take k) ++ 32 :: attrW (pairAt l k)) := Lib.hid (by
          rw [show l.take (k + 1) = l.take k ++ [pairAt l k] by rw [List.take_succ_eq_append_getElem hlt, pairAt, List.getD_eq_getElem?_getD, List.getElem?_eq_getElem hlt]; rfl, blankA_snoc])
        change (pairAt l k).1.size + (pairAt l k).2.size < _ at hsz
        generalize pairAt l k = x at *
        have hbl := hcr.out.lt
        have HCR := Lib.hid (hcr.out.below ((Below.refl _ wr).alloc (Nat.le_refl _) (.cells #[.string x.1, .string x.2] 42)))
        have HPB : Hid ((wr.alloc (.cells #[.string x.1, .string x.2] 42)).heap[wr.heap.size]? = some (.cells #[.string x.1, .string x.2] 42)) := Lib.hid (by show (wr.heap.push _)[wr.heap.size]? = _; simp)
        have hWA : Below B w (wr.alloc (.cells #[.string x.1, .string x.2] 42)) := hbr.alloc (by omega) _
        have HRA : Hid (Rest b w (wr.alloc (.cells #[.string x.1, .string x.2] 42))) := Lib.hid (hrr.out.trans (Rest.of_below ((Below.refl _ _).alloc (Nat.le_refl _) _)))
        have hzA : (wr.alloc (.cells #[.string x.1, .string x.2] 42)).heap.size = wr.heap.size + 1 := by simp
        clear hcell hcr
        have key : ∀ (A1 : List UInt8), Hid (acc ++ 40 :: blankA (l.take (k + 1)) = A1 ++ attrW x) → Hid (acc ++ 40 :: blankA (l.take (k + 1)) = ((A1 ++ x.1.data.toList) ++ [61]) ++ quoteL x.2.data.toList) := fun A1 h => Lib.hid (by rw [h.out]; simp [attrW])
        rcases Nat.eq_zero_or_pos k with hk0 | hk0
        · have HTK' := key (acc ++ 40 :: blankA (l.take k)) (Lib.hid (by rw [HTK.out, hk0]; simp [blankA]))
          clear key
          have g0 : decide (0 < k) = false := by simp; omega
          generalize acc ++ 40 :: blankA (l.take k) = A1 at *
          clear hk0
          go_wp2_with fail
          generalize wr.alloc (.cells #[.string x.1, .string x.2] 42) = W2 at *
          refine (write_any B b A1 x.1 W2 HCR.out (by omega) (by omega)).mono ?_
          rintro e w3 ⟨rfl, hb3, hB3, hr3⟩
          have HB3 := Lib.hid hb3
          have HR3 := Lib.hid (HRA.out.trans hr3)
          have HP3 := Lib.hid (hr3.blk HPB.out (by omega) (by decide))
          have hW3 := hWA.trans hB3
          have hws3 := hW3.size
          clear hb3 hr3 hB3
          go_wp2_with fail
          refine (byteN_any B b (A1 ++ x.1.data.toList) 61 61 w3 (by decide) HB3.out (by rw [List.length_append, ← Lib.size_eq]; omega) (by omega)).mono ?_
          rintro e w4 ⟨rfl, hb4, hB4, hr4⟩
          have HB4 := Lib.hid hb4
          have HR4 := Lib.hid (HR3.out.trans hr4)
          have hp4 := hr4.blk HP3.out (by omega) (by decide)
          have p1 : w4.cell? ⟨wr.heap.size, 1, none⟩ = some (.string x.2) := by simp only [World.cell?, hp4]; rfl
          have hW4 := hW3.trans hB4
          have hws4 := hW4.size
          clear hb4 hr4 hB4 hp4
          go_wp2_with fail
          refine (writeQuoted_any B b ((A1 ++ x.1.data.toList) ++ [61]) x.2 w4 HB4.out (by omega) (by rw [List.length_append, List.length_append, ← Lib.size_eq, List.length_singleton]; omega) (by omega)).mono ?_
          rintro e w5 ⟨rfl, hb5, hB5, hr5⟩
          have HB5 := Lib.hid hb5
          have HR5 := Lib.hid (HR4.out.trans hr5)
          have hW5 := hW4.trans hB5
          clear hb5 hr5 hB5 p1
          go_wp2
          exact ⟨⟨k + 1, by omega, by go_num, Lib.hid (by rw [HTK'.out]; exact HB5.out), hW5, HR5⟩, by simp [intOf]; omega⟩
        · have HTK' := key ((acc ++ 40 :: blankA (l.take k)) ++ [32]) (Lib.hid (by
            have : (l.take k).isEmpty = false := by rw [List.isEmpty_eq_false_iff]; intro e; have := congrArg List.length e; rw [List.length_take, List.length_nil] at this; omega
            rw [HTK.out, this]; simp))
          clear key
          generalize acc ++ 40 :: blankA (l.take k) = A0 at *
          have g0 : decide (0 < k) = true := by simpa using hk0
          go_wp2_with fail
          generalize wr.alloc (.cells #[.string x.1, .string x.2] 42) = W2 at *
          refine (byteN_any B b A0 32 32 W2 (by decide) HCR.out (by omega) (by omega)).mono ?_
          rintro e w2 ⟨rfl, hb2, hB2, hr2⟩
          have HB2 := Lib.hid hb2
          have HR2 := Lib.hid (HRA.out.trans hr2)
          have hp2 := hr2.blk HPB.out (by omega) (by decide)
          have p0 : w2.cell? ⟨wr.heap.size, 0, none⟩ = some (.string x.1) := by simp only [World.cell?, hp2]; rfl
          have HP2 := Lib.hid hp2
          have hW2 := hWA.trans hB2
          have hws2 := hW2.size
          have hA1 : (A0 ++ [32]).length ≤ 45000001 := by rw [List.length_append, List.length_singleton]; omega
          generalize A0 ++ [32] = A1 at *
          clear hb2 hr2 hB2 hp2
          go_wp2_with fail
          refine (write_any B b A1 x.1 w2 HB2.out (by omega) (by omega)).mono ?_
          rintro e w3 ⟨rfl, hb3, hB3, hr3⟩
          have HB3 := Lib.hid hb3
          have HR3 := Lib.hid (HR2.out.trans hr3)
          have HP3 := Lib.hid (hr3.blk HP2.out (by omega) (by decide))
          have hW3 := hW2.trans hB3
          have hws3 := hW3.size
          clear hb3 hr3 hB3 p0
          go_wp2_with fail
          refine (byteN_any B b (A1 ++ x.1.data.toList) 61 61 w3 (by decide) HB3.out (by rw [List.length_append, ← Lib.size_eq]; omega) (by omega)).mono ?_
          rintro e w4 ⟨rfl, hb4, hB4, hr4⟩
          have HB4 := Lib.hid hb4
          have HR4 := Lib.hid (HR3.out.trans hr4)
          have hp4 := hr4.blk HP3.out (by omega) (by decide)
          have p1 : w4.cell? ⟨wr.heap.size, 1, none⟩ = some (.string x.2) := by simp only [World.cell?, hp4]; rfl
          have hW4 := hW3.trans hB4
          have hws4 := hW4.size
          clear hb4 hr4 hB4 hp4
          go_wp2_with fail
          refine (writeQuoted_any B b ((A1 ++ x.1.data.toList) ++ [61]) x.2 w4 HB4.out (by omega) (by rw [List.length_append, List.length_append, ← Lib.size_eq, List.length_singleton]; omega) (by omega)).mono ?_
          rintro e w5 ⟨rfl, hb5, hB5, hr5⟩
          have HB5 := Lib.hid hb5
          have HR5 := Lib.hid (HR4.out.trans hr5)
          have hW5 := hW4.trans hB5
          clear hb5 hr5 hB5 p1
          go_wp2
          exact ⟨⟨k + 1, by omega, by go_num, Lib.hid (by rw [HTK'.out]; exact HB5.out), hW5, HR5⟩, by simp [intOf]; omega⟩
      · rw [List.take_of_length_le (by omega)] at hcr hal
        clear hel
        go_wp2_with fail
        refine (byteN_any B b _ 41 41 wr (by decide) hcr.out (by omega) (by omega)).mono ?_
        rintro e w3 ⟨rfl, hb3, hB3, hr3⟩
        have HB3 := Lib.hid hb3
        have HR3 := Lib.hid (hrr.out.trans hr3)
        have hW3 := hbr.trans hB3
        clear hb3 hr3 hB3
        go_wp2
        go_end0
        exact ⟨rfl, by rw [HE.out]; exact HB3.out, hW3, HR3.out⟩

set_option maxHeartbeats 1100000 in
theorem writeHead_any (B b : Nat) (acc : List UInt8) (v : Value) (t : Tree) (w : World) (hB : Buil w B b acc) (h : Node w (Under B) v t) (hw : weigh t ≤ 1100000) (hacc : acc.length ≤ 30000000) (hBw : B ≤ w.heap.size) :
    Calls Tryd.prog 49 #[.pointer (some ⟨b, 0, none⟩), v] w (WPost B b w (acc ++ headW t)) := by
  have HB := Lib.hid hB
  obtain ⟨vm, va, vk, rfl, hm, ha, hk⟩ := h
  have HM := Lib.hid hm
  have HA := Lib.hid ha
  obtain ⟨A1, c1, rfl, _⟩ := hm.form
  obtain ⟨A2, c2, rfl, _⟩ := ha.form
  have hbl := hB.lt
  have hwk : t.kind.size + weighL t.marks + weighP t.attrs + 2 ≤ weigh t := by obtain ⟨k, t, m, a, l⟩ := t; simp only [weigh, Tree.kind, Tree.marks, Tree.attrs]; omega
  have HW : Hid (Below B w (w.alloc (.cells #[.string t.kind, .string t.text, .slice A1 t.marks.length c1, .slice A2 t.attrs.length c2, vk] 26))) := Lib.hid ((Below.refl _ _).alloc hBw _)
  have HR : Hid (Rest b w (w.alloc (.cells #[.string t.kind, .string t.text, .slice A1 t.marks.length c1, .slice A2 t.attrs.length c2, vk] 26))) := Lib.hid (Rest.of_below ((Below.refl _ _).alloc (Nat.le_refl _) _))
  have HB1 := Lib.hid (HB.out.below ((Below.refl _ w).alloc (Nat.le_refl _) (.cells #[.string t.kind, .string t.text, .slice A1 t.marks.length c1, .slice A2 t.attrs.length c2, vk] 26)))
  have HP : Hid ((w.alloc (.cells #[.string t.kind, .string t.text, .slice A1 t.marks.length c1, .slice A2 t.attrs.length c2, vk] 26)).heap[w.heap.size]? = some (.cells #[.string t.kind, .string t.text, .slice A1 t.marks.length c1, .slice A2 t.attrs.length c2, vk] 26)) := Lib.hid (by show (w.heap.push _)[w.heap.size]? = _; simp)
  have hz : (w.alloc (.cells #[.string t.kind, .string t.text, .slice A1 t.marks.length c1, .slice A2 t.attrs.length c2, vk] 26)).heap.size = w.heap.size + 1 := by simp
  clear hm ha hk hB HB
  cases hk : isTxt t.kind with
  | true =>
    have hk' : (t.kind.toList == [116, 101, 120, 116]) = true := hk
    have HE : Hid (headW t = marksW t.marks) := Lib.hid (by simp [headW, hk])
    clear hk
    go_enter Tryd.func49, Tryd.ntmps49
    go_wp2_with fail
    generalize w.alloc (.cells #[.string t.kind, .string t.text, .slice A1 t.marks.length c1, .slice A2 t.attrs.length c2, vk] 26) = W1 at *
    refine (writeMarks_any B b acc _ t.marks W1 HB1.out (HM.out.below HW.out) (by omega) (by omega) (by omega)).mono ?_
    rintro e w2 ⟨rfl, hb2, hB2, hr2⟩
    have HB2 := Lib.hid hb2
    have HR2 := Lib.hid (HR.out.trans hr2)
    have hW2 := HW.out.trans hB2
    clear hb2 hB2 hr2
    go_wp2
    refine bodyPost_ret (results_none rfl _ _ _) rfl ?_
    exact ⟨rfl, by rw [HE.out]; exact HB2.out, hW2, HR2.out⟩
  | false =>
    have hk' : (t.kind.toList == [116, 101, 120, 116]) = false := hk
    have HE : Hid (acc ++ headW t = (acc ++ t.kind.data.toList) ++ attrsW t.attrs) := Lib.hid (by simp [headW, hk])
    clear hk
    go_enter Tryd.func49, Tryd.ntmps49
    go_wp2_with fail
    generalize w.alloc (.cells #[.string t.kind, .string t.text, .slice A1 t.marks.length c1, .slice A2 t.attrs.length c2, vk] 26) = W1 at *
    refine (write_any B b acc t.kind W1 HB1.out (by omega) (by omega)).mono ?_
    rintro e w2 ⟨rfl, hb2, hB2, hr2⟩
    have HB2 := Lib.hid hb2
    have HR2 := Lib.hid (HR.out.trans hr2)
    have hp2 := hr2.blk HP.out (by omega) (by decide)
    have p3 : w2.cell? ⟨w.heap.size, 3, none⟩ = some (.slice A2 t.attrs.length c2) := by simp only [World.cell?, hp2]; rfl
    have hW2 := HW.out.trans hB2
    have hws2 := hW2.size
    clear hb2 hB2 hr2 hp2
    go_wp2_with fail
    refine (writeAttrs_any B b (acc ++ t.kind.data.toList) _ t.attrs w2 HB2.out (HA.out.below hW2) (by omega) (by rw [List.length_append, ← Lib.size_eq]; omega) (by omega)).mono ?_
    rintro e w3 ⟨rfl, hb3, hB3, hr3⟩
    have HB3 := Lib.hid hb3
    have HR3 := Lib.hid (HR2.out.trans hr3)
    have hW3 := hW2.trans hB3
    clear hb3 hB3 hr3 p3
    go_wp2
    go_end0
    exact ⟨rfl, by rw [HE.out]; exact HB3.out, hW3, HR3.out⟩
end Go.Proofs.YtdbpnfabcmndjaaDoor
