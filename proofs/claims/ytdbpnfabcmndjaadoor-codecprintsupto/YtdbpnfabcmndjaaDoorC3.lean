/-
  What the codec's writing calls answer: writeAll, written, Print.
-/
import Derived.Test.YtdbpnfabcmndjaaDoorC2
namespace Go.Proofs.YtdbpnfabcmndjaaDoor
open Go.RowKit Go.Sort

def WSaid (n : Nat) : Prop := ∀ (l : List Tree) (v : Value) (w : World) (B b : Nat) (acc : List UInt8), weighAll l ≤ n → weighAll l ≤ 1100000 → Kids w (Under B) v l → acc.length + 4 * weighAll l ≤ 20000000 → B ≤ w.heap.size → Buil w B b acc →
  Calls Tryd.prog 58 #[.pointer (some ⟨b, 0, none⟩), v] w (WPost B b w (acc ++ writeAllB l))
theorem write_text {x : Tree} (h : isTxt x.kind = true) : writeB x = quoteL x.text.data.toList ++ headW x := by
  obtain ⟨k, t, m, a, l⟩ := x; simp only [Tree.kind] at h; simp [writeB, headW, h, Tree.kind, Tree.text, Tree.marks]
theorem write_node {x : Tree} (h : isTxt x.kind = false) : writeB x = headW x ++ 91 :: (writeAllB x.kids ++ [93]) := by
  obtain ⟨k, t, m, a, l⟩ := x; simp only [Tree.kind] at h; simp [writeB, headW, h, Tree.kind, Tree.attrs, Tree.kids]
theorem headW_le (x : Tree) : (headW x).length ≤ 4 * weigh x := by
  have h1 := writeB_le x
  cases h : isTxt x.kind with
  | true => rw [write_text h, List.length_append] at h1; omega
  | false => rw [write_node h, List.length_append] at h1; omega
theorem headW_kids (x : Tree) : (headW x).length + 4 * weighAll x.kids + 6 ≤ 4 * weigh x := by
  have h1 := marksW_le x.marks
  have h2 := attrsW_le x.attrs
  have h3 := Lib.size_eq x.kind
  have h4 : x.kind.size + weighL x.marks + weighP x.attrs + weighAll x.kids + 2 ≤ weigh x := by obtain ⟨k, t, m, a, l⟩ := x; simp only [weigh, Tree.kind, Tree.marks, Tree.attrs, Tree.kids]; omega
  cases h : isTxt x.kind with
  | true =>
    have e : headW x = marksW x.marks := by simp [headW, h]
    rw [e]; omega
  | false =>
    have e : headW x = x.kind.data.toList ++ attrsW x.attrs := by simp [headW, h]
    rw [e, List.length_append]; omega
theorem quote_le_weigh (x : Tree) : (quoteL x.text.data.toList).length ≤ 4 * weigh x := by
  have h1 := quoteL_le x.text.data.toList
  have h2 := Lib.size_eq x.text
  obtain ⟨k, t, m, a, l⟩ := x
  simp only [weigh, Tree.text] at *; omega

set_option maxHeartbeats 2000000 in
theorem writeAll_walk : ∀ n, WSaid n := by
  intro n
  induction n using Nat.strongRecOn with
  | ind n ih =>
    have IH := Lib.hid ih
    clear ih
    intro l v w B b acc hn hw hK hacc hBw hB
    have hlen : l.length ≤ 1100000 := by have := length_le_weigh l; omega
    obtain ⟨A, c, rfl, hc⟩ := hK.form
    have HL := Lib.hid hK
    have HB := Lib.hid hB
    clear hK hB
    go_enter Tryd.func58, Tryd.ntmps58
    go_wp2
    go_loopw [8] (fun i wr => ∃ k : Nat, k ≤ l.length ∧ i = .int .i64 k ∧ Hid (Buil wr B b (acc ++ writeAllB (l.take k))) ∧ Below B w wr ∧ Hid (Rest b w wr)) (fun i _ => l.length - (intOf i).toNat)
    case atStart => exact ⟨0, by omega, rfl, Lib.hid (by simpa [writeAllB] using HB.out), Below.refl _ _, Lib.hid (Rest.refl _ _)⟩
    case round =>
      obtain ⟨i, hi, rfl, hcr, hbr, hrr⟩ := hrel
      have hws := hbr.size
      by_cases hlt : i < l.length
      · obtain ⟨g, o, rfl, hub, hrow⟩ := HL.out.get hlt
        have hlx : l[i]? = some l[i] := List.getElem?_eq_getElem hlt
        have HTK : Hid (l.take (i + 1) = l.take i ++ [l[i]]) := Lib.hid (List.take_succ_eq_append_getElem hlt)
        generalize hx : l[i] = x at *
        have hwx := weighAll_take_get l i x HTK.out
        have hwl := writeAllB_le (l.take i)
        have hal : (acc ++ writeAllB (l.take i)).length + 4 * weigh x ≤ 20000000 := by rw [List.length_append]; omega
        obtain ⟨xm, xa, xk, e0, e1, e2, e3, e4, exm, exa, exk⟩ := hrow.node hlx
        have f0 := (hbr.cell (p := ⟨g, o + i * 5, none⟩) hub).trans e0
        have f1 := (hbr.cell (p := ⟨g, o + i * 5 + 1, none⟩) hub).trans e1
        have f2 := (hbr.cell (p := ⟨g, o + i * 5 + 2, none⟩) hub).trans e2
        have f3 := (hbr.cell (p := ⟨g, o + i * 5 + 3, none⟩) hub).trans e3
        have f4 := (hbr.cell (p := ⟨g, o + i * 5 + 4, none⟩) hub).trans e4
        have HXN : Hid (Node w (Under B) (.agg #[.string x.kind, .string x.text, xm, xa, xk]) x) := Lib.hid ⟨_, _, _, rfl, exm, exa, exk⟩
        have HXK := Lib.hid exk
        obtain ⟨A1, c1, rfl, _⟩ := exm.form
        obtain ⟨A2, c2, rfl, _⟩ := exa.form
        obtain ⟨A3, c3, rfl, _⟩ := exk.form
        have HTW : Hid (acc ++ writeAllB (l.take (i + 1)) = (acc ++ writeAllB (l.take i)) ++ writeB x) := Lib.hid (by rw [HTK.out, writeAllB_append]; simp [writeAllB])
        have hhl := headW_le x
        have hql := quote_le_weigh x
        have hkw := kids_weigh x
        have hxt := text_le_weigh x
        generalize acc ++ writeAllB (l.take i) = A0 at *
        have hbl := hcr.out.lt
        have hgl := cell_lt f0
        clear e0 e1 e2 e3 e4 exm exa exk hx hlx hrow
        cases hk : isTxt x.kind with
        | true =>
          have hk' : (x.kind.toList == [116, 101, 120, 116]) = true := hk
          have HWX := Lib.hid (write_text hk)
          clear hk
          go_wp2_with fail
          generalize hW2 : wr.alloc _ = W2
          have hA2 : Below wr.heap.size wr W2 := by subst hW2; exact (Below.refl _ _).alloc (Nat.le_refl _) _
          have HP : Hid (W2.heap[wr.heap.size]? = some (.cells #[.string x.kind, .string x.text, .slice A1 x.marks.length c1, .slice A2 x.attrs.length c2, .slice A3 x.kids.length c3] 26)) := Lib.hid (by subst hW2; show (wr.heap.push _)[wr.heap.size]? = _; simp)
          have hz2 := hA2.size
          clear hW2 f0 f1 f2 f3 f4
          refine (writeQuoted_any B b A0 x.text W2 (hcr.out.below hA2) (by omega) (by omega) (by omega)).mono ?_
          rintro e w3 ⟨rfl, hb3, hB3, hr3⟩
          have HB3 := Lib.hid hb3
          have HR3 := Lib.hid (hrr.out.trans ((Rest.of_below hA2).trans hr3))
          have hp3 := hr3.blk HP.out (by omega) (by decide)
          have hW3 : Below B w w3 := hbr.trans ((hA2.mono (by omega)).trans hB3)
          have hws3 := hW3.size
          have p0 : w3.cell? ⟨wr.heap.size, 0, none⟩ = some (.string x.kind) := by simp only [World.cell?, hp3]; rfl
          have p1 : w3.cell? ⟨wr.heap.size, 1, none⟩ = some (.string x.text) := by simp only [World.cell?, hp3]; rfl
          have p2 : w3.cell? ⟨wr.heap.size, 2, none⟩ = some (.slice A1 x.marks.length c1) := by simp only [World.cell?, hp3]; rfl
          have p3 : w3.cell? ⟨wr.heap.size, 3, none⟩ = some (.slice A2 x.attrs.length c2) := by simp only [World.cell?, hp3]; rfl
          have p4 : w3.cell? ⟨wr.heap.size, 4, none⟩ = some (.slice A3 x.kids.length c3) := by simp only [World.cell?, hp3]; rfl
          clear hb3 hr3 hB3 hp3
          go_wp2_with fail
          refine (writeHead_any B b (A0 ++ quoteL x.text.data.toList) _ x w3 HB3.out (HXN.out.below hW3) (by omega) (by rw [List.length_append]; omega) (by omega)).mono ?_
          rintro e w4 ⟨rfl, hb4, hB4, hr4⟩
          have HB4 := Lib.hid hb4
          have HR4 := Lib.hid (HR3.out.trans hr4)
          have hW4 := hW3.trans hB4
          clear hb4 hr4 hB4 p0 p1 p2 p3 p4
          go_wp2
          refine ⟨⟨i + 1, by omega, by go_num, Lib.hid ?_, hW4, HR4⟩, by simp [intOf]; omega⟩
          have h := HB4.out
          rw [HTW.out, HWX.out, ← List.append_assoc]
          exact h
        | false =>
          have hk' : (x.kind.toList == [116, 101, 120, 116]) = false := hk
          have HWX := Lib.hid (write_node hk)
          have hwl2 := writeAllB_le x.kids
          clear hk
          go_wp2_with fail
          generalize hW2 : wr.alloc _ = W2
          have hA2 : Below wr.heap.size wr W2 := by subst hW2; exact (Below.refl _ _).alloc (Nat.le_refl _) _
          have HP : Hid (W2.heap[wr.heap.size]? = some (.cells #[.string x.kind, .string x.text, .slice A1 x.marks.length c1, .slice A2 x.attrs.length c2, .slice A3 x.kids.length c3] 26)) := Lib.hid (by subst hW2; show (wr.heap.push _)[wr.heap.size]? = _; simp)
          have hz2 := hA2.size
          have hW2' : Below B w W2 := hbr.trans (hA2.mono (by omega))
          clear hW2 f0 f1 f2 f3 f4
          refine (writeHead_any B b A0 _ x W2 (hcr.out.below hA2) (HXN.out.below hW2') (by omega) (by omega) (by omega)).mono ?_
          rintro e w3 ⟨rfl, hb3, hB3, hr3⟩
          have HB3 := Lib.hid hb3
          have HR3 := Lib.hid (hrr.out.trans ((Rest.of_below hA2).trans hr3))
          have HP3 := Lib.hid (hr3.blk HP.out (by omega) (by decide))
          have hW3 := hW2'.trans hB3
          have hws3 := hW3.size
          clear hb3 hr3 hB3
          go_wp2_with fail
          refine (byteN_any B b (A0 ++ headW x) 91 91 w3 (by decide) HB3.out (by rw [List.length_append]; omega) (by omega)).mono ?_
          rintro e w4 ⟨rfl, hb4, hB4, hr4⟩
          have HB4 := Lib.hid hb4
          have HR4 := Lib.hid (HR3.out.trans hr4)
          have hp4 := hr4.blk HP3.out (by omega) (by decide)
          have p4 : w4.cell? ⟨wr.heap.size, 4, none⟩ = some (.slice A3 x.kids.length c3) := by simp only [World.cell?, hp4]; rfl
          have hW4 := hW3.trans hB4
          have hws4 := hW4.size
          have hl4 : ((A0 ++ headW x) ++ [91]).length ≤ A0.length + (headW x).length + 1 := by rw [List.length_append, List.length_append, List.length_singleton]; omega
          have hlw : (A0 ++ headW x ++ [91]).length + 4 * weighAll x.kids ≤ 20000000 := by
            have h1 := headW_kids x
            omega
          clear hb4 hr4 hB4 hp4
          go_wp2_with fail
          refine (IH.out (weighAll x.kids) (by omega) x.kids _ w4 B b (A0 ++ headW x ++ [91]) (Nat.le_refl _) (by omega) (HXK.out.below hW4) hlw (by omega) HB4.out).mono ?_
          rintro e w5 ⟨rfl, hb5, hB5, hr5⟩
          have HB5 := Lib.hid hb5
          have HR5 := Lib.hid (HR4.out.trans hr5)
          have hW5 := hW4.trans hB5
          have hws5 := hW5.size
          clear hb5 hr5 hB5 p4
          go_wp2_with fail
          refine (byteN_any B b (A0 ++ headW x ++ [91] ++ writeAllB x.kids) 93 93 w5 (by decide) HB5.out (by rw [List.length_append]; omega) (by omega)).mono ?_
          rintro e w6 ⟨rfl, hb6, hB6, hr6⟩
          have HB6 := Lib.hid hb6
          have HR6 := Lib.hid (HR5.out.trans hr6)
          have hW6 := hW5.trans hB6
          clear hb6 hr6 hB6
          go_wp2
          refine ⟨⟨i + 1, by omega, by go_num, Lib.hid ?_, hW6, HR6⟩, by simp [intOf]; omega⟩
          have h := HB6.out
          rw [HTW.out, HWX.out]
          rw [show A0 ++ (headW x ++ 91 :: (writeAllB x.kids ++ [93])) = A0 ++ headW x ++ [91] ++ writeAllB x.kids ++ [93] by simp]
          exact h
      · rw [List.take_of_length_le (by omega)] at hcr
        go_wp2
        go_end0
        exact ⟨rfl, hcr.out, hbr, hrr.out⟩

set_option maxHeartbeats 1100000 in
theorem written_any (v : Value) (l : List Tree) (w : World) (h : Kids w (Under w.heap.size) v l) (hw : weighAll l ≤ 1100000) :
    Calls Tryd.prog 44 #[v] w fun e w' => e = .returned (.string ⟨(writeAllB l).toArray⟩) ∧ Below w.heap.size w w' := by
  have HK := Lib.hid h
  obtain ⟨A, c, rfl, _⟩ := h.form
  clear h
  go_enter Tryd.func44, Tryd.ntmps44
  go_wp2_with fail
  have HB := Lib.hid (buil_new w)
  have HW : Hid (Below w.heap.size w (w.alloc (.cells #[.pointer none, .slice none 0 0] 50))) := Lib.hid ((Below.refl _ _).alloc (Nat.le_refl _) _)
  generalize w.alloc (.cells #[.pointer none, .slice none 0 0] 50) = W1 at *
  refine (writeAll_walk (weighAll l) l _ W1 w.heap.size w.heap.size [] (Nat.le_refl _) hw (HK.out.below HW.out) (by simp; omega) HW.out.size HB.out).mono ?_
  rintro e w2 ⟨rfl, hb2, hB2, _⟩
  have HB2 := Lib.hid hb2
  have hW2 := HW.out.trans hB2
  clear hb2 hB2
  go_wp2_with fail
  refine (string_any w.heap.size w.heap.size _ w2 HB2.out hW2.size).mono ?_
  rintro e w3 ⟨rfl, _, hB3, _⟩
  have hW3 := hW2.trans hB3
  clear hB3
  go_wp2
  go_ret
  exact ⟨rfl, hW3⟩

/-- What Print answers. -/
def printB (t : Tree) : List UInt8 := if checkB t = 0 then writeB t else []
theorem ret_pair {s t : ByteArray} {a b : Int} (h : s = t) (h2 : a = b) : Ending.returned (.tuple #[.string s, .int .i64 a]) = .returned (.tuple #[.string t, .int .i64 b]) := by rw [h, h2]

set_option maxHeartbeats 1100000 in
theorem print_any (v : Value) (t : Tree) (w : World) (h : Node w (Under w.heap.size) v t) (hw : weigh t ≤ 1100000) (hT : Tabs w) :
    Calls Tryd.prog 24 #[v] w fun e w' => e = .returned (.tuple #[.string ⟨(printB t).toArray⟩, .int .i64 (checkB t)]) ∧ Below w.heap.size w w' := by
  have HN := Lib.hid h
  have HT := Lib.hid hT
  obtain ⟨vm, va, vk, rfl, hm, ha, hk⟩ := h
  clear hm ha hk hT
  have hb0 : Below w.heap.size w (w.alloc (.cells #[.string t.kind, .string t.text, vm, va, vk] 26)) := (Below.refl _ _).alloc (Nat.le_refl _) _
  go_enter Tryd.func24, Tryd.ntmps24
  go_wp2_with fail
  refine (check_any _ t _ ((HN.out.below hb0).more hb0.size) hw (HT.out.below hb0)).mono ?_
  rintro e w1 ⟨rfl, hb1⟩
  obtain ⟨c0, c1, c2, c3, c4, hB1, hz1⟩ := box5 hb1
  clear hb1 hb0
  by_cases hc : checkB t = 0
  · have HP : Hid (printB t = writeB t) := Lib.hid (by simp [printB, hc])
    have HC := Lib.hid hc
    rw [hc]
    clear hc
    go_wp2_with fail
    have HB : Hid (Below w.heap.size w (w1.alloc (.cells #[.string t.kind, .string t.text, vm, va, vk] 26))) := Lib.hid (hB1.alloc hB1.size _)
    have hz : (w1.alloc (.cells #[.string t.kind, .string t.text, vm, va, vk] 26)).heap.size = w1.heap.size + 1 := by simp
    have hat : NodeAt (w1.alloc (.cells #[.string t.kind, .string t.text, vm, va, vk] 26)) (Under (w1.heap.size + 1)) t w1.heap.size 0 := by
      obtain ⟨vm', va', vk', he, hm, ha, hk⟩ := HN.out
      injection he with he
      injection he with he
      injection he with _ he
      injection he with _ he
      injection he with e1 he
      injection he with e2 he
      injection he with e3 _
      subst e1; subst e2; subst e3
      exact box5_at (w := w1) (Below.refl _ _) ((hm.below HB.out).more (by have := HB.out.size; omega)) ((ha.below HB.out).more (by have := HB.out.size; omega)) ((hk.below HB.out).more (by have := HB.out.size; omega))
    generalize w1.alloc (.cells #[.string t.kind, .string t.text, vm, va, vk] 26) = W2 at *
    refine (written_any _ [t] W2 (kids_one rfl (Nat.le_refl _) (by unfold maxLen; omega) (by unfold Under; omega) (by rw [hz]; exact hat)) (by rw [weighAll_one]; exact hw)).mono ?_
    rintro e w3 ⟨rfl, hb3⟩
    have hB3 := belowNext HB.out hb3
    have HWR : Hid (writeAllB [t] = printB t) := Lib.hid (by rw [HP.out]; simp [writeAllB])
    rw [HWR.out]
    clear hat hb3 hz c0 c1 c2 c3 c4
    go_wp2
    go_ret2
    exact ⟨ret_pair rfl HC.out.symm, hB3⟩
  · have HP : Hid (printB t = []) := Lib.hid (by simp [printB, hc])
    have hq : (checkB t != 0) = true := by simpa using hc
    clear hc
    generalize hr : checkB t = r at *
    have HR := Lib.hid hr
    clear hr
    go_wp2
    go_ret2
    exact ⟨ret_pair (by rw [HP.out]) HR.out.symm, hB1⟩
end Go.Proofs.YtdbpnfabcmndjaaDoor
