/-
  The document's Words: what it answers.
-/
import Derived.Test.YtdbpnfabcmndjaaDoorNb
namespace Go.Proofs.YtdbpnfabcmndjaaDoor
open Go.RowKit Go.Sort

theorem wapp (a b : ByteArray) : (a ++ b).data.toList = a.data.toList ++ b.data.toList := by rw [ByteArray.data_append]; simp
theorem wsize {a : ByteArray} {l : List UInt8} (h : a.data.toList = l) : a.size = l.length := by rw [← h, Array.length_toList]; rfl
theorem wordsAll_take1 {l : List Tree} {k : Nat} {x : Tree} (hx : l[k]? = some x) : wordsAll (l.take (k + 1)) = wordsAll (l.take k) ++ wordsB x := by
  rw [List.take_add_one, hx, wordsAll_append]; simp [wordsAll]
def RWords (t : Tree) : Prop := ∀ (v : Value) (w : World), weigh t ≤ 1100000 → Node w (Under w.heap.size) v t →
  Calls Tryd.prog 19 #[v] w fun e w' => (∃ s : ByteArray, e = .returned (.string s) ∧ s.data.toList = wordsB t) ∧ Below w.heap.size w w'

set_option maxHeartbeats 2000000 in
theorem rwords_of (t : Tree) (ih : ∀ x, x ∈ t.kids → RWords x) : RWords t := by
  intro v w hw h
  have IH := Lib.hid ih
  have HN := Lib.hid h
  obtain ⟨A1, c1, A2, c2, A3, c3, rfl⟩ := h.forms1
  have hkl := length_le_weigh t.kids
  have hkw := kids_weigh t
  clear ih h
  generalize hW1 : w.alloc (.cells #[.string t.kind, .string t.text, .slice A1 t.marks.length c1, .slice A2 t.attrs.length c2, .slice A3 t.kids.length c3] 26) = W1
  have HB : Hid (Below w.heap.size w W1) := Lib.hid (by subst hW1; exact (Below.refl _ _).alloc (Nat.le_refl _) _)
  have HBL : Hid (W1.heap[w.heap.size]? = some (.cells #[.string t.kind, .string t.text, .slice A1 t.marks.length c1, .slice A2 t.attrs.length c2, .slice A3 t.kids.length c3] 26)) := Lib.hid (by
    subst hW1; show (w.heap.push _)[w.heap.size]? = _; simp)
  have HK1 : Hid (Kids W1 (Under W1.heap.size) (.slice A3 t.kids.length c3) t.kids) := Lib.hid ((HN.out.kids1.2.2.below HB.out).more HB.out.size)
  obtain ⟨x0, x1, x2, x3, x4⟩ : W1.cell? ⟨w.heap.size, 0, none⟩ = some (.string t.kind) ∧ W1.cell? ⟨w.heap.size, 1, none⟩ = some (.string t.text) ∧ W1.cell? ⟨w.heap.size, 2, none⟩ = some (.slice A1 t.marks.length c1) ∧ W1.cell? ⟨w.heap.size, 3, none⟩ = some (.slice A2 t.attrs.length c2) ∧ W1.cell? ⟨w.heap.size, 4, none⟩ = some (.slice A3 t.kids.length c3) := by
    have := HBL.out; simp [World.cell?, this]
  have HX4 := Lib.hid x4
  have HW1 := Lib.hid hW1
  clear hW1
  cases hk : isTxt t.kind with
  | true =>
    have HE : Hid (wordsB t = t.text.data.toList) := Lib.hid (by obtain ⟨k, t, m, a, l⟩ := t; simp only [Tree.kind] at hk; simp [wordsB, hk, Tree.text])
    have hkk : (t.kind.toList == [116, 101, 120, 116]) = true := hk
    clear hk
    go_enter Tryd.func19, Tryd.ntmps19
    go_upto_region 2 with fail
    rw [HW1.out]
    go_wp2
    go_ret
    exact ⟨⟨_, rfl, HE.out.symm⟩, HB.out⟩
  | false =>
    have HE : Hid (wordsB t = wordsAll t.kids) := Lib.hid (by obtain ⟨k, t, m, a, l⟩ := t; simp only [Tree.kind] at hk; simp [wordsB, hk, Tree.kids])
    have hkk : (t.kind.toList == [116, 101, 120, 116]) = false := hk
    clear hk
    go_enter Tryd.func19, Tryd.ntmps19
    go_upto_region 3 with fail
    rw [HW1.out]
    clear x0 x1 x2 x3 x4
    go_wp2
    go_loopg [3, 4] t.kids.length (fun gh s3 s4 wx => ∃ (k : Nat) (st : ByteArray), k + gh = t.kids.length ∧ s4 = .int .i64 (k : Int) ∧ s3 = .string st ∧ Hid (st.data.toList = wordsAll (t.kids.take k)) ∧ Hid (Below W1.heap.size W1 wx))
    case atStart => exact ⟨0, _, by omega, rfl, rfl, Lib.hid (by simp [wordsAll]), Lib.hid (Below.refl _ _)⟩
    case round =>
      obtain ⟨k, st, hkg, rfl, rfl, hst, hb⟩ := hrel
      have x4 := cell_kept HX4.out hb.out
      have hwt := weighAll_take t.kids k
      by_cases hlt : k < t.kids.length
      · have hx : t.kids[k]? = some t.kids[k] := List.getElem?_eq_getElem hlt
        have HIX := Lib.hid (IH.out t.kids[k] (List.getElem_mem hlt))
        have hwx := weigh_mem (List.getElem_mem hlt)
        have HD := Lib.hid (wordsAll_take1 hx)
        generalize t.kids[k] = x at *
        obtain ⟨b, o, E1, l1, e1, E2, l2, e2, E3, e3, rfl, r0, r1, r2, r3, r4, hnx⟩ := HK1.out.late hb.out hx
        have HNX := Lib.hid hnx
        have hdx := words_le_weigh x
        have hsl : st.size ≤ 1100000 := by rw [wsize hst.out]; have := wordsAll_le_weigh (t.kids.take k); omega
        clear hx hnx
        go_wp2_with fail
        refine (HIX.out _ wr (by omega) (HNX.out wr hb.out)).mono ?_
        rintro e w4 ⟨⟨sx, rfl, hsx⟩, hb4⟩
        have HB4 := Lib.hid (belowNext hb.out hb4)
        have hxl : sx.size ≤ 1100000 := by rw [wsize hsx]; omega
        have o1 : ¬ 9223372036854775807 < st.size + sx.size := by omega
        have HSX := Lib.hid hsx
        clear hb4 r0 r1 r2 r3 r4 hsx
        go_wp2
        go_roundg (t.kids.length - (k + 1))
        case measure => omega
        case rel => exact ⟨k + 1, _, by omega, by go_num, rfl, Lib.hid (by rw [wapp, hst.out, HSX.out, HD.out]), HB4⟩
      · have HD : Hid (wordsAll t.kids = wordsAll (t.kids.take k)) := Lib.hid (by rw [List.take_of_length_le (by omega)])
        go_wp2
        go_ret
        exact ⟨⟨_, rfl, by rw [HE.out, HD.out]; exact hst.out⟩, HB.out.trans (hb.out.mono HB.out.size)⟩
theorem rwords_any (t : Tree) : RWords t := by
  induction t using Tree.induct_one with
  | h k t m a l ih => exact rwords_of _ fun x hx => ih x hx
end Go.Proofs.YtdbpnfabcmndjaaDoor
