/-
  What the document's Formed answers.
-/
import Derived.Test.YtdbpnfabcmndjaaDoorNe
import Derived.Test.YtdbpnfabcmndjaaDoorAp
namespace Go.Proofs.YtdbpnfabcmndjaaDoor
open Go.RowKit Go.Sort Go.Maps

def RFormed (t : Tree) : Prop := ∀ (v : Value) (w : World), weigh t ≤ 1100000 → Node w (Under w.heap.size) v t →
  Calls Tryd.prog 35 #[v] w fun e w' => e = .returned (.bool (formedB t)) ∧ Below w.heap.size w w'

theorem five_of {w : World} {g : Nat} {u0 u1 u2 u3 u4 : Value} {T : TypeId} (h : w.heap[g]? = some (.cells #[u0, u1, u2, u3, u4] T)) :
    w.cell? ⟨g, 0, none⟩ = some u0 ∧ w.cell? ⟨g, 1, none⟩ = some u1 ∧ w.cell? ⟨g, 2, none⟩ = some u2 ∧ w.cell? ⟨g, 3, none⟩ = some u3 ∧ w.cell? ⟨g, 4, none⟩ = some u4 := by
  simp [World.cell?, h]
theorem block_kept {w w' : World} {g : Nat} {o : Obj} (h : w.heap[g]? = some o) (hb : Below w.heap.size w w') : w'.heap[g]? = some o := (hb.block g (Array.getElem?_eq_some_iff.1 h).1).trans h

set_option maxHeartbeats 4000000 in
/-- A text. -/
theorem rformed_text (t : Tree) (hk : isTxt t.kind = true) : RFormed t := by
  intro v w hw h
  have HN := Lib.hid h
  obtain ⟨A1, c1, A2, c2, A3, c3, rfl⟩ := h.forms1
  have hkl := length_le_weigh t.kids
  have hml := length_le_weighL t.marks
  have hal := length_le_weighP t.attrs
  have hwe : t.text.size ≤ weigh t ∧ weighL t.marks ≤ weigh t := by obtain ⟨k, x, m, a, l⟩ := t; simp only [weigh, Tree.text, Tree.marks]; omega
  have HE : Hid (formedB t = textB t) := Lib.hid (by obtain ⟨k, x, m, a, l⟩ := t; simp only [Tree.kind] at hk; simp [formedB, hk])
  clear h
  generalize hW1 : w.alloc (.cells #[.string t.kind, .string t.text, .slice A1 t.marks.length c1, .slice A2 t.attrs.length c2, .slice A3 t.kids.length c3] 26) = W1
  have HB : Hid (Below w.heap.size w W1) := Lib.hid (by subst hW1; exact (Below.refl _ _).alloc (Nat.le_refl _) _)
  have HBL : Hid (W1.heap[w.heap.size]? = some (.cells #[.string t.kind, .string t.text, .slice A1 t.marks.length c1, .slice A2 t.attrs.length c2, .slice A3 t.kids.length c3] 26)) := Lib.hid (by
    subst hW1; show (w.heap.push _)[w.heap.size]? = _; simp)
  have HM : Hid (∀ W, Below W1.heap.size W1 W → Strs W (Under W.heap.size) (.slice A1 t.marks.length c1) t.marks) := Lib.hid fun W hW => HN.out.kids1.1.keep (fun b hb => Nat.lt_of_lt_of_le hb (Nat.le_trans HB.out.size hW.size)) (fun b hb => (hW.block b (Nat.lt_of_lt_of_le hb HB.out.size)).trans (HB.out.block b hb))
  obtain ⟨x0, x1, x2, x3, x4⟩ := five_of HBL.out
  have hkk : (t.kind.toList == [116, 101, 120, 116]) = true := hk
  have HW1 := Lib.hid hW1
  clear hW1 hk
  go_enter Tryd.func35, Tryd.ntmps35
  go_upto_region 2 with fail
  rw [HW1.out]
  by_cases he : t.text.toList = []
  · have HF : Hid (formedB t = false) := Lib.hid (by rw [HE.out]; unfold textB; rw [he]; rfl)
    go_wp2
    go_ret
    exact ⟨by rw [HF.out]; rfl, HB.out⟩
  · have he1 : (t.text.toList == []) = false := by simpa using he
    have HT0 : Hid (textB t = (Lib.validD t.text.data.toList && (marksB t.marks && (decide (t.attrs.length = 0) && decide (t.kids.length = 0))))) := Lib.hid (by unfold textB; rw [show t.text.toList.isEmpty = false by simpa using he]; rfl)
    go_wp2_with fail
    refine (rformed_any t.text W1 (by omega)).mono ?_
    rintro e w2 ⟨rfl, hb2⟩
    have HB2 := Lib.hid hb2
    obtain ⟨y0, y1, y2, y3, y4⟩ := five_of (block_kept HBL.out hb2)
    clear hb2 x0 x1 x2 x3 x4
    cases hv : Lib.validD t.text.data.toList with
    | false =>
      have HF : Hid (formedB t = false) := Lib.hid (by rw [HE.out, HT0.out, hv]; rfl)
      clear hv
      go_wp2
      go_ret
      exact ⟨by rw [HF.out]; rfl, HB.out.trans (HB2.out.mono HB.out.size)⟩
    | true =>
      have HV := Lib.hid hv
      clear hv
      go_wp2_with fail
      refine (rrise_any _ t.marks _ w2 (HM.out w2 HB2.out) (fun b hb => hb) (by omega)).mono ?_
      rintro e w3 ⟨rfl, hb3⟩
      have HB3 := Lib.hid (belowNext HB2.out hb3)
      obtain ⟨z0, z1, z2, z3, z4⟩ := five_of (block_kept HBL.out HB3.out)
      clear hb3 y0 y1 y2 y3 y4
      cases hm : marksB t.marks with
      | false =>
        have HF : Hid (formedB t = false) := Lib.hid (by rw [HE.out, HT0.out, HV.out, hm]; rfl)
        clear hm
        go_wp2
        go_ret
        exact ⟨by rw [HF.out]; rfl, HB.out.trans (HB3.out.mono HB.out.size)⟩
      | true =>
        have HM1 := Lib.hid hm
        clear hm
        by_cases ha : t.attrs.length = 0
        · have ha' : ((t.attrs.length : Int) == 0) = true := by simp [ha]
          by_cases hl : t.kids.length = 0
          · have hl' : ((t.kids.length : Int) == 0) = true := by simp [hl]
            have HF : Hid (formedB t = true) := Lib.hid (by rw [HE.out, HT0.out, HV.out, HM1.out]; simp [ha, hl])
            clear ha hl
            go_wp2
            go_ret
            exact ⟨by rw [HF.out]; rfl, HB.out.trans (HB3.out.mono HB.out.size)⟩
          · have hl' : ((t.kids.length : Int) == 0) = false := by rw [beq_eq_false_iff_ne]; omega
            have HF : Hid (formedB t = false) := Lib.hid (by rw [HE.out, HT0.out, HV.out, HM1.out]; simp [hl])
            clear ha hl
            go_wp2
            go_ret
            exact ⟨by rw [HF.out]; rfl, HB.out.trans (HB3.out.mono HB.out.size)⟩
        · have ha' : ((t.attrs.length : Int) == 0) = false := by rw [beq_eq_false_iff_ne]; omega
          have HF : Hid (formedB t = false) := Lib.hid (by rw [HE.out, HT0.out, HV.out, HM1.out]; simp [ha])
          clear ha
          go_wp2
          go_ret
          exact ⟨by rw [HF.out]; rfl, HB.out.trans (HB3.out.mono HB.out.size)⟩
end Go.Proofs.YtdbpnfabcmndjaaDoor
