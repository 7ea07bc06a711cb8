/-
  The reader's closed: a node that is too deep is judged on the spot.
-/
import Derived.Test.YtdcgffepdgldmaaDoorD8
namespace Go.Proofs.YtdcgffepdgldmaaDoor
open Go.RowKit Go.Sort Go.Maps

/-- A node without its kids. -/
def bare (t : Tree) : Tree := .mk t.kind t.text t.marks t.attrs []
/-- What closed makes of a node: the node, and whether it stands wrong. -/
def closedL (d : Nat) (t : Tree) : Tree × Bool := if d ≤ 40 then (t, false) else (bare t, checkB t == 2)

def ClPost (R : Nat) (S : Nat → Prop) (l : List UInt8) (x : Bool) (w : World) (q : Tree × Bool) (e : Ending) (w' : World) : Prop :=
  ∃ v', e = .returned v' ∧ Node w' S v' q.1 ∧ Rd w' R (if q.2 then [] else l) (x || q.2) ∧ OnlyR R w w'
theorem two_new (w : World) (a b : Obj) : ((w.alloc a).alloc b).heap[w.heap.size]? = some a ∧ ((w.alloc a).alloc b).heap[w.heap.size + 1]? = some b := by
  constructor
  · rw [Below.heap_alloc _ _ _ (by simp)]; exact heap_alloc_new w a
  · have := heap_alloc_new (w.alloc a) b
    rwa [show (w.alloc a).heap.size = w.heap.size + 1 by simp] at this

set_option maxHeartbeats 4000000 in
theorem rd_closed (R : Nat) (l : List UInt8) (x : Bool) (v : Value) (t : Tree) (S : Nat → Prop) (d : Nat) (w : World) (h : Rd w R l x) (hn : Node w S v t) (hS : ∀ b, S b → b < w.heap.size ∧ b ≠ R) (hd : d ≤ 100000000) (hw : weigh t ≤ 1000000) (hT : Tabs w) :
    Calls Tryd.prog 73 #[.pointer (some ⟨R, 0, none⟩), v, .int .i64 (d : Int)] w (ClPost R S l x w (closedL d t)) := by
  have hRw := h.lt
  have HN := Lib.hid hn
  have HS := Lib.hid hS
  obtain ⟨vm, va, vk, rfl, hm, ha, hk⟩ := hn
  obtain ⟨A1, c1, rfl, _⟩ := hm.form
  obtain ⟨A2, c2, rfl, _⟩ := ha.form
  obtain ⟨A3, c3, rfl, _⟩ := hk.form
  have HM := Lib.hid hm
  have HA := Lib.hid ha
  have HK := Lib.hid hk
  clear hm ha hk hS
  have hb0 : Below w.heap.size w ((w.alloc (.cells #[.string t.kind, .string t.text, .slice A1 t.marks.length c1, .slice A2 t.attrs.length c2, .slice A3 t.kids.length c3] 27)).alloc (.cells #[.string ⟨#[]⟩, .string ⟨#[]⟩, .slice none 0 0, .slice none 0 0, .slice none 0 0] 27)) := ((Below.refl _ _).alloc (Nat.le_refl _) _).alloc (by simp) _
  obtain ⟨hx0, hx1⟩ := two_new w (.cells #[.string t.kind, .string t.text, .slice A1 t.marks.length c1, .slice A2 t.attrs.length c2, .slice A3 t.kids.length c3] 27) (.cells #[.string ⟨#[]⟩, .string ⟨#[]⟩, .slice none 0 0, .slice none 0 0, .slice none 0 0] 27)
  have hz0 : ((w.alloc (.cells #[.string t.kind, .string t.text, .slice A1 t.marks.length c1, .slice A2 t.attrs.length c2, .slice A3 t.kids.length c3] 27)).alloc (.cells #[.string ⟨#[]⟩, .string ⟨#[]⟩, .slice none 0 0, .slice none 0 0, .slice none 0 0] 27)).heap.size = w.heap.size + 2 := by simp
  have HB0 := Lib.hid hb0
  have HX0 := Lib.hid hx0
  have HX1 := Lib.hid hx1
  have HR0 := Lib.hid (h.below hb0)
  have HRW := Lib.hid h
  clear hb0 hx0 hx1 h
  by_cases hd4 : d ≤ 40
  · have HC : Hid (closedL d t = (t, false)) := Lib.hid (if_pos hd4)
    obtain ⟨a0, a1, a2, a3, a4⟩ := five_cells HX0.out
    obtain ⟨b0, b1, b2, b3, b4⟩ := five_cells HX1.out
    have f0 := frozen_of_row _ _ 0 _ _ HX1.out
    have f1 := frozen_of_row _ _ 1 _ _ HX1.out
    have f2 := frozen_of_row _ _ 2 _ _ HX1.out
    have f3 := frozen_of_row _ _ 3 _ _ HX1.out
    have f4 := frozen_of_row _ _ 4 _ _ HX1.out
    go_enter Tryd.func73, Tryd.ntmps73
    go_wp2
    have hb1 : Below w.heap.size w ((w.alloc (.cells #[.string t.kind, .string t.text, .slice A1 t.marks.length c1, .slice A2 t.attrs.length c2, .slice A3 t.kids.length c3] 27)).alloc (.cells #[.string t.kind, .string t.text, .slice A1 t.marks.length c1, .slice A2 t.attrs.length c2, .slice A3 t.kids.length c3] 27)) := ((Below.refl _ _).alloc (Nat.le_refl _) _).alloc (by simp) _
    obtain ⟨_, hq⟩ := two_new w (.cells #[.string t.kind, .string t.text, .slice A1 t.marks.length c1, .slice A2 t.attrs.length c2, .slice A3 t.kids.length c3] 27) (.cells #[.string t.kind, .string t.text, .slice A1 t.marks.length c1, .slice A2 t.attrs.length c2, .slice A3 t.kids.length c3] 27)
    generalize (w.alloc (.cells #[.string t.kind, .string t.text, .slice A1 t.marks.length c1, .slice A2 t.attrs.length c2, .slice A3 t.kids.length c3] 27)).alloc (.cells #[.string t.kind, .string t.text, .slice A1 t.marks.length c1, .slice A2 t.attrs.length c2, .slice A3 t.kids.length c3] 27) = W at *
    obtain ⟨q0, q1, q2, q3, q4⟩ := five_cells hq
    refine bodyPost_ret (v := .agg #[.string t.kind, .string t.text, .slice A1 t.marks.length c1, .slice A2 t.attrs.length c2, .slice A3 t.kids.length c3]) (by simp [results, Tryd.results73, go_sem, q0, q1, q2, q3, q4]) rfl ⟨_, rfl, ?_, ?_, OnlyR.of_below R hb1⟩
    · rw [HC.out]; exact HN.out.keep (fun _ h => h) fun b hb => hb1.block b (HS.out b hb).1
    · rw [HC.out]; simpa using HRW.out.below hb1
  · have HC : Hid (closedL d t = (bare t, checkB t == 2)) := Lib.hid (if_neg hd4)
    obtain ⟨a0, a1, a2, a3, a4⟩ := five_cells HX0.out
    have HNU := Lib.hid (HN.out.keep (S' := Under (w.heap.size + 2)) (fun b hb => by have := (HS.out b hb).1; show b < _; omega) fun b hb => HB0.out.block b (HS.out b hb).1)
    have HT0 := Lib.hid (hT.below HB0.out)
    go_enter Tryd.func73, Tryd.ntmps73
    go_wp2_with fail
    generalize (w.alloc (.cells #[.string t.kind, .string t.text, .slice A1 t.marks.length c1, .slice A2 t.attrs.length c2, .slice A3 t.kids.length c3] 27)).alloc (.cells #[.string ⟨#[]⟩, .string ⟨#[]⟩, .slice none 0 0, .slice none 0 0, .slice none 0 0] 27) = w2 at *
    refine (check_any _ t w2 (by rw [hz0]; exact HNU.out) hw HT0.out).mono ?_
    rintro e w3 ⟨rfl, hb3⟩
    have HR3 := Lib.hid (HR0.out.below hb3)
    have HX03 := Lib.hid ((hb3.block _ (by omega)).trans HX0.out)
    have HX13 := Lib.hid ((hb3.block _ (by omega)).trans HX1.out)
    have HO3 := Lib.hid (OnlyR.of_below R (HB0.out.trans (hb3.mono (by omega))))
    have hz3 := hb3.size
    clear hb3 a0 a1 a2 a3 a4
    by_cases hc : checkB t = 2
    · have HCK := Lib.hid hc
      rw [hc]
      clear hc
      go_wp2_with fail
      refine (rd_fail R _ _ w3 HR3.out).mono ?_
      rintro e w4 ⟨rfl, h4, o4⟩
      have HR4 := Lib.hid h4
      have HX04 := Lib.hid ((o4.block _ (by omega) (by omega)).trans HX03.out)
      have HX14 := Lib.hid ((o4.block _ (by omega) (by omega)).trans HX13.out)
      have HO4 := Lib.hid (HO3.out.trans o4)
      have hz4 := o4.size
      clear h4 o4
      have g4 := frozen_of_row w4 _ 4 _ _ HX04.out
      obtain ⟨_, _, _, _, g5⟩ := five_cells HX04.out
      have x5 := heap_setCell_same w4 _ 4 _ _ (.slice none 0 0) HX04.out
      have y5 : (w4.setCell ⟨w.heap.size, 4, none⟩ (.slice none 0 0)).heap[w.heap.size + 1]? = _ := (Below.heap_setCell w4 ⟨w.heap.size, 4, none⟩ (.slice none 0 0) (w.heap.size + 1) (by show w.heap.size + 1 ≠ w.heap.size; omega)).trans HX14.out
      have o5 := OnlyR.set w.heap.size 4 w4 (.slice none 0 0)
      obtain ⟨a0, a1, a2, a3, a4⟩ := five_cells x5
      obtain ⟨b0, b1, b2, b3, b4⟩ := five_cells y5
      have f0 := frozen_of_row _ _ 0 _ _ y5
      have f1 := frozen_of_row _ _ 1 _ _ y5
      have f2 := frozen_of_row _ _ 2 _ _ y5
      have f3 := frozen_of_row _ _ 3 _ _ y5
      have f4 := frozen_of_row _ _ 4 _ _ y5
      have HY5 := Lib.hid y5
      have HO5 := Lib.hid o5
      clear x5 y5 o5
      go_wp2
      have hq := put5_at HY5.out (.string t.kind) (.string t.text) (.slice A1 t.marks.length c1) (.slice A2 t.attrs.length c2) (.slice none 0 0)
      have o6 := put5_only (w4.setCell ⟨w.heap.size, 4, none⟩ (.slice none 0 0)) (w.heap.size + 1) (.string t.kind) (.string t.text) (.slice A1 t.marks.length c1) (.slice A2 t.attrs.length c2) (.slice none 0 0)
      change bodyPost _ _ _ _ _ (put5 (w4.setCell ⟨w.heap.size, 4, none⟩ (.slice none 0 0)) (w.heap.size + 1) (.string t.kind) (.string t.text) (.slice A1 t.marks.length c1) (.slice A2 t.attrs.length c2) (.slice none 0 0))
      have hb6 : Below w.heap.size w4 (put5 (w4.setCell ⟨w.heap.size, 4, none⟩ (.slice none 0 0)) (w.heap.size + 1) (.string t.kind) (.string t.text) (.slice A1 t.marks.length c1) (.slice A2 t.attrs.length c2) (.slice none 0 0)) := (HO5.out.below (Nat.le_refl _) (by omega)).trans (o6.below (by omega) (by have := HO5.out.size; omega))
      generalize put5 (w4.setCell ⟨w.heap.size, 4, none⟩ (.slice none 0 0)) (w.heap.size + 1) (.string t.kind) (.string t.text) (.slice A1 t.marks.length c1) (.slice A2 t.attrs.length c2) (.slice none 0 0) = W at *
      obtain ⟨q0, q1, q2, q3, q4⟩ := five_cells hq
      have kept : ∀ b, S b → W.heap[b]? = w.heap[b]? := fun b hb => (hb6.block b (HS.out b hb).1).trans (HO4.out.block b (HS.out b hb).1 (HS.out b hb).2)
      refine bodyPost_ret (v := .agg #[.string t.kind, .string t.text, .slice A1 t.marks.length c1, .slice A2 t.attrs.length c2, .slice none 0 0]) (by simp [results, Tryd.results73, go_sem, q0, q1, q2, q3, q4]) rfl ⟨_, rfl, ?_, ?_, HO4.out.thenBelow hb6 (Nat.le_refl _)⟩
      · rw [HC.out]; exact ⟨_, _, _, rfl, HM.out.keep (fun _ h => h) kept, HA.out.keep (fun _ h => h) kept, kids_nil⟩
      · rw [HC.out]; simpa [HCK.out] using HR4.out.under hb6 hRw
    · have HCK := Lib.hid hc
      have hcb : (checkB t == 2) = false := beq_eq_false_iff_ne.2 hc
      clear hc
      have g4 := frozen_of_row w3 _ 4 _ _ HX03.out
      obtain ⟨_, _, _, _, g5⟩ := five_cells HX03.out
      have x5 := heap_setCell_same w3 _ 4 _ _ (.slice none 0 0) HX03.out
      have y5 : (w3.setCell ⟨w.heap.size, 4, none⟩ (.slice none 0 0)).heap[w.heap.size + 1]? = _ := (Below.heap_setCell w3 ⟨w.heap.size, 4, none⟩ (.slice none 0 0) (w.heap.size + 1) (by show w.heap.size + 1 ≠ w.heap.size; omega)).trans HX13.out
      have o5 := OnlyR.set w.heap.size 4 w3 (.slice none 0 0)
      obtain ⟨a0, a1, a2, a3, a4⟩ := five_cells x5
      obtain ⟨b0, b1, b2, b3, b4⟩ := five_cells y5
      have f0 := frozen_of_row _ _ 0 _ _ y5
      have f1 := frozen_of_row _ _ 1 _ _ y5
      have f2 := frozen_of_row _ _ 2 _ _ y5
      have f3 := frozen_of_row _ _ 3 _ _ y5
      have f4 := frozen_of_row _ _ 4 _ _ y5
      have HY5 := Lib.hid y5
      have HO5 := Lib.hid o5
      clear x5 y5 o5
      go_wp2
      have hq := put5_at HY5.out (.string t.kind) (.string t.text) (.slice A1 t.marks.length c1) (.slice A2 t.attrs.length c2) (.slice none 0 0)
      have o6 := put5_only (w3.setCell ⟨w.heap.size, 4, none⟩ (.slice none 0 0)) (w.heap.size + 1) (.string t.kind) (.string t.text) (.slice A1 t.marks.length c1) (.slice A2 t.attrs.length c2) (.slice none 0 0)
      change bodyPost _ _ _ _ _ (put5 (w3.setCell ⟨w.heap.size, 4, none⟩ (.slice none 0 0)) (w.heap.size + 1) (.string t.kind) (.string t.text) (.slice A1 t.marks.length c1) (.slice A2 t.attrs.length c2) (.slice none 0 0))
      have hb6 : Below w.heap.size w3 (put5 (w3.setCell ⟨w.heap.size, 4, none⟩ (.slice none 0 0)) (w.heap.size + 1) (.string t.kind) (.string t.text) (.slice A1 t.marks.length c1) (.slice A2 t.attrs.length c2) (.slice none 0 0)) := (HO5.out.below (Nat.le_refl _) (by omega)).trans (o6.below (by omega) (by have := HO5.out.size; omega))
      generalize put5 (w3.setCell ⟨w.heap.size, 4, none⟩ (.slice none 0 0)) (w.heap.size + 1) (.string t.kind) (.string t.text) (.slice A1 t.marks.length c1) (.slice A2 t.attrs.length c2) (.slice none 0 0) = W at *
      obtain ⟨q0, q1, q2, q3, q4⟩ := five_cells hq
      have kept : ∀ b, S b → W.heap[b]? = w.heap[b]? := fun b hb => (hb6.block b (HS.out b hb).1).trans (HO3.out.block b (HS.out b hb).1 (HS.out b hb).2)
      refine bodyPost_ret (v := .agg #[.string t.kind, .string t.text, .slice A1 t.marks.length c1, .slice A2 t.attrs.length c2, .slice none 0 0]) (by simp [results, Tryd.results73, go_sem, q0, q1, q2, q3, q4]) rfl ⟨_, rfl, ?_, ?_, HO3.out.thenBelow hb6 (Nat.le_refl _)⟩
      · rw [HC.out]; exact ⟨_, _, _, rfl, HM.out.keep (fun _ h => h) kept, HA.out.keep (fun _ h => h) kept, kids_nil⟩
      · rw [HC.out]; rw [show (checkB t == 2) = false from beq_eq_false_iff_ne.2 HCK.out]; simpa using HR3.out.under hb6 hRw
end Go.Proofs.YtdcgffepdgldmaaDoor
