/-
  What node.Copy answers.
-/
import Derived.Test.YtmmifednhleggaaW22
import Derived.Test.YtmmifednhleggaaW24
namespace Go.Proofs.Ytmmifednhleggaa
open Go.RowKit Go.Sort

set_option maxHeartbeats 2000000 in
theorem copyP_any (v : Value) (t : Tree) (w : World) (h : Node w (Under w.heap.size) v t) (hw : weigh t ≤ 1000000) :
    Calls Try.prog 29 #[v] w fun e w' => ∃ v', e = .returned v' ∧ NodeP w' t w.heap.size w'.heap.size v' ∧ Below w.heap.size w w' := by
  have hmf : ∀ (fn : Fn) (first cap : Array Value) (w : World), (Instr.makeFunc fn first cap).run Try.prog w = .ok (.func fn first cap) w := fun _ _ _ _ => rfl
  have HN := Lib.hid h
  obtain ⟨vm, va, vk, rfl, hm, ha, hl⟩ := h
  clear hm ha hl
  generalize hW1 : ((w.alloc (.cells #[.string t.kind, .string t.text, vm, va, vk] 31)).alloc (.cells #[.string ⟨#[]⟩, .string ⟨#[]⟩, .slice none 0 0, .slice none 0 0, .slice none 0 0] 31)).alloc (.cells #[.func (.func 39) #[] #[.pointer (some ⟨w.heap.size + 1 + 1, 0, none⟩)]] 63) = W1
  have HB : Hid (Below w.heap.size w W1) := Lib.hid (by subst hW1; exact (((Below.refl _ _).alloc (Nat.le_refl _) _).alloc (by simp) _).alloc (by simp; omega) _)
  have HZ : Hid (W1.heap.size = w.heap.size + 3) := Lib.hid (by subst hW1; simp)
  have HS : Hid (SelfAt W1 39 (w.heap.size + 1 + 1)) := Lib.hid (by subst hW1; simp [SelfAt, go_sem])
  have HR : Hid (W1.heap[w.heap.size + 1]? = some (.cells #[.string ⟨#[]⟩, .string ⟨#[]⟩, .slice none 0 0, .slice none 0 0, .slice none 0 0] 31)) := Lib.hid (by subst hW1; exact heap_old _ _ _ (heap_new' _ _ (by simp)))
  have HW1 := Lib.hid hW1
  clear hW1
  go_enter Try.func29, Try.ntmps29
  go_wp2_with fail
  rw [HW1.out]
  refine (copy_walk t _ W1 _ ((HN.out.below HB.out).more HB.out.size) hw HS.out).mono ?_
  rintro e w2 ⟨v2, rfl, hn2, hb2⟩
  have HN2 := Lib.hid hn2
  obtain ⟨nm, na, nk, rfl, hnm, hna, hnk⟩ := NodeP.node _ _ _ _ hn2
  obtain ⟨B4, e4', rfl, _⟩ := hnm.form
  obtain ⟨B5, e5', rfl, _⟩ := hna.form
  obtain ⟨B6, e6', rfl, _⟩ := hnk.form
  have HB2 := Lib.hid (belowNext HB.out hb2)
  have hz := HZ.out
  have hrr : w2.heap[w.heap.size + 1]? = _ := (hb2.block _ (by omega)).trans HR.out
  have hzz := hb2.size
  have p0 : w2.cell? ⟨w.heap.size + 1, 0, none⟩ = some (.string ⟨#[]⟩) := by simp only [World.cell?, hrr]; rfl
  have p1 : w2.cell? ⟨w.heap.size + 1, 1, none⟩ = some (.string ⟨#[]⟩) := by simp only [World.cell?, hrr]; rfl
  have p2 : w2.cell? ⟨w.heap.size + 1, 2, none⟩ = some (.slice none 0 0) := by simp only [World.cell?, hrr]; rfl
  have p3 : w2.cell? ⟨w.heap.size + 1, 3, none⟩ = some (.slice none 0 0) := by simp only [World.cell?, hrr]; rfl
  have p4 : w2.cell? ⟨w.heap.size + 1, 4, none⟩ = some (.slice none 0 0) := by simp only [World.cell?, hrr]; rfl
  have q : ∀ o, w2.frozen? ⟨w.heap.size + 1, o, none⟩ = false := fun o => by simp [World.frozen?, hrr]
  have q0 := q 0
  have q1 := q 1
  have q2 := q 2
  have q3 := q 3
  have q4 := q 4
  obtain ⟨s0, s1, s2, s3, s4, hbl, hzs⟩ := set5 (v0 := .string t.kind) (v1 := .string t.text) (v2 := .slice B4 t.marks.length e4') (v3 := .slice B5 t.attrs.length e5') (v4 := .slice B6 t.kids.length e6') p0 p1 p2 p3 p4
  have HBL := Lib.hid hbl
  have HQ := Lib.hid (And.intro s0 (And.intro s1 (And.intro s2 (And.intro s3 s4))))
  have HZS := Lib.hid hzs
  have HZO := Lib.hid (set5_os w2 (w.heap.size + 1) (.string t.kind) (.string t.text) (.slice B4 t.marks.length e4') (.slice B5 t.attrs.length e5') (.slice B6 t.kids.length e6'))
  clear q hbl s0 s1 s2 s3 s4 hzs hrr hb2 hnm hna hnk hz hn2
  go_wp2
  generalize ((((w2.setCell ⟨w.heap.size + 1, 0, none⟩ (.string t.kind)).setCell ⟨w.heap.size + 1, 1, none⟩ (.string t.text)).setCell ⟨w.heap.size + 1, 2, none⟩ (.slice B4 t.marks.length e4')).setCell ⟨w.heap.size + 1, 3, none⟩ (.slice B5 t.attrs.length e5')).setCell ⟨w.heap.size + 1, 4, none⟩ (.slice B6 t.kids.length e6') = W9 at *
  obtain ⟨s0, s1, s2, s3, s4⟩ := HQ.out
  refine bodyPost_ret (v := .agg #[.string t.kind, .string t.text, .slice B4 t.marks.length e4', .slice B5 t.attrs.length e5', .slice B6 t.kids.length e6']) (by simp [results, Try.results29, go_sem, s0, s1, s2, s3, s4]) rfl ⟨_, rfl, ?_, ?_⟩
  · exact NodeP.keep _ _ _ _ _ _ (by have := HZ.out; omega) (by have := HZS.out; omega) (fun b hb => HBL.out b (by have := hb.1; have := HZ.out; omega)) HN2.out
  · exact ⟨HZO.out.1.trans HB2.out.os, HZO.out.2.1.trans HB2.out.tape, HZO.out.2.2.trans HB2.out.output, by have := HZS.out; have := HB2.out.size; omega, fun b hb => (HBL.out b (by omega)).trans (HB2.out.block b hb)⟩
theorem copy_any (v : Value) (t : Tree) (w : World) (h : Node w (Under w.heap.size) v t) (hw : weigh t ≤ 1000000) :
    Calls Try.prog 29 #[v] w fun e w' => ∃ v', e = .returned v' ∧ Node w' (From w.heap.size w'.heap.size) v' t ∧ Below w.heap.size w w' :=
  (copyP_any v t w h hw).mono fun _ _ ⟨v', he, hn, hb⟩ => ⟨v', he, NodeP.node _ _ _ _ hn, hb⟩
end Go.Proofs.Ytmmifednhleggaa
