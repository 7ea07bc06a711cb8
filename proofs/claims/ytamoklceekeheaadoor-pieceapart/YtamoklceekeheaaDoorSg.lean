/-
  What spanOf, Cut and Put answer, where the positions are in two nodes.
-/
import Derived.Test.YtamoklceekeheaaDoorMC
namespace Go.Proofs.YtamoklceekeheaaDoor
open Go.RowKit Go.Sort Go.Maps
attribute [local go_sem ↓] Go.wp_at_zero Go.wp_at_succ

set_option maxHeartbeats 20000000 in
set_option maxRecDepth 100000 in
theorem span_apart (v : Value) (t : Tree) (a b : Nat) (p p2 : List Int) (j1 o1 j2 o2 : Nat) (w : World) (h : Node w (Under w.heap.size) v t) (hw : weigh t ≤ 800000) (hpp : p ≠ p2) (ha : resolveB t (a : Int) = some (p, j1, o1)) (hb : resolveB t (b : Int) = some (p2, j2, o2)) (hab : a ≤ b) (hb9 : b ≤ 1000000) :
    Calls Tryd.prog 29 #[v, .int .i64 (a : Int), .int .i64 (b : Int)] w fun e w' => e = .returned (.tuple #[.agg #[.slice none 0 0, .string ⟨#[]⟩, .string ⟨#[]⟩, .slice none 0 0, .slice none 0 0, .slice none 0 0, .slice none 0 0, .slice none 0 0, .slice none 0 0], .int .i64 10]) ∧ Below w.heap.size w w' := by
  have HN := Lib.hid h
  have HA := Lib.hid ha
  have HB := Lib.hid hb
  obtain ⟨A1, n1, c1, A2, n2, c2, A3, c3, rfl⟩ := h.forms
  clear h ha hb
  obtain ⟨hb0, hx0, hl0⟩ := new_box w (.cells #[.string t.kind, .string t.text, .slice A1 n1 c1, .slice A2 n2 c2, .slice A3 t.kids.length c3] 28)
  obtain ⟨hb1, hx1, hl1⟩ := new_box (w.alloc (.cells #[.string t.kind, .string t.text, .slice A1 n1 c1, .slice A2 n2 c2, .slice A3 t.kids.length c3] 28)) SpanZ
  have HB1 := Lib.hid (belowNext hb0 hb1)
  have HX1 := Lib.hid ((hb1.block _ hl0).trans hx0)
  have HZ1 := Lib.hid hx1
  have HL0 : Hid (w.heap.size < ((w.alloc (.cells #[.string t.kind, .string t.text, .slice A1 n1 c1, .slice A2 n2 c2, .slice A3 t.kids.length c3] 28)).alloc SpanZ).heap.size) := Lib.hid (Nat.lt_of_lt_of_le hl0 hb1.size)
  clear hb0 hx0 hl0 hb1 hx1 hl1
  go_enter Tryd.func29, Tryd.ntmps29
  go_upto_region 1 with fail
  generalize hW1 : (w.alloc (.cells #[.string t.kind, .string t.text, .slice A1 n1 c1, .slice A2 n2 c2, .slice A3 t.kids.length c3] 28)).alloc SpanZ = w1 at *
  clear hW1
  have HG1 : Hid (w1.heap[w.heap.size + 1]? = some SpanZ) := Lib.hid (by have := HZ1.out; simpa using this)
  have HL1 : Hid (w.heap.size + 1 < w1.heap.size) := Lib.hid (Array.getElem?_eq_some_iff.1 HG1.out).1
  clear HZ1
  have HND : Hid (∀ W, Below w1.heap.size w1 W → Node W (Under W.heap.size) (.agg #[.string t.kind, .string t.text, .slice A1 n1 c1, .slice A2 n2 c2, .slice A3 t.kids.length c3]) t) := Lib.hid fun W hW => (HN.out.below (belowNext HB1.out hW)).more (belowNext HB1.out hW).size
  have HXD : Hid (∀ W, Below w1.heap.size w1 W → W.heap[w.heap.size]? = some (.cells #[.string t.kind, .string t.text, .slice A1 n1 c1, .slice A2 n2 c2, .slice A3 t.kids.length c3] 28)) := Lib.hid fun W hW => (hW.block _ HL0.out).trans HX1.out
  have HRD : Hid (∀ W, Below w1.heap.size w1 W → W.heap[w.heap.size + 1]? = some SpanZ) := Lib.hid fun W hW => (hW.block _ HL1.out).trans HG1.out
  obtain ⟨x0, x1, x2, x3, x4⟩ := cells5 HX1.out
  -- first
  go_wp2_with fail
  refine (resolve_any _ t (a : Int) w1 (HND.out w1 (Below.refl _ _)) (by omega) (by omega) (by omega)).mono ?_
  rintro e w2 ⟨hb2, hr2⟩
  rw [HA.out] at hr2
  rcases hr2 with ⟨hr2, _⟩ | ⟨p', j', o', P1, q1, hr2, rfl, hi2⟩
  · cases hr2
  simp only [Option.some.injEq, Prod.mk.injEq] at hr2
  obtain ⟨rfl, rfl, rfl⟩ := hr2
  obtain ⟨ha3, hs3, hl3⟩ := new_box w2 (.cells #[.slice P1 p.length q1, .int .i64 (j1 : Int), .int .i64 (o1 : Int)] 56)
  have HB3 := Lib.hid (belowNext hb2 ha3)
  have HS3 := Lib.hid hs3
  have HL3 := Lib.hid hl3
  have HI3 := Lib.hid (hi2.keep (S' := From w1.heap.size w2.heap.size) (w' := w2.alloc (.cells #[.slice P1 p.length q1, .int .i64 (j1 : Int), .int .i64 (o1 : Int)] 56)) (fun _ h => h) (fun b hb => ha3.block b hb.2))
  have HZ2 := Lib.hid hb2.size
  clear hb2 hi2 ha3 hs3 hl3 x0 x1 x2 x3 x4
  go_upto_region 2 with fail
  generalize w2.alloc (.cells #[.slice P1 p.length q1, .int .i64 (j1 : Int), .int .i64 (o1 : Int)] 56) = w3 at *
  generalize w2.heap.size = g2 at *
  obtain ⟨x0, x1, x2, x3, x4⟩ := cells5 (HXD.out w3 HB3.out)
  -- last
  go_wp2_with fail
  refine (resolve_any _ t (b : Int) w3 (HND.out w3 HB3.out) (by omega) (by omega) (by omega)).mono ?_
  rintro e w4 ⟨hb4, hr4⟩
  rw [HB.out] at hr4
  rcases hr4 with ⟨hr4, _⟩ | ⟨p', j', o', P2, q2, hr4, rfl, hi4⟩
  · cases hr4
  simp only [Option.some.injEq, Prod.mk.injEq] at hr4
  obtain ⟨rfl, rfl, rfl⟩ := hr4
  obtain ⟨ha5, hs5, hl5⟩ := new_box w4 (.cells #[.slice P2 p2.length q2, .int .i64 (j2 : Int), .int .i64 (o2 : Int)] 56)
  have HB5 := Lib.hid (belowNext hb4 ha5)
  have HS5 := Lib.hid hs5
  have HI5 := Lib.hid (hi4.keep (S' := Under (w4.alloc (.cells #[.slice P2 p2.length q2, .int .i64 (j2 : Int), .int .i64 (o2 : Int)] 56)).heap.size) (w' := w4.alloc (.cells #[.slice P2 p2.length q2, .int .i64 (j2 : Int), .int .i64 (o2 : Int)] 56)) (fun b hb => Nat.lt_of_lt_of_le hb.2 ha5.size) (fun b hb => ha5.block b hb.2))
  clear hb4 hi4 ha5 hs5 hl5 x0 x1 x2 x3 x4
  have hnlt : ¬ (b : Int) < (a : Int) := by omega
  go_upto_region 5 with fail
  generalize w4.alloc (.cells #[.slice P2 p2.length q2, .int .i64 (j2 : Int), .int .i64 (o2 : Int)] 56) = w5 at *
  generalize w4.heap.size = g4 at *
  have HC5 := Lib.hid (belowNext HB3.out HB5.out)
  have HS35 := Lib.hid ((HB5.out.block g2 HL3.out).trans HS3.out)
  obtain ⟨s0, s1, s2⟩ := cells3 HS35.out
  obtain ⟨r0, r1, r2⟩ := cells3 HS5.out
  have HI35 : Hid (Ints w5 (From w1.heap.size g2) (.slice P1 p.length q1) p) := Lib.hid (HI3.out.keep (fun _ h => h) (fun b hb => HB5.out.block b (Nat.lt_trans hb.2 HL3.out)))
  go_wp2_with fail
  refine (eqInts_any _ _ p p2 _ _ w5 HI35.out HI5.out).mono ?_
  rintro e w6 ⟨rfl, nd, rfl⟩
  have hb6 : Below w5.heap.size w5 (w5.drewN nd) := (Below.refl _ _).trans ⟨rfl, rfl, rfl, Nat.le_refl _, fun _ _ => rfl⟩
  rw [show decide (p = p2) = false by simpa using hpp]
  generalize w5.drewN nd = w6 at *
  have HC6 := Lib.hid (belowNext HC5.out hb6)
  have hz14 := HRD.out w6 HC6.out
  have hd : ∀ j, w6.cell? ⟨w.heap.size + 1, j, none⟩ = (#[.slice none 0 0, .string ⟨#[]⟩, .string ⟨#[]⟩, .slice none 0 0, .slice none 0 0, .slice none 0 0, .slice none 0 0, .slice none 0 0, .slice none 0 0] : Array Value)[j]? := fun j => by simp [World.cell?, hz14]
  have hf : ∀ j, w6.frozen? ⟨w.heap.size + 1, j, none⟩ = false := fun j => frozen_of_row _ _ j _ _ hz14
  have b0 := hd 0
  have b1 := hd 1
  have b2 := hd 2
  have b3 := hd 3
  have b4 := hd 4
  have b5 := hd 5
  have b6 := hd 6
  have b7 := hd 7
  have b8 := hd 8
  have f0 := hf 0
  have f1 := hf 1
  have f2 := hf 2
  have f3 := hf 3
  have f4 := hf 4
  have f5 := hf 5
  have f6 := hf 6
  have f7 := hf 7
  have f8 := hf 8
  simp at b0 b1 b2 b3 b4 b5 b6 b7 b8
  clear hd hf s0 s1 s2 r0 r1 r2 hb6
  go_wp2
  have hpb := put9_block (v0 := .slice none 0 0) (v1 := .string ⟨#[]⟩) (v2 := .string ⟨#[]⟩) (v3 := .slice none 0 0) (v4 := .slice none 0 0) (v5 := .slice none 0 0) (v6 := .slice none 0 0) (v7 := .slice none 0 0) (v8 := .slice none 0 0) hz14
  have hq : ∀ j, (put9 w6 (w.heap.size + 1) (.slice none 0 0) (.string ⟨#[]⟩) (.string ⟨#[]⟩) (.slice none 0 0) (.slice none 0 0) (.slice none 0 0) (.slice none 0 0) (.slice none 0 0) (.slice none 0 0)).cell? ⟨w.heap.size + 1, j, none⟩ = (#[.slice none 0 0, .string ⟨#[]⟩, .string ⟨#[]⟩, .slice none 0 0, .slice none 0 0, .slice none 0 0, .slice none 0 0, .slice none 0 0, .slice none 0 0] : Array Value)[j]? := fun j => by simp [World.cell?, hpb]
  have t0 := hq 0
  have t1 := hq 1
  have t2 := hq 2
  have t3 := hq 3
  have t4 := hq 4
  have t5 := hq 5
  have t6 := hq 6
  have t7 := hq 7
  have t8 := hq 8
  simp at t0 t1 t2 t3 t4 t5 t6 t7 t8
  have HBE := Lib.hid (put9_below (g := w.heap.size + 1) (v0 := .slice none 0 0) (v1 := .string ⟨#[]⟩) (v2 := .string ⟨#[]⟩) (v3 := .slice none 0 0) (v4 := .slice none 0 0) (v5 := .slice none 0 0) (v6 := .slice none 0 0) (v7 := .slice none 0 0) (v8 := .slice none 0 0) (Nat.le_succ _) (belowNext HB1.out HC6.out))
  unfold put9 at t0 t1 t2 t3 t4 t5 t6 t7 t8 HBE
  refine bodyPost_ret (v := .tuple #[.agg #[.slice none 0 0, .string ⟨#[]⟩, .string ⟨#[]⟩, .slice none 0 0, .slice none 0 0, .slice none 0 0, .slice none 0 0, .slice none 0 0, .slice none 0 0], .int .i64 10]) (by simp [results, Tryd.results29, go_sem, t0, t1, t2, t3, t4, t5, t6, t7, t8]) rfl ?_
  exact ⟨rfl, HBE.out⟩

/-- Cut's deferred function, where something is wrong. -/
theorem cut_wrong (g7 g6 : Nat) (v6 : Value) (u : FrameMode) (w : World) (h7 : w.cell? ⟨g7, 0, none⟩ = some (.int .i64 10)) (h6 : w.cell? ⟨g6, 0, none⟩ = some v6) (f6 : w.frozen? ⟨g6, 0, none⟩ = false) :
    CallsD Tryd.prog 27 #[.pointer (some ⟨g7, 0, none⟩), .pointer (some ⟨g6, 0, none⟩)] u w fun e u' w' => u' = u ∧ (e = .returned (.tuple #[]) ∧ w' = w.setCell ⟨g6, 0, none⟩ (.slice none 0 0)) := by
  go_enter_d Tryd.func27, Tryd.ntmps27
  go_wp2
  go_end0
  exact ⟨rfl, rfl⟩
set_option maxRecDepth 100000 in
theorem cut_door_wrong {w wd : World} {tmps : Array Value} (h6 : wd.heap[w.heap.size + 1]? = some (.cells #[.slice none 0 0] 26)) (h7 : wd.heap[w.heap.size + 1 + 1]? = some (.cells #[.int .i64 10] 32))
    (t6 : tmps[6]? = some (.pointer (some ⟨w.heap.size + 1, 0, none⟩))) (t7 : tmps[7]? = some (.pointer (some ⟨w.heap.size + 1 + 1, 0, none⟩))) (hb : Below w.heap.size w wd) :
    bodyPostD Tryd.prog Tryd.f13 (fun e w' => e = .returned (.tuple #[.slice none 0 0, .int .i64 10]) ∧ Below w.heap.size w w') Exit.ret { tmps := tmps, defers := [{ target := Target.fn (Fn.func 27) #[.pointer (some ⟨w.heap.size + 1 + 1, 0, none⟩), .pointer (some ⟨w.heap.size + 1, 0, none⟩)], args := #[] }] } wd := by
  obtain ⟨c6, f6⟩ := cells1 h6
  obtain ⟨c7, f7⟩ := cells1 h7
  refine leaves_cons (f := 27) (args := #[.pointer (some ⟨w.heap.size + 1 + 1, 0, none⟩), .pointer (some ⟨w.heap.size + 1, 0, none⟩)]) (by simp) (by simp [go_sem]) ?_
  refine (cut_wrong _ _ _ _ wd c7 c6 f6).mono ?_
  rintro e u' w'' ⟨rfl, rfl, rfl⟩
  have k6 : (wd.setCell ⟨w.heap.size + 1, 0, none⟩ (.slice none 0 0)).cell? ⟨w.heap.size + 1, 0, none⟩ = some (.slice none 0 0) := cell_set c6 _
  have k7 : (wd.setCell ⟨w.heap.size + 1, 0, none⟩ (.slice none 0 0)).cell? ⟨w.heap.size + 1 + 1, 0, none⟩ = some (.int .i64 10) := (World.cell?_of_block (a := ⟨w.heap.size + 1 + 1, 0, none⟩) (set_ne (show w.heap.size + 1 + 1 ≠ w.heap.size + 1 by omega))).trans c7
  have hb' : Below w.heap.size w (wd.setCell ⟨w.heap.size + 1, 0, none⟩ (.slice none 0 0)) := set_below (by omega) hb
  generalize wd.setCell ⟨w.heap.size + 1, 0, none⟩ (.slice none 0 0) = w3 at *
  simp [Leaves, settle, results, Tryd.results13, go_sem, t6, t7, k6, k7]
  exact hb'

set_option maxHeartbeats 20000000 in
set_option maxRecDepth 100000 in
theorem cut_apart (v : Value) (t : Tree) (a b : Nat) (p p2 : List Int) (j1 o1 j2 o2 : Nat) (w : World) (h : Node w (Under w.heap.size) v t) (hw : weigh t ≤ 100000) (hT : Tabs w)
    (hdoc : isDocB t = true) (hpp : p ≠ p2) (ha : resolveB t (a : Int) = some (p, j1, o1)) (hb : resolveB t (b : Int) = some (p2, j2, o2)) (hab : a ≤ b) (hb9 : b ≤ 1000000) :
    Calls Tryd.prog 13 #[v, .int .i64 (a : Int), .int .i64 (b : Int)] w fun e w' => e = .returned (.tuple #[.slice none 0 0, .int .i64 10]) ∧ Below w.heap.size w w' := by
  have hmf : ∀ (fn : Fn) (first cap : Array Value) (w : World), (Instr.makeFunc fn first cap).run Tryd.prog w = .ok (.func fn first cap) w := fun _ _ _ _ => rfl
  have HN := Lib.hid h
  have HT := Lib.hid hT
  have HSP := Lib.hid (And.intro ha hb)
  obtain ⟨A1, n1, c1, A2, n2, c2, A3, c3, rfl⟩ := h.forms
  clear h ha hb hT
  generalize hW1 : ((w.alloc (.cells #[.string t.kind, .string t.text, .slice A1 n1 c1, .slice A2 n2 c2, .slice A3 t.kids.length c3] 28)).alloc (.cells #[.slice none 0 0] 26)).alloc (.cells #[.int .i64 0] 32) = W1
  have HB1 : Hid (Below w.heap.size w W1) := Lib.hid (by subst hW1; exact (((Below.refl _ _).alloc (Nat.le_refl _) _).alloc (by simp) _).alloc (by simp; omega) _)
  have HC1 : Hid (W1.heap[w.heap.size]? = some (.cells #[.string t.kind, .string t.text, .slice A1 n1 c1, .slice A2 n2 c2, .slice A3 t.kids.length c3] 28) ∧ W1.heap[w.heap.size + 1]? = some (.cells #[.slice none 0 0] 26) ∧ W1.heap[w.heap.size + 1 + 1]? = some (.cells #[.int .i64 0] 32) ∧ W1.heap.size = w.heap.size + 3) := Lib.hid (by
    subst hW1; exact ⟨heap_old _ _ _ (heap_old _ _ _ (heap_new _ _)), heap_old _ _ _ (heap_new' _ _ (by simp)), heap_new' _ _ (by simp), by simp⟩)
  have HW1 := Lib.hid hW1
  clear hW1
  go_enter_defers Tryd.func13, Tryd.ntmps13
  go_upto_region 2 with fail
  rw [HW1.out]
  clear HW1
  obtain ⟨x0, x1, x2, x3, x4⟩ := cells5 HC1.out.1
  go_wp2_with fail
  refine (isDocument_any _ t W1 ((HN.out.below HB1.out).more HB1.out.size) (by omega) (HT.out.below HB1.out)).mono ?_
  rintro e w3 ⟨rfl, hb2⟩
  have HB3 := Lib.hid hb2
  have HC3 := Lib.hid (belowNext HB1.out hb2)
  rw [hdoc]
  clear hb2 x0 x1 x2 x3 x4
  have hz1 := HC1.out.2.2.2
  have HX3 := Lib.hid ((HB3.out.block w.heap.size (by omega)).trans HC1.out.1)
  have HM3 := Lib.hid ((HB3.out.block (w.heap.size + 1) (by omega)).trans HC1.out.2.1)
  have HE3 := Lib.hid ((HB3.out.block (w.heap.size + 1 + 1) (by omega)).trans HC1.out.2.2.1)
  have HZ3 : Hid (w.heap.size + 3 ≤ w3.heap.size) := Lib.hid (by have := HB3.out.size; omega)
  clear hz1
  obtain ⟨x0, x1, x2, x3, x4⟩ := cells5 HX3.out
  go_upto_region 4 with fail
  go_wp2_with fail
  refine (span_apart _ t a b p p2 j1 o1 j2 o2 w3 ((HN.out.below HC3.out).more HC3.out.size) (by omega) hpp HSP.out.1 HSP.out.2 hab hb9).mono ?_
  rintro e w4 ⟨rfl, hb4⟩
  have HB4 := Lib.hid hb4
  have hz4 := hb4.size
  have hz3 := HZ3.out
  obtain ⟨ha5, hs5, hl5⟩ := new_box w4 (.cells #[.slice none 0 0, .string ⟨#[]⟩, .string ⟨#[]⟩, .slice none 0 0, .slice none 0 0, .slice none 0 0, .slice none 0 0, .slice none 0 0, .slice none 0 0] 62)
  have HM5 := Lib.hid ((ha5.block _ (by omega)).trans ((hb4.block (w.heap.size + 1) (by omega)).trans HM3.out))
  have HE5 := Lib.hid ((ha5.block _ (by omega)).trans ((hb4.block (w.heap.size + 1 + 1) (by omega)).trans HE3.out))
  have HS5 := Lib.hid hs5
  have HB5 := Lib.hid (belowNext HC3.out (belowNext hb4 ha5))
  have HG4 : Hid (w.heap.size + 3 ≤ w4.heap.size) := Lib.hid (by omega)
  obtain ⟨e9, fz9⟩ := cells1 HE5.out
  clear hb4 ha5 hs5 hl5 x0 x1 x2 x3 x4 hz3 hz4
  go_upto_region 5 with fail
  clear e9 fz9
  generalize hw5 : w4.alloc (.cells #[.slice none 0 0, .string ⟨#[]⟩, .string ⟨#[]⟩, .slice none 0 0, .slice none 0 0, .slice none 0 0, .slice none 0 0, .slice none 0 0, .slice none 0 0] 62) = w5 at *
  clear hw5
  have hgs := HG4.out
  generalize w4.heap.size = gs at *
  have HM6 : Hid ((w5.setCell ⟨w.heap.size + 1 + 1, 0, none⟩ (.int .i64 10)).heap[w.heap.size + 1]? = some (.cells #[.slice none 0 0] 26)) := Lib.hid ((set_ne (by omega)).trans HM5.out)
  have HS6 : Hid ((w5.setCell ⟨w.heap.size + 1 + 1, 0, none⟩ (.int .i64 10)).heap[gs]? = some (.cells #[.slice none 0 0, .string ⟨#[]⟩, .string ⟨#[]⟩, .slice none 0 0, .slice none 0 0, .slice none 0 0, .slice none 0 0, .slice none 0 0, .slice none 0 0] 62)) := Lib.hid ((set_ne (by omega)).trans HS5.out)
  have HE6 : Hid ((w5.setCell ⟨w.heap.size + 1 + 1, 0, none⟩ (.int .i64 10)).heap[w.heap.size + 1 + 1]? = some (.cells #[.int .i64 10] 32)) := Lib.hid (heap_setCell_same _ _ 0 _ _ _ HE5.out)
  have HB6 : Hid (Below w.heap.size w (w5.setCell ⟨w.heap.size + 1 + 1, 0, none⟩ (.int .i64 10))) := Lib.hid (set_below (by omega) HB5.out)
  generalize w5.setCell ⟨w.heap.size + 1 + 1, 0, none⟩ (.int .i64 10) = w6 at *
  obtain ⟨e6, g6⟩ := cells1 HM6.out
  obtain ⟨e7, g7⟩ := cells1 HE6.out
  have s7 : w6.cell? ⟨gs, 7, none⟩ = some (.slice none 0 0) := by simp [World.cell?, HS6.out]
  have HEND : Hid (∀ W : World, (W = (w6.setCell ⟨w.heap.size + 1, 0, none⟩ (.slice none 0 0)).setCell ⟨w.heap.size + 1 + 1, 0, none⟩ (.int .i64 10) ∨ W = (w6.setCell ⟨w.heap.size + 1 + 1, 0, none⟩ (.int .i64 10)).setCell ⟨w.heap.size + 1, 0, none⟩ (.slice none 0 0)) →
      W.heap[w.heap.size + 1]? = some (.cells #[.slice none 0 0] 26) ∧ W.heap[w.heap.size + 1 + 1]? = some (.cells #[.int .i64 10] 32) ∧ Below w.heap.size w W) := Lib.hid (by
    intro W hW
    rcases hW with rfl | rfl
    · exact ⟨(set_ne (by omega)).trans (heap_setCell_same _ _ 0 _ _ _ HM6.out), heap_setCell_same _ _ 0 _ _ _ ((set_ne (by omega)).trans HE6.out), set_below (by omega) (set_below (by omega) HB6.out)⟩
    · exact ⟨heap_setCell_same _ _ 0 _ _ _ ((set_ne (by omega)).trans HM6.out), (set_ne (by omega)).trans (heap_setCell_same _ _ 0 _ _ _ HE6.out), set_below (by omega) (set_below (by omega) HB6.out)⟩)
  clear hgs
  refine wp_region_noPanic ?_
  go_region
  all_goals
    refine NoPanic.normal ?_
    go_wp2
    obtain ⟨a1, a2, a3⟩ := HEND.out _ (by first | exact .inl rfl | exact .inr rfl)
    exact cut_door_wrong a1 a2 rfl rfl a3.drew

/-- Put's deferred function, where something is wrong. -/
theorem put_wrong (g9 g8 : Nat) (u : FrameMode) (w : World) {T : TypeId} (h9 : w.cell? ⟨g9, 0, none⟩ = some (.int .i64 10)) (h8 : w.heap[g8]? = some (.cells #[.string ⟨#[]⟩, .string ⟨#[]⟩, .slice none 0 0, .slice none 0 0, .slice none 0 0] T)) :
    CallsD Tryd.prog 30 #[.pointer (some ⟨g9, 0, none⟩), .pointer (some ⟨g8, 0, none⟩)] u w fun e u' w' => u' = u ∧ (e = .returned (.tuple #[]) ∧ w' = put5z w g8 (.string ⟨#[]⟩) (.string ⟨#[]⟩) (.slice none 0 0) (.slice none 0 0) (.slice none 0 0)) := by
  obtain ⟨p0, p1, p2', p3, p4⟩ := cells5 h8
  have q0 := frozen_of_row _ _ 0 _ _ h8
  have q1 := frozen_of_row _ _ 1 _ _ h8
  have q2 := frozen_of_row _ _ 2 _ _ h8
  have q3 := frozen_of_row _ _ 3 _ _ h8
  have q4 := frozen_of_row _ _ 4 _ _ h8
  go_enter_d Tryd.func30, Tryd.ntmps30
  go_wp2
  go_end0
  exact ⟨rfl, rfl⟩
set_option maxRecDepth 100000 in
theorem put_door_wrong {w wd : World} {tmps : Array Value} (h8 : wd.heap[w.heap.size + 1]? = some (.cells #[.string ⟨#[]⟩, .string ⟨#[]⟩, .slice none 0 0, .slice none 0 0, .slice none 0 0] 28)) (h9 : wd.heap[w.heap.size + 1 + 1]? = some (.cells #[.int .i64 10] 32))
    (t8 : tmps[8]? = some (.pointer (some ⟨w.heap.size + 1, 0, none⟩))) (t9 : tmps[9]? = some (.pointer (some ⟨w.heap.size + 1 + 1, 0, none⟩))) (hb : Below w.heap.size w wd) :
    bodyPostD Tryd.prog Tryd.f14 (fun e w' => e = .returned (.tuple #[.agg #[.string ⟨#[]⟩, .string ⟨#[]⟩, .slice none 0 0, .slice none 0 0, .slice none 0 0], .int .i64 10]) ∧ Below w.heap.size w w') Exit.ret { tmps := tmps, defers := [{ target := Target.fn (Fn.func 30) #[.pointer (some ⟨w.heap.size + 1 + 1, 0, none⟩), .pointer (some ⟨w.heap.size + 1, 0, none⟩)], args := #[] }] } wd := by
  obtain ⟨c9, f9⟩ := cells1 h9
  refine leaves_cons (f := 30) (args := #[.pointer (some ⟨w.heap.size + 1 + 1, 0, none⟩), .pointer (some ⟨w.heap.size + 1, 0, none⟩)]) (by simp) (by simp [go_sem]) ?_
  refine (put_wrong _ _ _ wd c9 h8).mono ?_
  rintro e u' w'' ⟨rfl, rfl, rfl⟩
  have k8 := put5z_block (v0 := .string ⟨#[]⟩) (v1 := .string ⟨#[]⟩) (v2 := .slice none 0 0) (v3 := .slice none 0 0) (v4 := .slice none 0 0) h8
  have k9 : (put5z wd (w.heap.size + 1) (.string ⟨#[]⟩) (.string ⟨#[]⟩) (.slice none 0 0) (.slice none 0 0) (.slice none 0 0)).heap[w.heap.size + 1 + 1]? = some (.cells #[.int .i64 10] 32) := (put5z_other (by omega)).trans h9
  have hb' : Below w.heap.size w (put5z wd (w.heap.size + 1) (.string ⟨#[]⟩) (.string ⟨#[]⟩) (.slice none 0 0) (.slice none 0 0) (.slice none 0 0)) := put5z_below (by omega) hb
  generalize put5z wd (w.heap.size + 1) (.string ⟨#[]⟩) (.string ⟨#[]⟩) (.slice none 0 0) (.slice none 0 0) (.slice none 0 0) = w3 at *
  obtain ⟨x0, x1, x2, x3, x4⟩ := cells5 k8
  obtain ⟨k9', _⟩ := cells1 k9
  simp [Leaves, settle, results, Tryd.results14, go_sem, t8, t9, x0, x1, x2, x3, x4, k9']
  exact hb'

set_option maxHeartbeats 20000000 in
set_option maxRecDepth 100000 in
theorem put_apart (v vl : Value) (t : Tree) (l : List Tree) (a b : Nat) (p p2 : List Int) (j1 o1 j2 o2 : Nat) (w : World) (h : Node w (Under w.heap.size) v t) (hw : weigh t ≤ 100000) (hT : Tabs w) (hl : Kids w (Under w.heap.size) vl l) (hwl : weighAll l ≤ 100000) (hwj : weighAll (joinB l) ≤ 900000)
    (hdoc : isDocB t = true) (hkids : areKidsB l = true) (hpp : p ≠ p2) (ha : resolveB t (a : Int) = some (p, j1, o1)) (hb : resolveB t (b : Int) = some (p2, j2, o2)) (hab : a ≤ b) (hb9 : b ≤ 1000000) :
    Calls Tryd.prog 14 #[v, .int .i64 (a : Int), .int .i64 (b : Int), vl] w fun e w' => e = .returned (.tuple #[.agg #[.string ⟨#[]⟩, .string ⟨#[]⟩, .slice none 0 0, .slice none 0 0, .slice none 0 0], .int .i64 10]) ∧ Below w.heap.size w w' := by
  have hmf : ∀ (fn : Fn) (first cap : Array Value) (w : World), (Instr.makeFunc fn first cap).run Tryd.prog w = .ok (.func fn first cap) w := fun _ _ _ _ => rfl
  have HN := Lib.hid h
  have HLK := Lib.hid hl
  have HT := Lib.hid hT
  have HSP := Lib.hid (And.intro ha hb)
  obtain ⟨A1, n1, c1, A2, n2, c2, A3, c3, rfl⟩ := h.forms
  obtain ⟨Al, cl, rfl, _⟩ := hl.form
  clear h hl ha hb hT
  generalize hW1 : ((w.alloc (.cells #[.string t.kind, .string t.text, .slice A1 n1 c1, .slice A2 n2 c2, .slice A3 t.kids.length c3] 28)).alloc (.cells #[.string ⟨#[]⟩, .string ⟨#[]⟩, .slice none 0 0, .slice none 0 0, .slice none 0 0] 28)).alloc (.cells #[.int .i64 0] 32) = W1
  have HB1 : Hid (Below w.heap.size w W1) := Lib.hid (by subst hW1; exact (((Below.refl _ _).alloc (Nat.le_refl _) _).alloc (by simp) _).alloc (by simp; omega) _)
  have HC1 : Hid (W1.heap[w.heap.size]? = some (.cells #[.string t.kind, .string t.text, .slice A1 n1 c1, .slice A2 n2 c2, .slice A3 t.kids.length c3] 28) ∧ W1.heap[w.heap.size + 1]? = some (.cells #[.string ⟨#[]⟩, .string ⟨#[]⟩, .slice none 0 0, .slice none 0 0, .slice none 0 0] 28) ∧ W1.heap[w.heap.size + 1 + 1]? = some (.cells #[.int .i64 0] 32) ∧ W1.heap.size = w.heap.size + 3) := Lib.hid (by
    subst hW1; exact ⟨heap_old _ _ _ (heap_old _ _ _ (heap_new _ _)), heap_old _ _ _ (heap_new' _ _ (by simp)), heap_new' _ _ (by simp), by simp⟩)
  have HW1 := Lib.hid hW1
  clear hW1
  go_enter_defers Tryd.func14, Tryd.ntmps14
  go_upto_region 2 with fail
  rw [HW1.out]
  clear HW1
  obtain ⟨x0, x1, x2, x3, x4⟩ := cells5 HC1.out.1
  go_wp2_with fail
  refine (isDocument_any _ t W1 ((HN.out.below HB1.out).more HB1.out.size) (by omega) (HT.out.below HB1.out)).mono ?_
  rintro e w2 ⟨rfl, hb2⟩
  have HB2 := Lib.hid hb2
  have HC2 := Lib.hid (belowNext HB1.out hb2)
  rw [hdoc]
  clear hb2 x0 x1 x2 x3 x4
  go_wp2_with fail
  refine (areKids_any _ l w2 ((HLK.out.below HC2.out).more HC2.out.size) (by omega) hwj (HT.out.below HC2.out)).mono ?_
  rintro e w3 ⟨rfl, hb3⟩
  have HB3 := Lib.hid (belowNext HB2.out hb3)
  have HC3 := Lib.hid (belowNext HC2.out hb3)
  rw [hkids]
  clear hb3
  have hz1 := HC1.out.2.2.2
  have HX3 := Lib.hid ((HB3.out.block w.heap.size (by omega)).trans HC1.out.1)
  have HM3 := Lib.hid ((HB3.out.block (w.heap.size + 1) (by omega)).trans HC1.out.2.1)
  have HE3 := Lib.hid ((HB3.out.block (w.heap.size + 1 + 1) (by omega)).trans HC1.out.2.2.1)
  have HZ3 : Hid (w.heap.size + 3 ≤ w3.heap.size) := Lib.hid (by have := HB3.out.size; omega)
  clear hz1
  obtain ⟨x0, x1, x2, x3, x4⟩ := cells5 HX3.out
  go_upto_region 4 with fail
  go_wp2_with fail
  refine (span_apart _ t a b p p2 j1 o1 j2 o2 w3 ((HN.out.below HC3.out).more HC3.out.size) (by omega) hpp HSP.out.1 HSP.out.2 hab hb9).mono ?_
  rintro e w4 ⟨rfl, hb4⟩
  have hz4 := hb4.size
  have hz3 := HZ3.out
  obtain ⟨ha5, hs5, hl5⟩ := new_box w4 (.cells #[.slice none 0 0, .string ⟨#[]⟩, .string ⟨#[]⟩, .slice none 0 0, .slice none 0 0, .slice none 0 0, .slice none 0 0, .slice none 0 0, .slice none 0 0] 62)
  have HM5 := Lib.hid ((ha5.block _ (by omega)).trans ((hb4.block (w.heap.size + 1) (by omega)).trans HM3.out))
  have HE5 := Lib.hid ((ha5.block _ (by omega)).trans ((hb4.block (w.heap.size + 1 + 1) (by omega)).trans HE3.out))
  have HB5 := Lib.hid (belowNext HC3.out (belowNext hb4 ha5))
  obtain ⟨e9, fz9⟩ := cells1 HE5.out
  clear hb4 ha5 hs5 hl5 x0 x1 x2 x3 x4 hz3 hz4
  go_upto_region 5 with fail
  clear e9 fz9
  generalize hw5 : w4.alloc (.cells #[.slice none 0 0, .string ⟨#[]⟩, .string ⟨#[]⟩, .slice none 0 0, .slice none 0 0, .slice none 0 0, .slice none 0 0, .slice none 0 0, .slice none 0 0] 62) = w5 at *
  clear hw5
  have HM6 : Hid ((w5.setCell ⟨w.heap.size + 1 + 1, 0, none⟩ (.int .i64 10)).heap[w.heap.size + 1]? = some (.cells #[.string ⟨#[]⟩, .string ⟨#[]⟩, .slice none 0 0, .slice none 0 0, .slice none 0 0] 28)) := Lib.hid ((set_ne (by omega)).trans HM5.out)
  have HE6 : Hid ((w5.setCell ⟨w.heap.size + 1 + 1, 0, none⟩ (.int .i64 10)).heap[w.heap.size + 1 + 1]? = some (.cells #[.int .i64 10] 32)) := Lib.hid (heap_setCell_same _ _ 0 _ _ _ HE5.out)
  have HB6 : Hid (Below w.heap.size w (w5.setCell ⟨w.heap.size + 1 + 1, 0, none⟩ (.int .i64 10))) := Lib.hid (set_below (by omega) HB5.out)
  generalize w5.setCell ⟨w.heap.size + 1 + 1, 0, none⟩ (.int .i64 10) = w6 at *
  obtain ⟨p0, p1, p2', p3, p4⟩ := cells5 HM6.out
  have q0 := frozen_of_row _ _ 0 _ _ HM6.out
  have q1 := frozen_of_row _ _ 1 _ _ HM6.out
  have q2 := frozen_of_row _ _ 2 _ _ HM6.out
  have q3 := frozen_of_row _ _ 3 _ _ HM6.out
  have q4 := frozen_of_row _ _ 4 _ _ HM6.out
  obtain ⟨e7, g7⟩ := cells1 HE6.out
  have HEND : Hid (∀ W : World, (W = (put5z w6 (w.heap.size + 1) (.string ⟨#[]⟩) (.string ⟨#[]⟩) (.slice none 0 0) (.slice none 0 0) (.slice none 0 0)).setCell ⟨w.heap.size + 1 + 1, 0, none⟩ (.int .i64 10) ∨ W = put5z (w6.setCell ⟨w.heap.size + 1 + 1, 0, none⟩ (.int .i64 10)) (w.heap.size + 1) (.string ⟨#[]⟩) (.string ⟨#[]⟩) (.slice none 0 0) (.slice none 0 0) (.slice none 0 0)) →
      W.heap[w.heap.size + 1]? = some (.cells #[.string ⟨#[]⟩, .string ⟨#[]⟩, .slice none 0 0, .slice none 0 0, .slice none 0 0] 28) ∧ W.heap[w.heap.size + 1 + 1]? = some (.cells #[.int .i64 10] 32) ∧ Below w.heap.size w W) := Lib.hid (by
    intro W hW
    rcases hW with rfl | rfl
    · exact ⟨(set_ne (by omega)).trans (put5z_block HM6.out), heap_setCell_same _ _ 0 _ _ _ ((put5z_other (by omega)).trans HE6.out), set_below (by omega) (put5z_below (by omega) HB6.out)⟩
    · exact ⟨put5z_block ((set_ne (by omega)).trans HM6.out), (put5z_other (by omega)).trans (heap_setCell_same _ _ 0 _ _ _ HE6.out), put5z_below (by omega) (set_below (by omega) HB6.out)⟩)
  go_upto_region 6 with fail
  refine wp_region_noPanic ?_
  go_region
  all_goals
    refine NoPanic.normal ?_
    go_wp2
    obtain ⟨a1, a2, a3⟩ := HEND.out _ (by first | exact .inl rfl | exact .inr rfl)
    unfold put5z at a1 a2 a3
    exact put_door_wrong a1 a2 rfl rfl a3.drew
end Go.Proofs.YtamoklceekeheaaDoor
