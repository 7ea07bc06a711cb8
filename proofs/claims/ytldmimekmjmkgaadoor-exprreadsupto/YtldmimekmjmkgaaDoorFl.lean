/-
  What add does: the places of a right expression, put behind those that are there.
-/
import Derived.Test.YtldmimekmjmkgaaDoorFk
namespace Go.Proofs.YtldmimekmjmkgaaDoor
open Go.RowKit Go.Sort Go.Maps Go.WideMaps

theorem rep_inv {o : Nat} {s : ByteArray} {l : List Ex} (h0 : o ≠ 110) (h1 : o ≠ 115) (h2 : o ≠ 97) (h : shapedE okN (.mk o s l) = true) : (o = 42 ∨ o = 43 ∨ o = 63) ∧ ∃ x, l = [x] := by
  by_cases hs : s = ByteArray.empty
  · subst hs
    rw [shaped_rep h0 h1 h2, Bool.and_eq_true] at h
    refine ⟨?_, ?_⟩
    · have := h.1
      simp only [repE, Bool.or_eq_true, beq_iff_eq] at this
      omega
    · have h3 := h.2
      match l with
      | [] => cases h3
      | [x] => exact ⟨x, rfl⟩
      | _ :: _ :: _ => cases h3
  · rw [shaped_named h0 hs] at h; cases h
/-- What is answered lies in the call's own box. -/
theorem add_out {w W2 w3 : World} {B M bm g : Nat} {v v' : Value} {nm nm' : List ByteArray} {nx nx' : List Nat} {u0 u1 u2 : Value} {f l : Nat} {b : Bool} (hM : Mn w B M bm v nm nx) (hb : Below w.heap.size w W2) (hg : w.heap.size ≤ g) (hr : W2.heap[g]? = some (.cells #[u0, u1, u2] 71)) (hm : Mn w3 B M bm v' nm' nx') (h : Grw M bm v v' W2 w3) :
    w3.heap[g]? = some (.cells #[u0, u1, u2] 71) ∧ Mn (((w3.setCell ⟨g, 0, none⟩ (.int .u32 (f : Int))).setCell ⟨g, 1, none⟩ (.int .u32 (l : Int))).setCell ⟨g, 2, none⟩ (.bool b)) B M bm v' nm' nx' ∧
      Grw M bm v v' w (((w3.setCell ⟨g, 0, none⟩ (.int .u32 (f : Int))).setCell ⟨g, 1, none⟩ (.int .u32 (l : Int))).setCell ⟨g, 2, none⟩ (.bool b)) := by
  have hMl := hM.mlt
  have hbl := hM.map.lt
  have hgl := (Array.getElem?_eq_some_iff.1 hr).1
  have hv : v.ownBlock ≠ some g := fun e => by have := (hM.row.lt g e).2; omega
  have hv' : v'.ownBlock ≠ some g := fun e => by
    rcases h.own with h1 | h1
    · exact hv (h1.symm.trans e)
    · have := h1 g e; omega
  have h3 := h.box hr (by omega) (by omega) hv
  obtain ⟨x0, hx, hz⟩ := put3x (v0 := .int .u32 (f : Int)) (v1 := .int .u32 (l : Int)) (v2 := .bool b) h3
  refine ⟨h3, hm.keepAt fun j hj => hx j ?_, ((Grw.of_below M bm v hb).trans h).after rfl rfl rfl (Nat.le_of_eq hz.symm) fun j hj => hx j (by omega)⟩
  rcases hj with rfl | rfl | hj
  · omega
  · omega
  · exact fun e => hv' (by rw [hj, e])

/-- The box of the part's answer, its last cell stored. -/
theorem rep_box {W2 w3 w5 : World} {B M bm : Nat} {v v' : Value} {nm nm3 : List ByteArray} {nx3 nx' : List Nat} {a0 a1 a2 z : Value} (h3 : Mn w3 B M bm v' nm3 nx3) (hg3 : Grw M bm v v' W2 w3) (hm : Mn w5 B M bm v' nm nx') (hg : Grw M bm v' v' (w3.alloc (.cells #[a0, a1, a2] 71)) w5) :
    w5.heap[w3.heap.size]? = some (.cells #[a0, a1, a2] 71) ∧ Mn (w5.setCell ⟨w3.heap.size, 2, none⟩ z) B M bm v' nm nx' ∧ Grw M bm v v' W2 (w5.setCell ⟨w3.heap.size, 2, none⟩ z) ∧ (w5.setCell ⟨w3.heap.size, 2, none⟩ z).heap[w3.heap.size]? = some (.cells #[a0, a1, z] 71) := by
  have hMl := h3.mlt
  have hbl := h3.map.lt
  have hv : v'.ownBlock ≠ some w3.heap.size := fun e => by have := (h3.row.lt _ e).2; omega
  have hz := hg3.size
  have hb := hg.box (heap_new w3 (.cells #[a0, a1, a2] 71)) (by omega) (by omega) hv
  refine ⟨hb, hm.keepAt fun j hj => Below.heap_setCell _ _ _ _ ?_, (((hg3.alloc _).trans hg).after rfl rfl rfl (by simp [World.setCell]) fun j hj => Below.heap_setCell _ _ _ _ (by dsimp only; omega)), heap_setCell_same _ w3.heap.size 2 _ _ _ hb⟩
  rcases hj with rfl | rfl | hj
  · dsimp only; omega
  · dsimp only; omega
  · exact fun e => hv (by rw [hj, e])

set_option maxHeartbeats 4000000 in
theorem add_walk : ∀ e, AddSaid e := by
  intro e
  induction e using Ex.induct_one with
  | h o s l ih =>
    intro B M bm v nm nx R w A n c hf ha hl hM hln hN hT hG hB hc
    simp only [Ex.op, Ex.name, Ex.kids] at *
    have hlen := hl.len
    obtain ⟨A', c', hv, hc', hm, _⟩ := id hl
    injection hv with hA hn hcc
    subst hA hn hcc
    unfold maxLen at hm
    simp only [allE, Bool.and_eq_true] at ha
    have ho : o < 256 := hf.1
    have HA := Lib.hid hl
    have HM := Lib.hid hM
    have HT := Lib.hid hT
    have HNX := Lib.hid hN
    have HFA := Lib.hid hf.2.2
    have HSZ := Lib.hid hf.2.1
    have HAL := Lib.hid ha.2
    have HSH := Lib.hid ha.1
    have IH := Lib.hid ih
    have hMl := hM.mlt
    have hbl := hM.map.lt
    have HC := Lib.hid hc
    have HB2 : Hid (Below w.heap.size w ((w.alloc (.cells #[.int .u8 o, .string s, .slice A l.length c] 24)).alloc (.cells #[.int .u32 0, .int .u32 0, .bool false] 71))) := Lib.hid (((Below.refl _ _).alloc (Nat.le_refl _) _).alloc (by simp) _)
    have HR : Hid (((w.alloc (.cells #[.int .u8 o, .string s, .slice A l.length c] 24)).alloc (.cells #[.int .u32 0, .int .u32 0, .bool false] 71)).heap[w.heap.size + 1]? = some (.cells #[.int .u32 0, .int .u32 0, .bool false] 71)) := Lib.hid (heap_new' _ _ (by simp))
    have hBW : B ≤ ((w.alloc (.cells #[.int .u8 o, .string s, .slice A l.length c] 24)).alloc (.cells #[.int .u32 0, .int .u32 0, .bool false] 71)).heap.size := Nat.le_trans hB HB2.out.size
    have HXW := Lib.hid (HA.out.keep (fun _ h => h) fun b hb => HB2.out.block b (Nat.lt_of_lt_of_le hb hB))
    clear hl hM hT hf ha hc hN ih
    by_cases h1 : o = 110
    · subst h1
      have HP : Hid (place (.mk 110 s l) nx.length = pOne s nx.length) := Lib.hid (by unfold place; rfl)
      have hcn : nx.length < 32 := by have h := HC.out; rw [HP.out] at h; simp [pOne] at h; omega
      go_enter Tryd.func38, Tryd.ntmps38
      go_wp2_with fail
      refine (addName_any B M bm v nm nx s _ (HM.out.below HB2.out) HSZ.out hln hcn hBW).mono ?_
      rintro e w3 ⟨rfl, v', hm3, hg3⟩
      have HO := Lib.hid (add_out (f := 2 ^ nx.length) (l := 2 ^ nx.length) (b := false) HM.out HB2.out (Nat.le_add_right _ 1) HR.out hm3 hg3)
      obtain ⟨a0, a1, a2⟩ := three_cells HO.out.1
      have z0 := frozen_of_row _ (w.heap.size + 1) 0 _ _ HO.out.1
      have z1 := frozen_of_row _ (w.heap.size + 1) 1 _ _ HO.out.1
      have z2 := frozen_of_row _ (w.heap.size + 1) 2 _ _ HO.out.1
      have HZ := Lib.hid (put3x (v0 := .int .u32 ((2 ^ nx.length : Nat) : Int)) (v1 := .int .u32 ((2 ^ nx.length : Nat) : Int)) (v2 := .bool false) HO.out.1)
      clear hm3 hg3
      have HPE := Lib.hid (ends_one (n := nx.length) s hcn)
      generalize 2 ^ nx.length = P at *
      go_wp2
      obtain ⟨y0, y1, y2⟩ := three_cells HZ.out.1
      refine bodyPost_ret (v := .agg #[.int .u32 P, .int .u32 P, .bool false]) (by simp [results, Tryd.results38, go_sem, y0, y1, y2]) rfl ⟨P, P, false, v', nx ++ [0], rfl, ?_, ?_, ?_, ?_, HO.out.2.2⟩
      · rw [HP.out]; exact HPE.out
      · rw [HP.out]; exact HO.out.2.1
      · rw [HP.out]; simp [pOne]
      · rw [HP.out]; simpa [pOne] using HNX.out.push
    · have e1 : ((o : Int) == 110) = false := by simp; omega
      by_cases h2 : o = 115
      · subst h2
        have HP : Hid (place (.mk 115 s l) nx.length = placeSeq pEps l nx.length) := Lib.hid (by unfold place; rfl)
        have hcn := HC.out
        rw [HP.out] at hcn
        clear h1 e1
        go_enter Tryd.func38, Tryd.ntmps38
        go_wp2_with fail
        refine (addRow_of l (Lib.hid IH.out) B M bm v nm nx R _ A _ c HFA.out HAL.out HXW.out (HM.out.below HB2.out) hln HNX.out (HT.out.below HB2.out) hG hBW hcn).mono ?_
        rintro e w3 ⟨f, g, b, v', nr, rfl, he3, hm3, hl3, hn3, hg3⟩
        have HO := Lib.hid (add_out (f := f) (l := g) (b := b) HM.out HB2.out (Nat.le_add_right _ 1) HR.out hm3 hg3)
        obtain ⟨a0, a1, a2⟩ := three_cells HO.out.1
        have z0 := frozen_of_row _ (w.heap.size + 1) 0 _ _ HO.out.1
        have z1 := frozen_of_row _ (w.heap.size + 1) 1 _ _ HO.out.1
        have z2 := frozen_of_row _ (w.heap.size + 1) 2 _ _ HO.out.1
        have HZ := Lib.hid (put3x (v0 := .int .u32 (f : Int)) (v1 := .int .u32 (g : Int)) (v2 := .bool b) HO.out.1)
        have HE := Lib.hid he3
        have HL := Lib.hid hl3
        have HNN := Lib.hid hn3
        clear he3 hm3 hl3 hn3 hg3
        go_wp2
        obtain ⟨y0, y1, y2⟩ := three_cells HZ.out.1
        refine bodyPost_ret (v := .agg #[.int .u32 f, .int .u32 g, .bool b]) (by simp [results, Tryd.results38, go_sem, y0, y1, y2]) rfl ⟨f, g, b, v', nr, rfl, ?_, ?_, ?_, ?_, HO.out.2.2⟩
        · rw [HP.out]; exact HE.out
        · rw [HP.out]; exact HO.out.2.1
        · rw [HP.out]; exact HL.out
        · rw [HP.out]; exact HNN.out
      · have e2 : ((o : Int) == 115) = false := by simp; omega
        by_cases h3 : o = 97
        · subst h3
          have HP : Hid (place (.mk 97 s l) nx.length = placeAlt pVoid l nx.length) := Lib.hid (by unfold place; rfl)
          have hcn := HC.out
          rw [HP.out] at hcn
          clear h1 e1 h2 e2
          go_enter Tryd.func38, Tryd.ntmps38
          go_wp2_with fail
          refine (addChoice_of l (Lib.hid IH.out) B M bm v nm nx R _ A _ c HFA.out HAL.out HXW.out (HM.out.below HB2.out) hln HNX.out (HT.out.below HB2.out) hG hBW hcn).mono ?_
          rintro e w3 ⟨f, g, b, v', nr, rfl, he3, hm3, hl3, hn3, hg3⟩
          have HO := Lib.hid (add_out (f := f) (l := g) (b := b) HM.out HB2.out (Nat.le_add_right _ 1) HR.out hm3 hg3)
          obtain ⟨a0, a1, a2⟩ := three_cells HO.out.1
          have z0 := frozen_of_row _ (w.heap.size + 1) 0 _ _ HO.out.1
          have z1 := frozen_of_row _ (w.heap.size + 1) 1 _ _ HO.out.1
          have z2 := frozen_of_row _ (w.heap.size + 1) 2 _ _ HO.out.1
          have HZ := Lib.hid (put3x (v0 := .int .u32 (f : Int)) (v1 := .int .u32 (g : Int)) (v2 := .bool b) HO.out.1)
          have HE := Lib.hid he3
          have HL := Lib.hid hl3
          have HNN := Lib.hid hn3
          clear he3 hm3 hl3 hn3 hg3
          go_wp2
          obtain ⟨y0, y1, y2⟩ := three_cells HZ.out.1
          refine bodyPost_ret (v := .agg #[.int .u32 f, .int .u32 g, .bool b]) (by simp [results, Tryd.results38, go_sem, y0, y1, y2]) rfl ⟨f, g, b, v', nr, rfl, ?_, ?_, ?_, ?_, HO.out.2.2⟩
          · rw [HP.out]; exact HE.out
          · rw [HP.out]; exact HO.out.2.1
          · rw [HP.out]; exact HL.out
          · rw [HP.out]; exact HNN.out
        · have e3 : ((o : Int) == 97) = false := by simp; omega
          obtain ⟨hrep, x, rfl⟩ := rep_inv h1 h2 h3 HSH.out
          clear h1 h2 h3
          obtain ⟨bk, off, rfl, _, hat⟩ := HA.out.get (k := 0) (x := x) rfl
          obtain ⟨vk, f0, f1, f2, exk⟩ := (exAt_iff x bk _).1 hat
          obtain ⟨A3, c3, rfl, _⟩ := id exk
          have hl3 := cell_lt f0
          simp only [Nat.zero_mul, Nat.add_zero] at f0 f1 f2
          have HEK := Lib.hid exk
          clear exk hat
          have hxc : nx.length + (place x nx.length).names.length ≤ 31 := by
            have h := HC.out
            unfold place placeOne at h
            rcases hrep with rfl | rfl | rfl <;> exact h
          rcases hrep with rfl | rfl | rfl
          · have HP : Hid (place (.mk 42 s [x]) nx.length = pLoop (place x nx.length) true) := Lib.hid (by rw [place]; simp only [placeOne]; rfl)
            obtain ⟨W2, hW2, HB2', HR', HBE, HXE, hBW'⟩ : ∃ W2, ((w.alloc (.cells #[.int .u8 42, .string s, .slice (some ⟨bk, off, none⟩) 1 c] 24)).alloc (.cells #[.int .u32 0, .int .u32 0, .bool false] 71)) = W2 ∧ Hid (Below w.heap.size w W2) ∧ Hid (W2.heap[w.heap.size + 1]? = some (.cells #[.int .u32 0, .int .u32 0, .bool false] 71)) ∧ Hid (W2.heap[w.heap.size]? = some (.cells #[.int .u8 42, .string s, .slice (some ⟨bk, off, none⟩) 1 c] 24)) ∧ Hid (Exs W2 (Under B) (.slice A3 x.kids.length c3) x.kids) ∧ B ≤ W2.heap.size :=
              ⟨_, rfl, HB2, HR, Lib.hid ((Below.heap_alloc _ _ _ (by simp)).trans (heap_new _ _)), Lib.hid (HEK.out.keep (fun _ h => h) fun b hb => HB2.out.block b (Nat.lt_of_lt_of_le hb hB)), hBW⟩
            have hxm : x ∈ [x] := List.mem_cons_self ..
            have HW2 := Lib.hid hW2
            clear HB2 HR HXW hBW hW2
            go_enter Tryd.func38, Tryd.ntmps38
            go_wp2_with fail
            rw [HW2.out]
            clear HW2
            refine (IH.out x hxm B M bm v nm nx R W2 A3 _ c3 (Ex.fits_mem HFA.out hxm) (mem_allEs HAL.out x hxm) HXE.out (HM.out.below HB2'.out) hln HNX.out (HT.out.below HB2'.out) hG hBW' hxc).mono ?_
            rintro e w3 ⟨f, g, b, v', nr, rfl, he3, hm3, hl3, hn3, hg3⟩
            have hvE : ∀ j, w.heap.size ≤ j → j < W2.heap.size → v.ownBlock ≠ some j ∧ v'.ownBlock ≠ some j := fun j h1 h2 => by
              have hv : v.ownBlock ≠ some j := fun e => by have := (HM.out.row.lt j e).2; omega
              refine ⟨hv, fun e => ?_⟩
              rcases hg3.own with h3 | h3
              · exact hv (h3.symm.trans e)
              · have := h3 j e; omega
            have hzW : w.heap.size + 1 < W2.heap.size := (Array.getElem?_eq_some_iff.1 HR'.out).1
            have HBE3 := Lib.hid (hg3.box HBE.out (by omega) (by omega) (hvE _ (Nat.le_refl _) (by omega)).1)
            have HB3 : Hid (Below w3.heap.size w3 (w3.alloc (.cells #[.int .u32 (f : Int), .int .u32 (g : Int), .bool b] 71))) := Lib.hid ((Below.refl _ _).alloc (Nat.le_refl _) _)
            have hz3 := hg3.size
            have HG3 := Lib.hid hg3
            have HM3 := Lib.hid hm3
            have HT3 := Lib.hid ((HT.out.below HB2'.out).grw hg3 (HM.out.below HB2'.out) hG hBW')
            have HE3 := Lib.hid he3
            have HL3 := Lib.hid hl3
            have HN3 := Lib.hid hn3
            have HVE := Lib.hid hvE
            clear he3 hm3 hl3 hn3 hg3 hvE f0 f1 f2
            obtain ⟨k0, _, _⟩ := three_cells HBE3.out
            have hk0 := cell_lt k0
            go_wp2_with fail
            refine (link_any B M bm v' _ nr g f _ (HM3.out.below HB3.out) (HT3.out.below HB3.out) hG HE3.out.last.1 HE3.out.first.1 HN3.out.1 (link_bits HE3.out (place_means x _).1 (by rw [HL3.out]; omega))).mono ?_
            rintro e w5 ⟨rfl, nr3, hm5, hl5, hg5⟩
            have HNX5 := Lib.hid (HN3.out.link HE3.out.last HE3.out.first hl5)
            have HL5 := Lib.hid hl5.len
            have HRB := Lib.hid (rep_box (z := .bool true) HM3.out HG3.out hm5 hg5)
            have HBE5 := Lib.hid (hg5.box ((Below.heap_alloc _ _ _ (by omega)).trans HBE3.out) (by omega) (by omega) (HVE.out _ (Nat.le_refl _) (by omega)).2)
            have HO := Lib.hid (add_out (f := f) (l := g) (b := true) HM.out HB2'.out (Nat.le_add_right _ 1) HR'.out HRB.out.2.1 HRB.out.2.2.1)
            have HR5 : Hid (w5.heap[w.heap.size + 1]? = some (.cells #[.int .u32 0, .int .u32 0, .bool false] 71)) := Lib.hid ((Below.heap_setCell _ _ _ _ (by dsimp only; omega)).symm.trans HO.out.1)
            clear hm5 hg5 hl5
            obtain ⟨a0, a1, a2⟩ := three_cells HRB.out.1
            have z2 := frozen_of_row _ w3.heap.size 2 _ _ HRB.out.1
            obtain ⟨q0, q1, q2⟩ := three_cells HR5.out
            have t0 := frozen_of_row _ (w.heap.size + 1) 0 _ _ HR5.out
            have t1 := frozen_of_row _ (w.heap.size + 1) 1 _ _ HR5.out
            have t2 := frozen_of_row _ (w.heap.size + 1) 2 _ _ HR5.out
            obtain ⟨d0, _, _⟩ := three_cells HBE5.out
            have hne : w.heap.size + 1 ≠ w3.heap.size := by omega
            have hla := cell_lt a0
            have hlq := cell_lt q0
            have hld := cell_lt d0
            cases b with
            | true =>
              go_wp2
              obtain ⟨y0, y1, y2⟩ := three_cells (put3x (v0 := .int .u32 (f : Int)) (v1 := .int .u32 (g : Int)) (v2 := .bool true) HO.out.1).1
              refine bodyPost_ret (v := .agg #[.int .u32 f, .int .u32 g, .bool true]) (by simp [results, Tryd.results38, go_sem, y0, y1, y2]) rfl ⟨f, g, true, v', nr3, rfl, ?_, ?_, ?_, ?_, HO.out.2.2⟩
              · rw [HP.out]; simpa using HE3.out.loop (c := true)
              · rw [HP.out]; exact HO.out.2.1
              · rw [HP.out]; exact HL5.out.trans HL3.out
              · rw [HP.out]; exact (show Nx nr3 (R ++ ((place x nx.length).fol ++ cross (place x nx.length).last (place x nx.length).first)) from by rw [← List.append_assoc]; exact HNX5.out)
            | false =>
              go_wp2
              obtain ⟨y0, y1, y2⟩ := three_cells (put3x (v0 := .int .u32 (f : Int)) (v1 := .int .u32 (g : Int)) (v2 := .bool true) HO.out.1).1
              refine bodyPost_ret (v := .agg #[.int .u32 f, .int .u32 g, .bool true]) (by simp [results, Tryd.results38, go_sem, y0, y1, y2]) rfl ⟨f, g, true, v', nr3, rfl, ?_, ?_, ?_, ?_, HO.out.2.2⟩
              · rw [HP.out]; simpa using HE3.out.loop (c := true)
              · rw [HP.out]; exact HO.out.2.1
              · rw [HP.out]; exact HL5.out.trans HL3.out
              · rw [HP.out]; exact (show Nx nr3 (R ++ ((place x nx.length).fol ++ cross (place x nx.length).last (place x nx.length).first)) from by rw [← List.append_assoc]; exact HNX5.out)
          · have HP : Hid (place (.mk 43 s [x]) nx.length = pLoop (place x nx.length) false) := Lib.hid (by rw [place]; simp only [placeOne]; rfl)
            obtain ⟨W2, hW2, HB2', HR', HBE, HXE, hBW'⟩ : ∃ W2, ((w.alloc (.cells #[.int .u8 43, .string s, .slice (some ⟨bk, off, none⟩) 1 c] 24)).alloc (.cells #[.int .u32 0, .int .u32 0, .bool false] 71)) = W2 ∧ Hid (Below w.heap.size w W2) ∧ Hid (W2.heap[w.heap.size + 1]? = some (.cells #[.int .u32 0, .int .u32 0, .bool false] 71)) ∧ Hid (W2.heap[w.heap.size]? = some (.cells #[.int .u8 43, .string s, .slice (some ⟨bk, off, none⟩) 1 c] 24)) ∧ Hid (Exs W2 (Under B) (.slice A3 x.kids.length c3) x.kids) ∧ B ≤ W2.heap.size :=
              ⟨_, rfl, HB2, HR, Lib.hid ((Below.heap_alloc _ _ _ (by simp)).trans (heap_new _ _)), Lib.hid (HEK.out.keep (fun _ h => h) fun b hb => HB2.out.block b (Nat.lt_of_lt_of_le hb hB)), hBW⟩
            have hxm : x ∈ [x] := List.mem_cons_self ..
            have HW2 := Lib.hid hW2
            clear HB2 HR HXW hBW hW2
            go_enter Tryd.func38, Tryd.ntmps38
            go_wp2_with fail
            rw [HW2.out]
            clear HW2
            refine (IH.out x hxm B M bm v nm nx R W2 A3 _ c3 (Ex.fits_mem HFA.out hxm) (mem_allEs HAL.out x hxm) HXE.out (HM.out.below HB2'.out) hln HNX.out (HT.out.below HB2'.out) hG hBW' hxc).mono ?_
            rintro e w3 ⟨f, g, b, v', nr, rfl, he3, hm3, hl3, hn3, hg3⟩
            have hvE : ∀ j, w.heap.size ≤ j → j < W2.heap.size → v.ownBlock ≠ some j ∧ v'.ownBlock ≠ some j := fun j h1 h2 => by
              have hv : v.ownBlock ≠ some j := fun e => by have := (HM.out.row.lt j e).2; omega
              refine ⟨hv, fun e => ?_⟩
              rcases hg3.own with h3 | h3
              · exact hv (h3.symm.trans e)
              · have := h3 j e; omega
            have hzW : w.heap.size + 1 < W2.heap.size := (Array.getElem?_eq_some_iff.1 HR'.out).1
            have HBE3 := Lib.hid (hg3.box HBE.out (by omega) (by omega) (hvE _ (Nat.le_refl _) (by omega)).1)
            have HB3 : Hid (Below w3.heap.size w3 (w3.alloc (.cells #[.int .u32 (f : Int), .int .u32 (g : Int), .bool b] 71))) := Lib.hid ((Below.refl _ _).alloc (Nat.le_refl _) _)
            have hz3 := hg3.size
            have HG3 := Lib.hid hg3
            have HM3 := Lib.hid hm3
            have HT3 := Lib.hid ((HT.out.below HB2'.out).grw hg3 (HM.out.below HB2'.out) hG hBW')
            have HE3 := Lib.hid he3
            have HL3 := Lib.hid hl3
            have HN3 := Lib.hid hn3
            have HVE := Lib.hid hvE
            clear he3 hm3 hl3 hn3 hg3 hvE f0 f1 f2
            obtain ⟨k0, _, _⟩ := three_cells HBE3.out
            have hk0 := cell_lt k0
            go_wp2_with fail
            refine (link_any B M bm v' _ nr g f _ (HM3.out.below HB3.out) (HT3.out.below HB3.out) hG HE3.out.last.1 HE3.out.first.1 HN3.out.1 (link_bits HE3.out (place_means x _).1 (by rw [HL3.out]; omega))).mono ?_
            rintro e w5 ⟨rfl, nr3, hm5, hl5, hg5⟩
            have HNX5 := Lib.hid (HN3.out.link HE3.out.last HE3.out.first hl5)
            have HL5 := Lib.hid hl5.len
            have HRB := Lib.hid (rep_box (z := .bool b) HM3.out HG3.out hm5 hg5)
            have HBE5 := Lib.hid (hg5.box ((Below.heap_alloc _ _ _ (by omega)).trans HBE3.out) (by omega) (by omega) (HVE.out _ (Nat.le_refl _) (by omega)).2)
            have HO := Lib.hid (add_out (f := f) (l := g) (b := b) HM.out HB2'.out (Nat.le_add_right _ 1) HR'.out HRB.out.2.1 HRB.out.2.2.1)
            have HR5 : Hid (w5.heap[w.heap.size + 1]? = some (.cells #[.int .u32 0, .int .u32 0, .bool false] 71)) := Lib.hid ((Below.heap_setCell _ _ _ _ (by dsimp only; omega)).symm.trans HO.out.1)
            clear hm5 hg5 hl5
            obtain ⟨a0, a1, a2⟩ := three_cells HRB.out.1
            have z2 := frozen_of_row _ w3.heap.size 2 _ _ HRB.out.1
            obtain ⟨q0, q1, q2⟩ := three_cells HR5.out
            have t0 := frozen_of_row _ (w.heap.size + 1) 0 _ _ HR5.out
            have t1 := frozen_of_row _ (w.heap.size + 1) 1 _ _ HR5.out
            have t2 := frozen_of_row _ (w.heap.size + 1) 2 _ _ HR5.out
            obtain ⟨d0, _, _⟩ := three_cells HBE5.out
            have hne : w.heap.size + 1 ≠ w3.heap.size := by omega
            have hla := cell_lt a0
            have hlq := cell_lt q0
            have hld := cell_lt d0
            cases b with
            | true =>
              go_wp2
              obtain ⟨y0, y1, y2⟩ := three_cells (put3x (v0 := .int .u32 (f : Int)) (v1 := .int .u32 (g : Int)) (v2 := .bool true) HO.out.1).1
              refine bodyPost_ret (v := .agg #[.int .u32 f, .int .u32 g, .bool true]) (by simp [results, Tryd.results38, go_sem, y0, y1, y2]) rfl ⟨f, g, true, v', nr3, rfl, ?_, ?_, ?_, ?_, HO.out.2.2⟩
              · rw [HP.out]; simpa using HE3.out.loop (c := false)
              · rw [HP.out]; exact HO.out.2.1
              · rw [HP.out]; exact HL5.out.trans HL3.out
              · rw [HP.out]; exact (show Nx nr3 (R ++ ((place x nx.length).fol ++ cross (place x nx.length).last (place x nx.length).first)) from by rw [← List.append_assoc]; exact HNX5.out)
            | false =>
              go_wp2
              obtain ⟨y0, y1, y2⟩ := three_cells (put3x (v0 := .int .u32 (f : Int)) (v1 := .int .u32 (g : Int)) (v2 := .bool false) HO.out.1).1
              refine bodyPost_ret (v := .agg #[.int .u32 f, .int .u32 g, .bool false]) (by simp [results, Tryd.results38, go_sem, y0, y1, y2]) rfl ⟨f, g, false, v', nr3, rfl, ?_, ?_, ?_, ?_, HO.out.2.2⟩
              · rw [HP.out]; simpa using HE3.out.loop (c := false)
              · rw [HP.out]; exact HO.out.2.1
              · rw [HP.out]; exact HL5.out.trans HL3.out
              · rw [HP.out]; exact (show Nx nr3 (R ++ ((place x nx.length).fol ++ cross (place x nx.length).last (place x nx.length).first)) from by rw [← List.append_assoc]; exact HNX5.out)
          · have HP : Hid (place (.mk 63 s [x]) nx.length = pOpt (place x nx.length)) := Lib.hid (by rw [place]; simp only [placeOne]; rfl)
            obtain ⟨W2, hW2, HB2', HR', HBE, HXE, hBW'⟩ : ∃ W2, ((w.alloc (.cells #[.int .u8 63, .string s, .slice (some ⟨bk, off, none⟩) 1 c] 24)).alloc (.cells #[.int .u32 0, .int .u32 0, .bool false] 71)) = W2 ∧ Hid (Below w.heap.size w W2) ∧ Hid (W2.heap[w.heap.size + 1]? = some (.cells #[.int .u32 0, .int .u32 0, .bool false] 71)) ∧ Hid (W2.heap[w.heap.size]? = some (.cells #[.int .u8 63, .string s, .slice (some ⟨bk, off, none⟩) 1 c] 24)) ∧ Hid (Exs W2 (Under B) (.slice A3 x.kids.length c3) x.kids) ∧ B ≤ W2.heap.size :=
              ⟨_, rfl, HB2, HR, Lib.hid ((Below.heap_alloc _ _ _ (by simp)).trans (heap_new _ _)), Lib.hid (HEK.out.keep (fun _ h => h) fun b hb => HB2.out.block b (Nat.lt_of_lt_of_le hb hB)), hBW⟩
            have hxm : x ∈ [x] := List.mem_cons_self ..
            have HW2 := Lib.hid hW2
            clear HB2 HR HXW hBW hW2
            go_enter Tryd.func38, Tryd.ntmps38
            go_wp2_with fail
            rw [HW2.out]
            clear HW2
            refine (IH.out x hxm B M bm v nm nx R W2 A3 _ c3 (Ex.fits_mem HFA.out hxm) (mem_allEs HAL.out x hxm) HXE.out (HM.out.below HB2'.out) hln HNX.out (HT.out.below HB2'.out) hG hBW' hxc).mono ?_
            rintro e w3 ⟨f, g, b, v', nr, rfl, he3, hm3, hl3, hn3, hg3⟩
            have hvE : ∀ j, w.heap.size ≤ j → j < W2.heap.size → v.ownBlock ≠ some j ∧ v'.ownBlock ≠ some j := fun j h1 h2 => by
              have hv : v.ownBlock ≠ some j := fun e => by have := (HM.out.row.lt j e).2; omega
              refine ⟨hv, fun e => ?_⟩
              rcases hg3.own with h3 | h3
              · exact hv (h3.symm.trans e)
              · have := h3 j e; omega
            have hzW : w.heap.size + 1 < W2.heap.size := (Array.getElem?_eq_some_iff.1 HR'.out).1
            have HBE3 := Lib.hid (hg3.box HBE.out (by omega) (by omega) (hvE _ (Nat.le_refl _) (by omega)).1)
            have HB3 : Hid (Below w3.heap.size w3 (w3.alloc (.cells #[.int .u32 (f : Int), .int .u32 (g : Int), .bool b] 71))) := Lib.hid ((Below.refl _ _).alloc (Nat.le_refl _) _)
            have hz3 := hg3.size
            have HG3 := Lib.hid hg3
            have HM3 := Lib.hid hm3
            have HT3 := Lib.hid ((HT.out.below HB2'.out).grw hg3 (HM.out.below HB2'.out) hG hBW')
            have HE3 := Lib.hid he3
            have HL3 := Lib.hid hl3
            have HN3 := Lib.hid hn3
            have HVE := Lib.hid hvE
            clear he3 hm3 hl3 hn3 hg3 hvE f0 f1 f2
            obtain ⟨k0, _, _⟩ := three_cells HBE3.out
            have hk0 := cell_lt k0
            have HR3 := Lib.hid (HG3.out.box HR'.out (by omega) (by omega) (HVE.out _ (by omega) hzW).1)
            obtain ⟨q0, q1, q2⟩ := three_cells HR3.out
            have t0 := frozen_of_row _ (w.heap.size + 1) 0 _ _ HR3.out
            have t1 := frozen_of_row _ (w.heap.size + 1) 1 _ _ HR3.out
            have t2 := frozen_of_row _ (w.heap.size + 1) 2 _ _ HR3.out
            have hlq := cell_lt q0
            have HO1 := Lib.hid (add_out (f := f) (l := g) (b := true) HM.out HB2'.out (Nat.le_add_right _ 1) HR'.out HM3.out HG3.out)
            have HZ := Lib.hid (put3x (v0 := .int .u32 (f : Int)) (v1 := .int .u32 (g : Int)) (v2 := .bool true) HO1.out.1)
            have HO := Lib.hid (And.intro ((Below.heap_alloc _ (.cells #[.int .u32 (f : Int), .int .u32 (g : Int), .bool true] 71) _ (by rw [HZ.out.2.2]; exact hlq)).trans HZ.out.1) (And.intro (HO1.out.2.1.below ((Below.refl _ _).alloc (Nat.le_refl _) (.cells #[.int .u32 (f : Int), .int .u32 (g : Int), .bool true] 71))) (HO1.out.2.2.alloc (.cells #[.int .u32 (f : Int), .int .u32 (g : Int), .bool true] 71))))
            cases b with
            | true =>
              go_wp2
              obtain ⟨y0, y1, y2⟩ := three_cells HO.out.1
              refine bodyPost_ret (v := .agg #[.int .u32 f, .int .u32 g, .bool true]) (by simp [results, Tryd.results38, go_sem, y0, y1, y2]) rfl ⟨f, g, true, v', nr, rfl, ?_, ?_, ?_, ?_, HO.out.2.2⟩
              · rw [HP.out]; exact HE3.out.opt
              · rw [HP.out]; exact HO.out.2.1
              · rw [HP.out]; exact HL3.out
              · rw [HP.out]; exact HN3.out
            | false =>
              go_wp2
              obtain ⟨y0, y1, y2⟩ := three_cells HO.out.1
              refine bodyPost_ret (v := .agg #[.int .u32 f, .int .u32 g, .bool true]) (by simp [results, Tryd.results38, go_sem, y0, y1, y2]) rfl ⟨f, g, true, v', nr, rfl, ?_, ?_, ?_, ?_, HO.out.2.2⟩
              · rw [HP.out]; exact HE3.out.opt
              · rw [HP.out]; exact HO.out.2.1
              · rw [HP.out]; exact HL3.out
              · rw [HP.out]; exact HN3.out
end Go.Proofs.YtldmimekmjmkgaaDoor
