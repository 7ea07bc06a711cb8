/-
  The reader's unit.
-/
import Derived.Test.YtldmimekmjmkgaaDoorFu
namespace Go.Proofs.YtldmimekmjmkgaaDoor
open Go.RowKit Go.Sort Go.Maps Go.WideMaps

def USaid (n : Nat) : Prop := ∀ (R : Nat) (s : RdS) (w : World), RdE w R s.1 s.2 → s.1.length ≤ 50000000 → s.2 ≤ 24 → -1000 ≤ s.2 → s.2.toNat ≤ n →
  Calls Tryd.prog 93 #[.pointer (some ⟨R, 0, none⟩)] w (RPost w R (unitP n s))
theorem unitP_out (n : Nat) {s : RdS} (h : s.2 - 1 < 0) : unitP n s = (nulE, (s.1, s.2 - 1)) := by
  cases n with
  | zero => rfl
  | succ n => rw [unitP, if_pos h]
theorem unitP_in (n : Nat) {s : RdS} (h : ¬ s.2 - 1 < 0) : unitP (n + 1) s = if Lib.hasPrefix s.1 [40, 41] then (.mk 115 ByteArray.empty [], (Lib.trimPrefix s.1 [40, 41], s.2 - 1)) else if Lib.hasPrefix s.1 [40] then closedP n (Lib.trimPrefix s.1 [40], s.2 - 1) else nameP (s.1, s.2 - 1) := by
  rw [unitP, if_neg h]; rfl

set_option maxHeartbeats 4000000 in
theorem unit_of (n : Nat) (HC : Hid (∀ k, n = k + 1 → CSaid k)) : USaid n := by
  intro R s w h hl h24 hlo hn
  obtain ⟨l, m⟩ := s
  simp only at *
  have c1 := h.left
  have f1 := h.free 1
  have HB : Hid (Below (w.setCell ⟨R, 1, none⟩ (.int .i64 (m - 1))).heap.size (w.setCell ⟨R, 1, none⟩ (.int .i64 (m - 1))) ((w.setCell ⟨R, 1, none⟩ (.int .i64 (m - 1))).alloc (.cells #[.int .u8 0, .string ⟨#[]⟩, .slice none 0 0] 24))) := Lib.hid ((Below.refl _ _).alloc (Nat.le_refl _) _)
  have hz0 : (w.setCell ⟨R, 1, none⟩ (.int .i64 (m - 1))).heap.size = w.heap.size := by simp [World.setCell]
  have HZB : Hid (((w.setCell ⟨R, 1, none⟩ (.int .i64 (m - 1))).alloc (.cells #[.int .u8 0, .string ⟨#[]⟩, .slice none 0 0] 24)).heap[w.heap.size]? = some (.cells #[.int .u8 0, .string ⟨#[]⟩, .slice none 0 0] 24)) := Lib.hid (heap_new' _ _ hz0)
  have HR := Lib.hid ((h.set1 (m - 1)).below HB.out)
  have HO := Lib.hid ((OnlyR.set R 1 w (.int .i64 (m - 1))).trans (OnlyR.of_below R HB.out))
  have hRl := h.lt
  clear h
  by_cases h0 : m - 1 < 0
  · have HP := Lib.hid (unitP_out n (s := (l, m)) h0)
    have e0 : decide (m - 1 < 0) = true := decide_eq_true h0
    go_enter Tryd.func93, Tryd.ntmps93
    go_wp2
    obtain ⟨y0, y1, y2⟩ := three_cells HZB.out
    refine bodyPost_ret (v := .agg #[.int .u8 0, .string ⟨#[]⟩, .slice none 0 0]) (by simp [results, Tryd.results93, go_sem, y0, y1, y2]) rfl ?_
    rw [HP.out]
    exact ⟨none, 0, 0, rfl, exs_nil _ _, HR.out, HO.out⟩
  · obtain ⟨k, rfl⟩ : ∃ k, n = k + 1 := ⟨n - 1, by omega⟩
    have HP := Lib.hid (unitP_in k (s := (l, m)) h0)
    have e0 : decide (m - 1 < 0) = false := decide_eq_false h0
    simp only at HP
    go_enter Tryd.func93, Tryd.ntmps93
    go_wp2_with fail
    generalize (w.setCell ⟨R, 1, none⟩ (.int .i64 (m - 1))).alloc (.cells #[.int .u8 0, .string ⟨#[]⟩, .slice none 0 0] 24) = W1 at *
    clear c1 f1 HB hz0
    have hz1 : w.heap.size < W1.heap.size := (Array.getElem?_eq_some_iff.1 HZB.out).1
    generalize hq : unitP (k + 1) (l, m) = q at *
    refine (skip_any R l (m - 1) ⟨#[40, 41]⟩ W1 HR.out).mono ?_
    rintro x w2 ⟨rfl, hr2, ho2⟩
    have HO2 := Lib.hid (HO.out.trans ho2)
    have HZ2 := Lib.hid ((ho2.block _ hz1 (Nat.ne_of_gt hRl)).trans HZB.out)
    have HR2 := Lib.hid hr2
    clear hr2 ho2 HR HO HZB hq hz1
    generalize hb : Lib.hasPrefix l [40, 41] = b at *
    have hb' : Lib.hasPrefix l (⟨#[40, 41]⟩ : ByteArray).data.toList = b := hb
    cases b with
    | true =>
      have HQ : Hid (q = (.mk 115 ByteArray.empty [], (Lib.trimPrefix l [40, 41], m - 1))) := Lib.hid (by rw [HP.out]; rfl)
      clear HP
      obtain ⟨q0, q1, q2⟩ := three_cells HZ2.out
      have t0 := frozen_of_row _ w.heap.size 0 _ _ HZ2.out
      have t1 := frozen_of_row _ w.heap.size 1 _ _ HZ2.out
      have t2 := frozen_of_row _ w.heap.size 2 _ _ HZ2.out
      have hzq := cell_lt q0
      go_wp2
      obtain ⟨x0, x1, x2, x3⟩ := read_fin HO2.out HR2.out HZ2.out hRl (exs_nil w2 (From (w.heap.size + 1) w2.heap.size)) (o := 115) (s := ⟨#[]⟩)
      obtain ⟨y0, y1, y2⟩ := three_cells x0
      refine bodyPost_ret (v := .agg #[.int .u8 (115), .string ⟨#[]⟩, .slice none 0 0]) (by simp [results, Tryd.results93, go_sem, y0, y1, y2]) rfl ?_
      rw [HQ.out]
      exact ⟨none, 0, 0, rfl, x1, x2, x3⟩
    | false =>
      have htr : Lib.trimPrefix l (⟨#[40, 41]⟩ : ByteArray).data.toList = l := by unfold Lib.trimPrefix; rw [hb']; rfl
      rw [htr] at HR2
      clear htr hb hb'
      go_wp2_with fail
      refine (skip_any R l (m - 1) ⟨#[40]⟩ w2 HR2.out).mono ?_
      rintro x w3 ⟨rfl, hr3, ho3⟩
      have HO3 := Lib.hid (HO2.out.trans ho3)
      have hz2 : w.heap.size < w2.heap.size := (Array.getElem?_eq_some_iff.1 HZ2.out).1
      have HZ3 := Lib.hid ((ho3.block _ hz2 (Nat.ne_of_gt hRl)).trans HZ2.out)
      have HR3 := Lib.hid hr3
      clear hr3 ho3 HR2 HO2 HZ2 hz2
      have hz3 : w.heap.size < w3.heap.size := (Array.getElem?_eq_some_iff.1 HZ3.out).1
      generalize hb : Lib.hasPrefix l [40] = b at *
      have hb' : Lib.hasPrefix l (⟨#[40]⟩ : ByteArray).data.toList = b := hb
      cases b with
      | true =>
        have HQ : Hid (q = closedP k (Lib.trimPrefix l [40], m - 1)) := Lib.hid (by rw [HP.out]; rfl)
        have hlt : (Lib.trimPrefix l [40]).length ≤ 50000000 := by
          unfold Lib.trimPrefix
          split <;> (try rw [List.length_drop]) <;> omega
        clear HP hb hb'
        go_wp2_with fail
        refine (closed_of k (Lib.hid (HC.out k rfl)) R (Lib.trimPrefix l [40], m - 1) w3 HR3.out hlt (by dsimp only; omega) (by dsimp only; omega) (by dsimp only; omega)).mono ?_
        rintro x w4 ⟨A, j, c, rfl, hk4, hr4, ho4⟩
        generalize closedP k (Lib.trimPrefix l [40], m - 1) = p at *
        obtain ⟨e, t, m2⟩ := p
        have HO4 := Lib.hid (HO3.out.trans ho4)
        have HZ4 := Lib.hid ((ho4.block _ hz3 (Nat.ne_of_gt hRl)).trans HZ3.out)
        have HR4 := Lib.hid hr4
        have HK4 : Hid (Exs w4 (From (w.heap.size + 1) w4.heap.size) (.slice A j c) e.kids) := Lib.hid (hk4.keep (fun b hb => ⟨by have := hb.1; omega, hb.2⟩) fun _ _ => rfl)
        clear hr4 ho4 hk4 HR3 HO3 HZ3
        obtain ⟨q0, q1, q2⟩ := three_cells HZ4.out
        have t0 := frozen_of_row _ w.heap.size 0 _ _ HZ4.out
        have t1 := frozen_of_row _ w.heap.size 1 _ _ HZ4.out
        have t2 := frozen_of_row _ w.heap.size 2 _ _ HZ4.out
        have hzq := cell_lt q0
        go_wp2
        obtain ⟨x0, x1, x2, x3⟩ := read_fin HO4.out HR4.out HZ4.out hRl HK4.out (o := (e.op : Int)) (s := e.name)
        obtain ⟨y0, y1, y2⟩ := three_cells x0
        refine bodyPost_ret (v := .agg #[.int .u8 (e.op : Int), .string e.name, .slice A j c]) (by simp [results, Tryd.results93, go_sem, y0, y1, y2]) rfl ?_
        rw [HQ.out]
        exact ⟨A, j, c, rfl, x1, x2, x3⟩
      | false =>
        have htr : Lib.trimPrefix l (⟨#[40]⟩ : ByteArray).data.toList = l := by unfold Lib.trimPrefix; rw [hb']; rfl
        rw [htr] at HR3
        have HQ : Hid (q = nameP (l, m - 1)) := Lib.hid (by rw [HP.out]; rfl)
        clear htr hb hb' HP
        go_wp2_with fail
        refine (nameE_any R l (m - 1) w3 HR3.out hl).mono ?_
        rintro x w4 ⟨rfl, hr4, ho4⟩
        have HO4 := Lib.hid (HO3.out.trans ho4)
        have HZ4 := Lib.hid ((ho4.block _ hz3 (Nat.ne_of_gt hRl)).trans HZ3.out)
        have HR4 := Lib.hid hr4
        clear hr4 ho4 HR3 HO3 HZ3
        obtain ⟨q0, q1, q2⟩ := three_cells HZ4.out
        have t0 := frozen_of_row _ w.heap.size 0 _ _ HZ4.out
        have t1 := frozen_of_row _ w.heap.size 1 _ _ HZ4.out
        have t2 := frozen_of_row _ w.heap.size 2 _ _ HZ4.out
        have hzq := cell_lt q0
        go_wp2
        obtain ⟨x0, x1, x2, x3⟩ := read_fin HO4.out HR4.out HZ4.out hRl (exs_nil w4 (From (w.heap.size + 1) w4.heap.size)) (o := 110) (s := ⟨(l.takeWhile small).toArray⟩)
        obtain ⟨y0, y1, y2⟩ := three_cells x0
        refine bodyPost_ret (v := .agg #[.int .u8 (110), .string ⟨(l.takeWhile small).toArray⟩, .slice none 0 0]) (by simp [results, Tryd.results93, go_sem, y0, y1, y2]) rfl ?_
        rw [HQ.out]
        exact ⟨none, 0, 0, rfl, x1, x2, x3⟩
end Go.Proofs.YtldmimekmjmkgaaDoor
