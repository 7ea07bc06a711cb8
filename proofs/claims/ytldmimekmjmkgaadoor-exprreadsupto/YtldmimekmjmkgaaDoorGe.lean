/-
  What Parse answers.
-/
import Derived.Test.YtldmimekmjmkgaaDoorGd
namespace Go.Proofs.YtldmimekmjmkgaaDoor
open Go.RowKit Go.Sort Go.Maps Go.WideMaps

/-- What is read fits. -/
def Fit (f : RdS → Ex × RdS) : Prop := ∀ s : RdS, s.1.length ≤ 50000000 → (f s).1.fits
theorem fitsAll_of : ∀ l : List Ex, (∀ x ∈ l, x.fits) → Ex.fitsAll l
  | [], _ => trivial
  | x :: l, h => ⟨h x (List.mem_cons_self ..), fitsAll_of l fun y hy => h y (List.mem_cons_of_mem _ hy)⟩
theorem empty_len : (ByteArray.empty).size ≤ maxLen := by unfold maxLen; decide
theorem fit_more {part : RdS → Ex × RdS} (h : Fit part) (hs : Shr part) (sep : List UInt8) : ∀ (k : Nat) (s : RdS), s.1.length ≤ 50000000 → ∀ x ∈ (moreP sep part k s).1, x.fits
  | 0, _, _, x, hx => by simp [moreP] at hx
  | k + 1, s, hl, x, hx => by
    rw [moreP] at hx
    split at hx
    · have h3 := trim_le s.1 sep
      have h1 := hs (skipL s sep)
      simp only [skipL] at h1 hx
      rcases List.mem_cons.1 hx with rfl | hx
      · exact h _ (by simp only; omega)
      · exact fit_more h hs sep k _ (by omega) x hx
    · cases hx
theorem fit_several {part : RdS → Ex × RdS} (h : Fit part) (hs : Shr part) (op : Nat) (ho : op < 256) (sep : List UInt8) : Fit (severalP op sep part) := by
  intro s hl
  have h1 := hs s
  have h2 := fit_more h hs sep (part s).2.2.toNat (part s).2 (by omega)
  unfold severalP
  split
  · exact h s hl
  · refine ⟨ho, empty_len, fitsAll_of _ fun x hx => ?_⟩
    rcases List.mem_cons.1 hx with rfl | hx
    · exact h s hl
    · exact h2 x hx
theorem fit_repeated {unit : RdS → Ex × RdS} (h : Fit unit) : Fit (repeatedP unit) := by
  intro s hl
  have h1 := h s hl
  unfold repeatedP
  cases e : (unit s).2.1 with
  | nil => exact h1
  | cons c r =>
    simp only
    split
    · exact ⟨c.toNat_lt, empty_len, h1, trivial⟩
    · exact h1
theorem fit_nul : nulE.fits := ⟨by decide, empty_len, trivial⟩
theorem fit_unit : ∀ n, Fit (unitP n)
  | 0 => fun s _ => fit_nul
  | n + 1 => fun s hl => by
    rw [unitP]
    split
    · exact fit_nul
    · split
      · exact ⟨by decide, empty_len, trivial⟩
      · split
        · have h2 := trim_le s.1 [40]
          have h1 := fit_several (fit_several (fit_repeated (fit_unit n)) (shr_repeated (shr_unit n)) 115 (by decide) [32]) (shr_several (shr_repeated (shr_unit n)) 115 [32]) 97 (by decide) [124] (Lib.trimPrefix s.1 [40], s.2 - 1) (by simp only; omega)
          simp only
          split
          · exact h1
          · exact fit_nul
        · refine ⟨by decide, ?_, trivial⟩
          show (⟨(s.1.takeWhile small).toArray⟩ : ByteArray).size ≤ maxLen
          have := (List.takeWhile_prefix small (l := s.1)).sublist.length_le
          rw [show (⟨(s.1.takeWhile small).toArray⟩ : ByteArray).size = (s.1.takeWhile small).length by simp [ByteArray.size]]
          unfold maxLen
          omega
theorem fit_read {l : List UInt8} (h : l.length ≤ 50000000) : (readE l).fits :=
  fit_several (fit_several (fit_repeated (fit_unit 24)) (shr_repeated (shr_unit 24)) 115 (by decide) [32]) (shr_row 24) 97 (by decide) [124] (l, 24) h

/-- What Parse answers. -/
def parseE (s : ByteArray) : Ex × Int := if rightE okN (readE s.data.toList) = true ∧ writeE (readE s.data.toList) = s then (readE s.data.toList, 0) else (nulE, 2)
def PEPost (w : World) (p : Ex × Int) (x : Ending) (w' : World) : Prop :=
  ∃ (A : Option Addr) (n c : Nat), x = .returned (.tuple #[.agg #[.int .u8 (p.1.op : Int), .string p.1.name, .slice A n c], .int .i64 p.2]) ∧ Exs w' (From w.heap.size w'.heap.size) (.slice A n c) p.1.kids ∧ Below w.heap.size w w'
theorem parse_fin {w W : World} {e : Ex} {A : Option Addr} {n c : Nat} {u0 u1 u2 : Value} (hB : Below w.heap.size w W) (hz : W.heap[w.heap.size]? = some (.cells #[u0, u1, u2] 24)) (hk : Exs W (From (w.heap.size + 1) W.heap.size) (.slice A n c) e.kids) (r : Int) :
    (((W.setCell ⟨w.heap.size, 0, none⟩ (.int .u8 (e.op : Int))).setCell ⟨w.heap.size, 1, none⟩ (.string e.name)).setCell ⟨w.heap.size, 2, none⟩ (.slice A n c)).heap[w.heap.size]? = some (.cells #[.int .u8 (e.op : Int), .string e.name, .slice A n c] 24) ∧
    PEPost w (e, r) (.returned (.tuple #[.agg #[.int .u8 (e.op : Int), .string e.name, .slice A n c], .int .i64 r])) (((W.setCell ⟨w.heap.size, 0, none⟩ (.int .u8 (e.op : Int))).setCell ⟨w.heap.size, 1, none⟩ (.string e.name)).setCell ⟨w.heap.size, 2, none⟩ (.slice A n c)) := by
  obtain ⟨x0, hx, hzz⟩ := put3x (v0 := .int .u8 (e.op : Int)) (v1 := .string e.name) (v2 := .slice A n c) hz
  refine ⟨x0, A, n, c, rfl, hk.keep (fun b hb => ⟨by have := hb.1; omega, by rw [hzz]; exact hb.2⟩) fun b hb => hx b (by have := hb.1; omega), hB.os, hB.tape, hB.output, by rw [hzz]; exact hB.size, fun b hb => (hx b (by omega)).trans (hB.block b hb)⟩

theorem parse_nul {w W : World} {u0 u1 u2 : Value} (hB : Below w.heap.size w W) (hz : W.heap[w.heap.size]? = some (.cells #[u0, u1, u2] 24)) :
    (((W.setCell ⟨w.heap.size, 0, none⟩ (.int .u8 0)).setCell ⟨w.heap.size, 1, none⟩ (.string ⟨#[]⟩)).setCell ⟨w.heap.size, 2, none⟩ (.slice none 0 0)).heap[w.heap.size]? = some (.cells #[.int .u8 0, .string ⟨#[]⟩, .slice none 0 0] 24) ∧
    PEPost w (nulE, 2) (.returned (.tuple #[.agg #[.int .u8 0, .string ⟨#[]⟩, .slice none 0 0], .int .i64 2])) (((W.setCell ⟨w.heap.size, 0, none⟩ (.int .u8 0)).setCell ⟨w.heap.size, 1, none⟩ (.string ⟨#[]⟩)).setCell ⟨w.heap.size, 2, none⟩ (.slice none 0 0)) :=
  parse_fin (e := nulE) hB hz (exs_nil W _) 2

set_option maxRecDepth 100000 in
set_option maxHeartbeats 4000000 in
theorem parse_any (s : ByteArray) (w : World) (hs : s.size ≤ 50000000) :
    Calls Tryd.prog 26 #[.string s] w (PEPost w (parseE s)) := by
  have HF := Lib.hid (fit_read (l := s.data.toList) (by rw [list_size]; exact hs))
  have HB : Hid (Below w.heap.size w (w.alloc (.cells #[.int .u8 0, .string ⟨#[]⟩, .slice none 0 0] 24))) := Lib.hid ((Below.refl _ _).alloc (Nat.le_refl _) _)
  have HZB : Hid ((w.alloc (.cells #[.int .u8 0, .string ⟨#[]⟩, .slice none 0 0] 24)).heap[w.heap.size]? = some (.cells #[.int .u8 0, .string ⟨#[]⟩, .slice none 0 0] 24)) := Lib.hid (heap_new _ _)
  go_enter Tryd.func26, Tryd.ntmps26
  go_wp2_with fail
  generalize w.alloc (.cells #[.int .u8 0, .string ⟨#[]⟩, .slice none 0 0] 24) = W1 at *
  have hz1 : w.heap.size < W1.heap.size := (Array.getElem?_eq_some_iff.1 HZB.out).1
  refine (read_any s W1 hs).mono ?_
  rintro x w2 ⟨A, k, c, rfl, hk2, hb2⟩
  have HQ : Hid (parseE s = if rightE okN (readE s.data.toList) = true ∧ writeE (readE s.data.toList) = s then (readE s.data.toList, 0) else (nulE, 2)) := Lib.hid rfl
  generalize readE s.data.toList = e at *
  have hw2 : W1.heap.size ≤ w2.heap.size := hb2.size
  have HZ2 : Hid (w2.heap[w.heap.size]? = some (.cells #[.int .u8 0, .string ⟨#[]⟩, .slice none 0 0] 24)) := Lib.hid ((hb2.block _ hz1).trans HZB.out)
  have HK2 : Hid (Exs w2 (From (w.heap.size + 1) w2.heap.size) (.slice A k c) e.kids) := Lib.hid (hk2.keep (fun b hb => ⟨by have := hb.1; omega, hb.2⟩) fun _ _ => rfl)
  have HB2 : Hid (Below w.heap.size w w2) := Lib.hid (belowNext HB.out hb2)
  clear hk2 hb2 HZB HB
  have HB3 : Hid (Below w2.heap.size w2 (w2.alloc (.cells #[.int .u8 (e.op : Int), .string e.name, .slice A k c] 24))) := Lib.hid ((Below.refl _ _).alloc (Nat.le_refl _) _)
  have HN3 : Hid ((w2.alloc (.cells #[.int .u8 (e.op : Int), .string e.name, .slice A k c] 24)).heap[w2.heap.size]? = some (.cells #[.int .u8 (e.op : Int), .string e.name, .slice A k c] 24)) := Lib.hid (heap_new _ _)
  go_wp2_with fail
  generalize hW : w2.alloc (.cells #[.int .u8 (e.op : Int), .string e.name, .slice A k c] 24) = W3 at *
  have HK3 := Lib.hid (HK2.out.keep (fun b hb => (show b < W3.heap.size from Nat.lt_of_lt_of_le hb.2 HB3.out.size)) fun b hb => HB3.out.block b hb.2)
  clear hW
  refine (print_any e A k c W3 HF.out HK3.out).mono ?_
  rintro x w4 ⟨rfl, hb4⟩
  have hw3 : w2.heap.size < W3.heap.size := (Array.getElem?_eq_some_iff.1 HN3.out).1
  have HN4 := Lib.hid ((hb4.block _ hw3).trans HN3.out)
  have HB4 : Hid (Below w.heap.size w w4) := Lib.hid (belowNext HB2.out (belowNext HB3.out hb4))
  have hw4 : W3.heap.size ≤ w4.heap.size := hb4.size
  have HZ4 : Hid (w4.heap[w.heap.size]? = _) := Lib.hid ((hb4.block _ (by omega)).trans ((HB3.out.block _ (by omega)).trans HZ2.out))
  have HK4 : Hid (Exs w4 (From (w.heap.size + 1) w4.heap.size) (.slice A k c) e.kids) := Lib.hid (HK2.out.keep (fun b hb => ⟨hb.1, by have := hb.2; omega⟩) fun b hb => (hb4.block b (by have := hb.2; omega)).trans (HB3.out.block b hb.2))
  have hne : w.heap.size ≠ w2.heap.size := by omega
  clear hb4 HN3 HB3 HB2 HZ2 HK2 HK3 hw3
  cases hre : rightE okN e with
  | false =>
    have hP : printE e = (⟨#[]⟩, 2) := by unfold printE; rw [hre]; rfl
    have HQ2 : Hid (parseE s = (nulE, 2)) := Lib.hid (by rw [HQ.out, hre]; simp)
    rw [hP]
    clear hP HQ hre
    obtain ⟨q0, q1, q2⟩ := three_cells HZ4.out
    have t0 := frozen_of_row _ w.heap.size 0 _ _ HZ4.out
    have t1 := frozen_of_row _ w.heap.size 1 _ _ HZ4.out
    have t2 := frozen_of_row _ w.heap.size 2 _ _ HZ4.out
    obtain ⟨d0, d1, d2⟩ := three_cells HN4.out
    have hzq := cell_lt q0
    have hzd := cell_lt d0
    go_wp2
    obtain ⟨x0, x1⟩ := parse_nul HB4.out HZ4.out
    obtain ⟨y0, y1, y2⟩ := three_cells x0
    refine bodyPost_ret (v := .tuple #[.agg #[.int .u8 0, .string ⟨#[]⟩, .slice none 0 0], .int .i64 2]) (by simp [results, Tryd.results26, go_sem, y0, y1, y2]) rfl ?_
    rw [HQ2.out]
    exact x1
  | true =>
    have hP : printE e = (writeE e, 0) := by unfold printE; rw [hre]; rfl
    rw [hP]
    clear hP
    by_cases hes : writeE e = s
    · have HQ2 : Hid (parseE s = (e, 0)) := Lib.hid (by rw [HQ.out, if_pos ⟨hre, hes⟩])
      have hse : ((writeE e).toList == s.toList) = true := by rw [hes]; simp
      clear HQ hre hes
      generalize writeE e = S at *
      obtain ⟨q0, q1, q2⟩ := three_cells HZ4.out
      have t0 := frozen_of_row _ w.heap.size 0 _ _ HZ4.out
      have t1 := frozen_of_row _ w.heap.size 1 _ _ HZ4.out
      have t2 := frozen_of_row _ w.heap.size 2 _ _ HZ4.out
      obtain ⟨d0, d1, d2⟩ := three_cells HN4.out
      have hzq := cell_lt q0
      have hzd := cell_lt d0
      go_wp2
      obtain ⟨x0, x1⟩ := parse_fin (e := e) HB4.out HZ4.out HK4.out 0
      obtain ⟨y0, y1, y2⟩ := three_cells x0
      refine bodyPost_ret (v := .tuple #[.agg #[.int .u8 (e.op : Int), .string e.name, .slice A k c], .int .i64 0]) (by simp [results, Tryd.results26, go_sem, y0, y1, y2]) rfl ?_
      rw [HQ2.out]
      exact x1
    · have HQ2 : Hid (parseE s = (nulE, 2)) := Lib.hid (by rw [HQ.out, if_neg (fun h => hes h.2)])
      have hse : ((writeE e).toList == s.toList) = false := by
        rw [beq_eq_false_iff_ne]
        intro h
        rw [Lib.toList_data, Lib.toList_data] at h
        exact hes (bytesE_of h)
      clear HQ hre hes
      generalize writeE e = S at *
      obtain ⟨q0, q1, q2⟩ := three_cells HZ4.out
      have t0 := frozen_of_row _ w.heap.size 0 _ _ HZ4.out
      have t1 := frozen_of_row _ w.heap.size 1 _ _ HZ4.out
      have t2 := frozen_of_row _ w.heap.size 2 _ _ HZ4.out
      obtain ⟨d0, d1, d2⟩ := three_cells HN4.out
      have hzq := cell_lt q0
      have hzd := cell_lt d0
      go_wp2
      obtain ⟨x0, x1⟩ := parse_nul HB4.out HZ4.out
      obtain ⟨y0, y1, y2⟩ := three_cells x0
      refine bodyPost_ret (v := .tuple #[.agg #[.int .u8 0, .string ⟨#[]⟩, .slice none 0 0], .int .i64 2]) (by simp [results, Tryd.results26, go_sem, y0, y1, y2]) rfl ?_
      rw [HQ2.out]
      exact x1
end Go.Proofs.YtldmimekmjmkgaaDoor
