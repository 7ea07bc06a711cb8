/-
  The document's Print and PrintAll: what they answer; CodecPrints walked.
-/
import Derived.Test.YtdbpnfabcmndjaaDoorX5
import Derived.Test.YtdbpnfabcmndjaaDoorX8
namespace Go.Proofs.YtdbpnfabcmndjaaDoor
open Go.RowKit Go.Sort Go.Maps

set_option maxHeartbeats 2000000 in
theorem rprint_any (t : Tree) (v : Value) (w : World) (hw : weigh t ≤ 1100000) (h : Node w (Under w.heap.size) v t) :
    Calls Tryd.prog 25 #[v] w fun e w' => e = .returned (.tuple #[.string (tB (printB t)), .int .i64 (checkB t)]) ∧ Below w.heap.size w w' := by
  have HN := Lib.hid h
  obtain ⟨A1, c1, A2, c2, A3, c3, rfl⟩ := h.forms1
  clear h
  generalize hW1 : w.alloc (.cells #[.string t.kind, .string t.text, .slice A1 t.marks.length c1, .slice A2 t.attrs.length c2, .slice A3 t.kids.length c3] 26) = W1
  have HB : Hid (Below w.heap.size w W1) := Lib.hid (by subst hW1; exact (Below.refl _ _).alloc (Nat.le_refl _) _)
  have HBL : Hid (W1.heap[w.heap.size]? = some (.cells #[.string t.kind, .string t.text, .slice A1 t.marks.length c1, .slice A2 t.attrs.length c2, .slice A3 t.kids.length c3] 26)) := Lib.hid (by
    subst hW1; show (w.heap.push _)[w.heap.size]? = _; simp)
  obtain ⟨x0, x1, x2, x3, x4⟩ := five_of HBL.out
  have HND : Hid (∀ W, Below W1.heap.size W1 W → Node W (Under W.heap.size) (.agg #[.string t.kind, .string t.text, .slice A1 t.marks.length c1, .slice A2 t.attrs.length c2, .slice A3 t.kids.length c3]) t) := Lib.hid fun W hW => node_late HN.out W (HB.out.trans (hW.mono HB.out.size))
  have HW1 := Lib.hid hW1
  clear hW1
  go_enter Tryd.func25, Tryd.ntmps25
  go_upto_region 1 with fail
  rw [HW1.out]
  go_wp2_with fail
  refine (rcheck_any t _ W1 hw (HND.out W1 (Below.refl _ _))).mono ?_
  rintro e w2 ⟨rfl, hb2⟩
  have HB2 := Lib.hid hb2
  obtain ⟨y0, y1, y2, y3, y4⟩ := five_of (block_kept HBL.out hb2)
  clear hb2 x0 x1 x2 x3 x4
  have HPZ : Hid (printB t = if checkB t = 0 then writeB t else []) := Lib.hid rfl
  by_cases hc : checkB t = 0
  · have HP : Hid (printB t = writeB t) := Lib.hid (by rw [HPZ.out, if_pos hc])
    have HC := Lib.hid hc
    rw [hc]
    clear hc
    go_wp2_with fail
    refine (rwrite_any t _ w2 hw (HND.out w2 HB2.out)).mono ?_
    rintro e w3 ⟨rfl, hb3⟩
    have HB3 := Lib.hid (belowNext HB2.out hb3)
    clear hb3 y0 y1 y2 y3 y4
    have HS : Hid (tB (writeB t) = tB (printB t)) := Lib.hid (by rw [HP.out])
    generalize tB (writeB t) = sp at *
    go_wp2
    refine bodyPost_ret (v := .tuple #[.string sp, .int .i64 0]) (by simp [results, Tryd.results25, go_sem]) rfl ?_
    exact ⟨by rw [HC.out, ← HS.out], HB.out.trans (HB3.out.mono HB.out.size)⟩
  · have HP : Hid (tB (printB t) = ⟨#[]⟩) := Lib.hid (by rw [HPZ.out, if_neg hc]; rfl)
    generalize hr : checkB t = r at *
    have HR := Lib.hid hr
    clear hr
    have hcb : (r != 0) = true := by simpa using hc
    go_wp2
    refine bodyPost_ret (v := .tuple #[.string ⟨#[]⟩, .int .i64 r]) (by simp [results, Tryd.results25, go_sem]) rfl ?_
    exact ⟨by rw [HP.out, HR.out], HB.out.trans (HB2.out.mono HB.out.size)⟩

set_option maxHeartbeats 2000000 in
theorem rprintAll_any (A : Option Addr) (c : Nat) (l : List Tree) (w : World) (h : Kids w (Under w.heap.size) (.slice A l.length c) l) (hw : weighAll l ≤ 1060000) :
    Calls Tryd.prog 27 #[.slice A l.length c] w fun e w' => e = .returned (.tuple #[.string (tB (printAllB l)), .int .i64 (checkB (around l))]) ∧ Below w.heap.size w w' := by
  have HK := Lib.hid h
  clear h
  have hwa : weigh (around l) ≤ 1100000 := by unfold around; simp only [weigh, weighL, weighP, List.map_nil, List.sum_nil]; rw [show (⟨#[120]⟩ : ByteArray).size = 1 from rfl, show (⟨#[]⟩ : ByteArray).size = 0 from rfl]; omega
  have HWA := Lib.hid hwa
  clear hwa
  go_enter Tryd.func27, Tryd.ntmps27
  go_wp2_with fail
  refine (rcheck_any (around l) _ w HWA.out ⟨_, _, _, rfl, strs_none, pairs_none, HK.out⟩).mono ?_
  rintro e w2 ⟨rfl, hb2⟩
  have HB2 := Lib.hid hb2
  clear hb2
  have HPZ : Hid (printAllB l = if checkB (around l) = 0 then writeAllB l else []) := Lib.hid rfl
  by_cases hc : checkB (around l) = 0
  · have HP : Hid (printAllB l = writeAllB l) := Lib.hid (by rw [HPZ.out, if_pos hc])
    have HC := Lib.hid hc
    rw [hc]
    clear hc
    go_wp2_with fail
    refine (rwriteAll_of l (fun x _ => rwrite_any x) A c w2 (by omega) ((HK.out.below HB2.out).more HB2.out.size)).mono ?_
    rintro e w3 ⟨rfl, hb3⟩
    have HB3 := Lib.hid (belowNext HB2.out hb3)
    clear hb3
    have HS : Hid (tB (writeAllB l) = tB (printAllB l)) := Lib.hid (by rw [HP.out])
    generalize tB (writeAllB l) = sp at *
    go_wp2
    refine bodyPost_ret (v := .tuple #[.string sp, .int .i64 0]) (by simp [results, Tryd.results27, go_sem]) rfl ?_
    exact ⟨by rw [HC.out, ← HS.out], HB3.out⟩
  · have HP : Hid (tB (printAllB l) = ⟨#[]⟩) := Lib.hid (by rw [HPZ.out, if_neg hc]; rfl)
    generalize hr : checkB (around l) = r at *
    have HR := Lib.hid hr
    clear hr
    have hcb : (r != 0) = true := by simpa using hc
    go_wp2
    refine bodyPost_ret (v := .tuple #[.string ⟨#[]⟩, .int .i64 r]) (by simp [results, Tryd.results27, go_sem]) rfl ?_
    exact ⟨by rw [HP.out, HR.out], HB2.out⟩

set_option maxHeartbeats 8000000 in
set_option maxRecDepth 100000 in
theorem codecPrints_walk (v : Value) (t : Tree) (s : ByteArray) (w : World) (h : Node w (Under w.heap.size) v t) (hw : weigh t ≤ 1060000) (hs : s.size ≤ 1100000) (hT : Tabs w) :
    Calls Tryd.prog 4 #[v, .string s] w fun e w' => e = .returned (.bool true) ∧ Below w.heap.size w w' := by
  have HN := Lib.hid h
  have HT := Lib.hid hT
  obtain ⟨A1, c1, A2, c2, A3, c3, rfl⟩ := h.forms1
  have hkw := kids_weigh t
  clear h hT
  generalize hW1 : w.alloc (.cells #[.string t.kind, .string t.text, .slice A1 t.marks.length c1, .slice A2 t.attrs.length c2, .slice A3 t.kids.length c3] 26) = W1
  have HB : Hid (Below w.heap.size w W1) := Lib.hid (by subst hW1; exact (Below.refl _ _).alloc (Nat.le_refl _) _)
  have HBL : Hid (W1.heap[w.heap.size]? = some (.cells #[.string t.kind, .string t.text, .slice A1 t.marks.length c1, .slice A2 t.attrs.length c2, .slice A3 t.kids.length c3] 26)) := Lib.hid (by
    subst hW1; show (w.heap.push _)[w.heap.size]? = _; simp)
  have HND : Hid (∀ W, Below W1.heap.size W1 W → Node W (Under W.heap.size) (.agg #[.string t.kind, .string t.text, .slice A1 t.marks.length c1, .slice A2 t.attrs.length c2, .slice A3 t.kids.length c3]) t) := Lib.hid fun W hW => node_late HN.out W (HB.out.trans (hW.mono HB.out.size))
  have HTB : Hid (∀ W, Below W1.heap.size W1 W → Tabs W) := Lib.hid fun W hW => HT.out.below (HB.out.trans (hW.mono HB.out.size))
  have HW1 := Lib.hid hW1
  clear hW1
  go_enter Tryd.func4, Tryd.ntmps4
  go_upto_region 1 with fail
  rw [HW1.out]
  go_wp2_with fail
  refine (shown2_any W1 (HTB.out W1 (Below.refl _ _))).mono ?_
  rintro e w2 ⟨rfl, hb2⟩
  have HB2 := Lib.hid hb2
  obtain ⟨y0, y1, y2, y3, y4⟩ := five_of (block_kept HBL.out hb2)
  clear hb2
  go_wp2_with fail
  refine (light2_any t _ 2000 w2 (by omega) (by omega) (by omega) (HND.out w2 HB2.out)).mono ?_
  rintro e w3 ⟨⟨r, rfl, hr1, hr2⟩, hb3⟩
  have HB3 := Lib.hid (belowNext HB2.out hb3)
  clear hb3 y0 y1 y2 y3 y4
  by_cases hr : r < 0
  · go_wp2
    go_ret
    exact ⟨rfl, HB.out.trans (HB3.out.mono HB.out.size)⟩
  by_cases h5 : 500 < s.size
  · have h5' : (500 : Int) < (s.size : Int) := by omega
    go_wp2
    go_ret
    exact ⟨rfl, HB.out.trans (HB3.out.mono HB.out.size)⟩
  have h5' : ¬ (500 : Int) < (s.size : Int) := by omega
  clear hr1 hr2
  obtain ⟨y0, y1, y2, y3, y4⟩ := five_of (block_kept HBL.out HB3.out)
  go_wp2_with fail
  refine (print_any _ t w3 (HND.out w3 HB3.out) (by omega) (HTB.out w3 HB3.out)).mono ?_
  rintro e w4 ⟨rfl, hb4⟩
  have HB4 := Lib.hid (belowNext HB3.out hb4)
  clear hb4 y0 y1 y2 y3 y4
  obtain ⟨y0, y1, y2, y3, y4⟩ := five_of (block_kept HBL.out HB4.out)
  go_wp2_with fail
  refine (rprint_any t _ w4 (by omega) (HND.out w4 HB4.out)).mono ?_
  rintro e w5 ⟨rfl, hb5⟩
  have HB5 := Lib.hid (belowNext HB4.out hb5)
  clear hb5 y0 y1 y2 y3 y4
  obtain ⟨y0, y1, y2, y3, y4⟩ := five_of (block_kept HBL.out HB5.out)
  have HK : Hid (∀ W, Below W1.heap.size W1 W → Kids W (Under W.heap.size) (.slice A3 t.kids.length c3) t.kids) := Lib.hid fun W hW => (HND.out W hW).kids1.2.2
  go_wp2_with fail
  refine (printAll_any A3 c3 t.kids w5 (HK.out w5 HB5.out) (by omega) (HTB.out w5 HB5.out)).mono ?_
  rintro e w6 ⟨rfl, hb6⟩
  have HB6 := Lib.hid (belowNext HB5.out hb6)
  clear hb6 y0 y1 y2 y3 y4
  obtain ⟨y0, y1, y2, y3, y4⟩ := five_of (block_kept HBL.out HB6.out)
  go_wp2_with fail
  refine (rprintAll_any A3 c3 t.kids w6 (HK.out w6 HB6.out) (by omega)).mono ?_
  rintro e w7 ⟨rfl, hb7⟩
  have HB7 := Lib.hid (belowNext HB6.out hb7)
  clear hb7 y0 y1 y2 y3 y4
  obtain ⟨y0, y1, y2, y3, y4⟩ := five_of (block_kept HBL.out HB7.out)
  have k0 := cell_regrown y0
  have k1 := cell_regrown y1
  have k2 := cell_regrown y2
  have k3 := cell_regrown y3
  have k4 := cell_regrown y4
  have Q1 := Lib.hid (regrown_any (w := w7) fun W _ => quote_any s W (by omega))
  have Q2 := Lib.hid (regrown_any (w := w7) fun W _ => rquote_val s W (by omega))
  have Q3 := Lib.hid (regrown_any (w := w7) fun W hW => head_any _ t W (HND.out W (belowNext HB7.out hW)) (by omega))
  have Q4 := Lib.hid (regrown_any (w := w7) fun W hW => rhead_val _ t W (HND.out W (belowNext HB7.out hW)) (by omega))
  unfold tB at *
  generalize (⟨(quoteL s.data.toList).toArray⟩ : ByteArray) = b1 at *
  generalize (⟨(headW t).toArray⟩ : ByteArray) = b2 at *
  generalize (⟨(printB t).toArray⟩ : ByteArray) = b3 at *
  generalize (⟨(printAllB t.kids).toArray⟩ : ByteArray) = b4 at *
  generalize checkB t = b5 at *
  generalize checkB (around t.kids) = b6 at *
  clear y0 y1 y2 y3 y4 hkw hw hs
  first
  | go_upto_region 8 with fail
  | skip
  refine wp_region_quiet_below (by kernel_rfl) (by kernel_rfl) ?_
  repeat (first | go_big_quiet_step (first | exact Q1.out _ _ | exact Q2.out _ _ | exact Q3.out _ _ | exact Q4.out _ _) | quiet_step (first | exact Q1.out _ _ | exact Q2.out _ _ | exact Q3.out _ _ | exact Q4.out _ _))
  refine wpQuiet_nil ?_
  intro _ hw'
  obtain ⟨⟨dq, osq⟩, hw''⟩ := hw'
  subst hw''
  have HBN := Lib.hid (belowNext HB7.out (below_regrown w7 dq osq))
  clear k0 k1 k2 k3 k4
  generalize grow (redrawn w7 dq) osq = wn at *
  go_wp2
  go_ret
  exact ⟨rfl, HB.out.trans (HBN.out.mono HB.out.size)⟩
end Go.Proofs.YtdbpnfabcmndjaaDoor
