/-
  The document's Check, and Words as one text: what they answer; NodeChecks walked.
-/
import Derived.Test.YtdbpnfabcmndjaaDoorNg
import Derived.Test.YtdbpnfabcmndjaaDoorNd
import Derived.Test.YtdbpnfabcmndjaaDoorNc
import Derived.Test.YtdbpnfabcmndjaaDoorW11
namespace Go.Proofs.YtdbpnfabcmndjaaDoor
open Go.RowKit Go.Sort Go.Maps

theorem node_late {w : World} {k t : ByteArray} {vm va vk : Value} {u : Tree} (h : Node w (Under w.heap.size) (.agg #[.string k, .string t, vm, va, vk]) u) : ∀ W, Below w.heap.size w W → Node W (Under W.heap.size) (.agg #[.string k, .string t, vm, va, vk]) u := fun _ hW => (h.below hW).more hW.size

set_option maxHeartbeats 2000000 in
theorem rcheck_any (t : Tree) (v : Value) (w : World) (hw : weigh t ≤ 1100000) (h : Node w (Under w.heap.size) v t) :
    Calls Tryd.prog 12 #[v] w fun e w' => e = .returned (.int .i64 (checkB t)) ∧ Below w.heap.size w w' := by
  have HN := Lib.hid h
  obtain ⟨A1, c1, A2, c2, A3, c3, rfl⟩ := h.forms1
  clear h
  generalize hW1 : w.alloc (.cells #[.string t.kind, .string t.text, .slice A1 t.marks.length c1, .slice A2 t.attrs.length c2, .slice A3 t.kids.length c3] 26) = W1
  have HB : Hid (Below w.heap.size w W1) := Lib.hid (by subst hW1; exact (Below.refl _ _).alloc (Nat.le_refl _) _)
  have HBL : Hid (W1.heap[w.heap.size]? = some (.cells #[.string t.kind, .string t.text, .slice A1 t.marks.length c1, .slice A2 t.attrs.length c2, .slice A3 t.kids.length c3] 26)) := Lib.hid (by
    subst hW1; show (w.heap.push _)[w.heap.size]? = _; simp)
  obtain ⟨x0, x1, x2, x3, x4⟩ := five_of HBL.out
  have HND : Hid (∀ W, Below W1.heap.size W1 W → Node W (Under W.heap.size) (.agg #[.string t.kind, .string t.text, .slice A1 t.marks.length c1, .slice A2 t.attrs.length c2, .slice A3 t.kids.length c3]) t) := Lib.hid fun W hW => node_late HN.out W (HB.out.trans (hW.mono HB.out.size))
  have HW1 := Lib.hid hW1
  have hds := depth_le_weigh t
  have hss := size_le_weigh t
  clear hW1
  go_enter Tryd.func12, Tryd.ntmps12
  go_upto_region 1 with fail
  rw [HW1.out]
  go_wp2_with fail
  refine (rformed_all t _ W1 hw (HND.out W1 (Below.refl _ _))).mono ?_
  rintro e w2 ⟨rfl, hb2⟩
  have HB2 := Lib.hid hb2
  obtain ⟨y0, y1, y2, y3, y4⟩ := five_of (block_kept HBL.out hb2)
  clear hb2 x0 x1 x2 x3 x4
  cases hf : formedB t with
  | false =>
    have HC : Hid (checkB t = 2) := Lib.hid (by unfold checkB; rw [hf]; rfl)
    clear hf
    go_wp2
    go_ret
    exact ⟨by rw [HC.out]; rfl, HB.out.trans (HB2.out.mono HB.out.size)⟩
  | true =>
    have HC : Hid (checkB t = if 40 < depthB t then 4 else if 4000 < sizeB t then 5 else 0) := Lib.hid (by unfold checkB; rw [hf]; rfl)
    clear hf
    go_wp2_with fail
    refine (rdepth_any t _ w2 hw (HND.out w2 HB2.out)).mono ?_
    rintro e w3 ⟨rfl, hb3⟩
    have HB3 := Lib.hid (belowNext HB2.out hb3)
    obtain ⟨z0, z1, z2, z3, z4⟩ := five_of (block_kept HBL.out HB3.out)
    clear hb3 y0 y1 y2 y3 y4
    generalize depthB t = d at *
    by_cases h4 : 40 < d
    · have HC4 : Hid (checkB t = 4) := Lib.hid (by rw [HC.out, if_pos h4])
      have h4' : (40 : Int) < (d : Int) := by omega
      go_wp2
      go_ret
      exact ⟨by rw [HC4.out]; rfl, HB.out.trans (HB3.out.mono HB.out.size)⟩
    · have h4' : ¬ (40 : Int) < (d : Int) := by omega
      have HC4 : Hid (checkB t = if 4000 < sizeB t then 5 else 0) := Lib.hid (by rw [HC.out, if_neg h4])
      go_wp2_with fail
      refine (rsize_any _ t w3 (HND.out w3 HB3.out) hw).mono ?_
      rintro e w4 ⟨rfl, hb4⟩
      have HB4 := Lib.hid (belowNext HB3.out hb4)
      clear hb4 z0 z1 z2 z3 z4
      generalize sizeB t = s at *
      by_cases h5 : 4000 < s
      · have HC5 : Hid (checkB t = 5) := Lib.hid (by rw [HC4.out, if_pos h5])
        have h5' : (4000 : Int) < (s : Int) := by omega
        go_wp2
        go_ret
        exact ⟨by rw [HC5.out]; rfl, HB.out.trans (HB4.out.mono HB.out.size)⟩
      · have HC5 : Hid (checkB t = 0) := Lib.hid (by rw [HC4.out, if_neg h5])
        have h5' : ¬ (4000 : Int) < (s : Int) := by omega
        go_wp2
        go_ret
        exact ⟨by rw [HC5.out]; rfl, HB.out.trans (HB4.out.mono HB.out.size)⟩

theorem rwords_is (t : Tree) (v : Value) (w : World) (hw : weigh t ≤ 1100000) (h : Node w (Under w.heap.size) v t) :
    Calls Tryd.prog 19 #[v] w fun e w' => e = .returned (.string ⟨(wordsB t).toArray⟩) ∧ Below w.heap.size w w' :=
  (rwords_any t v w hw h).mono fun e w' h => by
    obtain ⟨⟨s, rfl, hs⟩, hb⟩ := h
    exact ⟨by rw [← hs], hb⟩

set_option maxHeartbeats 8000000 in
set_option maxRecDepth 100000 in
theorem nodeChecks_walk (v : Value) (t : Tree) (s : ByteArray) (w : World) (h : Node w (Under w.heap.size) v t) (hw : weigh t ≤ 1100000) (hs : s.size ≤ 1100000) (hT : Tabs w) :
    Calls Tryd.prog 3 #[v, .string s] w fun e w' => e = .returned (.bool true) ∧ Below w.heap.size w w' := by
  have HN := Lib.hid h
  have HT := Lib.hid hT
  obtain ⟨A1, c1, A2, c2, A3, c3, rfl⟩ := h.forms1
  have hkw := kids_weigh t
  clear h hT
  generalize hW1 : w.alloc (.cells #[.string t.kind, .string t.text, .slice A1 t.marks.length c1, .slice A2 t.attrs.length c2, .slice A3 t.kids.length c3] 26) = W1
  have HB : Hid (Below w.heap.size w W1) := Lib.hid (by subst hW1; exact (Below.refl _ _).alloc (Nat.le_refl _) _)
  have HBL : Hid (W1.heap[w.heap.size]? = some (.cells #[.string t.kind, .string t.text, .slice A1 t.marks.length c1, .slice A2 t.attrs.length c2, .slice A3 t.kids.length c3] 26)) := Lib.hid (by
    subst hW1; show (w.heap.push _)[w.heap.size]? = _; simp)
  have HND : Hid (∀ W, Below W1.heap.size W1 W → Node W (Under W.heap.size) (.agg #[.string t.kind, .string t.text, .slice A1 t.marks.length c1, .slice A2 t.attrs.length c2, .slice A3 t.kids.length c3]) t) := Lib.hid fun W hW => node_late HN.out W (HB.out.trans (hW.mono HB.out.size))
  have HTB : Hid (∀ W, Below W1.heap.size W1 W → Tabs W) := Lib.hid fun W hW => HT.out.below (HB.out.trans (hW.mono HB.out.size))
  have HW1 := Lib.hid hW1
  clear hW1
  go_enter Tryd.func3, Tryd.ntmps3
  go_upto_region 1 with fail
  rw [HW1.out]
  go_wp2_with fail
  refine (shown_any W1 (HTB.out W1 (Below.refl _ _))).mono ?_
  rintro e w2 ⟨rfl, hb2⟩
  have HB2 := Lib.hid hb2
  obtain ⟨y0, y1, y2, y3, y4⟩ := five_of (block_kept HBL.out hb2)
  clear hb2
  go_wp2_with fail
  refine (light_any t _ 2000 w2 hw (by omega) (by omega) (HND.out w2 HB2.out)).mono ?_
  rintro e w3 ⟨⟨r, rfl, hr1, hr2⟩, hb3⟩
  have HB3 := Lib.hid (belowNext HB2.out hb3)
  clear hb3 y0 y1 y2 y3 y4
  by_cases hr : r < 0
  · go_wp2
    go_ret
    exact ⟨rfl, HB.out.trans (HB3.out.mono HB.out.size)⟩
  · by_cases h5 : 500 < s.size
    · have h5' : (500 : Int) < (s.size : Int) := by omega
      go_wp2
      go_ret
      exact ⟨rfl, HB.out.trans (HB3.out.mono HB.out.size)⟩
    · have h5' : ¬ (500 : Int) < (s.size : Int) := by omega
      clear hr1 hr2
      go_wp2_with fail
      obtain ⟨y0, y1, y2, y3, y4⟩ := five_of (block_kept HBL.out HB3.out)
      have k0 := cell_regrown y0
      have k1 := cell_regrown y1
      have k2 := cell_regrown y2
      have k3 := cell_regrown y3
      have k4 := cell_regrown y4
      have HK3 : Hid (∀ W, Below w3.heap.size w3 W → Kids W (Under W.heap.size) (.slice A3 t.kids.length c3) t.kids) := Lib.hid fun W hW => (HND.out W (belowNext HB3.out hW)).kids1.2.2
      have Q1 := Lib.hid (regrown_same (w := w3) fun W => (name_any s W (by unfold maxLen; omega)).mono fun e w' h => ⟨h.1, h.2.symm⟩)
      have Q2 := Lib.hid (regrown_same (w := w3) fun W => rname_any s W (by unfold maxLen; omega))
      have Q3 := Lib.hid (regrown_any (w := w3) fun W hW => value_any s W hs (HTB.out W (belowNext HB3.out hW)))
      have Q4 := Lib.hid (regrown_any (w := w3) fun W _ => rvalue_any s W hs)
      have Q5 := Lib.hid (regrown_any (w := w3) fun W hW => check_any _ t W (HND.out W (belowNext HB3.out hW)) hw (HTB.out W (belowNext HB3.out hW)))
      have Q6 := Lib.hid (regrown_any (w := w3) fun W hW => rcheck_any t _ W hw (HND.out W (belowNext HB3.out hW)))
      have Q7 := Lib.hid (regrown_any (w := w3) fun W hW => right_any _ t W (HND.out W (belowNext HB3.out hW)) hw (HTB.out W (belowNext HB3.out hW)))
      have Q8 := Lib.hid (regrown_any (w := w3) fun W hW => size_any _ t W (HND.out W (belowNext HB3.out hW)) hw)
      have Q9 := Lib.hid (regrown_any (w := w3) fun W hW => rsize_any _ t W (HND.out W (belowNext HB3.out hW)) hw)
      have Q10 := Lib.hid (regrown_any (w := w3) fun W hW => depth_any _ t W (HND.out W (belowNext HB3.out hW)) hw)
      have Q11 := Lib.hid (regrown_any (w := w3) fun W hW => rdepth_any t _ W hw (HND.out W (belowNext HB3.out hW)))
      have Q12 := Lib.hid (regrown_any (w := w3) fun W hW => words_any _ t W (HND.out W (belowNext HB3.out hW)) hw)
      have Q13 := Lib.hid (regrown_any (w := w3) fun W hW => rwords_is t _ W hw (HND.out W (belowNext HB3.out hW)))
      have Q14 := Lib.hid (regrown_any (w := w3) fun W hW => total_any _ t.kids W (HK3.out W hW) (by omega))
      have Q15 := Lib.hid (regrown_any (w := w3) fun W hW => rtotal_any _ t.kids W (HK3.out W hW) (by omega))
      generalize nameB s = b1 at *
      generalize valueB s = b2 at *
      generalize checkB t = b3 at *
      generalize sizeB t = b4 at *
      generalize depthB t = b5 at *
      generalize (⟨(wordsB t).toArray⟩ : ByteArray) = b6 at *
      generalize totalB t.kids = b7 at *
      clear y0 y1 y2 y3 y4 hkw hw hs
      refine wp_region_quiet_below (by kernel_rfl) (by kernel_rfl) ?_
      repeat (first | go_big_quiet_step (first | exact Q1.out _ _ | exact Q2.out _ _ | exact Q3.out _ _ | exact Q4.out _ _ | exact Q5.out _ _ | exact Q6.out _ _ | exact Q7.out _ _ | exact Q8.out _ _ | exact Q9.out _ _ | exact Q10.out _ _ | exact Q11.out _ _ | exact Q12.out _ _ | exact Q13.out _ _ | exact Q14.out _ _ | exact Q15.out _ _) | quiet_step (first | exact Q1.out _ _ | exact Q2.out _ _ | exact Q3.out _ _ | exact Q4.out _ _ | exact Q5.out _ _ | exact Q6.out _ _ | exact Q7.out _ _ | exact Q8.out _ _ | exact Q9.out _ _ | exact Q10.out _ _ | exact Q11.out _ _ | exact Q12.out _ _ | exact Q13.out _ _ | exact Q14.out _ _ | exact Q15.out _ _))
      refine wpQuiet_nil ?_
      intro _ hw'
      obtain ⟨⟨dq, osq⟩, hw''⟩ := hw'
      subst hw''
      have HBN := Lib.hid (belowNext HB3.out (below_regrown w3 dq osq))
      clear k0 k1 k2 k3 k4
      generalize grow (redrawn w3 dq) osq = wn at *
      go_wp2
      go_ret
      exact ⟨rfl, HB.out.trans (HBN.out.mono HB.out.size)⟩
end Go.Proofs.YtdbpnfabcmndjaaDoor
