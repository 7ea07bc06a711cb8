/-
  What node.runLength answers.
-/
import Derived.Test.YtamoklceekeheaaDoorW8
import Derived.Lib.QuietBelow
namespace Go.Proofs.YtamoklceekeheaaDoor
open Go.RowKit Go.Sort

/-- How many nodes at the beginning are to be one. -/
def runB : List Tree → Nat
  | [] => 1
  | [_] => 1
  | x :: y :: l => if alikeB x y then runB (y :: l) + 1 else 1
theorem runB_step {l : List Tree} {k : Nat} {x y : Tree} (hx : l[k]? = some x) (hy : l[k + 1]? = some y) : runB (l.drop k) = if alikeB x y then runB (l.drop (k + 1)) + 1 else 1 := by
  have h1 := (List.getElem?_eq_some_iff.1 hx).1
  have h2 := (List.getElem?_eq_some_iff.1 hy).1
  have e1 := (List.getElem?_eq_some_iff.1 hx).2
  have e2 := (List.getElem?_eq_some_iff.1 hy).2
  rw [List.drop_eq_getElem_cons h1, List.drop_eq_getElem_cons h2, e1, e2, runB]
theorem runB_last {l : List Tree} {k : Nat} (h : k + 1 = l.length) : runB (l.drop k) = 1 := by
  rw [List.drop_eq_getElem_cons (by omega), List.drop_eq_nil_of_le (by omega)]; rfl
theorem runB_pos : ∀ l : List Tree, 1 ≤ runB l
  | [] => by simp [runB]
  | [_] => by simp [runB]
  | x :: y :: l => by rw [runB]; split <;> omega
theorem runB_le : ∀ l : List Tree, l ≠ [] → runB l ≤ l.length
  | [], h => absurd rfl h
  | [_], _ => by simp [runB]
  | x :: y :: l, _ => by
    have := runB_le (y :: l) (by simp)
    rw [runB]; split <;> simp at this ⊢ <;> omega

set_option maxHeartbeats 2000000 in
theorem runLength_any (v : Value) (l : List Tree) (w : World) (h : Kids w (Under w.heap.size) v l) (h0 : l ≠ []) (hw : weighAll l ≤ 1000000) :
    Calls Tryd.prog 49 #[v] w fun e w' => e = .returned (.int .i64 (runB l)) ∧ Below w.heap.size w w' := by
  have hlen : l.length ≤ 1000000 := by have := length_le_weigh l; omega
  have hpos : 0 < l.length := List.length_pos_iff.2 h0
  have HL := Lib.hid h
  obtain ⟨A, c, rfl, _⟩ := h.form
  clear h
  go_enter Tryd.func49, Tryd.ntmps49
  go_wp2
  go_loopw [3] (fun i wr => ∃ k : Nat, k < l.length ∧ i = .int .i64 ((k : Int) + 1) ∧ Hid (runB l = k + runB (l.drop k)) ∧ Below w.heap.size w wr) (fun i _ => l.length + 1 - (intOf i).toNat)
  case atStart => exact ⟨0, hpos, rfl, Lib.hid (by simp), Below.refl _ _⟩
  case round =>
    obtain ⟨k, hk, rfl, hrun, hbr⟩ := hrel
    by_cases hlt : k + 1 < l.length
    · obtain ⟨b, o, rfl, hub, hrow⟩ := HL.out.get hk
      have hlx : l[k]? = some l[k] := List.getElem?_eq_getElem hk
      have hly : l[k + 1]? = some l[k + 1] := List.getElem?_eq_getElem hlt
      generalize hx : l[k] = x at *
      generalize hy : l[k + 1] = y at *
      have HST := Lib.hid (runB_step hlx hly)
      have hwx := weigh_mem (List.mem_of_getElem? hlx)
      obtain ⟨xm, xa, xk, e0, e1, e2, e3, e4, exm, exa, exk⟩ := hrow.node hlx
      obtain ⟨ym, ya, yk, d0, d1, d2, d3, d4, dxm, dxa, dxk⟩ := hrow.node hly
      have HXN : Hid (Node wr (Under wr.heap.size) (.agg #[.string x.kind, .string x.text, xm, xa, xk]) x) := Lib.hid ((Node.below (B := w.heap.size) ⟨_, _, _, rfl, exm, exa, exk⟩ hbr).more hbr.size)
      have HYN : Hid (Node wr (Under wr.heap.size) (.agg #[.string y.kind, .string y.text, ym, ya, yk]) y) := Lib.hid ((Node.below (B := w.heap.size) ⟨_, _, _, rfl, dxm, dxa, dxk⟩ hbr).more hbr.size)
      obtain ⟨A1, c1, rfl, _⟩ := exm.form
      obtain ⟨A2, c2, rfl, _⟩ := exa.form
      obtain ⟨A3, c3, rfl, _⟩ := exk.form
      obtain ⟨A4, c4, rfl, _⟩ := dxm.form
      obtain ⟨A5, c5, rfl, _⟩ := dxa.form
      obtain ⟨A6, c6, rfl, _⟩ := dxk.form
      have k0 := cell_regrown (cell_kept e0 hbr)
      have k1 := cell_regrown (cell_kept e1 hbr)
      have k2 := cell_regrown (cell_kept e2 hbr)
      have k3 := cell_regrown (cell_kept e3 hbr)
      have k4 := cell_regrown (cell_kept e4 hbr)
      have m0 := cell_regrown (cell_kept d0 hbr)
      have m1 := cell_regrown (cell_kept d1 hbr)
      have m2 := cell_regrown (cell_kept d2 hbr)
      have m3 := cell_regrown (cell_kept d3 hbr)
      have m4 := cell_regrown (cell_kept d4 hbr)
      have g1 : ((k : Int) + 1 - 1).toNat = k := by omega
      have g2 : ((k : Int) + 1).toNat = k + 1 := by omega
      have g3 : decide ((k : Int) + 1 < (l.length : Int)) = true := by simp; omega
      clear e0 e1 e2 e3 e4 d0 d1 d2 d3 d4 exm exa exk dxm dxa dxk hx hy hlx hly hrow
      cases hal : alikeB x y with
      | true =>
        rw [hal] at HST
        have HAL := Lib.hid (regrown_any (w := wr) fun W hW => walk_res (alike_any _ _ x y W ((HXN.out.below hW).more hW.size) ((HYN.out.below hW).more hW.size) (by omega)) hal)
        clear hal
        go_wp2_with fail
        refine wp_region_quiet_below (by kernel_rfl) (by kernel_rfl) ?_
        repeat (first | go_big_quiet_step (exact HAL.out _ _) | quiet_step (exact HAL.out _ _))
        refine wpQuiet_nil ?_
        intro _ hw'
        obtain ⟨⟨dq, osq⟩, hw''⟩ := hw'
        subst hw''
        have HQ := Lib.hid (below_regrown wr dq osq)
        go_wp2
        exact ⟨⟨k + 1, hlt, by go_num, Lib.hid (by rw [hrun.out, HST.out]; simp; omega), belowNext hbr HQ.out⟩, by simp [intOf]; omega⟩
      | false =>
        rw [hal] at HST
        have HAL := Lib.hid (regrown_any (w := wr) fun W hW => walk_res (alike_any _ _ x y W ((HXN.out.below hW).more hW.size) ((HYN.out.below hW).more hW.size) (by omega)) hal)
        clear hal
        go_wp2_with fail
        refine wp_region_quiet_below (by kernel_rfl) (by kernel_rfl) ?_
        repeat (first | go_big_quiet_step (exact HAL.out _ _) | quiet_step (exact HAL.out _ _))
        refine wpQuiet_nil ?_
        intro _ hw'
        obtain ⟨⟨dq, osq⟩, hw''⟩ := hw'
        subst hw''
        have HQ := Lib.hid (below_regrown wr dq osq)
        go_wp2
        go_ret
        exact ⟨ret_num (by rw [hrun.out, HST.out]; simp), belowNext hbr HQ.out⟩
    · have HR : Hid (runB (l.drop k) = 1) := Lib.hid (runB_last (by omega))
      have g3 : decide ((k : Int) + 1 < (l.length : Int)) = false := by simp; omega
      go_wp2_with fail
      refine wp_region_quiet_below (by kernel_rfl) (by kernel_rfl) ?_
      repeat (first | go_big_quiet_step (fail) | quiet_step (fail))
      refine wpQuiet_nil ?_
      intro _ hw'
      obtain ⟨⟨dq, osq⟩, hw''⟩ := hw'
      subst hw''
      have HQ := Lib.hid (below_regrown wr dq osq)
      go_wp2
      go_ret
      exact ⟨ret_num (by rw [hrun.out, HR.out]; omega), belowNext hbr HQ.out⟩
end Go.Proofs.YtamoklceekeheaaDoor
