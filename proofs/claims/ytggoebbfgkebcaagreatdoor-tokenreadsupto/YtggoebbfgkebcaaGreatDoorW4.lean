/-
  What alike and wellFormed answer.
-/
import Derived.Test.YtggoebbfgkebcaaGreatDoorW3
import Derived.Laws.EntriesVeiled
namespace Go.Proofs.YtggoebbfgkebcaaGreatDoor
open Go.RowKit Go.Sort

theorem box55 {w w1 : World} {v0 v1 v2 v3 v4 u0 u1 u2 u3 u4 : Value} {T : TypeId}
    (hb : Below ((w.alloc (.cells #[v0, v1, v2, v3, v4] T)).alloc (.cells #[u0, u1, u2, u3, u4] T)).heap.size ((w.alloc (.cells #[v0, v1, v2, v3, v4] T)).alloc (.cells #[u0, u1, u2, u3, u4] T)) w1) :
    w1.cell? ⟨w.heap.size, 0, none⟩ = some v0 ∧ w1.cell? ⟨w.heap.size, 1, none⟩ = some v1 ∧ w1.cell? ⟨w.heap.size, 2, none⟩ = some v2 ∧ w1.cell? ⟨w.heap.size, 3, none⟩ = some v3 ∧ w1.cell? ⟨w.heap.size, 4, none⟩ = some v4 ∧
    w1.cell? ⟨w.heap.size + 1, 0, none⟩ = some u0 ∧ w1.cell? ⟨w.heap.size + 1, 1, none⟩ = some u1 ∧ w1.cell? ⟨w.heap.size + 1, 2, none⟩ = some u2 ∧ w1.cell? ⟨w.heap.size + 1, 3, none⟩ = some u3 ∧
      w1.cell? ⟨w.heap.size + 1, 4, none⟩ = some u4 ∧ Below w.heap.size w w1 := by
  have hs : (w.alloc (.cells #[v0, v1, v2, v3, v4] T)).heap.size = w.heap.size + 1 := by simp
  obtain ⟨d0, d1, d2, d3, d4, hB, _⟩ := box5 hb
  rw [hs] at d0 d1 d2 d3 d4
  obtain ⟨c0, c1, c2, c3, c4, hB', _⟩ := box5 hB
  exact ⟨c0, c1, c2, c3, c4, d0, d1, d2, d3, d4, hB'⟩

set_option maxHeartbeats 1000000 in
theorem alike_any (va vb : Value) (a b : Tree) (w : World) (ha : Node w (Under w.heap.size) va a) (hb : Node w (Under w.heap.size) vb b) (hwa : weigh a ≤ 1000000) :
    Calls Tryz.prog 85 #[va, vb] w fun e w' => e = .returned (.bool (alikeB a b)) ∧ Below w.heap.size w w' := by
  obtain ⟨vm, vt, vk, rfl, hm, -, -⟩ := ha
  obtain ⟨um, ut, uk, rfl, hm', -, -⟩ := hb
  have hw2 : weighL a.marks ≤ 1000000 := by obtain ⟨k, t, m, a, l⟩ := a; simp only [weigh] at hwa; simp only [Tree.marks]; omega
  have HE : Hid (alikeB a b = (isTxt a.kind && (isTxt b.kind && sameL a.marks b.marks))) := Lib.hid rfl
  have HM := Lib.hid hm
  have HM' := Lib.hid hm'
  clear hm hm' hwa
  generalize alikeB a b = res at *
  generalize a.kind = ka at *
  generalize b.kind = kb at *
  generalize a.text = ta at *
  generalize b.text = tb at *
  go_enter Tryz.func85, Tryz.ntmps85
  go_wp2_with fail
  refine (isText_any _ _ _ _ _ _).mono ?_
  rintro e w1 ⟨rfl, hb1⟩
  obtain ⟨c0, c1, c2, c3, c4, d0, d1, d2, d3, d4, hB1⟩ := box55 hb1
  clear hb1
  generalize hv : isTxt ka = b1 at *
  clear hv
  cases b1 with
  | false =>
    go_wp2
    go_ret
    exact ⟨ret_bool HE.out.symm, hB1⟩
  | true =>
    go_wp2_with fail
    refine (isText_any _ _ _ _ _ _).mono ?_
    rintro e w2 ⟨rfl, hb2⟩
    have c2' := cell_kept c2 hb2
    have d2' := cell_kept d2 hb2
    have hB2 := belowNext hB1 hb2
    clear c0 c1 c2 c3 c4 d0 d1 d2 d3 d4 hb2 hB1
    generalize hv : isTxt kb = b2 at *
    clear hv
    cases b2 with
    | false =>
      go_wp2
      go_ret
      exact ⟨ret_bool HE.out.symm, hB2⟩
    | true =>
      go_wp2_with fail
      refine (equal_any _ _ a.marks b.marks _ _ _ (HM.out.below hB2) (HM'.out.below hB2) hw2).mono ?_
      rintro e w3 ⟨rfl, n, rfl⟩
      generalize hv : sameL a.marks b.marks = b3 at *
      clear hv
      cases b3
      all_goals
        go_wp2
        go_ret
        exact ⟨ret_bool HE.out.symm, hB2.trans ⟨rfl, rfl, rfl, Nat.le_refl _, fun _ _ => rfl⟩⟩

theorem RowAt.node {w : World} {S : Nat → Prop} {l : List Tree} {b o : Nat} (h : RowAt w S l b o) {i : Nat} {t : Tree} (hi : l[i]? = some t) :
    ∃ vm va vk, w.cell? ⟨b, o + i * 5, none⟩ = some (.string t.kind) ∧ w.cell? ⟨b, o + i * 5 + 1, none⟩ = some (.string t.text) ∧ w.cell? ⟨b, o + i * 5 + 2, none⟩ = some vm ∧
      w.cell? ⟨b, o + i * 5 + 3, none⟩ = some va ∧ w.cell? ⟨b, o + i * 5 + 4, none⟩ = some vk ∧ Strs w S vm t.marks ∧ Pairs w S va t.attrs ∧ Kids w S vk t.kids :=
  (nodeAt_iff t b (o + i * 5)).1 (rowAt_get l b o h i t hi)

theorem Kids.get {w : World} {S : Nat → Prop} {A : Option Addr} {n c : Nat} {l : List Tree} (h : Kids w S (.slice A n c) l) {k : Nat} (hk : k < l.length) :
    ∃ b o, A = some ⟨b, o, none⟩ ∧ S b ∧ RowAt w S l b o := by
  obtain ⟨A', c', hv, _, _, h⟩ := h
  injection hv with hA _ _
  subst hA
  rcases h with h | ⟨b, o, rfl, hb, h⟩
  · subst h; simp at hk
  · exact ⟨b, o, rfl, hb, h⟩

theorem Kids.form {w : World} {S : Nat → Prop} {v : Value} {l : List Tree} (h : Kids w S v l) : ∃ A c, v = .slice A l.length c ∧ l.length ≤ c := by
  obtain ⟨A, c, rfl, hc, _⟩ := h; exact ⟨A, c, rfl, hc⟩

/-- A closure that holds itself in the variable p. -/
def SelfAt (w : World) (f : FuncId) (p : Nat) : Prop := w.cell? ⟨p, 0, none⟩ = some (.func (.func f) #[] #[.pointer (some ⟨p, 0, none⟩)])

def WalkSaid (t : Tree) : Prop := ∀ (v : Value) (w : World) (p : Nat), Node w (Under w.heap.size) v t → weigh t ≤ 1000000 → Tabs w → SelfAt w 82 p →
    Calls Tryz.prog 82 #[v, .pointer (some ⟨p, 0, none⟩)] w fun e w' => e = .returned (.bool (formedB t)) ∧ Below w.heap.size w w'

theorem formedB_text {k t m a l} (h : isTxt k = true) : formedB (.mk k t m a l) = textB (.mk k t m a l) := by simp [formedB, h]
theorem formedB_node {k t m a l} (h : isTxt k = false) : formedB (.mk k t m a l) = (headB (.mk k t m a l) && rowB none l) := by simp [formedB, h]

theorem step_kid {l : List Tree} {k : Nat} (h : ∀ j, j < k → kidOk l j) (hk : kidOk l k) : ∀ j, j < k + 1 → kidOk l j := fun j hj => by
  by_cases e : j < k
  · exact h j e
  · obtain rfl : j = k := by omega
    exact hk
theorem walk_res {P : Program} {f : FuncId} {args : Array Value} {w : World} {x y : Bool} (h : Calls P f args w fun e w' => e = .returned (.bool x) ∧ Below w.heap.size w w') (hx : x = y) :
    Calls P f args w fun e w' => e = .returned (.bool y) ∧ Below w.heap.size w w' := by subst hx; exact h

set_option maxHeartbeats 2000000 in
theorem walk_any : ∀ t, WalkSaid t := by
  intro t
  induction t using Tree.induct_one with
  | h k t m a l ih =>
    have IH := Lib.hid ih
    clear ih
    intro v w p hN hw hT hp
    have hlen : l.length ≤ 1000000 := by have := length_le_weigh l; simp only [weigh] at hw; omega
    obtain ⟨vm, va, vk, rfl, hm, ha, hl⟩ := id hN
    have HN := Lib.hid hN
    have HT := Lib.hid hT
    have HL := Lib.hid hl
    have HP := Lib.hid hp
    clear hN hT hm ha hp
    obtain ⟨A, c, rfl, hlc⟩ := hl.form
    clear hl
    simp only [Tree.kind, Tree.text, Tree.kids] at *
    have hb0 : Below w.heap.size w (w.alloc (.cells #[.string k, .string t, vm, va, .slice A l.length c] 41)) := (Below.refl _ _).alloc (Nat.le_refl _) _
    cases hk : isTxt k with
    | true =>
      have HF := Lib.hid (formedB_text (t := t) (m := m) (a := a) (l := l) hk)
      go_enter Tryz.func82, Tryz.ntmps82
      go_wp2_with fail
      refine (isText_any _ _ _ _ _ _).mono ?_
      rintro e w1 ⟨rfl, hb1⟩
      obtain ⟨c0, c1, c2, c3, c4, hB1, hz1⟩ := box5 hb1
      rw [hk]
      clear hb1 hk hb0
      go_wp2_with fail
      refine (textFormed_any _ (.mk k t m a l) _ ((HN.out.below hB1).more (by omega)) hw (HT.out.below hB1)).mono ?_
      rintro e w2 ⟨rfl, hb2⟩
      generalize hv : textB (.mk k t m a l) = res at *
      clear hv
      go_wp2
      go_ret
      exact ⟨ret_bool HF.out.symm, belowNext hB1 hb2⟩
    | false =>
      have HF := Lib.hid (formedB_node (t := t) (m := m) (a := a) (l := l) hk)
      go_enter Tryz.func82, Tryz.ntmps82
      go_wp2_with fail
      refine (isText_any _ _ _ _ _ _).mono ?_
      rintro e w1 ⟨rfl, hb1⟩
      obtain ⟨c0, c1, c2, c3, c4, hB1, hz1⟩ := box5 hb1
      rw [hk]
      clear hb1 hk hb0
      go_wp2_with fail
      refine (headFormed_any _ (.mk k t m a l) _ ((HN.out.below hB1).more (by omega)) hw (HT.out.below hB1)).mono ?_
      rintro e w2 ⟨rfl, hb2⟩
      have hB2 := belowNext hB1 hb2
      have d4 := cell_kept c4 hb2
      have hz2 : w.heap.size < w2.heap.size := Nat.lt_of_lt_of_le hz1 hb2.size
      clear c0 c1 c2 c3 c4 hB1 hz1 hb2
      generalize hv : headB (.mk k t m a l) = res at *
      clear hv
      cases res with
      | false =>
        go_wp2
        go_ret
        exact ⟨ret_bool HF.out.symm, hB2⟩
      | true =>
        go_wp2
        go_loopw [16] (fun i wr => ∃ k : Nat, k ≤ l.length ∧ i = .int .i64 k ∧ Below w2.heap.size w2 wr ∧ Hid (∀ j, j < k → kidOk l j)) (fun i _ => l.length - (intOf i).toNat)
        case atStart => exact ⟨0, by omega, rfl, Below.refl _ _, fun j hj => absurd hj (by omega)⟩
        case round =>
          obtain ⟨i, hi, rfl, hbr, hall⟩ := hrel
          by_cases hlt : i < l.length
          · obtain ⟨b, o, rfl, hub, hrow⟩ := HL.out.get hlt
            have hBr := belowNext hB2 hbr
            have hlx : l[i]? = some l[i] := List.getElem?_eq_getElem hlt
            generalize hx : l[i] = x at *
            have HX := Lib.hid hlx
            have HIH := Lib.hid (IH.out x (List.mem_of_getElem? hlx))
            have hwx : weigh x ≤ 1000000 := by have := weigh_mem (List.mem_of_getElem? hlx); simp only [weigh] at hw; omega
            obtain ⟨xm, xa, xk, e0, e1, e2, e3, e4, exm, exa, exk⟩ := hrow.node hlx
            have f0 := cell_kept e0 hBr
            have f1 := cell_kept e1 hBr
            have f2 := cell_kept e2 hBr
            have f3 := cell_kept e3 hBr
            have f4 := cell_kept e4 hBr
            have HR := Lib.hid hrow
            have HXM := Lib.hid (And.intro exm (And.intro exa exk))
            obtain ⟨A1, c1, rfl, _⟩ := exm.form
            obtain ⟨A2, c2, rfl, _⟩ := exa.form
            obtain ⟨A3, c3, rfl, _⟩ := exk.form
            clear e0 e1 e2 e3 e4 exm exa exk hx hlx hrow
            have HBX := Lib.hid (box5 (w := wr) (Below.refl _ (wr.alloc (.cells #[.string x.kind, .string x.text, .slice A1 x.marks.length c1, .slice A2 x.attrs.length c2, .slice A3 x.kids.length c3] 41))))
            have HD4 := Lib.hid (cell_kept (cell_kept d4 hbr) (HBX.out.2.2.2.2.2.1))
            have hB3 : Below w.heap.size w (wr.alloc (.cells #[.string x.kind, .string x.text, .slice A1 x.marks.length c1, .slice A2 x.attrs.length c2, .slice A3 x.kids.length c3] 41)) := belowNext hBr HBX.out.2.2.2.2.2.1
            clear d4
            go_wp2
            generalize hW1 : wr.alloc (.cells #[.string x.kind, .string x.text, .slice A1 x.marks.length c1, .slice A2 x.attrs.length c2, .slice A3 x.kids.length c3] 41) = W1 at *
            obtain ⟨x0, x1, x2, x3, x4, hbw, hzw⟩ := HBX.out
            have hb23 : Below w2.heap.size w2 W1 := belowNext hbr hbw
            have k0 := cell_regrown x0
            have k1 := cell_regrown x1
            have k2 := cell_regrown x2
            have k3 := cell_regrown x3
            have k4 := cell_regrown x4
            have kd := cell_regrown HD4.out
            have hsf := cell_kept HP.out hB3
            have kp := cell_regrown hsf
            have HSF : Hid (SelfAt W1 82 p) := Lib.hid hsf
            have HNX : Hid (Node W1 (Under W1.heap.size) (.agg #[.string x.kind, .string x.text, .slice A1 x.marks.length c1, .slice A2 x.attrs.length c2, .slice A3 x.kids.length c3]) x) :=
              Lib.hid ((Node.more (B := w.heap.size) ⟨_, _, _, rfl, HXM.out.1.below hB3, HXM.out.2.1.below hB3, HXM.out.2.2.below hB3⟩ hB3.size))
            have HTW := Lib.hid (HT.out.below hB3)
            have HKF := Lib.hid (fun hb => rowB_false l none i x HX.out hb)
            clear hW1 HBX HD4 x0 x1 x2 x3 x4 hsf f0 f1 f2 f3 f4 hzw
            cases hfx : formedB x with
            | true =>
              have HWK := Lib.hid (regrown_any (w := W1) fun W hW => walk_res (HIH.out _ W p ((HNX.out.below hW).more hW.size) hwx (HTW.out.below hW) (cell_kept HSF.out hW)) hfx)
              have HFX := Lib.hid hfx
              clear hfx
              by_cases h0 : i = 0
              · have g0 : decide (0 < i) = false := by simp; omega
                have H0 := Lib.hid h0
                have HAL := HWK
                clear h0
                refine wp_region_quiet_below (by kernel_rfl) (by kernel_rfl) ?_
                repeat (first | go_big_quiet_step (first | exact HAL.out _ _ | exact HWK.out _ _) | quiet_step (first | exact HAL.out _ _ | exact HWK.out _ _))
                refine wpQuiet_nil ?_
                intro _ hw'
                obtain ⟨⟨dq, osq⟩, hw''⟩ := hw'
                subst hw''
                go_wp2
                exact ⟨⟨i + 1, by omega, by go_num, belowNext hb23 (below_regrown W1 dq osq), step_kid hall.out ⟨x, HX.out, HFX.out, fun y h _ => absurd H0.out (by omega)⟩⟩, by simp [intOf]; omega⟩
              · have g0 : decide (0 < i) = true := by simp; omega
                have g1 : ((i : Int) - 1).toNat = i - 1 := by omega
                have hly : l[i - 1]? = some (l[i - 1]'(by omega)) := List.getElem?_eq_getElem (by omega)
                generalize hy : l[i - 1]'(by omega) = y at *
                have hwy : weigh y ≤ 1000000 := by have := weigh_mem (List.mem_of_getElem? hly); simp only [weigh] at hw; omega
                obtain ⟨ym, ya, yk, e0, e1, e2, e3, e4, eym, eya, eyk⟩ := HR.out.node hly
                have HNY : Hid (Node W1 (Under W1.heap.size) (.agg #[.string y.kind, .string y.text, ym, ya, yk]) y) :=
                  Lib.hid ((Node.more (B := w.heap.size) ⟨_, _, _, rfl, eym.below hB3, eya.below hB3, eyk.below hB3⟩ hB3.size))
                have j0 := cell_regrown (cell_kept e0 hB3)
                have j1 := cell_regrown (cell_kept e1 hB3)
                have j2 := cell_regrown (cell_kept e2 hB3)
                have j3 := cell_regrown (cell_kept e3 hB3)
                have j4 := cell_regrown (cell_kept e4 hB3)
                have HY := Lib.hid hly
                clear e0 e1 e2 e3 e4 eym eya eyk hy hly
                cases hal : alikeB y x with
                | true =>
                  have HAL := Lib.hid (regrown_any (w := W1) fun W hW => walk_res (alike_any _ _ y x W ((HNY.out.below hW).more hW.size) ((HNX.out.below hW).more hW.size) hwy) hal)
                  have HAX := Lib.hid hal
                  clear hal
                  refine wp_region_quiet_below (by kernel_rfl) (by kernel_rfl) ?_
                  repeat (first | go_big_quiet_step (first | exact HAL.out _ _ | exact HWK.out _ _) | quiet_step (first | exact HAL.out _ _ | exact HWK.out _ _))
                  refine wpQuiet_nil ?_
                  intro _ hw'
                  obtain ⟨⟨dq, osq⟩, hw''⟩ := hw'
                  subst hw''
                  go_wp2
                  go_ret
                  exact ⟨ret_bool (by rw [HF.out, HKF.out (.inr ⟨y, by omega, HY.out, HAX.out⟩)]; rfl), belowNext hB3 (below_regrown W1 dq osq)⟩
                | false =>
                  have HAL := Lib.hid (regrown_any (w := W1) fun W hW => walk_res (alike_any _ _ y x W ((HNY.out.below hW).more hW.size) ((HNX.out.below hW).more hW.size) hwy) hal)
                  have HAX := Lib.hid hal
                  clear hal
                  refine wp_region_quiet_below (by kernel_rfl) (by kernel_rfl) ?_
                  repeat (first | go_big_quiet_step (first | exact HAL.out _ _ | exact HWK.out _ _) | quiet_step (first | exact HAL.out _ _ | exact HWK.out _ _))
                  refine wpQuiet_nil ?_
                  intro _ hw'
                  obtain ⟨⟨dq, osq⟩, hw''⟩ := hw'
                  subst hw''
                  go_wp2
                  exact ⟨⟨i + 1, by omega, by go_num, belowNext hb23 (below_regrown W1 dq osq), step_kid hall.out ⟨x, HX.out, HFX.out, fun z h hz => by
                    have : z = y := Option.some.inj (hz.symm.trans HY.out)
                    rw [this]; exact HAX.out⟩⟩, by simp [intOf]; omega⟩
            | false =>
              have HWK := Lib.hid (regrown_any (w := W1) fun W hW => walk_res (HIH.out _ W p ((HNX.out.below hW).more hW.size) hwx (HTW.out.below hW) (cell_kept HSF.out hW)) hfx)
              have HFX := Lib.hid hfx
              clear hfx
              by_cases h0 : i = 0
              · have g0 : decide (0 < i) = false := by simp; omega
                have HAL := HWK
                clear h0
                refine wp_region_quiet_below (by kernel_rfl) (by kernel_rfl) ?_
                repeat (first | go_big_quiet_step (first | exact HAL.out _ _ | exact HWK.out _ _) | quiet_step (first | exact HAL.out _ _ | exact HWK.out _ _))
                refine wpQuiet_nil ?_
                intro _ hw'
                obtain ⟨⟨dq, osq⟩, hw''⟩ := hw'
                subst hw''
                go_wp2
                go_ret
                exact ⟨ret_bool (by rw [HF.out, HKF.out (.inl HFX.out)]; rfl), belowNext hB3 (below_regrown W1 dq osq)⟩
              · have g0 : decide (0 < i) = true := by simp; omega
                have g1 : ((i : Int) - 1).toNat = i - 1 := by omega
                have hly : l[i - 1]? = some (l[i - 1]'(by omega)) := List.getElem?_eq_getElem (by omega)
                generalize hy : l[i - 1]'(by omega) = y at *
                have hwy : weigh y ≤ 1000000 := by have := weigh_mem (List.mem_of_getElem? hly); simp only [weigh] at hw; omega
                obtain ⟨ym, ya, yk, e0, e1, e2, e3, e4, eym, eya, eyk⟩ := HR.out.node hly
                have HNY : Hid (Node W1 (Under W1.heap.size) (.agg #[.string y.kind, .string y.text, ym, ya, yk]) y) :=
                  Lib.hid ((Node.more (B := w.heap.size) ⟨_, _, _, rfl, eym.below hB3, eya.below hB3, eyk.below hB3⟩ hB3.size))
                have j0 := cell_regrown (cell_kept e0 hB3)
                have j1 := cell_regrown (cell_kept e1 hB3)
                have j2 := cell_regrown (cell_kept e2 hB3)
                have j3 := cell_regrown (cell_kept e3 hB3)
                have j4 := cell_regrown (cell_kept e4 hB3)
                have HY := Lib.hid hly
                clear e0 e1 e2 e3 e4 eym eya eyk hy hly
                cases hal : alikeB y x with
                | true =>
                  have HAL := Lib.hid (regrown_any (w := W1) fun W hW => walk_res (alike_any _ _ y x W ((HNY.out.below hW).more hW.size) ((HNX.out.below hW).more hW.size) hwy) hal)
                  have HAX := Lib.hid hal
                  clear hal
                  refine wp_region_quiet_below (by kernel_rfl) (by kernel_rfl) ?_
                  repeat (first | go_big_quiet_step (first | exact HAL.out _ _ | exact HWK.out _ _) | quiet_step (first | exact HAL.out _ _ | exact HWK.out _ _))
                  refine wpQuiet_nil ?_
                  intro _ hw'
                  obtain ⟨⟨dq, osq⟩, hw''⟩ := hw'
                  subst hw''
                  go_wp2
                  go_ret
                  exact ⟨ret_bool (by rw [HF.out, HKF.out (.inr ⟨y, by omega, HY.out, HAX.out⟩)]; rfl), belowNext hB3 (below_regrown W1 dq osq)⟩
                | false =>
                  have HAL := Lib.hid (regrown_any (w := W1) fun W hW => walk_res (alike_any _ _ y x W ((HNY.out.below hW).more hW.size) ((HNX.out.below hW).more hW.size) hwy) hal)
                  have HAX := Lib.hid hal
                  clear hal
                  refine wp_region_quiet_below (by kernel_rfl) (by kernel_rfl) ?_
                  repeat (first | go_big_quiet_step (first | exact HAL.out _ _ | exact HWK.out _ _) | quiet_step (first | exact HAL.out _ _ | exact HWK.out _ _))
                  refine wpQuiet_nil ?_
                  intro _ hw'
                  obtain ⟨⟨dq, osq⟩, hw''⟩ := hw'
                  subst hw''
                  go_wp2
                  go_ret
                  exact ⟨ret_bool (by rw [HF.out, HKF.out (.inl HFX.out)]; rfl), belowNext hB3 (below_regrown W1 dq osq)⟩
          · go_wp2
            go_ret
            exact ⟨ret_bool (by rw [HF.out, rowB_true l none (fun y x h _ => by cases h) (fun j hj => hall.out j (by omega))]; rfl), belowNext hB2 hbr⟩
end Go.Proofs.YtggoebbfgkebcaaGreatDoor
