/-
  What the document's Same and SameAll answer: are they the same?
-/
import Derived.Test.YtaepolgmojkglaaDoorMH
import Derived.Test.YtaepolgmojkglaaDoorMA
namespace Go.Proofs.YtaepolgmojkglaaDoor
open Go.RowKit Go.Sort

/-- The answer: true just if both are the same. -/
def Says (p : Prop) (w : World) (e : Ending) (w' : World) : Prop := ∃ r : Bool, e = .returned (.bool r) ∧ (r = true ↔ p) ∧ Below w.heap.size w w'
theorem says_no {p : Prop} {w w' : World} (h : ¬ p) (hb : Below w.heap.size w w') : Says p w (.returned (.bool false)) w' := ⟨false, rfl, ⟨fun e => Bool.noConfusion e, fun hp => absurd hp h⟩, hb⟩
theorem tree_eq {t u : Tree} : t = u ↔ t.kind = u.kind ∧ t.text = u.text ∧ t.marks = u.marks ∧ t.attrs = u.attrs ∧ t.kids = u.kids := by
  obtain ⟨a, b, c, d, e⟩ := t
  obtain ⟨a', b', c', d', e'⟩ := u
  simp [Tree.kind, Tree.text, Tree.marks, Tree.attrs, Tree.kids]
theorem text_same {s t : ByteArray} (h : (s.toList == t.toList) = true) : s = t := by
  rw [Lib.toList_data, Lib.toList_data] at h
  exact ByteArray.ext (Array.ext' (eq_of_beq h))
theorem text_bne {a b : ByteArray} (h : a ≠ b) : (a.toList != b.toList) = true := by
  simp only [bne, Bool.not_eq_true']
  rw [Bool.eq_false_iff]; intro e; exact h (text_same e)
theorem text_nel {a b : ByteArray} (h : a ≠ b) : ¬ a.toList = b.toList := fun e => h (text_same (by rw [e]; simp))
theorem pairs_ext {a b : List (ByteArray × ByteArray)} (hl : a.length = b.length) (h : ∀ i, i < a.length → pairAt a i = pairAt b i) : a = b := by
  apply List.ext_getElem hl
  intro i h1 h2
  have := h i h1
  unfold pairAt at this
  rw [List.getD_eq_getElem?_getD, List.getD_eq_getElem?_getD, List.getElem?_eq_getElem h1, List.getElem?_eq_getElem h2] at this
  exact this

theorem drawn_below (w : World) (n : Nat) : Below w.heap.size w (w.drewN n) := ⟨rfl, rfl, rfl, Nat.le_refl _, fun _ _ => rfl⟩
def SameG (n : Nat) : Prop := ∀ (l l' : List Tree) (va vb : Value) (w : World), weighAll l ≤ n → weighAll l ≤ 1000000 → weighAll l' ≤ 1000000 → Kids w (Under w.heap.size) va l → Kids w (Under w.heap.size) vb l' →
    Calls Tryd.prog 10 #[va, vb] w (Says (l = l') w)

set_option maxHeartbeats 4000000 in
theorem same_ofG (n : Nat) (IH : Hid (SameG n)) (t u : Tree) (va vb : Value) (w : World) (hn : weighAll t.kids ≤ n) (hw : weigh t ≤ 1000000) (hw' : weigh u ≤ 1000000) (ha : Node w (Under w.heap.size) va t) (hb : Node w (Under w.heap.size) vb u) :
    Calls Tryd.prog 26 #[va, vb] w (Says (t = u) w) := by
  obtain ⟨am, aa, ak, rfl, ham, haa, hak⟩ := ha
  obtain ⟨bm, ba, bk, rfl, hbm, hba, hbk⟩ := hb
  obtain ⟨A1, c1, rfl, _⟩ := ham.form
  obtain ⟨A2, c2, rfl, _⟩ := haa.form
  obtain ⟨A3, c3, rfl, _⟩ := hak.form
  obtain ⟨B1, e1, rfl, _⟩ := hbm.form
  obtain ⟨B2, e2, rfl, _⟩ := hba.form
  obtain ⟨B3, e3, rfl, _⟩ := hbk.form
  have HM := Lib.hid (And.intro ham hbm)
  have HA := Lib.hid (And.intro haa hba)
  have HK := Lib.hid (And.intro hak hbk)
  clear ham haa hak hbm hba hbk
  generalize hW2 : (w.alloc (.cells #[.string t.kind, .string t.text, .slice A1 t.marks.length c1, .slice A2 t.attrs.length c2, .slice A3 t.kids.length c3] 47)).alloc (.cells #[.string u.kind, .string u.text, .slice B1 u.marks.length e1, .slice B2 u.attrs.length e2, .slice B3 u.kids.length e3] 47) = W2
  obtain ⟨z0, z1, z2, z3, z4, hz, hzz⟩ := box5 (w := w) (T := 47) (v0 := .string t.kind) (v1 := .string t.text) (v2 := .slice A1 t.marks.length c1) (v3 := .slice A2 t.attrs.length c2) (v4 := .slice A3 t.kids.length c3) (Below.refl _ _)
  obtain ⟨y0, y1, y2, y3, y4, hy, hyy⟩ := box5 (w := w.alloc (.cells #[.string t.kind, .string t.text, .slice A1 t.marks.length c1, .slice A2 t.attrs.length c2, .slice A3 t.kids.length c3] 47)) (T := 47) (v0 := .string u.kind) (v1 := .string u.text) (v2 := .slice B1 u.marks.length e1) (v3 := .slice B2 u.attrs.length e2) (v4 := .slice B3 u.kids.length e3) (Below.refl _ _)
  rw [hW2] at y0 y1 y2 y3 y4 hy hyy
  rw [show (w.alloc (.cells #[.string t.kind, .string t.text, .slice A1 t.marks.length c1, .slice A2 t.attrs.length c2, .slice A3 t.kids.length c3] 47)).heap.size = w.heap.size + 1 by simp] at y0 y1 y2 y3 y4 hyy
  replace z0 := cell_kept z0 hy
  replace z1 := cell_kept z1 hy
  replace z2 := cell_kept z2 hy
  replace z3 := cell_kept z3 hy
  replace z4 := cell_kept z4 hy
  have HB2 := Lib.hid (belowNext hz hy)
  have HC := Lib.hid (And.intro (And.intro z0 (And.intro z1 (And.intro z2 (And.intro z3 z4)))) (And.intro y0 (And.intro y1 (And.intro y2 (And.intro y3 y4)))))
  have HW2 := Lib.hid hW2
  clear hz hzz hy hyy
  have hwm : weighL t.marks + weighP t.attrs + weighAll t.kids ≤ weigh t := by obtain ⟨k, t, m, a, l⟩ := t; simp only [weigh, Tree.marks, Tree.attrs, Tree.kids]; omega
  have hwu : weighL u.marks + weighP u.attrs + weighAll u.kids ≤ weigh u := by obtain ⟨k, t, m, a, l⟩ := u; simp only [weigh, Tree.marks, Tree.attrs, Tree.kids]; omega
  have hal := length_le_weighP t.attrs
  have hau := length_le_weighP u.attrs
  by_cases hk : t.kind = u.kind
  · have HKD := Lib.hid hk
    by_cases hx : t.text = u.text
    · have HTX := Lib.hid hx
      rw [← hk, ← hx] at hW2
      rw [← hk] at y0
      rw [← hx] at y1
      clear hk hx
      have HW3 := Lib.hid hW2
      clear hW2 z0 z1 z2 z3 z4 y0 y1 y2 y3 y4
      go_enter Tryd.func26, Tryd.ntmps26
      rw [← HKD.out, ← HTX.out]
      obtain ⟨⟨z0, z1, z2, z3, z4⟩, y0, y1, y2, y3, y4⟩ := HC.out
      rw [← HKD.out] at y0
      rw [← HTX.out] at y1
      have hW2 := HW3.out
      go_wp2_with fail
      refine (sameNames_any _ _ t.marks u.marks _ _ W2 (HM.out.1.below HB2.out) (HM.out.2.below HB2.out) (by omega)).mono ?_
      rintro e w1 ⟨rfl, n1, hn1⟩
      have hb1 : Below W2.heap.size W2 w1 := by subst hn1; exact ⟨rfl, rfl, rfl, Nat.le_refl _, fun _ _ => rfl⟩
      replace z0 := cell_kept z0 hb1
      replace z1 := cell_kept z1 hb1
      replace z2 := cell_kept z2 hb1
      replace z3 := cell_kept z3 hb1
      replace z4 := cell_kept z4 hb1
      replace y0 := cell_kept y0 hb1
      replace y1 := cell_kept y1 hb1
      replace y2 := cell_kept y2 hb1
      replace y3 := cell_kept y3 hb1
      replace y4 := cell_kept y4 hb1
      have hB1 := belowNext HB2.out hb1
      have hl1 := cell_lt z0
      have hl2 := cell_lt y0
      clear hn1 hb1 hW2
      cases hsm : sameL t.marks u.marks with
      | false =>
        have HNE : Hid (¬ t = u) := Lib.hid fun e => by rw [e, sameL_refl] at hsm; cases hsm
        clear hsm
        go_wp2
        go_ret
        exact says_no HNE.out hB1
      | true =>
        have HMM : Hid (t.marks = u.marks) := Lib.hid (sameL_eq hsm)
        clear hsm
        by_cases hla : t.attrs.length = u.attrs.length
        · have HLA := Lib.hid hla
          rw [← hla]
          rw [← hla] at y3
          clear hla
          go_wp2
          have HC1 := Lib.hid (And.intro z3 (And.intro z4 (And.intro y3 y4)))
          clear z0 z1 z2 z3 z4 y0 y1 y2 y3 y4
          go_loopw [5] (fun i wr => ∃ k n : Nat, k ≤ t.attrs.length ∧ i = .int .i64 k ∧ Hid (∀ j, j < k → pairAt t.attrs j = pairAt u.attrs j) ∧ w1.drewN n = wr) (fun i _ => t.attrs.length - (intOf i).toNat)
          case atStart => exact ⟨0, 0, by omega, rfl, Lib.hid fun j hj => absurd hj (Nat.not_lt_zero j), rfl⟩
          case round =>
            obtain ⟨i, n2, hi, rfl, hall, rfl⟩ := hrel
            obtain ⟨z3, z4, y3, y4⟩ := HC1.out
            have HBD : Hid (Below w1.heap.size w1 (w1.drewN n2)) := Lib.hid ⟨rfl, rfl, rfl, Nat.le_refl _, fun _ _ => rfl⟩
            by_cases hlt : i < t.attrs.length
            · have hlu : i < u.attrs.length := by rw [← HLA.out]; exact hlt
              obtain ⟨b, o, rfl, hub, hcell⟩ := HA.out.1.get hlt
              obtain ⟨b', o', rfl, hub', hcell'⟩ := HA.out.2.get hlu
              have f0 := cell_kept (hcell i hlt).1 hB1
              have f1 := cell_kept (hcell i hlt).2 hB1
              have f2 := cell_kept (hcell' i hlu).1 hB1
              have f3 := cell_kept (hcell' i hlu).2 hB1
              have g1 := cell_lt f0
              have g2 := cell_lt f2
              have HPI : Hid (pairAt t.attrs i = pairAt u.attrs i → ∀ j, j < i + 1 → pairAt t.attrs j = pairAt u.attrs j) := Lib.hid fun h j hj => by
                rcases Nat.lt_or_ge j i with hj2 | hj2
                · exact hall.out j hj2
                · have : j = i := by omega
                  subst this; exact h
              have HNE : Hid (pairAt t.attrs i ≠ pairAt u.attrs i → ¬ t = u) := Lib.hid fun h e => h (by rw [e])
              generalize pairAt t.attrs i = pr at *
              generalize pairAt u.attrs i = ps at *
              obtain ⟨p1, p2⟩ := pr
              obtain ⟨s1, s2⟩ := ps
              simp only at f0 f1 f2 f3
              clear hcell hcell' z4 y4 hall
              by_cases e1 : p1 = s1
              · by_cases e2 : p2 = s2
                · subst e1; subst e2
                  go_wp2
                  go_quiet (fail)
                  go_wp2
                  exact ⟨⟨i + 1, _, by omega, by go_num, Lib.hid (HPI.out (by trivial)), rfl⟩, by simp [intOf]; omega⟩
                · have HN2 := Lib.hid (HNE.out fun e => e2 (Prod.mk.inj e).2)
                  have q1 := text_bne e2
                  have d1 := text_nel e2
                  subst e1
                  clear HPI HNE e2
                  go_wp2
                  go_quiet (fail)
                  go_wp2
                  go_ret
                  exact says_no HN2.out (belowNext hB1 ⟨rfl, rfl, rfl, Nat.le_refl _, fun _ _ => rfl⟩)
              · have HN2 := Lib.hid (HNE.out fun e => e1 (Prod.mk.inj e).1)
                have q1 := text_bne e1
                have d1 := text_nel e1
                clear HPI HNE e1
                go_wp2
                go_quiet (fail)
                go_wp2
                go_ret
                exact says_no HN2.out (belowNext hB1 ⟨rfl, rfl, rfl, Nat.le_refl _, fun _ _ => rfl⟩)
            · have HAT : Hid (t.attrs = u.attrs) := Lib.hid (pairs_ext HLA.out fun j hj => hall.out j (by omega))
              have HEQ : Hid (t = u ↔ t.kids = u.kids) := Lib.hid (by rw [tree_eq]; exact ⟨fun h => h.2.2.2.2, fun h => ⟨HKD.out, HTX.out, HMM.out, HAT.out, h⟩⟩)
              go_wp2_with fail
              have hB2 := belowNext hB1 HBD.out
              refine (IH.out t.kids u.kids _ _ _ hn (by omega) (by omega) ((HK.out.1.below hB2).more hB2.size) ((HK.out.2.below hB2).more hB2.size)).mono ?_
              rintro e w3 ⟨r, rfl, hr, hb3⟩
              have hB3 := belowNext hB2 hb3
              have HR := Lib.hid hr
              clear z3 z4 y3 y4 hr
              go_wp2
              go_ret
              exact ⟨r, rfl, HR.out.trans HEQ.out.symm, hB3⟩
        · have HNE : Hid (¬ t = u) := Lib.hid fun e => hla (by rw [e])
          have q1 : ((t.attrs.length : Int) != (u.attrs.length : Int)) = true := by simp; omega
          have d1 : ¬ (t.attrs.length : Int) = (u.attrs.length : Int) := by omega
          clear hla
          go_wp2
          go_ret
          exact says_no HNE.out hB1
    · have HNE : Hid (¬ t = u) := Lib.hid fun e => hx (by rw [e])
      have q0 := text_bne hx
      have d0 := text_nel hx
      rw [← hk] at y0 hW2
      clear hx
      go_enter Tryd.func26, Tryd.ntmps26
      rw [← HKD.out]
      clear hk
      go_wp2
      go_ret
      exact says_no HNE.out HB2.out
  · have HNE : Hid (¬ t = u) := Lib.hid fun e => hk (by rw [e])
    have q0 := text_bne hk
    have d0 := text_nel hk
    clear hk
    go_enter Tryd.func26, Tryd.ntmps26
    go_wp2
    go_ret
    exact says_no HNE.out HB2.out

set_option maxHeartbeats 4000000 in
theorem sameAll_full : ∀ n, SameG n := by
  intro n
  induction n using Nat.strongRecOn with
  | ind n ih =>
    have IH := Lib.hid ih
    clear ih
    intro l l' va vb w hn hw hw' ha hb
    have hlen : l.length ≤ 1000000 := by have := length_le_weigh l; omega
    have hlen' : l'.length ≤ 1000000 := by have := length_le_weigh l'; omega
    have HA := Lib.hid ha
    have HB := Lib.hid hb
    obtain ⟨A, c, rfl, _⟩ := ha.form
    obtain ⟨B, d, rfl, _⟩ := hb.form
    clear ha hb
    by_cases hll : l.length = l'.length
    · have HLL := Lib.hid hll
      go_enter Tryd.func10, Tryd.ntmps10
      rw [← hll]
      clear hll
      go_wp2
      go_loopw [5] (fun i wr => ∃ k : Nat, k ≤ l.length ∧ i = .int .i64 k ∧ Hid (∀ j : Nat, j < k → l[j]? = l'[j]?) ∧ Below w.heap.size w wr) (fun i _ => l.length - (intOf i).toNat)
      case atStart => exact ⟨0, by omega, rfl, Lib.hid fun j hj => absurd hj (Nat.not_lt_zero j), Below.refl _ _⟩
      case round =>
        obtain ⟨i, hi, rfl, hall, hbr⟩ := hrel
        by_cases hlt : i < l.length
        · have hlt' : i < l'.length := by rw [← HLL.out]; exact hlt
          obtain ⟨b, o, rfl, hub, hrow⟩ := HA.out.get hlt
          obtain ⟨b', o', rfl, hub', hrow'⟩ := HB.out.get hlt'
          have hlx : l[i]? = some l[i] := List.getElem?_eq_getElem hlt
          have hly : l'[i]? = some l'[i] := List.getElem?_eq_getElem hlt'
          generalize hx : l[i] = x at *
          generalize hy : l'[i] = y at *
          have HPI : Hid (x = y → ∀ j : Nat, j < i + 1 → l[j]? = l'[j]?) := Lib.hid fun h j hj => by
            rcases Nat.lt_or_ge j i with hj2 | hj2
            · exact hall.out j hj2
            · have : j = i := by omega
              subst this; rw [hlx, hly, h]
          have HNE : Hid (¬ x = y → ¬ l = l') := Lib.hid fun h e => h (Option.some.inj (by rw [← hlx, ← hly, e]))
          have hwx := weigh_mem (List.mem_of_getElem? hlx)
          have hwy := weigh_mem (List.mem_of_getElem? hly)
          have hkx := kids_weigh x
          obtain ⟨xm, xa, xk, e0, e1, e2, e3, e4, exm, exa, exk⟩ := hrow.node hlx
          obtain ⟨ym, ya, yk, d0, d1, d2, d3, d4, dxm, dxa, dxk⟩ := hrow'.node hly
          have HXN : Hid (Node w (Under w.heap.size) (.agg #[.string x.kind, .string x.text, xm, xa, xk]) x) := Lib.hid ⟨_, _, _, rfl, exm, exa, exk⟩
          have HYN : Hid (Node w (Under w.heap.size) (.agg #[.string y.kind, .string y.text, ym, ya, yk]) y) := Lib.hid ⟨_, _, _, rfl, dxm, dxa, dxk⟩
          obtain ⟨A1, c1, rfl, _⟩ := exm.form
          obtain ⟨A2, c2, rfl, _⟩ := exa.form
          obtain ⟨A3, c3, rfl, _⟩ := exk.form
          obtain ⟨A4, c4, rfl, _⟩ := dxm.form
          obtain ⟨A5, c5, rfl, _⟩ := dxa.form
          obtain ⟨A6, c6, rfl, _⟩ := dxk.form
          have f0 := cell_kept e0 hbr
          have f1 := cell_kept e1 hbr
          have f2 := cell_kept e2 hbr
          have f3 := cell_kept e3 hbr
          have f4 := cell_kept e4 hbr
          have g0 := cell_kept d0 hbr
          have g1 := cell_kept d1 hbr
          have g2 := cell_kept d2 hbr
          have g3 := cell_kept d3 hbr
          have g4 := cell_kept d4 hbr
          have h1 := cell_lt f0
          have h2 := cell_lt g0
          clear e0 e1 e2 e3 e4 d0 d1 d2 d3 d4 exm exa exk dxm dxa dxk hx hlx hy hly hrow hrow' hall
          have HIH := Lib.hid (IH.out (weighAll x.kids) (by omega))
          have HSV : Hid (∃ r : Bool, (r = true ↔ x = y) ∧ ∀ W, Below wr.heap.size wr W → Calls Tryd.prog 26 #[.agg #[.string x.kind, .string x.text, .slice A1 x.marks.length c1, .slice A2 x.attrs.length c2, .slice A3 x.kids.length c3], .agg #[.string y.kind, .string y.text, .slice A4 y.marks.length c4, .slice A5 y.attrs.length c5, .slice A6 y.kids.length c6]] W fun e w' => e = .returned (.bool r) ∧ Below W.heap.size W w') := Lib.hid (by
            have key : ∀ r : Bool, (r = true ↔ x = y) → ∀ W, Below wr.heap.size wr W → Calls Tryd.prog 26 #[.agg #[.string x.kind, .string x.text, .slice A1 x.marks.length c1, .slice A2 x.attrs.length c2, .slice A3 x.kids.length c3], .agg #[.string y.kind, .string y.text, .slice A4 y.marks.length c4, .slice A5 y.attrs.length c5, .slice A6 y.kids.length c6]] W fun e w' => e = .returned (.bool r) ∧ Below W.heap.size W w' := fun r hr W hW =>
              (same_ofG (weighAll x.kids) HIH x y _ _ W (Nat.le_refl _) (by omega) (by omega) ((HXN.out.below (hbr.trans (hW.mono hbr.size))).more (Nat.le_trans hbr.size hW.size)) ((HYN.out.below (hbr.trans (hW.mono hbr.size))).more (Nat.le_trans hbr.size hW.size))).mono fun e w' ⟨r', he, hr', hb'⟩ => by
                have : r' = r := Bool.eq_iff_iff.2 (hr'.trans hr.symm)
                subst this; exact ⟨he, hb'⟩
            by_cases hxy : x = y
            · exact ⟨true, ⟨fun _ => hxy, fun _ => rfl⟩, key true ⟨fun _ => hxy, fun _ => rfl⟩⟩
            · exact ⟨false, ⟨fun e => Bool.noConfusion e, fun e => absurd e hxy⟩, key false ⟨fun e => Bool.noConfusion e, fun e => absurd e hxy⟩⟩)
          obtain ⟨r, hr, hcall⟩ := HSV.out
          have HR := Lib.hid hr
          have HS := Lib.hid (regrown_any hcall)
          have k0 := cell_regrown f0
          have k1 := cell_regrown f1
          have k2 := cell_regrown f2
          have k3 := cell_regrown f3
          have k4 := cell_regrown f4
          have m0 := cell_regrown g0
          have m1 := cell_regrown g1
          have m2 := cell_regrown g2
          have m3 := cell_regrown g3
          have m4 := cell_regrown g4
          clear hr hcall HSV
          cases r with
          | true =>
            go_wp2_with fail
            clear f0 f1 f2 f3 f4 g0 g1 g2 g3 g4
            refine wp_region_quiet_below (by kernel_rfl) (by kernel_rfl) ?_
            repeat (first | go_big_quiet_step (exact HS.out _ _) | quiet_step (exact HS.out _ _))
            refine wpQuiet_nil ?_
            intro _ hw'
            obtain ⟨⟨dq, osq⟩, hw''⟩ := hw'
            subst hw''
            have HQ := Lib.hid (below_regrown wr dq osq)
            clear k0 k1 k2 k3 k4 m0 m1 m2 m3 m4
            go_wp2
            exact ⟨⟨i + 1, by omega, by go_num, Lib.hid (HPI.out (HR.out.1 (by trivial))), belowNext hbr HQ.out⟩, by simp [intOf]; omega⟩
          | false =>
            go_wp2_with fail
            clear f0 f1 f2 f3 f4 g0 g1 g2 g3 g4
            refine wp_region_quiet_below (by kernel_rfl) (by kernel_rfl) ?_
            repeat (first | go_big_quiet_step (exact HS.out _ _) | quiet_step (exact HS.out _ _))
            refine wpQuiet_nil ?_
            intro _ hw'
            obtain ⟨⟨dq, osq⟩, hw''⟩ := hw'
            subst hw''
            have HQ := Lib.hid (below_regrown wr dq osq)
            clear k0 k1 k2 k3 k4 m0 m1 m2 m3 m4
            go_wp2
            go_ret
            exact says_no (HNE.out fun e => by have := HR.out.2 e; simp at this) (belowNext hbr HQ.out)
        · go_wp2
          go_ret
          exact ⟨true, rfl, ⟨fun _ => List.ext_getElem? fun j => by
            rcases Nat.lt_or_ge j l.length with hj | hj
            · exact hall.out j (by omega)
            · rw [List.getElem?_eq_none hj, List.getElem?_eq_none (by rw [← HLL.out]; exact hj)], fun _ => rfl⟩, hbr⟩
    · have HNE : Hid (¬ l = l') := Lib.hid fun e => hll (by rw [e])
      have q1 : ((l.length : Int) != (l'.length : Int)) = true := by simp; omega
      have d1 : ¬ (l.length : Int) = (l'.length : Int) := by omega
      clear hll
      go_enter Tryd.func10, Tryd.ntmps10
      go_wp2
      go_ret
      exact says_no HNE.out (Below.refl _ _)
end Go.Proofs.YtaepolgmojkglaaDoor
