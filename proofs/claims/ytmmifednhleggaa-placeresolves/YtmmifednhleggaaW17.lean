/-
  What the document's Same and SameAll answer at nodes that are alike: true.
-/
import Derived.Test.YtmmifednhleggaaW8
import Derived.Lib.QuietBelow
namespace Go.Proofs.Ytmmifednhleggaa
open Go.RowKit Go.Sort

theorem sameL_refl (l : List ByteArray) : sameL l l = true := by
  simp [sameL]

def SameSaid (n : Nat) : Prop := ∀ (l : List Tree) (va vb : Value) (w : World), weighAll l ≤ n → weighAll l ≤ 1000000 → Kids w (Under w.heap.size) va l → Kids w (Under w.heap.size) vb l →
    Calls Try.prog 32 #[va, vb] w fun e w' => e = .returned (.bool true) ∧ Below w.heap.size w w'

set_option maxHeartbeats 2000000 in
theorem same_of (n : Nat) (IH : Hid (SameSaid n)) (t : Tree) (va vb : Value) (w : World) (hn : weighAll t.kids ≤ n) (hw : weigh t ≤ 1000000) (ha : Node w (Under w.heap.size) va t) (hb : Node w (Under w.heap.size) vb t) :
    Calls Try.prog 19 #[va, vb] w fun e w' => e = .returned (.bool true) ∧ Below w.heap.size w w' := by
  obtain ⟨am, aa, ak, rfl, ham, haa, hak⟩ := ha
  obtain ⟨bm, ba, bk, rfl, hbm, hba, hbk⟩ := hb
  obtain ⟨A1, c1, rfl, _⟩ := ham.form
  obtain ⟨A2, c2, rfl, _⟩ := haa.form
  obtain ⟨A3, c3, rfl, _⟩ := hak.form
  obtain ⟨B1, e1, rfl, _⟩ := hbm.form
  obtain ⟨B2, e2, rfl, _⟩ := hba.form
  obtain ⟨B3, e3, rfl, _⟩ := hbk.form
  have HM := Lib.hid (And.intro ham hbm)
  have HA := Lib.hid (And.intro haa hba)
  have HK := Lib.hid (And.intro hak hbk)
  clear ham haa hak hbm hba hbk
  generalize hW2 : (w.alloc (.cells #[.string t.kind, .string t.text, .slice A1 t.marks.length c1, .slice A2 t.attrs.length c2, .slice A3 t.kids.length c3] 31)).alloc (.cells #[.string t.kind, .string t.text, .slice B1 t.marks.length e1, .slice B2 t.attrs.length e2, .slice B3 t.kids.length e3] 31) = W2
  obtain ⟨z0, z1, z2, z3, z4, hz, hzz⟩ := box5 (w := w) (T := 31) (v0 := .string t.kind) (v1 := .string t.text) (v2 := .slice A1 t.marks.length c1) (v3 := .slice A2 t.attrs.length c2) (v4 := .slice A3 t.kids.length c3) (Below.refl _ _)
  obtain ⟨y0, y1, y2, y3, y4, hy, hyy⟩ := box5 (w := w.alloc (.cells #[.string t.kind, .string t.text, .slice A1 t.marks.length c1, .slice A2 t.attrs.length c2, .slice A3 t.kids.length c3] 31)) (T := 31) (v0 := .string t.kind) (v1 := .string t.text) (v2 := .slice B1 t.marks.length e1) (v3 := .slice B2 t.attrs.length e2) (v4 := .slice B3 t.kids.length e3) (Below.refl _ _)
  rw [hW2] at y0 y1 y2 y3 y4 hy hyy
  rw [show (w.alloc (.cells #[.string t.kind, .string t.text, .slice A1 t.marks.length c1, .slice A2 t.attrs.length c2, .slice A3 t.kids.length c3] 31)).heap.size = w.heap.size + 1 by simp] at y0 y1 y2 y3 y4 hyy
  replace z0 := cell_kept z0 hy
  replace z1 := cell_kept z1 hy
  replace z2 := cell_kept z2 hy
  replace z3 := cell_kept z3 hy
  replace z4 := cell_kept z4 hy
  have HB2 := Lib.hid (belowNext hz hy)
  have HC := Lib.hid (And.intro (And.intro z0 (And.intro z1 (And.intro z2 (And.intro z3 z4)))) (And.intro y0 (And.intro y1 (And.intro y2 (And.intro y3 y4)))))
  have HW2 := Lib.hid hW2
  clear hW2 z0 z1 z2 z3 z4 y0 y1 y2 y3 y4 hz hzz hy hyy
  have hwm : weighL t.marks + weighP t.attrs + weighAll t.kids ≤ weigh t := by obtain ⟨k, t, m, a, l⟩ := t; simp only [weigh, Tree.marks, Tree.attrs, Tree.kids]; omega
  have hal := length_le_weighP t.attrs
  go_enter Try.func19, Try.ntmps19
  go_wp2_with fail
  rw [HW2.out]
  refine (sameNames_any _ _ t.marks t.marks _ _ W2 (HM.out.1.below HB2.out) (HM.out.2.below HB2.out) (by omega)).mono ?_
  rintro e w1 ⟨rfl, n1, hn1⟩
  rw [sameL_refl]
  have hb1 : Below W2.heap.size W2 w1 := by subst hn1; exact ⟨rfl, rfl, rfl, Nat.le_refl _, fun _ _ => rfl⟩
  clear hn1
  obtain ⟨⟨z0, z1, z2, z3, z4⟩, y0, y1, y2, y3, y4⟩ := HC.out
  replace z0 := cell_kept z0 hb1
  replace z1 := cell_kept z1 hb1
  replace z2 := cell_kept z2 hb1
  replace z3 := cell_kept z3 hb1
  replace z4 := cell_kept z4 hb1
  replace y0 := cell_kept y0 hb1
  replace y1 := cell_kept y1 hb1
  replace y2 := cell_kept y2 hb1
  replace y3 := cell_kept y3 hb1
  replace y4 := cell_kept y4 hb1
  have hB1 := belowNext HB2.out hb1
  have hl1 := cell_lt z0
  have hl2 := cell_lt y0
  clear hb1
  go_wp2
  have HC1 := Lib.hid (And.intro z3 (And.intro z4 (And.intro y3 y4)))
  clear z0 z1 z2 z3 z4 y0 y1 y2 y3 y4
  go_loopw [5] (fun i wr => ∃ k n : Nat, k ≤ t.attrs.length ∧ i = .int .i64 k ∧ wr = w1.drewN n) (fun i _ => t.attrs.length - (intOf i).toNat)
  case atStart => exact ⟨0, 0, by omega, rfl, rfl⟩
  case round =>
    obtain ⟨i, n2, hi, rfl, rfl⟩ := hrel
    obtain ⟨z3, z4, y3, y4⟩ := HC1.out
    by_cases hlt : i < t.attrs.length
    · obtain ⟨b, o, rfl, hub, hcell⟩ := HA.out.1.get hlt
      obtain ⟨b', o', rfl, hub', hcell'⟩ := HA.out.2.get hlt
      have f0 := cell_kept (hcell i hlt).1 hB1
      have f1 := cell_kept (hcell i hlt).2 hB1
      have f2 := cell_kept (hcell' i hlt).1 hB1
      have f3 := cell_kept (hcell' i hlt).2 hB1
      have g1 := cell_lt f0
      have g2 := cell_lt f2
      generalize (pairAt t.attrs i) = pr at *
      clear hcell hcell' z4 y4
      go_wp2
      go_quiet (fail)
      go_wp2
      exact ⟨⟨i + 1, _, by omega, by go_num, rfl⟩, by simp [intOf]; omega⟩
    · go_wp2_with fail
      have HBD : Hid (Below w1.heap.size w1 (w1.drewN n2)) := Lib.hid ⟨rfl, rfl, rfl, Nat.le_refl _, fun _ _ => rfl⟩
      have hB2 := belowNext hB1 HBD.out
      refine (IH.out t.kids _ _ _ hn (by omega) ((HK.out.1.below hB2).more hB2.size) ((HK.out.2.below hB2).more hB2.size)).mono ?_
      rintro e w3 ⟨rfl, hb3⟩
      have hB3 := belowNext hB2 hb3
      clear z3 z4 y3 y4
      go_wp2
      go_ret
      exact ⟨rfl, hB3⟩

set_option maxHeartbeats 2000000 in
theorem sameAll_all : ∀ n, SameSaid n := by
  intro n
  induction n using Nat.strongRecOn with
  | ind n ih =>
    have IH := Lib.hid ih
    clear ih
    intro l va vb w hn hw ha hb
    have hlen : l.length ≤ 1000000 := by have := length_le_weigh l; omega
    have HA := Lib.hid ha
    have HB := Lib.hid hb
    obtain ⟨A, c, rfl, _⟩ := ha.form
    obtain ⟨B, d, rfl, _⟩ := hb.form
    clear ha hb
    go_enter Try.func32, Try.ntmps32
    go_wp2
    go_loopw [5] (fun i wr => ∃ k : Nat, k ≤ l.length ∧ i = .int .i64 k ∧ Below w.heap.size w wr) (fun i _ => l.length - (intOf i).toNat)
    case atStart => exact ⟨0, by omega, rfl, Below.refl _ _⟩
    case round =>
      obtain ⟨i, hi, rfl, hbr⟩ := hrel
      by_cases hlt : i < l.length
      · obtain ⟨b, o, rfl, hub, hrow⟩ := HA.out.get hlt
        obtain ⟨b', o', rfl, hub', hrow'⟩ := HB.out.get hlt
        have hlx : l[i]? = some l[i] := List.getElem?_eq_getElem hlt
        generalize hx : l[i] = x at *
        have hwx := weigh_mem (List.mem_of_getElem? hlx)
        have hkx := kids_weigh x
        obtain ⟨xm, xa, xk, e0, e1, e2, e3, e4, exm, exa, exk⟩ := hrow.node hlx
        obtain ⟨ym, ya, yk, d0, d1, d2, d3, d4, dxm, dxa, dxk⟩ := hrow'.node hlx
        have HXN : Hid (Node w (Under w.heap.size) (.agg #[.string x.kind, .string x.text, xm, xa, xk]) x) := Lib.hid ⟨_, _, _, rfl, exm, exa, exk⟩
        have HYN : Hid (Node w (Under w.heap.size) (.agg #[.string x.kind, .string x.text, ym, ya, yk]) x) := Lib.hid ⟨_, _, _, rfl, dxm, dxa, dxk⟩
        obtain ⟨A1, c1, rfl, _⟩ := exm.form
        obtain ⟨A2, c2, rfl, _⟩ := exa.form
        obtain ⟨A3, c3, rfl, _⟩ := exk.form
        obtain ⟨A4, c4, rfl, _⟩ := dxm.form
        obtain ⟨A5, c5, rfl, _⟩ := dxa.form
        obtain ⟨A6, c6, rfl, _⟩ := dxk.form
        have f0 := cell_kept e0 hbr
        have f1 := cell_kept e1 hbr
        have f2 := cell_kept e2 hbr
        have f3 := cell_kept e3 hbr
        have f4 := cell_kept e4 hbr
        have g0 := cell_kept d0 hbr
        have g1 := cell_kept d1 hbr
        have g2 := cell_kept d2 hbr
        have g3 := cell_kept d3 hbr
        have g4 := cell_kept d4 hbr
        have h1 := cell_lt f0
        have h2 := cell_lt g0
        clear e0 e1 e2 e3 e4 d0 d1 d2 d3 d4 exm exa exk dxm dxa dxk hx hlx hrow hrow'
        have HIH := Lib.hid (IH.out (weighAll x.kids) (by omega))
        have HS := Lib.hid (regrown_any (w := wr) fun W hW => same_of (weighAll x.kids) HIH x _ _ W (Nat.le_refl _) (by omega) ((HXN.out.below (hbr.trans (hW.mono hbr.size))).more (Nat.le_trans hbr.size hW.size)) ((HYN.out.below (hbr.trans (hW.mono hbr.size))).more (Nat.le_trans hbr.size hW.size)))
        have k0 := cell_regrown f0
        have k1 := cell_regrown f1
        have k2 := cell_regrown f2
        have k3 := cell_regrown f3
        have k4 := cell_regrown f4
        have m0 := cell_regrown g0
        have m1 := cell_regrown g1
        have m2 := cell_regrown g2
        have m3 := cell_regrown g3
        have m4 := cell_regrown g4
        go_wp2_with fail
        clear f0 f1 f2 f3 f4 g0 g1 g2 g3 g4
        refine wp_region_quiet_below (by kernel_rfl) (by kernel_rfl) ?_
        repeat (first | go_big_quiet_step (exact HS.out _ _) | quiet_step (exact HS.out _ _))
        refine wpQuiet_nil ?_
        intro _ hw'
        obtain ⟨⟨dq, osq⟩, hw''⟩ := hw'
        subst hw''
        have HQ := Lib.hid (below_regrown wr dq osq)
        clear k0 k1 k2 k3 k4 m0 m1 m2 m3 m4
        go_wp2
        exact ⟨⟨i + 1, by omega, by go_num, belowNext hbr HQ.out⟩, by simp [intOf]; omega⟩
      · go_wp2
        go_ret
        exact ⟨rfl, hbr⟩

theorem sameAll_any (va vb : Value) (l : List Tree) (w : World) (ha : Kids w (Under w.heap.size) va l) (hb : Kids w (Under w.heap.size) vb l) (hw : weighAll l ≤ 1000000) :
    Calls Try.prog 32 #[va, vb] w fun e w' => e = .returned (.bool true) ∧ Below w.heap.size w w' :=
  sameAll_all (weighAll l) l va vb w (Nat.le_refl _) hw ha hb
end Go.Proofs.Ytmmifednhleggaa
