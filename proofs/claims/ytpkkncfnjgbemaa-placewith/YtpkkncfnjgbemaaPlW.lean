/-
  What With answers: the tree with another node where a path leads, or that there is none.
-/
import Derived.Test.YtpkkncfnjgbemaaPlB
import Derived.Test.YtpkkncfnjgbemaaPlV
import Derived.Test.YtpkkncfnjgbemaaW23
namespace Go.Proofs.Ytpkkncfnjgbemaa
open Go.RowKit Go.Sort

/-- What With answers. -/
def WithPost (w : World) (t m : Tree) (p : List Int) (e : Ending) (w' : World) : Prop :=
  ∃ A1 n1 c1 A2 n2 c2 A3 c3 u, ∃ n : Int, e = .returned (.tuple #[.agg #[.string u.kind, .string u.text, .slice A1 n1 c1, .slice A2 n2 c2, .slice A3 u.kids.length c3], .int .i64 n]) ∧
    Node w' (From w.heap.size w'.heap.size) (.agg #[.string u.kind, .string u.text, .slice A1 n1 c1, .slice A2 n2 c2, .slice A3 u.kids.length c3]) u ∧
    ((followB t p ≠ none ∧ n = 0 ∧ u = withB t p m) ∨ (followB t p = none ∧ n = 9 ∧ u = .mk ⟨#[]⟩ ⟨#[]⟩ [] [] [])) ∧ Below w.heap.size w w'

set_option maxHeartbeats 8000000 in
set_option maxRecDepth 100000 in
theorem with_any (v vp vm : Value) (t m : Tree) (p : List Int) (w : World) (h : Node w (Under w.heap.size) v t) (hm : Node w (Under w.heap.size) vm m) (hp : Ints w (Under w.heap.size) vp p) (hpr : ∀ x ∈ p, -9223372036854775808 ≤ x ∧ x ≤ 9223372036854775807) (hw : weigh t ≤ 1000000) (hwm : weigh m ≤ 1000000) :
    Calls Try.prog 19 #[v, vp, vm] w (WithPost w t m p) := by
  have HP := Lib.hid hp
  have HPR := Lib.hid hpr
  have HN := Lib.hid h
  have HM := Lib.hid hm
  obtain ⟨A1, n1, c1, A2, n2, c2, A3, c3, rfl⟩ := h.forms
  obtain ⟨M1, i1, j1, M2, i2, j2, M3, j3, rfl⟩ := hm.forms
  obtain ⟨Ap, cp, rfl, hpc⟩ := hp.form
  have hpm := hp.len.2.2
  unfold maxLen at hpm
  clear hp hpr h hm
  go_enter Try.func19, Try.ntmps19
  go_wp2_with fail
  generalize hW1 : ((w.alloc (.cells #[.string t.kind, .string t.text, .slice A1 n1 c1, .slice A2 n2 c2, .slice A3 t.kids.length c3] 31)).alloc (.cells #[.string m.kind, .string m.text, .slice M1 i1 j1, .slice M2 i2 j2, .slice M3 m.kids.length j3] 31)).alloc (.cells #[.string ⟨#[]⟩, .string ⟨#[]⟩, .slice none 0 0, .slice none 0 0, .slice none 0 0] 31) = W1
  have HB0 : Hid (Below w.heap.size w W1) := Lib.hid (by subst hW1; exact (((Below.refl _ _).alloc (Nat.le_refl _) _).alloc (by simp) _).alloc (by simp; omega) _)
  have HC1 : Hid (W1.heap[w.heap.size]? = some (.cells #[.string t.kind, .string t.text, .slice A1 n1 c1, .slice A2 n2 c2, .slice A3 t.kids.length c3] 31) ∧ W1.heap[w.heap.size + 1]? = some (.cells #[.string m.kind, .string m.text, .slice M1 i1 j1, .slice M2 i2 j2, .slice M3 m.kids.length j3] 31) ∧ W1.heap[w.heap.size + 2]? = some (.cells #[.string ⟨#[]⟩, .string ⟨#[]⟩, .slice none 0 0, .slice none 0 0, .slice none 0 0] 31) ∧ W1.heap.size = w.heap.size + 3) := Lib.hid (by
    subst hW1; exact ⟨heap_old _ _ _ (heap_old _ _ _ (heap_new _ _)), heap_old _ _ _ (heap_new' _ _ (by simp)), heap_new' _ _ (by simp), by simp⟩)
  clear hW1
  have HPK : Hid (∀ W, Below w.heap.size w W → Ints W (Under W.heap.size) (.slice Ap p.length cp) p) := Lib.hid fun W hW => HP.out.keep (fun b hb => Nat.lt_of_lt_of_le hb hW.size) (fun b hb => hW.block b hb)
  refine (follow_any _ _ t p W1 ((HN.out.below HB0.out).more HB0.out.size) (HPK.out W1 HB0.out) HPR.out hw).mono ?_
  rintro e w2 ⟨B1, m1, d1, B2, m2, d2, B3, d3, u, b, rfl, hnu, hfol, hb2⟩
  have hz1 := HC1.out.2.2.2
  have hz2 := hb2.size
  have HB2 := Lib.hid (belowNext HB0.out hb2)
  have HF := Lib.hid hfol
  generalize hob : (Obj.cells #[.string u.kind, .string u.text, .slice B1 m1 d1, .slice B2 m2 d2, .slice B3 u.kids.length d3] 31) = ob
  have hb3 : Below w2.heap.size w2 (w2.alloc ob) := (Below.refl _ _).alloc (Nat.le_refl _) _
  have hn3 := (hb3.block w.heap.size (by omega)).trans ((hb2.block w.heap.size (by omega)).trans HC1.out.1)
  have hm3 := (hb3.block (w.heap.size + 1) (by omega)).trans ((hb2.block (w.heap.size + 1) (by omega)).trans HC1.out.2.1)
  have hr3 := (hb3.block (w.heap.size + 2) (by omega)).trans ((hb2.block (w.heap.size + 2) (by omega)).trans HC1.out.2.2.1)
  have HB3 := Lib.hid (belowNext HB2.out hb3)
  have hz3 : (w2.alloc ob).heap.size = w2.heap.size + 1 := by simp
  have HZ3 := Lib.hid hz3
  have HN3 := Lib.hid hn3
  have HM3 := Lib.hid hm3
  have HR3 := Lib.hid hr3
  subst hob
  clear hb2 hnu hfol HC1 hb3 hz3 hn3 hm3 hr3
  cases b with
  | false =>
    have HE : Hid (followB t p = none) := Lib.hid HF.out
    obtain ⟨a0, a1, a2, a3, a4⟩ := cells5 HR3.out
    have f0 := frozen_of_row _ _ 0 _ _ HR3.out
    have f1 := frozen_of_row _ _ 1 _ _ HR3.out
    have f2 := frozen_of_row _ _ 2 _ _ HR3.out
    have f3 := frozen_of_row _ _ 3 _ _ HR3.out
    have f4 := frozen_of_row _ _ 4 _ _ HR3.out
    go_wp2
    obtain ⟨q0, q1, q2, q3, q4⟩ := cells5 (put5z_block (v0 := .string ⟨#[]⟩) (v1 := .string ⟨#[]⟩) (v2 := .slice none 0 0) (v3 := .slice none 0 0) (v4 := .slice none 0 0) HR3.out)
    have HBE := Lib.hid (put5z_below (g := w.heap.size + 2) (v0 := .string ⟨#[]⟩) (v1 := .string ⟨#[]⟩) (v2 := .slice none 0 0) (v3 := .slice none 0 0) (v4 := .slice none 0 0) (by omega) HB3.out)
    unfold put5z at q0 q1 q2 q3 q4
    refine bodyPost_ret (v := .tuple #[.agg #[.string ⟨#[]⟩, .string ⟨#[]⟩, .slice none 0 0, .slice none 0 0, .slice none 0 0], .int .i64 9]) (by simp [results, Try.results19, go_sem, q0, q1, q2, q3, q4]) rfl ?_
    exact ⟨none, 0, 0, none, 0, 0, none, 0, .mk ⟨#[]⟩ ⟨#[]⟩ [] [] [], 9, rfl, ⟨_, _, _, rfl, strs_nil, pairs_nil, kids_nil⟩, .inr ⟨HE.out, rfl, rfl⟩, HBE.out⟩
  | true =>
    have HE : Hid (followB t p = some u) := Lib.hid HF.out
    clear HF
    have HND : Hid (∀ W, Below w.heap.size w W → Node W (Under W.heap.size) (.agg #[.string t.kind, .string t.text, .slice A1 n1 c1, .slice A2 n2 c2, .slice A3 t.kids.length c3]) t) := Lib.hid fun W hW => (HN.out.below hW).more hW.size
    have HMD : Hid (∀ W, Below w.heap.size w W → Node W (Under W.heap.size) (.agg #[.string m.kind, .string m.text, .slice M1 i1 j1, .slice M2 i2 j2, .slice M3 m.kids.length j3]) m) := Lib.hid fun W hW => (HM.out.below hW).more hW.size
    obtain ⟨x0, x1, x2, x3, x4⟩ := cells5 HN3.out
    go_wp2_with fail
    refine (copyP_any _ t _ (HND.out _ HB3.out) hw).mono ?_
    rintro e w4 ⟨v4, rfl, hn4, hb4⟩
    obtain ⟨E1, l1, e1, E2, l2, e2, E3, e3, rfl⟩ := (NodeP.node _ _ _ _ hn4).forms
    have hz3 := HZ3.out
    have hz4 := hb4.size
    have hb5 : Below w4.heap.size w4 (w4.alloc (.cells #[.string t.kind, .string t.text, .slice E1 l1 e1, .slice E2 l2 e2, .slice E3 t.kids.length e3] 31)) := (Below.refl _ _).alloc (Nat.le_refl _) _
    have HA5 : Hid ((w4.alloc (.cells #[.string t.kind, .string t.text, .slice E1 l1 e1, .slice E2 l2 e2, .slice E3 t.kids.length e3] 31)).heap[w4.heap.size]? = some (.cells #[.string t.kind, .string t.text, .slice E1 l1 e1, .slice E2 l2 e2, .slice E3 t.kids.length e3] 31)) := Lib.hid (heap_new _ _)
    have HM5 := Lib.hid ((hb5.block (w.heap.size + 1) (by omega)).trans ((hb4.block (w.heap.size + 1) (by omega)).trans HM3.out))
    have HR5 := Lib.hid ((hb5.block (w.heap.size + 2) (by omega)).trans ((hb4.block (w.heap.size + 2) (by omega)).trans HR3.out))
    have HB5 := Lib.hid (belowNext (belowNext HB3.out hb4) hb5)
    have HN5 := Lib.hid (NodeP.keep (w' := w4.alloc (.cells #[.string t.kind, .string t.text, .slice E1 l1 e1, .slice E2 l2 e2, .slice E3 t.kids.length e3] 31)) _ _ _ (w.heap.size + 3) w4.heap.size _ (by omega) (Nat.le_refl _) (fun b hb => hb5.block b hb.2) hn4)
    have HZ5 : Hid ((w4.alloc (.cells #[.string t.kind, .string t.text, .slice E1 l1 e1, .slice E2 l2 e2, .slice E3 t.kids.length e3] 31)).heap.size = w4.heap.size + 1) := Lib.hid (by simp)
    have HLO : Hid (w.heap.size + 3 ≤ w4.heap.size) := Lib.hid (by omega)
    clear hb4 hb5 hn4 x0 x1 x2 x3 x4 HN3 HM3 HR3 HB3 HZ3 hz1 hz2 hz3 hz4 HB2
    go_wp2
    generalize w4.alloc (.cells #[.string t.kind, .string t.text, .slice E1 l1 e1, .slice E2 l2 e2, .slice E3 t.kids.length e3] 31) = W5 at *
    generalize w4.heap.size = ga at *
    have HGO : Hid (goB t p = some u) := Lib.hid (followB_some HE.out).1
    go_loopw [11, 27] (fun s11 i wr => ∃ (k : Nat) (y : Tree) (g o a b : Nat) (vv : Value), k ≤ p.length ∧ i = .int .i64 k ∧ s11 = .pointer (some ⟨g, o, none⟩) ∧ wr = W5 ∧ weigh y ≤ 1000000 ∧ Hid (goB y (p.drop k) = some u) ∧ Hid (WithAt W5 (w.heap.size + 3) ga t (p.take k) y g o a b vv)) (fun _ i _ => p.length - (intOf i).toNat)
    case atStart =>
      exact ⟨0, t, ga, 0, _, _, _, by omega, rfl, rfl, rfl, hw, Lib.hid HGO.out, Lib.hid (WithAt.start HN5.out HA5.out ⟨_, _, _, _, _, rfl, rfl, rfl, rfl, rfl, rfl⟩)⟩
    case round =>
      obtain ⟨k, y, g, o, a, b, vv, hk, rfl, rfl, rfl, hwy, hgo, hat⟩ := hrel
      by_cases hlt : k < p.length
      · have hpx : p[k]? = some p[k] := List.getElem?_eq_getElem hlt
        generalize p[k] = x at *
        have HTK : Hid (p.take (k + 1) = p.take k ++ [x]) := Lib.hid (by rw [List.take_add_one, hpx]; rfl)
        have HD := Lib.hid (drop_cons hpx)
        obtain ⟨bp, op, rfl, hup, hcx⟩ := HP.out.get hpx
        have z0 := (HB5.out.cell (p := ⟨bp, op + k, none⟩) hup).trans hcx
        have hgo' := hgo.out
        rw [HD.out, goB] at hgo'
        cases hka : kidAt y x with
        | none => rw [hka] at hgo'; cases hgo'
        | some y' =>
          rw [hka] at hgo'
          obtain ⟨hT, hx0, hyk⟩ := kidAt_some hka
          obtain ⟨j, rfl⟩ : ∃ j : Nat, x = (j : Int) := ⟨x.toNat, by omega⟩
          rw [Int.toNat_natCast] at hyk
          have hjl := (List.getElem?_eq_some_iff.1 hyk).1
          have hl2 : y.kids.length ≤ 1000000 := by have := length_le_weigh y.kids; have := kids_weigh y; omega
          have hwk := weigh_kid hyk
          obtain ⟨g2, c2', vm', va', a', b', v', rfl, hcc, hnext⟩ := hat.out.next hT hyk
          obtain ⟨_, _, _, _, y4⟩ := hat.out.cells
          have HNX := Lib.hid hnext
          have HGO' := Lib.hid hgo'
          clear hgo' hnext hT hka hyk hcx hpx hgo hat
          go_wp2
          exact ⟨⟨k + 1, y', g2, j * 5, a', b', v', by omega, by go_num, by simp, by first | rfl | trivial, by omega, HGO', Lib.hid (by rw [HTK.out]; exact HNX.out)⟩, by simp [intOf]; omega⟩
      · obtain rfl : k = p.length := by omega
        have HAT : Hid (WithAt wr (w.heap.size + 3) ga t p y g o a b vv) := Lib.hid (by have := hat.out; rw [List.take_length] at this; exact this)
        obtain ⟨h1, h2, h3, h4, h5⟩ := hat.out.bounds
        obtain ⟨cur, hcur, v0, v1, v2, v3, v4, rfl, f0, f1, f2, f3, f4⟩ := hat.out.row
        obtain ⟨y0, y1, y2, y3, y4⟩ := HAT.out.cells
        obtain ⟨x0, x1, x2, x3, x4⟩ := cells5 HM5.out
        have hzz := HZ5.out
        have HCU := Lib.hid hcur
        clear hat hgo f0 f1 f2 f3 f4 hcur h5
        go_upto_region 11 with fail
        go_cut [] (fun wx => Below w.heap.size w wx ∧ w.heap.size + 3 ≤ wx.heap.size ∧ Hid (wx.heap[w.heap.size + 2]? = some (.cells #[.string ⟨#[]⟩, .string ⟨#[]⟩, .slice none 0 0, .slice none 0 0, .slice none 0 0] 31)) ∧ Hid (NodeAt wx (From (w.heap.size + 3) wx.heap.size) (withB t p m) ga 0))
        case first =>
          go_wp2_with fail
          refine (copy_any _ m _ (HMD.out _ HB5.out) hwm).mono ?_
          rintro e w6 ⟨v6, rfl, hn6, hb6⟩
          obtain ⟨F1, k1, g1, F2, k2, g2, F3, g3, rfl⟩ := hn6.forms
          have HN6 := Lib.hid hn6
          have hz6 := hb6.size
          replace y0 := cell_kept y0 hb6
          replace y1 := cell_kept y1 hb6
          replace y2 := cell_kept y2 hb6
          replace y3 := cell_kept y3 hb6
          replace y4 := cell_kept y4 hb6
          have hc6 := (hb6.block g (by omega)).trans HCU.out
          have q0 := frozen_of_row _ _ o _ _ hc6
          have q1 := frozen_of_row _ _ (o + 1) _ _ hc6
          have q2 := frozen_of_row _ _ (o + 2) _ _ hc6
          have q3 := frozen_of_row _ _ (o + 3) _ _ hc6
          have q4 := frozen_of_row _ _ (o + 4) _ _ hc6
          have HB6 := Lib.hid hb6
          have HR6 := Lib.hid ((hb6.block (w.heap.size + 2) (by omega)).trans HR5.out)
          clear hb6 hn6 hc6 x0 x1 x2 x3 x4
          go_wp2_with fail
          go_meet
          have hs := put5o_size (w := w6) (g := g) (o := o) (v0 := .string m.kind) (v1 := .string m.text) (v2 := .slice F1 k1 g1) (v3 := .slice F2 k2 g2) (v4 := .slice F3 m.kids.length g3)
          unfold put5o at hs
          refine ⟨put5o_below (by omega) (belowNext HB5.out HB6.out), by omega, Lib.hid ((put5o_other (by omega)).trans HR6.out), Lib.hid ?_⟩
          rw [hs]
          exact HAT.out.done HB6.out (by omega) HN6.out (fun d hd => ⟨hd.1, by have := hd.2; omega⟩) (fun d hd => ⟨by have := hd.1; omega, hd.2⟩)
        case rest =>
          obtain ⟨hbc, hzc, hrc, hnc⟩ := hcut
          have HBC := Lib.hid hbc
          clear y0 y1 y2 y3 y4 x0 x1 x2 x3 x4 hbc
          generalize hr : withB t p m = r at *
          obtain ⟨xm, xa, xk, e0, e1', e2', e3', e4, hxm, hxa, hxk⟩ := (nodeAt_iff r ga 0).1 hnc.out
          rw [Nat.zero_add] at e1' e2' e3' e4
          have HX := Lib.hid (And.intro hxm (And.intro hxa hxk))
          obtain ⟨G1, s1, rfl, _⟩ := hxm.form
          obtain ⟨G2, s2, rfl, _⟩ := id hxa
          obtain ⟨G3, s3, rfl, _⟩ := hxk.form
          obtain ⟨a0, a1, a2, a3, a4⟩ := cells5 hrc.out
          have f0 := frozen_of_row _ _ 0 _ _ hrc.out
          have f1 := frozen_of_row _ _ 1 _ _ hrc.out
          have f2 := frozen_of_row _ _ 2 _ _ hrc.out
          have f3 := frozen_of_row _ _ 3 _ _ hrc.out
          have f4 := frozen_of_row _ _ 4 _ _ hrc.out
          have hlo := HLO.out
          clear hxm hxa hxk
          go_wp2
          obtain ⟨q0, q1, q2, q3, q4⟩ := cells5 (put5z_block (v0 := .string r.kind) (v1 := .string r.text) (v2 := .slice G1 r.marks.length s1) (v3 := .slice G2 r.attrs.length s2) (v4 := .slice G3 r.kids.length s3) hrc.out)
          have HBE := Lib.hid (put5z_below (g := w.heap.size + 2) (v0 := .string r.kind) (v1 := .string r.text) (v2 := .slice G1 r.marks.length s1) (v3 := .slice G2 r.attrs.length s2) (v4 := .slice G3 r.kids.length s3) (by omega) HBC.out)
          have hsz := put5z_size (w := wc) (g := w.heap.size + 2) (v0 := .string r.kind) (v1 := .string r.text) (v2 := .slice G1 r.marks.length s1) (v3 := .slice G2 r.attrs.length s2) (v4 := .slice G3 r.kids.length s3)
          have hot : ∀ d, From (w.heap.size + 3) wc.heap.size d → (put5z wc (w.heap.size + 2) (.string r.kind) (.string r.text) (.slice G1 r.marks.length s1) (.slice G2 r.attrs.length s2) (.slice G3 r.kids.length s3)).heap[d]? = wc.heap[d]? := fun d hd => put5z_other (by have := hd.1; omega)
          have hfr : ∀ d, From (w.heap.size + 3) wc.heap.size d → From w.heap.size (put5z wc (w.heap.size + 2) (.string r.kind) (.string r.text) (.slice G1 r.marks.length s1) (.slice G2 r.attrs.length s2) (.slice G3 r.kids.length s3)).heap.size d := fun d hd => ⟨by have := hd.1; omega, by rw [hsz]; exact hd.2⟩
          unfold put5z at q0 q1 q2 q3 q4
          refine bodyPost_ret (v := .tuple #[.agg #[.string r.kind, .string r.text, .slice G1 r.marks.length s1, .slice G2 r.attrs.length s2, .slice G3 r.kids.length s3], .int .i64 0]) (by simp [results, Try.results19, go_sem, q0, q1, q2, q3, q4]) rfl ?_
          exact ⟨G1, _, s1, G2, _, s2, G3, s3, r, 0, rfl, ⟨_, _, _, rfl, HX.out.1.keep hfr hot, HX.out.2.1.keep hfr hot, HX.out.2.2.keep hfr hot⟩, .inl ⟨by rw [HE.out]; simp, rfl, hr.symm⟩, HBE.out⟩
end Go.Proofs.Ytpkkncfnjgbemaa
