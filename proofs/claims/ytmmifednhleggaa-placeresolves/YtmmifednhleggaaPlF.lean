/-
  What Inner and Start answer.
-/
import Derived.Test.YtmmifednhleggaaPlE
namespace Go.Proofs.Ytmmifednhleggaa
open Go.RowKit Go.Sort

set_option maxHeartbeats 8000000 in
set_option maxRecDepth 100000 in
theorem startP_any (v vp : Value) (t : Tree) (p : List Int) (w : World) (h : Node w (Under w.heap.size) v t) (hp : Ints w (Under w.heap.size) vp p) (hpr : ∀ x ∈ p, -9223372036854775808 ≤ x ∧ x ≤ 9223372036854775807) (hw : weigh t ≤ 1000000) :
    Calls Try.prog 15 #[v, vp] w fun e w' => e = posE ((followB t p).map fun _ => (startB t p : Int)) ∧ Below w.heap.size w w' := by
  have HP := Lib.hid hp
  have HPR := Lib.hid hpr
  have HN := Lib.hid h
  obtain ⟨A1, n1, c1, A2, n2, c2, A3, c3, rfl⟩ := h.forms
  obtain ⟨Ap, cp, rfl, hpc⟩ := hp.form
  clear hp hpr h
  go_enter Try.func15, Try.ntmps15
  go_wp2_with fail
  generalize hW1 : w.alloc (.cells #[.string t.kind, .string t.text, .slice A1 n1 c1, .slice A2 n2 c2, .slice A3 t.kids.length c3] 31) = W1
  have HB0 : Hid (Below w.heap.size w W1) := Lib.hid (by subst hW1; exact (Below.refl _ _).alloc (Nat.le_refl _) _)
  have HC1 : Hid (W1.heap[w.heap.size]? = some (.cells #[.string t.kind, .string t.text, .slice A1 n1 c1, .slice A2 n2 c2, .slice A3 t.kids.length c3] 31) ∧ W1.heap.size = w.heap.size + 1) := Lib.hid (by
    subst hW1; exact ⟨heap_new _ _, by simp⟩)
  clear hW1
  have HPK : Hid (∀ W, Below w.heap.size w W → Ints W (Under W.heap.size) (.slice Ap p.length cp) p) := Lib.hid fun W hW => HP.out.keep (fun b hb => Nat.lt_of_lt_of_le hb hW.size) (fun b hb => hW.block b hb)
  refine (follow_any _ _ t p W1 ((HN.out.below HB0.out).more HB0.out.size) (HPK.out W1 HB0.out) HPR.out hw).mono ?_
  rintro e w2 ⟨B1, m1, d1, B2, m2, d2, B3, d3, u, b, rfl, hnu, hfol, hb2⟩
  have hz1 := HC1.out.2
  have hz2 := hb2.size
  have hn2 := (hb2.block w.heap.size (by omega)).trans HC1.out.1
  have HB2 := Lib.hid (belowNext HB0.out hb2)
  have HF := Lib.hid hfol
  obtain ⟨x0, x1, x2, x3, x4⟩ := cells5 hn2
  have hb3 : Below w2.heap.size w2 (w2.alloc (.cells #[.string u.kind, .string u.text, .slice B1 m1 d1, .slice B2 m2 d2, .slice B3 u.kids.length d3] 31)) := (Below.refl _ _).alloc (Nat.le_refl _) _
  have a0 := cell_kept x0 hb3
  have a1 := cell_kept x1 hb3
  have a2 := cell_kept x2 hb3
  have a3 := cell_kept x3 hb3
  have a4 := cell_kept x4 hb3
  have HB3 := Lib.hid (belowNext HB2.out hb3)
  clear hb2 hnu hfol HC1 hb3 hn2
  cases b with
  | false =>
    have HE : Hid (followB t p = none) := Lib.hid HF.out
    go_wp2
    exact bodyPost_ret (results_tmp2 rfl _ _ _) rfl ⟨by rw [HE.out]; rfl, HB2.out.alloc HB2.out.size _⟩
  | true =>
    have HE : Hid (followB t p = some u) := Lib.hid HF.out
    go_wp2_with fail
    refine (start_any _ _ t u p _ ((HN.out.below HB3.out).more HB3.out.size) (HPK.out _ HB3.out) (followB_some HE.out).1 hw).mono ?_
    rintro e w4 ⟨rfl, hb4⟩
    have HB4 := Lib.hid (belowNext HB3.out hb4)
    clear hb4 a0 a1 a2 a3 a4 x0 x1 x2 x3 x4
    go_wp2
    exact bodyPost_ret (results_tmp2 rfl _ _ _) rfl ⟨by rw [HE.out]; rfl, HB4.out⟩

/-- What Inner answers. -/
def InnPost (w : World) (t : Tree) (p : List Int) (e : Ending) (w' : World) : Prop :=
  ∃ A1 n1 c1 A2 n2 c2 A3 c3 u, ∃ n : Int, e = .returned (.tuple #[.agg #[.string u.kind, .string u.text, .slice A1 n1 c1, .slice A2 n2 c2, .slice A3 u.kids.length c3], .int .i64 n]) ∧
    Node w' (From w.heap.size w'.heap.size) (.agg #[.string u.kind, .string u.text, .slice A1 n1 c1, .slice A2 n2 c2, .slice A3 u.kids.length c3]) u ∧ ((followB t p = some u ∧ n = 0) ∨ (followB t p = none ∧ n = 9 ∧ u = .mk ⟨#[]⟩ ⟨#[]⟩ [] [] [])) ∧ Below w.heap.size w w'

set_option maxHeartbeats 8000000 in
set_option maxRecDepth 100000 in
theorem inner_any (v vp : Value) (t : Tree) (p : List Int) (w : World) (h : Node w (Under w.heap.size) v t) (hp : Ints w (Under w.heap.size) vp p) (hpr : ∀ x ∈ p, -9223372036854775808 ≤ x ∧ x ≤ 9223372036854775807) (hw : weigh t ≤ 1000000) :
    Calls Try.prog 13 #[v, vp] w (InnPost w t p) := by
  have HP := Lib.hid hp
  have HPR := Lib.hid hpr
  have HN := Lib.hid h
  obtain ⟨A1, n1, c1, A2, n2, c2, A3, c3, rfl⟩ := h.forms
  obtain ⟨Ap, cp, rfl, hpc⟩ := hp.form
  clear hp hpr h
  go_enter Try.func13, Try.ntmps13
  go_wp2_with fail
  generalize hW1 : (w.alloc (.cells #[.string t.kind, .string t.text, .slice A1 n1 c1, .slice A2 n2 c2, .slice A3 t.kids.length c3] 31)).alloc (.cells #[.string ⟨#[]⟩, .string ⟨#[]⟩, .slice none 0 0, .slice none 0 0, .slice none 0 0] 31) = W1
  have HB0 : Hid (Below w.heap.size w W1) := Lib.hid (by subst hW1; exact ((Below.refl _ _).alloc (Nat.le_refl _) _).alloc (by simp) _)
  have HC1 : Hid (W1.heap[w.heap.size + 1]? = some (.cells #[.string ⟨#[]⟩, .string ⟨#[]⟩, .slice none 0 0, .slice none 0 0, .slice none 0 0] 31) ∧ W1.heap.size = w.heap.size + 2) := Lib.hid (by
    subst hW1; exact ⟨heap_new' _ _ (by simp), by simp⟩)
  clear hW1
  have HPK : Hid (∀ W, Below w.heap.size w W → Ints W (Under W.heap.size) (.slice Ap p.length cp) p) := Lib.hid fun W hW => HP.out.keep (fun b hb => Nat.lt_of_lt_of_le hb hW.size) (fun b hb => hW.block b hb)
  refine (follow_any _ _ t p W1 ((HN.out.below HB0.out).more HB0.out.size) (HPK.out W1 HB0.out) HPR.out hw).mono ?_
  rintro e w2 ⟨B1, m1, d1, B2, m2, d2, B3, d3, u, b, rfl, hnu, hfol, hb2⟩
  have hz1 := HC1.out.2
  have hz2 := hb2.size
  have hn2 := (hb2.block (w.heap.size + 1) (by omega)).trans HC1.out.1
  have HB2 := Lib.hid (belowNext HB0.out hb2)
  have HF := Lib.hid hfol
  have HNU := Lib.hid hnu
  have hb3 : Below w2.heap.size w2 (w2.alloc (.cells #[.string u.kind, .string u.text, .slice B1 m1 d1, .slice B2 m2 d2, .slice B3 u.kids.length d3] 31)) := (Below.refl _ _).alloc (Nat.le_refl _) _
  have hr3 := (hb3.block (w.heap.size + 1) (by omega)).trans hn2
  have HB3 := Lib.hid (belowNext HB2.out hb3)
  have HR3 := Lib.hid hr3
  cases b with
  | false =>
    have HE : Hid (followB t p = none) := Lib.hid HF.out
    obtain ⟨a0, a1, a2, a3, a4⟩ := cells5 hr3
    have f0 := frozen_of_row _ _ 0 _ _ hr3
    have f1 := frozen_of_row _ _ 1 _ _ hr3
    have f2 := frozen_of_row _ _ 2 _ _ hr3
    have f3 := frozen_of_row _ _ 3 _ _ hr3
    have f4 := frozen_of_row _ _ 4 _ _ hr3
    clear hb2 hnu hfol HC1 hb3 hn2 hr3
    go_wp2
    obtain ⟨q0, q1, q2, q3, q4⟩ := cells5 (put5z_block (v0 := .string ⟨#[]⟩) (v1 := .string ⟨#[]⟩) (v2 := .slice none 0 0) (v3 := .slice none 0 0) (v4 := .slice none 0 0) HR3.out)
    have HBE := Lib.hid (put5z_below (v0 := .string ⟨#[]⟩) (v1 := .string ⟨#[]⟩) (v2 := .slice none 0 0) (v3 := .slice none 0 0) (v4 := .slice none 0 0) (Nat.le_succ w.heap.size) HB3.out)
    unfold put5z at q0 q1 q2 q3 q4
    refine bodyPost_ret (v := .tuple #[.agg #[.string ⟨#[]⟩, .string ⟨#[]⟩, .slice none 0 0, .slice none 0 0, .slice none 0 0], .int .i64 9]) (by simp [results, Try.results13, go_sem, q0, q1, q2, q3, q4]) rfl ?_
    exact ⟨none, 0, 0, none, 0, 0, none, 0, .mk ⟨#[]⟩ ⟨#[]⟩ [] [] [], 9, rfl, ⟨_, _, _, rfl, strs_nil, pairs_nil, kids_nil⟩, .inr ⟨HE.out, rfl, rfl⟩, HBE.out⟩
  | true =>
    have HE : Hid (followB t p = some u) := Lib.hid HF.out
    have hwu : weigh u ≤ 1000000 := Nat.le_trans (goB_weigh p t u (followB_some HE.out).1) hw
    have HNK : Hid (∀ W, Below w2.heap.size w2 W → Node W (Under W.heap.size) (.agg #[.string u.kind, .string u.text, .slice B1 m1 d1, .slice B2 m2 d2, .slice B3 u.kids.length d3]) u) := Lib.hid fun W hW => HNU.out.keep (fun b hb => Nat.lt_of_lt_of_le hb (Nat.le_trans hz2 hW.size)) (fun b hb => hW.block b (Nat.lt_of_lt_of_le hb hz2))
    have HBW := Lib.hid hb3
    clear hb2 hnu hfol HC1 hb3 hn2 hr3
    go_wp2_with fail
    refine (copy_any _ u _ (HNK.out _ HBW.out) hwu).mono ?_
    rintro e w4 ⟨v4, rfl, hn4, hb4⟩
    obtain ⟨E1, l1, e1, E2, l2, e2, E3, e3, rfl⟩ := hn4.forms
    have HB4 := Lib.hid (belowNext HB3.out hb4)
    have hz3 := HB3.out.size
    have hz4 := hb4.size
    have hw3 : (w2.alloc (.cells #[.string u.kind, .string u.text, .slice B1 m1 d1, .slice B2 m2 d2, .slice B3 u.kids.length d3] 31)).heap.size = w2.heap.size + 1 := by simp
    have hr4 := (hb4.block (w.heap.size + 1) (by omega)).trans HR3.out
    have HR4 := Lib.hid hr4
    have HN4 := Lib.hid hn4
    obtain ⟨a0, a1, a2, a3, a4⟩ := cells5 hr4
    have f0 := frozen_of_row _ _ 0 _ _ hr4
    have f1 := frozen_of_row _ _ 1 _ _ hr4
    have f2 := frozen_of_row _ _ 2 _ _ hr4
    have f3 := frozen_of_row _ _ 3 _ _ hr4
    have f4 := frozen_of_row _ _ 4 _ _ hr4
    clear hb4 hr4 hn4
    go_wp2
    obtain ⟨q0, q1, q2, q3, q4⟩ := cells5 (put5z_block (v0 := .string u.kind) (v1 := .string u.text) (v2 := .slice E1 l1 e1) (v3 := .slice E2 l2 e2) (v4 := .slice E3 u.kids.length e3) HR4.out)
    have HBE := Lib.hid (put5z_below (v0 := .string u.kind) (v1 := .string u.text) (v2 := .slice E1 l1 e1) (v3 := .slice E2 l2 e2) (v4 := .slice E3 u.kids.length e3) (Nat.le_succ w.heap.size) HB4.out)
    unfold put5z at q0 q1 q2 q3 q4
    refine bodyPost_ret (v := .tuple #[.agg #[.string u.kind, .string u.text, .slice E1 l1 e1, .slice E2 l2 e2, .slice E3 u.kids.length e3], .int .i64 0]) (by simp [results, Try.results13, go_sem, q0, q1, q2, q3, q4]) rfl ?_
    refine ⟨E1, l1, e1, E2, l2, e2, E3, e3, u, 0, rfl, HN4.out.keep (fun b hb => ⟨?_, ?_⟩) (fun b hb => put5z_other (g := w.heap.size + 1) ?_), .inl ⟨HE.out, rfl⟩, HBE.out⟩
    · have := hb.1; omega
    · have := hb.2
      have hs := put5z_size (w := w4) (g := w.heap.size + 1) (v0 := .string u.kind) (v1 := .string u.text) (v2 := .slice E1 l1 e1) (v3 := .slice E2 l2 e2) (v4 := .slice E3 u.kids.length e3)
      unfold put5z at hs
      rw [hs]; exact this
    · have := hb.1; omega
end Go.Proofs.Ytmmifednhleggaa
