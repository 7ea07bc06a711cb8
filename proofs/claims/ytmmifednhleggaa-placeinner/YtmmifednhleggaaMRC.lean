/-
  What isThere, Pos, Inner and Start answer.
  What Pos, Inner and Start answer.
  What Inner and Start answer.
-/
import Derived.Test.YtmmifednhleggaaPlC
import Derived.Test.YtmmifednhleggaaW23
namespace Go.Proofs.Ytmmifednhleggaa
open Go.RowKit Go.Sort

theorem there_out {K : List Tree} {j o : Int} (h : j < 0 ∨ (K.length : Int) < j) : thereB K j o = false := by
  unfold thereB
  rcases h with h | h <;> simp [h]
theorem there_in {K : List Tree} {j : Nat} {o : Int} (h : j ≤ K.length) : thereB K (j : Int) o = thereAt K[j]? o := by
  unfold thereB
  rw [decide_eq_false (by omega), decide_eq_false (by omega), Int.toNat_natCast]; rfl

set_option maxHeartbeats 4000000 in
theorem isThere_any (v : Value) (K : List Tree) (j o : Int) (w : World) (h : Kids w (Under w.heap.size) v K) (hw : weighAll K ≤ 1000000) (hj1 : -9223372036854775808 ≤ j) (hj2 : j ≤ 9223372036854775807) (ho1 : -9223372036854775808 ≤ o) (ho2 : o ≤ 9223372036854775807) :
    Calls Try.prog 25 #[v, .int .i64 j, .int .i64 o] w fun e w' => e = .returned (.bool (thereB K j o)) ∧ Below w.heap.size w w' := by
  have HK := Lib.hid h
  obtain ⟨A, c, rfl, hlc⟩ := h.form
  have hll := length_le_weigh K
  clear h
  go_enter Try.func25, Try.ntmps25
  by_cases h0 : j < 0
  · have HE := Lib.hid (there_out (K := K) (o := o) (.inl h0))
    go_wp2
    go_ret
    exact ⟨ret_bool HE.out.symm, Below.refl _ _⟩
  · by_cases h1 : (K.length : Int) < j
    · have HE := Lib.hid (there_out (K := K) (o := o) (.inr h1))
      go_wp2
      go_ret
      exact ⟨ret_bool HE.out.symm, Below.refl _ _⟩
    · obtain ⟨j, rfl⟩ : ∃ k : Nat, j = (k : Int) := ⟨j.toNat, by omega⟩
      have HE := Lib.hid (there_in (K := K) (j := j) (o := o) (by omega))
      by_cases h2 : j < K.length
      · have hx : K[j]? = some K[j] := List.getElem?_eq_getElem h2
        generalize K[j] = x at *
        have hwx := weigh_mem (List.mem_of_getElem? hx)
        obtain ⟨b, o', E1, l1, e1, E2, l2, e2, E3, e3, rfl, hub, r0, r1, r2, r3, r4, hnx⟩ := HK.out.kid hx
        have HX := Lib.hid hx
        have HNX := Lib.hid hnx
        have i1 : (j : Int) < (K.length : Int) := by omega
        have i2 : ¬ (K.length : Int) < (j : Int) := by omega
        clear hx hnx h1 h0
        go_wp2_with fail
        refine (pText_any _ _ _ _ _ _).mono ?_
        rintro e w1 ⟨rfl, hb1⟩
        have HB1 := Lib.hid hb1
        cases hT : isTxt x.kind with
        | false =>
          have HF : Hid (thereB K (j : Int) o = (o == 0)) := Lib.hid (by rw [HE.out, HX.out]; simp [thereAt, hT])
          clear hT
          go_wp2
          go_ret
          exact ⟨ret_bool HF.out.symm, HB1.out⟩
        | true =>
          have s0 := (hb1.cell (p := ⟨b, o' + j * 5, none⟩) hub).trans r0
          have s1 := (hb1.cell (p := ⟨b, o' + j * 5 + 1, none⟩) hub).trans r1
          have s2 := (hb1.cell (p := ⟨b, o' + j * 5 + 2, none⟩) hub).trans r2
          have s3 := (hb1.cell (p := ⟨b, o' + j * 5 + 3, none⟩) hub).trans r3
          have s4 := (hb1.cell (p := ⟨b, o' + j * 5 + 4, none⟩) hub).trans r4
          have HF : Hid (thereB K (j : Int) o = (decide (0 ≤ o) && decide (o < (sizeB x : Int)))) := Lib.hid (by rw [HE.out, HX.out]; simp [thereAt, hT])
          clear hT hb1 r0 r1 r2 r3 r4
          by_cases hq : o < 0
          · have HG : Hid (thereB K (j : Int) o = false) := Lib.hid (by rw [HF.out, decide_eq_false (by omega)]; rfl)
            have hq' : ¬ 0 ≤ o := by omega
            go_wp2
            go_ret
            exact ⟨ret_bool HG.out.symm, HB1.out⟩
          · have hq' : 0 ≤ o := by omega
            have HG : Hid (thereB K (j : Int) o = decide (o < (sizeB x : Int))) := Lib.hid (by rw [HF.out, decide_eq_true hq']; rfl)
            clear hq
            go_wp2_with fail
            refine (size_any _ x w1 ((HNX.out.below HB1.out).more HB1.out.size) (by omega)).mono ?_
            rintro e w2 ⟨rfl, hb2⟩
            have HB2 := Lib.hid (belowNext HB1.out hb2)
            clear hb2
            go_wp2
            all_goals
              go_ret
              exact ⟨ret_bool HG.out.symm, HB2.out⟩
      · have HX : Hid (K[j]? = none) := Lib.hid (by simp; omega)
        have HF : Hid (thereB K (j : Int) o = (o == 0)) := Lib.hid (by rw [HE.out, HX.out]; rfl)
        have i1 : ¬ (j : Int) < (K.length : Int) := by omega
        go_wp2
        go_ret
        exact ⟨ret_bool HF.out.symm, Below.refl _ _⟩
end Go.Proofs.Ytmmifednhleggaa

namespace Go.Proofs.Ytmmifednhleggaa
open Go.RowKit Go.Sort

def posE : Option Int → Ending
  | some n => .returned (.tuple #[.int .i64 n, .int .i64 0])
  | none => .returned (.tuple #[.int .i64 0, .int .i64 9])
theorem posB_none {t : Tree} {p : List Int} {j o : Int} (h : followB t p = none) : posB t p j o = none := by unfold posB; rw [h]; rfl
theorem posB_not {t u : Tree} {p : List Int} {j o : Int} (h : followB t p = some u) (hn : thereB u.kids j o = false) : posB t p j o = none := by unfold posB; rw [h]; simp [hn]
theorem posB_some {t u : Tree} {p : List Int} {j o : Int} (h : followB t p = some u) (hn : thereB u.kids j o = true) : posB t p j o = some ((startB t p : Int) + (totalB (u.kids.take j.toNat) : Int) + o) := by unfold posB; rw [h]; simp [hn]
theorem thereB_true {K : List Tree} {j o : Int} (h : thereB K j o = true) : 0 ≤ j ∧ j ≤ (K.length : Int) ∧ 0 ≤ o ∧ o ≤ (weighAll K : Int) := by
  unfold thereB at h
  simp only [Bool.and_eq_true, Bool.not_eq_true', Bool.or_eq_false_iff, decide_eq_false_iff_not] at h
  obtain ⟨⟨h1, h2⟩, h3⟩ := h
  refine ⟨by omega, by omega, ?_⟩
  unfold thereAt at h3
  cases hx : K[j.toNat]? with
  | none => rw [hx] at h3; simp at h3; omega
  | some x =>
    rw [hx] at h3
    simp only at h3
    have h4 := size_le_weigh x
    have h5 := weigh_mem (List.mem_of_getElem? hx)
    split at h3
    · simp at h3; omega
    · simp at h3; omega

theorem spot_box {w w1 : World} {u0 u1 u2 : Value} {T : TypeId} (hb : Below (w.alloc (.cells #[u0, u1, u2] T)).heap.size (w.alloc (.cells #[u0, u1, u2] T)) w1) :
    w1.cell? ⟨w.heap.size, 0, none⟩ = some u0 ∧ w1.cell? ⟨w.heap.size, 1, none⟩ = some u1 ∧ w1.cell? ⟨w.heap.size, 2, none⟩ = some u2 ∧ w.heap.size < w1.heap.size := by
  have h := (hb.block w.heap.size (by simp)).trans (heap_new w (.cells #[u0, u1, u2] T))
  have := hb.size
  simp at this
  simp [World.cell?, h]
  omega

set_option maxHeartbeats 8000000 in
set_option maxRecDepth 100000 in
theorem pos_any (v vp : Value) (t : Tree) (p : List Int) (j o : Int) (w : World) (h : Node w (Under w.heap.size) v t) (hp : Ints w (Under w.heap.size) vp p) (hpr : ∀ x ∈ p, -9223372036854775808 ≤ x ∧ x ≤ 9223372036854775807) (hw : weigh t ≤ 1000000)
    (hj1 : -9223372036854775808 ≤ j) (hj2 : j ≤ 9223372036854775807) (ho1 : -9223372036854775808 ≤ o) (ho2 : o ≤ 9223372036854775807) :
    Calls Try.prog 9 #[v, .agg #[vp, .int .i64 j, .int .i64 o]] w fun e w' => e = posE (posB t p j o) ∧ Below w.heap.size w w' := by
  have HP := Lib.hid hp
  have HPR := Lib.hid hpr
  have HN := Lib.hid h
  obtain ⟨A1, n1, c1, A2, n2, c2, A3, c3, rfl⟩ := h.forms
  obtain ⟨Ap, cp, rfl, hpc⟩ := hp.form
  have hsw := startB_weigh p t
  clear hp hpr h
  go_enter Try.func9, Try.ntmps9
  go_wp2_with fail
  generalize hW1 : (w.alloc (.cells #[.string t.kind, .string t.text, .slice A1 n1 c1, .slice A2 n2 c2, .slice A3 t.kids.length c3] 31)).alloc (.cells #[.slice Ap p.length cp, .int .i64 j, .int .i64 o] 25) = W1
  have HB0 : Hid (Below w.heap.size w W1) := Lib.hid (by subst hW1; exact ((Below.refl _ _).alloc (Nat.le_refl _) _).alloc (by simp) _)
  have HC1 : Hid (W1.heap[w.heap.size]? = some (.cells #[.string t.kind, .string t.text, .slice A1 n1 c1, .slice A2 n2 c2, .slice A3 t.kids.length c3] 31) ∧ W1.heap[w.heap.size + 1]? = some (.cells #[.slice Ap p.length cp, .int .i64 j, .int .i64 o] 25) ∧ W1.heap.size = w.heap.size + 2) := Lib.hid (by
    subst hW1; exact ⟨heap_old _ _ _ (heap_new _ _), heap_new' _ _ (by simp), by simp⟩)
  clear hW1
  refine (follow_any _ _ t p W1 ((HN.out.below HB0.out).more HB0.out.size) ((HP.out.keep (S' := Under w.heap.size) (fun _ h => h) (fun b hb => HB0.out.block b hb)).keep (S' := Under W1.heap.size) (fun b hb => Nat.lt_of_lt_of_le hb HB0.out.size) (fun _ _ => rfl)) HPR.out hw).mono ?_
  rintro e w2 ⟨B1, m1, d1, B2, m2, d2, B3, d3, u, b, rfl, hnu, hfol, hb2⟩
  have hz1 := HC1.out.2.2
  have hz2 := hb2.size
  obtain ⟨x0, x1, x2, x3, x4⟩ := cells5 ((hb2.block w.heap.size (by omega)).trans HC1.out.1)
  have hsp := (hb2.block (w.heap.size + 1) (by omega)).trans HC1.out.2.1
  have y0 : w2.cell? ⟨w.heap.size + 1, 0, none⟩ = some (.slice Ap p.length cp) := by simp [World.cell?, hsp]
  have y1 : w2.cell? ⟨w.heap.size + 1, 1, none⟩ = some (.int .i64 j) := by simp [World.cell?, hsp]
  have y2 : w2.cell? ⟨w.heap.size + 1, 2, none⟩ = some (.int .i64 o) := by simp [World.cell?, hsp]
  have HB2 := Lib.hid (belowNext HB0.out hb2)
  have HNU := Lib.hid hnu
  have HF := Lib.hid hfol
  clear hb2 hsp hnu hfol HC1
  cases b with
  | false =>
    have HE : Hid (posB t p j o = none) := Lib.hid (posB_none HF.out)
    go_wp2
    exact bodyPost_ret (results_tmp2 rfl _ _ _) rfl ⟨by rw [HE.out]; rfl, HB2.out.alloc HB2.out.size _⟩
  | true =>
    have HF2 : Hid (followB t p = some u) := Lib.hid HF.out
    have hwu : weigh u ≤ 1000000 := Nat.le_trans (goB_weigh p t u (followB_some HF2.out).1) hw
    have hwk := kids_weigh u
    have HX : Hid (∀ W, Below w2.heap.size w2 W → Kids W (Under W.heap.size) (.slice B3 u.kids.length d3) u.kids) := Lib.hid fun W hW => (HNU.out.kidsOf.keep (S' := Under W.heap.size) (fun b hb => by unfold Under at hb ⊢; have := hW.size; omega) (fun b hb => hW.block b (by unfold Under at hb; omega)))
    have hb3 : Below w2.heap.size w2 (w2.alloc (.cells #[.string u.kind, .string u.text, .slice B1 m1 d1, .slice B2 m2 d2, .slice B3 u.kids.length d3] 31)) := (Below.refl _ _).alloc (Nat.le_refl _) _
    have hc3 : (w2.alloc (.cells #[.string u.kind, .string u.text, .slice B1 m1 d1, .slice B2 m2 d2, .slice B3 u.kids.length d3] 31)).heap[w2.heap.size]? = some (.cells #[.string u.kind, .string u.text, .slice B1 m1 d1, .slice B2 m2 d2, .slice B3 u.kids.length d3] 31) := heap_new _ _
    have a0 := cell_kept y0 hb3
    have a1 := cell_kept y1 hb3
    have a2 := cell_kept y2 hb3
    have HB3 := Lib.hid hb3
    have HC3 := Lib.hid hc3
    clear hb3 hc3
    go_wp2_with fail
    have hb3 := HB3.out
    have hc3 := HC3.out
    clear HB3 HC3 a0 a1 a2
    generalize w2.alloc (.cells #[.string u.kind, .string u.text, .slice B1 m1 d1, .slice B2 m2 d2, .slice B3 u.kids.length d3] 31) = w3 at *
    refine (isThere_any _ u.kids j o w3 (HX.out w3 hb3) (by omega) hj1 hj2 ho1 ho2).mono ?_
    rintro e w4 ⟨rfl, hb4⟩
    have HB4 := Lib.hid (belowNext hb3 hb4)
    have hb24 := HB4.out
    have p0 := cell_kept x0 hb24
    have p1 := cell_kept x1 hb24
    have p2 := cell_kept x2 hb24
    have p3 := cell_kept x3 hb24
    have p4 := cell_kept x4 hb24
    have q0 := cell_kept y0 hb24
    have q1 := cell_kept y1 hb24
    have q2 := cell_kept y2 hb24
    obtain ⟨r0, r1, r2, r3, r4⟩ := cells5 ((hb4.block w2.heap.size (by have := hb3.size; have := (Array.getElem?_eq_some_iff.1 hc3).1; omega)).trans hc3)
    clear x0 x1 x2 x3 x4 y0 y1 y2 hb3 hb4 hc3
    cases hth : thereB u.kids j o with
    | false =>
      have HE : Hid (posB t p j o = none) := Lib.hid (posB_not HF2.out hth)
      clear hth
      go_wp2
      exact bodyPost_ret (results_tmp2 rfl _ _ _) rfl ⟨by rw [HE.out]; rfl, belowNext HB2.out HB4.out⟩
    | true =>
      have HE := Lib.hid (posB_some HF2.out hth)
      obtain ⟨t1, t2, t3, t4⟩ := thereB_true hth
      obtain ⟨j, rfl⟩ : ∃ k : Nat, j = (k : Int) := ⟨j.toNat, by omega⟩
      have HB24 := Lib.hid (belowNext HB2.out HB4.out)
      have hlen := HNU.out.kidsOf.len
      have hjk : j ≤ u.kids.length := by omega
      have i1 : j ≤ d3 := by omega
      have HS := Lib.hid (regrown_any (w := w4) (f := 26) (args := #[.agg #[.string t.kind, .string t.text, .slice A1 n1 c1, .slice A2 n2 c2, .slice A3 t.kids.length c3], .slice Ap p.length cp]) (v := .int .i64 (startB t p)) fun W hW =>
        start_any _ _ t u p W (HN.out.keep (fun b hb => Nat.lt_of_lt_of_le hb (Nat.le_trans HB24.out.size hW.size)) (fun b hb => (hW.block b (Nat.lt_of_lt_of_le hb HB24.out.size)).trans (HB24.out.block b hb))) (HP.out.keep (fun b hb => Nat.lt_of_lt_of_le hb (Nat.le_trans HB24.out.size hW.size)) (fun b hb => (hW.block b (Nat.lt_of_lt_of_le hb HB24.out.size)).trans (HB24.out.block b hb))) (followB_some HF2.out).1 hw)
      have HTT := Lib.hid (regrown_any (w := w4) (f := 27) (args := #[.slice B3 j d3]) (v := .int .i64 (totalB (u.kids.take j))) fun W hW =>
        total_any _ (u.kids.take j) W ((HX.out W (HB4.out.trans (hW.mono HB4.out.size))).upto hjk) (by have := weighAll_take u.kids j; omega))
      have htt := Nat.le_trans (total_le_weigh (u.kids.take j)) (weighAll_take u.kids j)
      rw [Int.toNat_natCast] at HE
      generalize totalB (u.kids.take j) = tt at *
      generalize startB t p = ss at *
      have p0' := cell_regrown p0
      have p1' := cell_regrown p1
      have p2' := cell_regrown p2
      have p3' := cell_regrown p3
      have p4' := cell_regrown p4
      have q0' := cell_regrown q0
      have q1' := cell_regrown q1
      have q2' := cell_regrown q2
      have r4' := cell_regrown r4
      clear p0 p1 p2 p3 p4 q0 q1 q2 r0 r1 r2 r3 r4 hth hlen
      go_wp2_with fail
      refine wp_region_quiet_below (by kernel_rfl) (by kernel_rfl) ?_
      repeat (first | go_big_quiet_step (first | exact HS.out _ _ | exact HTT.out _ _) | quiet_step (first | exact HS.out _ _ | exact HTT.out _ _))
      refine wpQuiet_nil ?_
      intro _ hw'
      obtain ⟨⟨dq, osq⟩, hw''⟩ := hw'
      subst hw''
      have HQ := Lib.hid (below_regrown w4 dq osq)
      clear p0' p1' p2' p3' p4' q0' q1' q2' r4'
      generalize grow (redrawn w4 dq) osq = wq at *
      go_wp2
      exact bodyPost_ret (results_tmp2 rfl _ _ _) rfl ⟨by rw [HE.out]; rfl, belowNext HB24.out HQ.out⟩
end Go.Proofs.Ytmmifednhleggaa

namespace Go.Proofs.Ytmmifednhleggaa
open Go.RowKit Go.Sort

set_option maxHeartbeats 8000000 in
set_option maxRecDepth 100000 in
theorem startP_any (v vp : Value) (t : Tree) (p : List Int) (w : World) (h : Node w (Under w.heap.size) v t) (hp : Ints w (Under w.heap.size) vp p) (hpr : ∀ x ∈ p, -9223372036854775808 ≤ x ∧ x ≤ 9223372036854775807) (hw : weigh t ≤ 1000000) :
    Calls Try.prog 15 #[v, vp] w fun e w' => e = posE ((followB t p).map fun _ => (startB t p : Int)) ∧ Below w.heap.size w w' := by
  have HP := Lib.hid hp
  have HPR := Lib.hid hpr
  have HN := Lib.hid h
  obtain ⟨A1, n1, c1, A2, n2, c2, A3, c3, rfl⟩ := h.forms
  obtain ⟨Ap, cp, rfl, hpc⟩ := hp.form
  clear hp hpr h
  go_enter Try.func15, Try.ntmps15
  go_wp2_with fail
  generalize hW1 : w.alloc (.cells #[.string t.kind, .string t.text, .slice A1 n1 c1, .slice A2 n2 c2, .slice A3 t.kids.length c3] 31) = W1
  have HB0 : Hid (Below w.heap.size w W1) := Lib.hid (by subst hW1; exact (Below.refl _ _).alloc (Nat.le_refl _) _)
  have HC1 : Hid (W1.heap[w.heap.size]? = some (.cells #[.string t.kind, .string t.text, .slice A1 n1 c1, .slice A2 n2 c2, .slice A3 t.kids.length c3] 31) ∧ W1.heap.size = w.heap.size + 1) := Lib.hid (by
    subst hW1; exact ⟨heap_new _ _, by simp⟩)
  clear hW1
  have HPK : Hid (∀ W, Below w.heap.size w W → Ints W (Under W.heap.size) (.slice Ap p.length cp) p) := Lib.hid fun W hW => HP.out.keep (fun b hb => Nat.lt_of_lt_of_le hb hW.size) (fun b hb => hW.block b hb)
  refine (follow_any _ _ t p W1 ((HN.out.below HB0.out).more HB0.out.size) (HPK.out W1 HB0.out) HPR.out hw).mono ?_
  rintro e w2 ⟨B1, m1, d1, B2, m2, d2, B3, d3, u, b, rfl, hnu, hfol, hb2⟩
  have hz1 := HC1.out.2
  have hz2 := hb2.size
  have hn2 := (hb2.block w.heap.size (by omega)).trans HC1.out.1
  have HB2 := Lib.hid (belowNext HB0.out hb2)
  have HF := Lib.hid hfol
  obtain ⟨x0, x1, x2, x3, x4⟩ := cells5 hn2
  have hb3 : Below w2.heap.size w2 (w2.alloc (.cells #[.string u.kind, .string u.text, .slice B1 m1 d1, .slice B2 m2 d2, .slice B3 u.kids.length d3] 31)) := (Below.refl _ _).alloc (Nat.le_refl _) _
  have a0 := cell_kept x0 hb3
  have a1 := cell_kept x1 hb3
  have a2 := cell_kept x2 hb3
  have a3 := cell_kept x3 hb3
  have a4 := cell_kept x4 hb3
  have HB3 := Lib.hid (belowNext HB2.out hb3)
  clear hb2 hnu hfol HC1 hb3 hn2
  cases b with
  | false =>
    have HE : Hid (followB t p = none) := Lib.hid HF.out
    go_wp2
    exact bodyPost_ret (results_tmp2 rfl _ _ _) rfl ⟨by rw [HE.out]; rfl, HB2.out.alloc HB2.out.size _⟩
  | true =>
    have HE : Hid (followB t p = some u) := Lib.hid HF.out
    go_wp2_with fail
    refine (start_any _ _ t u p _ ((HN.out.below HB3.out).more HB3.out.size) (HPK.out _ HB3.out) (followB_some HE.out).1 hw).mono ?_
    rintro e w4 ⟨rfl, hb4⟩
    have HB4 := Lib.hid (belowNext HB3.out hb4)
    clear hb4 a0 a1 a2 a3 a4 x0 x1 x2 x3 x4
    go_wp2
    exact bodyPost_ret (results_tmp2 rfl _ _ _) rfl ⟨by rw [HE.out]; rfl, HB4.out⟩

/-- What Inner answers. -/
def InnPost (w : World) (t : Tree) (p : List Int) (e : Ending) (w' : World) : Prop :=
  ∃ A1 n1 c1 A2 n2 c2 A3 c3 u, ∃ n : Int, e = .returned (.tuple #[.agg #[.string u.kind, .string u.text, .slice A1 n1 c1, .slice A2 n2 c2, .slice A3 u.kids.length c3], .int .i64 n]) ∧
    Node w' (From w.heap.size w'.heap.size) (.agg #[.string u.kind, .string u.text, .slice A1 n1 c1, .slice A2 n2 c2, .slice A3 u.kids.length c3]) u ∧ ((followB t p = some u ∧ n = 0) ∨ (followB t p = none ∧ n = 9 ∧ u = .mk ⟨#[]⟩ ⟨#[]⟩ [] [] [])) ∧ Below w.heap.size w w'

set_option maxHeartbeats 8000000 in
set_option maxRecDepth 100000 in
theorem inner_any (v vp : Value) (t : Tree) (p : List Int) (w : World) (h : Node w (Under w.heap.size) v t) (hp : Ints w (Under w.heap.size) vp p) (hpr : ∀ x ∈ p, -9223372036854775808 ≤ x ∧ x ≤ 9223372036854775807) (hw : weigh t ≤ 1000000) :
    Calls Try.prog 13 #[v, vp] w (InnPost w t p) := by
  have HP := Lib.hid hp
  have HPR := Lib.hid hpr
  have HN := Lib.hid h
  obtain ⟨A1, n1, c1, A2, n2, c2, A3, c3, rfl⟩ := h.forms
  obtain ⟨Ap, cp, rfl, hpc⟩ := hp.form
  clear hp hpr h
  go_enter Try.func13, Try.ntmps13
  go_wp2_with fail
  generalize hW1 : (w.alloc (.cells #[.string t.kind, .string t.text, .slice A1 n1 c1, .slice A2 n2 c2, .slice A3 t.kids.length c3] 31)).alloc (.cells #[.string ⟨#[]⟩, .string ⟨#[]⟩, .slice none 0 0, .slice none 0 0, .slice none 0 0] 31) = W1
  have HB0 : Hid (Below w.heap.size w W1) := Lib.hid (by subst hW1; exact ((Below.refl _ _).alloc (Nat.le_refl _) _).alloc (by simp) _)
  have HC1 : Hid (W1.heap[w.heap.size + 1]? = some (.cells #[.string ⟨#[]⟩, .string ⟨#[]⟩, .slice none 0 0, .slice none 0 0, .slice none 0 0] 31) ∧ W1.heap.size = w.heap.size + 2) := Lib.hid (by
    subst hW1; exact ⟨heap_new' _ _ (by simp), by simp⟩)
  clear hW1
  have HPK : Hid (∀ W, Below w.heap.size w W → Ints W (Under W.heap.size) (.slice Ap p.length cp) p) := Lib.hid fun W hW => HP.out.keep (fun b hb => Nat.lt_of_lt_of_le hb hW.size) (fun b hb => hW.block b hb)
  refine (follow_any _ _ t p W1 ((HN.out.below HB0.out).more HB0.out.size) (HPK.out W1 HB0.out) HPR.out hw).mono ?_
  rintro e w2 ⟨B1, m1, d1, B2, m2, d2, B3, d3, u, b, rfl, hnu, hfol, hb2⟩
  have hz1 := HC1.out.2
  have hz2 := hb2.size
  have hn2 := (hb2.block (w.heap.size + 1) (by omega)).trans HC1.out.1
  have HB2 := Lib.hid (belowNext HB0.out hb2)
  have HF := Lib.hid hfol
  have HNU := Lib.hid hnu
  have hb3 : Below w2.heap.size w2 (w2.alloc (.cells #[.string u.kind, .string u.text, .slice B1 m1 d1, .slice B2 m2 d2, .slice B3 u.kids.length d3] 31)) := (Below.refl _ _).alloc (Nat.le_refl _) _
  have hr3 := (hb3.block (w.heap.size + 1) (by omega)).trans hn2
  have HB3 := Lib.hid (belowNext HB2.out hb3)
  have HR3 := Lib.hid hr3
  cases b with
  | false =>
    have HE : Hid (followB t p = none) := Lib.hid HF.out
    obtain ⟨a0, a1, a2, a3, a4⟩ := cells5 hr3
    have f0 := frozen_of_row _ _ 0 _ _ hr3
    have f1 := frozen_of_row _ _ 1 _ _ hr3
    have f2 := frozen_of_row _ _ 2 _ _ hr3
    have f3 := frozen_of_row _ _ 3 _ _ hr3
    have f4 := frozen_of_row _ _ 4 _ _ hr3
    clear hb2 hnu hfol HC1 hb3 hn2 hr3
    go_wp2
    obtain ⟨q0, q1, q2, q3, q4⟩ := cells5 (put5z_block (v0 := .string ⟨#[]⟩) (v1 := .string ⟨#[]⟩) (v2 := .slice none 0 0) (v3 := .slice none 0 0) (v4 := .slice none 0 0) HR3.out)
    have HBE := Lib.hid (put5z_below (v0 := .string ⟨#[]⟩) (v1 := .string ⟨#[]⟩) (v2 := .slice none 0 0) (v3 := .slice none 0 0) (v4 := .slice none 0 0) (Nat.le_succ w.heap.size) HB3.out)
    unfold put5z at q0 q1 q2 q3 q4
    refine bodyPost_ret (v := .tuple #[.agg #[.string ⟨#[]⟩, .string ⟨#[]⟩, .slice none 0 0, .slice none 0 0, .slice none 0 0], .int .i64 9]) (by simp [results, Try.results13, go_sem, q0, q1, q2, q3, q4]) rfl ?_
    exact ⟨none, 0, 0, none, 0, 0, none, 0, .mk ⟨#[]⟩ ⟨#[]⟩ [] [] [], 9, rfl, ⟨_, _, _, rfl, strs_nil, pairs_nil, kids_nil⟩, .inr ⟨HE.out, rfl, rfl⟩, HBE.out⟩
  | true =>
    have HE : Hid (followB t p = some u) := Lib.hid HF.out
    have hwu : weigh u ≤ 1000000 := Nat.le_trans (goB_weigh p t u (followB_some HE.out).1) hw
    have HNK : Hid (∀ W, Below w2.heap.size w2 W → Node W (Under W.heap.size) (.agg #[.string u.kind, .string u.text, .slice B1 m1 d1, .slice B2 m2 d2, .slice B3 u.kids.length d3]) u) := Lib.hid fun W hW => HNU.out.keep (fun b hb => Nat.lt_of_lt_of_le hb (Nat.le_trans hz2 hW.size)) (fun b hb => hW.block b (Nat.lt_of_lt_of_le hb hz2))
    have HBW := Lib.hid hb3
    clear hb2 hnu hfol HC1 hb3 hn2 hr3
    go_wp2_with fail
    refine (copy_any _ u _ (HNK.out _ HBW.out) hwu).mono ?_
    rintro e w4 ⟨v4, rfl, hn4, hb4⟩
    obtain ⟨E1, l1, e1, E2, l2, e2, E3, e3, rfl⟩ := hn4.forms
    have HB4 := Lib.hid (belowNext HB3.out hb4)
    have hz3 := HB3.out.size
    have hz4 := hb4.size
    have hw3 : (w2.alloc (.cells #[.string u.kind, .string u.text, .slice B1 m1 d1, .slice B2 m2 d2, .slice B3 u.kids.length d3] 31)).heap.size = w2.heap.size + 1 := by simp
    have hr4 := (hb4.block (w.heap.size + 1) (by omega)).trans HR3.out
    have HR4 := Lib.hid hr4
    have HN4 := Lib.hid hn4
    obtain ⟨a0, a1, a2, a3, a4⟩ := cells5 hr4
    have f0 := frozen_of_row _ _ 0 _ _ hr4
    have f1 := frozen_of_row _ _ 1 _ _ hr4
    have f2 := frozen_of_row _ _ 2 _ _ hr4
    have f3 := frozen_of_row _ _ 3 _ _ hr4
    have f4 := frozen_of_row _ _ 4 _ _ hr4
    clear hb4 hr4 hn4
    go_wp2
    obtain ⟨q0, q1, q2, q3, q4⟩ := cells5 (put5z_block (v0 := .string u.kind) (v1 := .string u.text) (v2 := .slice E1 l1 e1) (v3 := .slice E2 l2 e2) (v4 := .slice E3 u.kids.length e3) HR4.out)
    have HBE := Lib.hid (put5z_below (v0 := .string u.kind) (v1 := .string u.text) (v2 := .slice E1 l1 e1) (v3 := .slice E2 l2 e2) (v4 := .slice E3 u.kids.length e3) (Nat.le_succ w.heap.size) HB4.out)
    unfold put5z at q0 q1 q2 q3 q4
    refine bodyPost_ret (v := .tuple #[.agg #[.string u.kind, .string u.text, .slice E1 l1 e1, .slice E2 l2 e2, .slice E3 u.kids.length e3], .int .i64 0]) (by simp [results, Try.results13, go_sem, q0, q1, q2, q3, q4]) rfl ?_
    refine ⟨E1, l1, e1, E2, l2, e2, E3, e3, u, 0, rfl, HN4.out.keep (fun b hb => ⟨?_, ?_⟩) (fun b hb => put5z_other (g := w.heap.size + 1) ?_), .inl ⟨HE.out, rfl⟩, HBE.out⟩
    · have := hb.1; omega
    · have := hb.2
      have hs := put5z_size (w := w4) (g := w.heap.size + 1) (v0 := .string u.kind) (v1 := .string u.text) (v2 := .slice E1 l1 e1) (v3 := .slice E2 l2 e2) (v4 := .slice E3 u.kids.length e3)
      unfold put5z at hs
      rw [hs]; exact this
    · have := hb.1; omega
end Go.Proofs.Ytmmifednhleggaa
