/-
  What the document's Inner answers.
  What the document's Start answers.
  A tree with another node where a path leads, as plain data, and in memory that is parted.
  What With answers: the tree with another node where a path leads, or that there is none.
  What the document's With answers.
-/
import Derived.Test.YtmmifednhleggaaPlB
import Derived.Test.YtmmifednhleggaaRfA
import Derived.Test.YtmmifednhleggaaPlC
import Derived.Test.YtmmifednhleggaaMRC
import Derived.Test.YtmmifednhleggaaPlA
import Derived.Test.YtmmifednhleggaaPar
import Derived.Test.YtmmifednhleggaaW8
import Derived.Test.YtmmifednhleggaaW23
import Derived.Test.YtmmifednhleggaaW13a
import Derived.Deep.DrawnRows
namespace Go.Proofs.Ytmmifednhleggaa
open Go.RowKit Go.Sort

/-- What the document's Inner answers. -/
def RInnPost (w : World) (t : Tree) (p : List Int) (e : Ending) (w' : World) : Prop :=
  ∃ A1 n1 c1 A2 n2 c2 A3 c3 u, ∃ n : Int, e = .returned (.tuple #[.agg #[.string u.kind, .string u.text, .slice A1 n1 c1, .slice A2 n2 c2, .slice A3 u.kids.length c3], .int .i64 n]) ∧
    Node w' (Under w.heap.size) (.agg #[.string u.kind, .string u.text, .slice A1 n1 c1, .slice A2 n2 c2, .slice A3 u.kids.length c3]) u ∧ ((followB t p = some u ∧ n = 0) ∨ (followB t p = none ∧ n = 9 ∧ u = .mk ⟨#[]⟩ ⟨#[]⟩ [] [] [])) ∧ Below w.heap.size w w'

set_option maxHeartbeats 4000000 in
theorem rinner_any (v vp : Value) (t : Tree) (p : List Int) (w : World) (h : Node w (Under w.heap.size) v t) (hp : Ints w (Under w.heap.size) vp p) (hpr : ∀ x ∈ p, -9223372036854775808 ≤ x ∧ x ≤ 9223372036854775807) (hw : weigh t ≤ 1000000) :
    Calls Try.prog 14 #[v, vp] w (RInnPost w t p) := by
  have HP := Lib.hid hp
  have HPR := Lib.hid hpr
  have HN := Lib.hid h
  obtain ⟨A1, n1, c1, A2, n2, c2, A3, c3, rfl⟩ := h.forms
  obtain ⟨Ap, cp, rfl, hpc⟩ := hp.form
  have hpm := hp.len.2.2
  unfold maxLen at hpm
  clear hp hpr h
  go_enter Try.func14, Try.ntmps14
  go_wp2
  go_loopw [6] (fun i wr => ∃ (k : Nat) (u : Tree), k ≤ p.length ∧ i = .int .i64 k ∧ Below w.heap.size w wr ∧ w.heap.size + 2 ≤ wr.heap.size ∧ weigh u ≤ 1000000 ∧ Hid (goB u (p.drop k) = goB t p) ∧ Hid (Box w wr w.heap.size u) ∧ Hid (wr.heap[w.heap.size + 1]? = some (.cells #[.string ⟨#[]⟩, .string ⟨#[]⟩, .slice none 0 0, .slice none 0 0, .slice none 0 0] 31))) (fun i _ => p.length - (intOf i).toNat)
  case atStart =>
    refine ⟨0, t, by omega, rfl, ((Below.refl _ _).alloc (Nat.le_refl _) _).alloc (by simp) _, by simp, hw, Lib.hid rfl, Lib.hid ⟨_, _, _, _, _, _, _, _, heap_old _ _ _ (heap_new _ _), HN.out⟩, Lib.hid (heap_new' _ _ (by simp))⟩
  case round =>
    obtain ⟨k, u, hk, rfl, hb, hz, hwu, hgo, hbox, hres⟩ := hrel
    obtain ⟨B1, m1, d1, B2, m2, d2, B3, d3, hbl, hnu⟩ := hbox.out
    obtain ⟨x0, x1, x2, x3, x4⟩ := cells5 hbl
    have HNU := Lib.hid hnu
    have HB := Lib.hid hb
    have HBL := Lib.hid hbl
    have f0 := frozen_of_row _ _ 0 _ _ hbl
    have f1 := frozen_of_row _ _ 1 _ _ hbl
    have f2 := frozen_of_row _ _ 2 _ _ hbl
    have f3 := frozen_of_row _ _ 3 _ _ hbl
    have f4 := frozen_of_row _ _ 4 _ _ hbl
    have g0 := frozen_of_row _ _ 0 _ _ hres.out
    have g1 := frozen_of_row _ _ 1 _ _ hres.out
    have g2 := frozen_of_row _ _ 2 _ _ hres.out
    have g3 := frozen_of_row _ _ 3 _ _ hres.out
    have g4 := frozen_of_row _ _ 4 _ _ hres.out
    obtain ⟨y0, y1, y2, y3, y4⟩ := cells5 hres.out
    have hl2 : u.kids.length ≤ 1000000 := by have := length_le_weigh u.kids; have := kids_weigh u; omega
    clear hbl hnu hb hbox
    by_cases hlt : k < p.length
    · have hpx : p[k]? = some p[k] := List.getElem?_eq_getElem hlt
      obtain ⟨hx1, hx2⟩ := HPR.out p[k] (List.getElem_mem hlt)
      generalize p[k] = x at *
      obtain ⟨bp, op, rfl, hup, hcx⟩ := HP.out.get hpx
      have z0 := (HB.out.cell (p := ⟨bp, op + k, none⟩) hup).trans hcx
      have HUP := Lib.hid hup
      have HCX := Lib.hid hcx
      have HD := Lib.hid (drop_cons hpx)
      have HGN : Hid (kidAt u x = none → followB t p = none) := Lib.hid fun hn => by
        unfold followB; rw [← hgo.out, HD.out, goB, hn]; rfl
      clear hcx hpx hup
      by_cases hx0 : x < 0
      · have HK := Lib.hid (HGN.out (by unfold kidAt; simp [hx0]))
        go_wp2
        go_quiet (fail)
        have hn1 : (wr.drewN nq).heap[w.heap.size]? = _ := HBL.out
        have hr1 : (wr.drewN nq).heap[w.heap.size + 1]? = _ := hres.out
        have HB1 : Hid (Below w.heap.size w (wr.drewN nq)) := Lib.hid ⟨HB.out.os, HB.out.tape, HB.out.output, HB.out.size, HB.out.block⟩
        have hz1 : w.heap.size + 2 ≤ (wr.drewN nq).heap.size := hz
        clear x0 x1 x2 x3 x4 y0 y1 y2 y3 y4 f0 f1 f2 f3 f4 g0 g1 g2 g3 g4 z0
        generalize wr.drewN nq = w1 at *
        have HN1 := Lib.hid hn1
        have HR1 := Lib.hid hr1
        obtain ⟨x0, x1, x2, x3, x4⟩ := cells5 hn1
        obtain ⟨y0, y1, y2, y3, y4⟩ := cells5 hr1
        have f0 := frozen_of_row _ _ 0 _ _ hn1
        have f1 := frozen_of_row _ _ 1 _ _ hn1
        have f2 := frozen_of_row _ _ 2 _ _ hn1
        have f3 := frozen_of_row _ _ 3 _ _ hn1
        have f4 := frozen_of_row _ _ 4 _ _ hn1
        have g0 := frozen_of_row _ _ 0 _ _ hr1
        have g1 := frozen_of_row _ _ 1 _ _ hr1
        have g2 := frozen_of_row _ _ 2 _ _ hr1
        have g3 := frozen_of_row _ _ 3 _ _ hr1
        have g4 := frozen_of_row _ _ 4 _ _ hr1
        clear hn1 hr1
        go_wp2
        obtain ⟨q0, q1, q2, q3, q4⟩ := cells5 (put5z_block (v0 := .string ⟨#[]⟩) (v1 := .string ⟨#[]⟩) (v2 := .slice none 0 0) (v3 := .slice none 0 0) (v4 := .slice none 0 0) HR1.out)
        have HBE := Lib.hid (put5z_below (v0 := .string ⟨#[]⟩) (v1 := .string ⟨#[]⟩) (v2 := .slice none 0 0) (v3 := .slice none 0 0) (v4 := .slice none 0 0) (Nat.le_succ w.heap.size) HB1.out)
        unfold put5z at q0 q1 q2 q3 q4
        refine bodyPost_ret (v := .tuple #[.agg #[.string ⟨#[]⟩, .string ⟨#[]⟩, .slice none 0 0, .slice none 0 0, .slice none 0 0], .int .i64 9]) (by simp [results, Try.results14, go_sem, q0, q1, q2, q3, q4]) rfl ?_
        exact ⟨none, 0, 0, none, 0, 0, none, 0, .mk ⟨#[]⟩ ⟨#[]⟩ [] [] [], 9, rfl, ⟨_, _, _, rfl, strs_nil, pairs_nil, kids_nil⟩, .inr ⟨HK.out, rfl, rfl⟩, HBE.out⟩
      · obtain ⟨j, rfl⟩ : ∃ j : Nat, x = (j : Int) := ⟨x.toNat, by omega⟩
        clear hx0 hx1
        by_cases hj : j < u.kids.length
        · have i1 : ¬ (u.kids.length : Int) ≤ (j : Int) := by omega
          cases hT : isTxt u.kind with
          | true =>
            have HK := Lib.hid (HGN.out (by unfold kidAt; simp [hT]))
            have hkk : (u.kind.toList == [116, 101, 120, 116]) = true := hT
            clear hT
            go_wp2
            go_quiet (fail)
            have hn1 : (wr.drewN nq).heap[w.heap.size]? = _ := HBL.out
            have hr1 : (wr.drewN nq).heap[w.heap.size + 1]? = _ := hres.out
            have HB1 : Hid (Below w.heap.size w (wr.drewN nq)) := Lib.hid ⟨HB.out.os, HB.out.tape, HB.out.output, HB.out.size, HB.out.block⟩
            have hz1 : w.heap.size + 2 ≤ (wr.drewN nq).heap.size := hz
            clear x0 x1 x2 x3 x4 y0 y1 y2 y3 y4 f0 f1 f2 f3 f4 g0 g1 g2 g3 g4 z0
            generalize wr.drewN nq = w1 at *
            have HN1 := Lib.hid hn1
            have HR1 := Lib.hid hr1
            obtain ⟨x0, x1, x2, x3, x4⟩ := cells5 hn1
            obtain ⟨y0, y1, y2, y3, y4⟩ := cells5 hr1
            have f0 := frozen_of_row _ _ 0 _ _ hn1
            have f1 := frozen_of_row _ _ 1 _ _ hn1
            have f2 := frozen_of_row _ _ 2 _ _ hn1
            have f3 := frozen_of_row _ _ 3 _ _ hn1
            have f4 := frozen_of_row _ _ 4 _ _ hn1
            have g0 := frozen_of_row _ _ 0 _ _ hr1
            have g1 := frozen_of_row _ _ 1 _ _ hr1
            have g2 := frozen_of_row _ _ 2 _ _ hr1
            have g3 := frozen_of_row _ _ 3 _ _ hr1
            have g4 := frozen_of_row _ _ 4 _ _ hr1
            clear hn1 hr1
            go_wp2
            obtain ⟨q0, q1, q2, q3, q4⟩ := cells5 (put5z_block (v0 := .string ⟨#[]⟩) (v1 := .string ⟨#[]⟩) (v2 := .slice none 0 0) (v3 := .slice none 0 0) (v4 := .slice none 0 0) HR1.out)
            have HBE := Lib.hid (put5z_below (v0 := .string ⟨#[]⟩) (v1 := .string ⟨#[]⟩) (v2 := .slice none 0 0) (v3 := .slice none 0 0) (v4 := .slice none 0 0) (Nat.le_succ w.heap.size) HB1.out)
            unfold put5z at q0 q1 q2 q3 q4
            refine bodyPost_ret (v := .tuple #[.agg #[.string ⟨#[]⟩, .string ⟨#[]⟩, .slice none 0 0, .slice none 0 0, .slice none 0 0], .int .i64 9]) (by simp [results, Try.results14, go_sem, q0, q1, q2, q3, q4]) rfl ?_
            exact ⟨none, 0, 0, none, 0, 0, none, 0, .mk ⟨#[]⟩ ⟨#[]⟩ [] [] [], 9, rfl, ⟨_, _, _, rfl, strs_nil, pairs_nil, kids_nil⟩, .inr ⟨HK.out, rfl, rfl⟩, HBE.out⟩
          | false =>
            have HT := Lib.hid hT
            have hkk : (u.kind.toList == [116, 101, 120, 116]) = false := hT
            clear hT
            have hju : u.kids[j]? = some u.kids[j] := List.getElem?_eq_getElem hj
            have HKA := Lib.hid (kidAt_of (t := u) (i := (j : Int)) HT.out (by omega) (by rw [Int.toNat_natCast]; exact hju))
            have hwk := weigh_kidAt hju
            generalize u.kids[j] = y at *
            obtain ⟨by', oy, E1, l1, e1, E2, l2, e2, E3, e3, rfl, huy, r0, r1, r2, r3, r4, hny⟩ := HNU.out.kidsOf.kid hju
            have HNY := Lib.hid hny
            have HUY := Lib.hid huy
            have HR := Lib.hid (And.intro r0 (And.intro r1 (And.intro r2 (And.intro r3 r4))))
            have HHY : Hid (goB y (p.drop (k + 1)) = goB t p) := Lib.hid (by rw [← hgo.out, HD.out, goB, HKA.out])
            clear r0 r1 r2 r3 r4 hny hju huy
            go_wp2
            go_quiet (fail)
            have hn1 : (wr.drewN nq).heap[w.heap.size]? = _ := HBL.out
            have hr1 : (wr.drewN nq).heap[w.heap.size + 1]? = _ := hres.out
            have HB1 : Hid (Below w.heap.size w (wr.drewN nq)) := Lib.hid ⟨HB.out.os, HB.out.tape, HB.out.output, HB.out.size, HB.out.block⟩
            have hz1 : w.heap.size + 2 ≤ (wr.drewN nq).heap.size := hz
            clear x0 x1 x2 x3 x4 y0 y1 y2 y3 y4 f0 f1 f2 f3 f4 g0 g1 g2 g3 g4 z0
            generalize wr.drewN nq = w1 at *
            have HN1 := Lib.hid hn1
            have HR1 := Lib.hid hr1
            obtain ⟨x0, x1, x2, x3, x4⟩ := cells5 hn1
            obtain ⟨y0, y1, y2, y3, y4⟩ := cells5 hr1
            have f0 := frozen_of_row _ _ 0 _ _ hn1
            have f1 := frozen_of_row _ _ 1 _ _ hn1
            have f2 := frozen_of_row _ _ 2 _ _ hn1
            have f3 := frozen_of_row _ _ 3 _ _ hn1
            have f4 := frozen_of_row _ _ 4 _ _ hn1
            have g0 := frozen_of_row _ _ 0 _ _ hr1
            have g1 := frozen_of_row _ _ 1 _ _ hr1
            have g2 := frozen_of_row _ _ 2 _ _ hr1
            have g3 := frozen_of_row _ _ 3 _ _ hr1
            have g4 := frozen_of_row _ _ 4 _ _ hr1
            clear hn1 hr1
            have z0 := (HB1.out.cell (p := ⟨bp, op + k, none⟩) HUP.out).trans HCX.out
            have s0 := (HB1.out.cell (p := ⟨by', oy + j * 5, none⟩) HUY.out).trans HR.out.1
            have s1 := (HB1.out.cell (p := ⟨by', oy + j * 5 + 1, none⟩) HUY.out).trans HR.out.2.1
            have s2 := (HB1.out.cell (p := ⟨by', oy + j * 5 + 2, none⟩) HUY.out).trans HR.out.2.2.1
            have s3 := (HB1.out.cell (p := ⟨by', oy + j * 5 + 3, none⟩) HUY.out).trans HR.out.2.2.2.1
            have s4 := (HB1.out.cell (p := ⟨by', oy + j * 5 + 4, none⟩) HUY.out).trans HR.out.2.2.2.2
            go_wp2
            go_region
            all_goals
              go_wp2
              have hsz := put5z_size (w := w1) (g := w.heap.size) (v0 := .string y.kind) (v1 := .string y.text) (v2 := .slice E1 l1 e1) (v3 := .slice E2 l2 e2) (v4 := .slice E3 y.kids.length e3)
              have hot := put5z_other (w := w1) (g := w.heap.size) (b := w.heap.size + 1) (v0 := .string y.kind) (v1 := .string y.text) (v2 := .slice E1 l1 e1) (v3 := .slice E2 l2 e2) (v4 := .slice E3 y.kids.length e3) (by omega)
              refine ⟨⟨k + 1, y, by omega, by go_num, (put5z_below (v0 := .string y.kind) (v1 := .string y.text) (v2 := .slice E1 l1 e1) (v3 := .slice E2 l2 e2) (v4 := .slice E3 y.kids.length e3) (Nat.le_refl _) HB1.out).drew, Nat.le_trans hz1 (Nat.le_of_eq hsz.symm), by omega, HHY, Lib.hid ⟨_, _, _, _, _, _, _, _, put5z_block (v0 := .string y.kind) (v1 := .string y.text) (v2 := .slice E1 l1 e1) (v3 := .slice E2 l2 e2) (v4 := .slice E3 y.kids.length e3) HN1.out, HNY.out⟩, Lib.hid (hot.trans HR1.out)⟩, by simp [intOf]; omega⟩
        · have HK := Lib.hid (HGN.out (by unfold kidAt; cases isTxt u.kind <;> simp; omega))
          have i1 : (u.kids.length : Int) ≤ (j : Int) := by omega
          go_wp2
          go_quiet (fail)
          have hn1 : (wr.drewN nq).heap[w.heap.size]? = _ := HBL.out
          have hr1 : (wr.drewN nq).heap[w.heap.size + 1]? = _ := hres.out
          have HB1 : Hid (Below w.heap.size w (wr.drewN nq)) := Lib.hid ⟨HB.out.os, HB.out.tape, HB.out.output, HB.out.size, HB.out.block⟩
          have hz1 : w.heap.size + 2 ≤ (wr.drewN nq).heap.size := hz
          clear x0 x1 x2 x3 x4 y0 y1 y2 y3 y4 f0 f1 f2 f3 f4 g0 g1 g2 g3 g4 z0
          generalize wr.drewN nq = w1 at *
          have HN1 := Lib.hid hn1
          have HR1 := Lib.hid hr1
          obtain ⟨x0, x1, x2, x3, x4⟩ := cells5 hn1
          obtain ⟨y0, y1, y2, y3, y4⟩ := cells5 hr1
          have f0 := frozen_of_row _ _ 0 _ _ hn1
          have f1 := frozen_of_row _ _ 1 _ _ hn1
          have f2 := frozen_of_row _ _ 2 _ _ hn1
          have f3 := frozen_of_row _ _ 3 _ _ hn1
          have f4 := frozen_of_row _ _ 4 _ _ hn1
          have g0 := frozen_of_row _ _ 0 _ _ hr1
          have g1 := frozen_of_row _ _ 1 _ _ hr1
          have g2 := frozen_of_row _ _ 2 _ _ hr1
          have g3 := frozen_of_row _ _ 3 _ _ hr1
          have g4 := frozen_of_row _ _ 4 _ _ hr1
          clear hn1 hr1
          go_wp2
          obtain ⟨q0, q1, q2, q3, q4⟩ := cells5 (put5z_block (v0 := .string ⟨#[]⟩) (v1 := .string ⟨#[]⟩) (v2 := .slice none 0 0) (v3 := .slice none 0 0) (v4 := .slice none 0 0) HR1.out)
          have HBE := Lib.hid (put5z_below (v0 := .string ⟨#[]⟩) (v1 := .string ⟨#[]⟩) (v2 := .slice none 0 0) (v3 := .slice none 0 0) (v4 := .slice none 0 0) (Nat.le_succ w.heap.size) HB1.out)
          unfold put5z at q0 q1 q2 q3 q4
          refine bodyPost_ret (v := .tuple #[.agg #[.string ⟨#[]⟩, .string ⟨#[]⟩, .slice none 0 0, .slice none 0 0, .slice none 0 0], .int .i64 9]) (by simp [results, Try.results14, go_sem, q0, q1, q2, q3, q4]) rfl ?_
          exact ⟨none, 0, 0, none, 0, 0, none, 0, .mk ⟨#[]⟩ ⟨#[]⟩ [] [] [], 9, rfl, ⟨_, _, _, rfl, strs_nil, pairs_nil, kids_nil⟩, .inr ⟨HK.out, rfl, rfl⟩, HBE.out⟩
    · have HE : Hid (goB t p = some u) := Lib.hid (by rw [← hgo.out, List.drop_of_length_le (by omega), goB])
      have HR1 := Lib.hid hres.out
      have HB1 := Lib.hid HB.out
      cases hT : isTxt u.kind with
      | true =>
        have HK : Hid (followB t p = none) := Lib.hid (by unfold followB; rw [HE.out]; simp [plainO, hT])
        have hkk : (u.kind.toList == [116, 101, 120, 116]) = true := hT
        clear hT
        go_wp2
        obtain ⟨q0, q1, q2, q3, q4⟩ := cells5 (put5z_block (v0 := .string ⟨#[]⟩) (v1 := .string ⟨#[]⟩) (v2 := .slice none 0 0) (v3 := .slice none 0 0) (v4 := .slice none 0 0) HR1.out)
        have HBE := Lib.hid (put5z_below (v0 := .string ⟨#[]⟩) (v1 := .string ⟨#[]⟩) (v2 := .slice none 0 0) (v3 := .slice none 0 0) (v4 := .slice none 0 0) (Nat.le_succ w.heap.size) HB1.out)
        unfold put5z at q0 q1 q2 q3 q4
        refine bodyPost_ret (v := .tuple #[.agg #[.string ⟨#[]⟩, .string ⟨#[]⟩, .slice none 0 0, .slice none 0 0, .slice none 0 0], .int .i64 9]) (by simp [results, Try.results14, go_sem, q0, q1, q2, q3, q4]) rfl ?_
        exact ⟨none, 0, 0, none, 0, 0, none, 0, .mk ⟨#[]⟩ ⟨#[]⟩ [] [] [], 9, rfl, ⟨_, _, _, rfl, strs_nil, pairs_nil, kids_nil⟩, .inr ⟨HK.out, rfl, rfl⟩, HBE.out⟩
      | false =>
        have HK : Hid (followB t p = some u) := Lib.hid (followB_of HE.out hT)
        have hkk : (u.kind.toList == [116, 101, 120, 116]) = false := hT
        clear hT
        go_wp2
        obtain ⟨q0, q1, q2, q3, q4⟩ := cells5 (put5z_block (v0 := .string u.kind) (v1 := .string u.text) (v2 := .slice B1 m1 d1) (v3 := .slice B2 m2 d2) (v4 := .slice B3 u.kids.length d3) HR1.out)
        have HBE := Lib.hid (put5z_below (v0 := .string u.kind) (v1 := .string u.text) (v2 := .slice B1 m1 d1) (v3 := .slice B2 m2 d2) (v4 := .slice B3 u.kids.length d3) (Nat.le_succ w.heap.size) HB1.out)
        unfold put5z at q0 q1 q2 q3 q4
        refine bodyPost_ret (v := .tuple #[.agg #[.string u.kind, .string u.text, .slice B1 m1 d1, .slice B2 m2 d2, .slice B3 u.kids.length d3], .int .i64 0]) (by simp [results, Try.results14, go_sem, q0, q1, q2, q3, q4]) rfl ?_
        exact ⟨B1, m1, d1, B2, m2, d2, B3, d3, u, 0, rfl, HNU.out.below HBE.out, .inl ⟨HK.out, rfl⟩, HBE.out⟩
end Go.Proofs.Ytmmifednhleggaa

namespace Go.Proofs.Ytmmifednhleggaa
open Go.RowKit Go.Sort

set_option maxHeartbeats 8000000 in
set_option maxRecDepth 100000 in
theorem rstart_any (v vp : Value) (t : Tree) (p : List Int) (w : World) (h : Node w (Under w.heap.size) v t) (hp : Ints w (Under w.heap.size) vp p) (hpr : ∀ x ∈ p, -9223372036854775808 ≤ x ∧ x ≤ 9223372036854775807) (hw : weigh t ≤ 1000000) :
    Calls Try.prog 16 #[v, vp] w fun e w' => e = posE ((followB t p).map fun _ => (startB t p : Int)) ∧ Below w.heap.size w w' := by
  have HP := Lib.hid hp
  have HPR := Lib.hid hpr
  have HN := Lib.hid h
  obtain ⟨A1, n1, c1, A2, n2, c2, A3, c3, rfl⟩ := h.forms
  obtain ⟨Ap, cp, rfl, hpc⟩ := hp.form
  have hpm := hp.len.2.2
  unfold maxLen at hpm
  have hsw := startB_weigh p t
  clear hp hpr h
  go_enter Try.func16, Try.ntmps16
  go_wp2_with fail
  generalize hW1 : w.alloc (.cells #[.string t.kind, .string t.text, .slice A1 n1 c1, .slice A2 n2 c2, .slice A3 t.kids.length c3] 31) = W1
  have HB0 : Hid (Below w.heap.size w W1) := Lib.hid (by subst hW1; exact (Below.refl _ _).alloc (Nat.le_refl _) _)
  have HC1 : Hid (W1.heap[w.heap.size]? = some (.cells #[.string t.kind, .string t.text, .slice A1 n1 c1, .slice A2 n2 c2, .slice A3 t.kids.length c3] 31) ∧ W1.heap.size = w.heap.size + 1) := Lib.hid (by
    subst hW1; exact ⟨heap_new _ _, by simp⟩)
  clear hW1
  have HPK : Hid (∀ W, Below w.heap.size w W → Ints W (Under W.heap.size) (.slice Ap p.length cp) p) := Lib.hid fun W hW => HP.out.keep (fun b hb => Nat.lt_of_lt_of_le hb hW.size) (fun b hb => hW.block b hb)
  refine (rinner_any _ _ t p W1 ((HN.out.below HB0.out).more HB0.out.size) (HPK.out W1 HB0.out) HPR.out hw).mono ?_
  rintro e w2 ⟨B1, m1, d1, B2, m2, d2, B3, d3, u, nn, rfl, hnu, hfo, hb2⟩
  have hz1 := HC1.out.2
  have hz2 := hb2.size
  have hn2 := (hb2.block w.heap.size (by omega)).trans HC1.out.1
  have HB2 := Lib.hid (belowNext HB0.out hb2)
  generalize hob : (Obj.cells #[.string u.kind, .string u.text, .slice B1 m1 d1, .slice B2 m2 d2, .slice B3 u.kids.length d3] 31) = ob
  have hb3 : Below w2.heap.size w2 (w2.alloc ob) := (Below.refl _ _).alloc (Nat.le_refl _) _
  have HN3 := Lib.hid ((hb3.block w.heap.size (by omega)).trans hn2)
  have HB3 := Lib.hid (belowNext HB2.out hb3)
  have HZ3 : Hid (w.heap.size + 1 ≤ (w2.alloc ob).heap.size) := Lib.hid (by have := hb3.size; omega)
  subst hob
  clear hb2 hnu HC1 hb3 hn2 hz1 hz2
  rcases hfo with ⟨hf, rfl⟩ | ⟨hf, rfl, hu0⟩
  · have HE := Lib.hid hf
    have HGO := Lib.hid (followB_some hf).1
    clear hf
    go_wp2
    generalize w2.alloc (.cells #[.string u.kind, .string u.text, .slice B1 m1 d1, .slice B2 m2 d2, .slice B3 u.kids.length d3] 31) = W3 at *
    go_loopw [8, 9] (fun s i wr => ∃ (k n : Nat) (y : Tree), k ≤ p.length ∧ i = .int .i64 k ∧ s = .int .i64 n ∧ Below w.heap.size w wr ∧ w.heap.size + 1 ≤ wr.heap.size ∧ weigh y ≤ 1000000 ∧ n + startB y (p.drop k) = startB t p ∧ Hid (goB y (p.drop k) = some u) ∧ Hid (Box w wr w.heap.size y)) (fun _ i _ => p.length - (intOf i).toNat)
    case atStart =>
      exact ⟨0, 0, t, by omega, rfl, rfl, HB3.out, HZ3.out, hw, by simp, Lib.hid HGO.out, Lib.hid ⟨_, _, _, _, _, _, _, _, HN3.out, HN.out⟩⟩
    case round =>
      obtain ⟨k, n, y, hk, rfl, rfl, hb, hz, hwy, hst, hgy, hbox⟩ := hrel
      obtain ⟨B1, m1, d1, B2, m2, d2, B3, d3, hbl, hny⟩ := hbox.out
      have HNY := Lib.hid hny
      have HB := Lib.hid hb
      have HBL := Lib.hid hbl
      by_cases hlt : k < p.length
      · have hpx : p[k]? = some p[k] := List.getElem?_eq_getElem hlt
        generalize p[k] = x at *
        obtain ⟨bp, op, rfl, hup, hcx⟩ := HP.out.get hpx
        have HUP := Lib.hid hup
        have HCX := Lib.hid hcx
        have hd := drop_cons hpx
        obtain ⟨y', hky, hgy'⟩ : ∃ y', kidAt y x = some y' ∧ goB y' (p.drop (k + 1)) = some u := by
          have := hgy.out
          rw [hd, goB] at this
          cases hq : kidAt y x with
          | none => rw [hq] at this; cases this
          | some y' => rw [hq] at this; exact ⟨y', rfl, this⟩
        obtain ⟨hty, hx0, hju⟩ := kidAt_some hky
        rw [hd, startB, hju] at hst
        obtain ⟨j, rfl⟩ : ∃ j : Nat, x = (j : Int) := ⟨x.toNat, by omega⟩
        rw [Int.toNat_natCast] at hju hst
        simp only at hst
        have hj : j < y.kids.length := (List.getElem?_eq_some_iff.1 hju).1
        have hwk := weigh_kidAt hju
        have hws := kids_weigh y
        have hjl := length_le_weigh y.kids
        have HWT : Hid (weighAll (y.kids.take j) ≤ 1000000) := Lib.hid (by omega)
        have hlen := hny.kidsOf.len
        have hlc := hlen.2.1
        have HTT := Lib.hid (regrown_any (w := wr) (f := 30) (args := #[.slice B3 j d3]) (v := .int .i64 (totalB (y.kids.take j))) fun W hW =>
          rtotal_any _ (y.kids.take j) W (((HNY.out.kidsOf.upto (Nat.le_of_lt hj)).below (belowNext HB.out hW)).more (belowNext HB.out hW).size) HWT.out)
        obtain ⟨by', oy, E1, l1, e1, E2, l2, e2, E3, e3, rfl, huy, r0, r1, r2, r3, r4, hny'⟩ := hny.kidsOf.kid hju
        have HNY' := Lib.hid hny'
        have HUY := Lib.hid huy
        have HR := Lib.hid (And.intro r0 (And.intro r1 (And.intro r2 (And.intro r3 r4))))
        have i1 : j ≤ d3 := by omega
        have HGY := Lib.hid hgy'
        obtain ⟨x0, x1, x2, x3, x4⟩ := cells5 hbl
        have z0 := (HB.out.cell (p := ⟨bp, op + k, none⟩) hup).trans hcx
        have x4 := cell_regrown x4
        have z0 := cell_regrown z0
        have HST := Lib.hid hst
        have HHJ := Lib.hid hj
        generalize hG : totalB (y.kids.take j) = tt at *
        have hbnd : n + tt + 1 ≤ 1000000 := by omega
        clear hcx hpx hny hbl hb hlen hny' r0 r1 r2 r3 r4 hgy' hky hty hju hd hx0 hgy hbox hup huy x0 x1 x2 x3 hG hst
        go_wp2
        refine wp_region_quiet_below (by kernel_rfl) (by kernel_rfl) ?_
        repeat (first | go_big_quiet_step (exact HTT.out _ _) | quiet_step (exact HTT.out _ _))
        refine wpQuiet_nil ?_
        intro _ hw'
        obtain ⟨⟨dq, osq⟩, hw''⟩ := hw'
        subst hw''
        have hb1 := below_regrown wr dq osq
        have HB1 := Lib.hid (belowNext HB.out hb1)
        have hn1 := (hb1.block w.heap.size (by omega)).trans HBL.out
        have hz1 := hb1.size
        clear x4 z0 hb1 HBL
        generalize grow (redrawn wr dq) osq = w1 at *
        have HN1 := Lib.hid hn1
        obtain ⟨x0, x1, x2, x3, x4⟩ := cells5 hn1
        have f0 := frozen_of_row _ _ 0 _ _ hn1
        have f1 := frozen_of_row _ _ 1 _ _ hn1
        have f2 := frozen_of_row _ _ 2 _ _ hn1
        have f3 := frozen_of_row _ _ 3 _ _ hn1
        have f4 := frozen_of_row _ _ 4 _ _ hn1
        have z0 := (HB1.out.cell (p := ⟨bp, op + k, none⟩) HUP.out).trans HCX.out
        have s0 := (HB1.out.cell (p := ⟨by', oy + j * 5, none⟩) HUY.out).trans HR.out.1
        have s1 := (HB1.out.cell (p := ⟨by', oy + j * 5 + 1, none⟩) HUY.out).trans HR.out.2.1
        have s2 := (HB1.out.cell (p := ⟨by', oy + j * 5 + 2, none⟩) HUY.out).trans HR.out.2.2.1
        have s3 := (HB1.out.cell (p := ⟨by', oy + j * 5 + 3, none⟩) HUY.out).trans HR.out.2.2.2.1
        have s4 := (HB1.out.cell (p := ⟨by', oy + j * 5 + 4, none⟩) HUY.out).trans HR.out.2.2.2.2
        clear hn1
        go_wp2
        go_region
        all_goals
          go_wp2
          have hsz := put5z_size (w := w1) (g := w.heap.size) (v0 := .string y'.kind) (v1 := .string y'.text) (v2 := .slice E1 l1 e1) (v3 := .slice E2 l2 e2) (v4 := .slice E3 y'.kids.length e3)
          refine ⟨⟨k + 1, n + (tt + 1), y', by omega, by go_num, by go_num, (put5z_below (v0 := .string y'.kind) (v1 := .string y'.text) (v2 := .slice E1 l1 e1) (v3 := .slice E2 l2 e2) (v4 := .slice E3 y'.kids.length e3) (Nat.le_refl _) HB1.out).drew, Nat.le_trans (Nat.le_trans hz hz1) (Nat.le_of_eq hsz.symm), by omega, by have := HST.out; omega, HGY, Lib.hid ⟨_, _, _, _, _, _, _, _, put5z_block (v0 := .string y'.kind) (v1 := .string y'.text) (v2 := .slice E1 l1 e1) (v3 := .slice E2 l2 e2) (v4 := .slice E3 y'.kids.length e3) HN1.out, HNY'.out⟩⟩, by simp [intOf]; omega⟩
      · rw [List.drop_of_length_le (by omega), startB] at hst
        go_wp2
        exact bodyPost_ret (results_tmp2 rfl _ _ _) rfl ⟨by rw [HE.out, ← hst]; rfl, HB.out⟩
  · have HE := Lib.hid hf
    clear hf hu0
    go_wp2
    exact bodyPost_ret (results_tmp2 rfl _ _ _) rfl ⟨by rw [HE.out]; rfl, HB3.out⟩
end Go.Proofs.Ytmmifednhleggaa

namespace Go.Proofs.Ytmmifednhleggaa
open Go.RowKit Go.Sort

def setKid (t : Tree) (i : Nat) (y : Tree) : Tree := .mk t.kind t.text t.marks t.attrs (t.kids.set i y)
def withB : Tree → List Int → Tree → Tree
  | _, [], m => m
  | t, i :: p, m => match t.kids[i.toNat]? with
    | none => t
    | some u => setKid t i.toNat (withB u p m)
theorem withB_snoc : ∀ (q : List Int) (t u y m : Tree) (x : Int), goB t q = some u → u.kids[x.toNat]? = some y → withB t (q ++ [x]) m = withB t q (setKid u x.toNat m)
  | [], t, u, y, m, x, h, hy => by
    simp only [goB, Option.some.injEq] at h; subst h
    simp [withB, hy]
  | i :: q, t, u, y, m, x, h, hy => by
    rw [goB] at h
    cases hk : kidAt t i with
    | none => rw [hk] at h; cases h
    | some v =>
      rw [hk] at h
      have hv := (kidAt_some hk).2.2
      simp only [List.cons_append, withB, hv]
      rw [withB_snoc q v u y m x h hy]

/-- Where the walk is in the copy: at five cells whose node has blocks of its own; a node put there stands in the tree. -/
structure WithAt (w : World) (lo ga : Nat) (t : Tree) (q : List Int) (u : Tree) (g o a b : Nat) (v : Value) : Prop where
  gone : goB t q = some u
  node : NodeP w u a b v
  row : ∃ cur, w.heap[g]? = some (.cells cur 31) ∧ Five cur o v
  bounds : lo ≤ a ∧ b ≤ ga ∧ lo ≤ g ∧ g ≤ ga ∧ ¬ From a b g
  put : ∀ (W : World) (S' : Nat → Prop) (y : Tree), (∀ d, From lo ga d → S' d) → (∀ d, From lo (ga + 1) d → ¬ From a b d → d ≠ g → W.heap[d]? = w.heap[d]?) → (∀ j, ¬ (o ≤ j ∧ j < o + 5) → W.cell? ⟨g, j, none⟩ = w.cell? ⟨g, j, none⟩) →
    NodeAt W S' y g o → NodeAt W S' (withB t q y) ga 0

theorem NodeP.le {w : World} {t : Tree} {lo hi : Nat} {v : Value} (h : NodeP w t lo hi v) : lo ≤ hi := by
  obtain ⟨_, _, _, _, _, _, _, z, h1, h2, _⟩ := (nodeP_iff t lo hi v).1 h
  exact Nat.le_trans h1 h2

theorem WithAt.start {w : World} {lo ga : Nat} {t : Tree} {v : Value} {cur : Array Value} (hn : NodeP w t lo ga v) (hc : w.heap[ga]? = some (.cells cur 31)) (hf : Five cur 0 v) : WithAt w lo ga t [] t ga 0 lo ga v :=
  ⟨rfl, hn, ⟨cur, hc, hf⟩, ⟨Nat.le_refl _, Nat.le_refl _, hn.le, Nat.le_refl _, fun h => Nat.lt_irrefl _ h.2⟩, fun _ _ _ _ _ _ h => h⟩

theorem WithAt.next {w : World} {lo ga : Nat} {t : Tree} {q : List Int} {u : Tree} {g o a b : Nat} {v : Value} (h : WithAt w lo ga t q u g o a b v) {j : Nat} {x : Tree} (hT : isTxt u.kind = false) (hx : u.kids[j]? = some x) :
    ∃ g2 c vm va a' b' v', v = .agg #[.string u.kind, .string u.text, vm, va, .slice (some ⟨g2, 0, none⟩) u.kids.length c] ∧ u.kids.length ≤ c ∧ WithAt w lo ga t (q ++ [(j : Int)]) x g2 (j * 5) a' b' v' := by
  obtain ⟨hgo, hnd, hrow, ⟨h1, h2, h3, h4, h5⟩, hput⟩ := h
  obtain ⟨vm, va, A, c, rfl, hc, hcm, z, hz1, hz2, hm, ha, hl⟩ := (nodeP_iff u a b v).1 hnd
  rcases hl with hl | ⟨g2, cur2, rfl, hg1, hg2, hh, hsz, hr⟩
  · rw [hl] at hx; simp at hx
  obtain ⟨a', b', v', ha1, hab, hb1, hn', hf', key⟩ := RowP.get u.kids (g2 + 1) b cur2 0 j x hr hx
  refine ⟨g2, c, vm, va, a', b', v', rfl, hc, ?_, hn', ⟨cur2, hh, by simpa using hf'⟩, ⟨by omega, by omega, by omega, by omega, fun hf => by have := hf.1; omega⟩, ?_⟩
  · rw [goB_app, hgo]
    simp only [Option.bind_some, goB]
    rw [kidAt_of hT (by omega) (by rw [Int.toNat_natCast]; exact hx)]
  · intro W S' y hS hk hj hy
    rw [withB_snoc q t u x y (j : Int) hgo (by rw [Int.toNat_natCast]; exact hx), Int.toNat_natCast]
    have hgg : g ≠ g2 := fun e => h5 (by subst e; exact ⟨by omega, hg2⟩)
    have hgn : ¬ From a' b' g := fun hf => h5 ⟨by have := hf.1; omega, by have := hf.2; omega⟩
    have hgs : W.heap[g]? = w.heap[g]? := hk g ⟨h3, by omega⟩ hgn hgg
    refine hput W S' (setKid u j y) hS (fun d hd hn _ => hk d hd (fun hf => hn ⟨by have := hf.1; omega, by have := hf.2; omega⟩) (fun e => hn (by subst e; exact ⟨by omega, hg2⟩))) (fun j' _ => World.cell?_of_block (a := ⟨g, j', none⟩) hgs) ?_
    obtain ⟨cur, hcur, hfive⟩ := hrow
    have hold : ∀ d, From a z d → W.heap[d]? = w.heap[d]? := fun d hd => hk d ⟨by have := hd.1; omega, by have := hd.2; omega⟩ (fun hf => by have := hf.1; have := hd.2; omega) (by have := hd.2; omega)
    have hfrm : ∀ d, From a z d → S' d := fun d hd => hS d ⟨by have := hd.1; omega, by have := hd.2; omega⟩
    refine nodeAt_five (hgs.trans hcur) hfive ⟨vm, va, _, rfl, hm.1.keep hfrm hold, ha.1.keep hfrm hold, ?_⟩
    refine ⟨_, c, by simp [setKid, Tree.kids], by simp [setKid, Tree.kids]; exact hc, hcm, .inr ⟨g2, 0, rfl, hS g2 ⟨by omega, by omega⟩, ?_⟩⟩
    exact key S' W g2 (g2 + 1) (Nat.le_refl _) (by omega) (fun d hd => hS d ⟨by have := hd.1; omega, by have := hd.2; omega⟩) (fun d hd hn hne => hk d ⟨by have := hd.1; omega, by have := hd.2; omega⟩ hn hne) hh (fun j' hj' => hj j' (by omega)) y (by simpa using hy)

/-- Five cells put in the midst of a block. -/
def put5o (w : World) (g o : Nat) (v0 v1 v2 v3 v4 : Value) : World := ((((w.setCell ⟨g, o, none⟩ v0).setCell ⟨g, o + 1, none⟩ v1).setCell ⟨g, o + 2, none⟩ v2).setCell ⟨g, o + 3, none⟩ v3).setCell ⟨g, o + 4, none⟩ v4
theorem put5o_other {w : World} {g o b : Nat} {v0 v1 v2 v3 v4 : Value} (h : b ≠ g) : (put5o w g o v0 v1 v2 v3 v4).heap[b]? = w.heap[b]? := by
  unfold put5o
  rw [Below.heap_setCell _ _ _ _ h, Below.heap_setCell _ _ _ _ h, Below.heap_setCell _ _ _ _ h, Below.heap_setCell _ _ _ _ h, Below.heap_setCell _ _ _ _ h]
theorem put5o_size {w : World} {g o : Nat} {v0 v1 v2 v3 v4 : Value} : (put5o w g o v0 v1 v2 v3 v4).heap.size = w.heap.size := by
  have e : ∀ (W : World) (o : Nat) (u : Value), (W.setCell ⟨g, o, none⟩ u).heap.size = W.heap.size := fun W o u => by simp [World.setCell]
  unfold put5o; rw [e, e, e, e, e]
theorem put5o_below {B : Nat} {a w : World} {g o : Nat} {v0 v1 v2 v3 v4 : Value} (hg : B ≤ g) (h : Below B a w) : Below B a (put5o w g o v0 v1 v2 v3 v4) :=
  have e : ∀ (W : World) (i : Nat) (u : Value), Below B a W → Below B a (W.setCell ⟨g, i, none⟩ u) := fun W i u hW => hW.trans ⟨rfl, rfl, rfl, by simp [World.setCell], fun b hb => Below.heap_setCell _ _ _ _ (show b ≠ g by omega)⟩
  e _ _ _ (e _ _ _ (e _ _ _ (e _ _ _ (e _ _ _ h))))
theorem put5o_off {w : World} {g o j : Nat} {v0 v1 v2 v3 v4 : Value} (h : ¬ (o ≤ j ∧ j < o + 5)) : (put5o w g o v0 v1 v2 v3 v4).cell? ⟨g, j, none⟩ = w.cell? ⟨g, j, none⟩ := by
  have e : ∀ (W : World) (i : Nat) (u : Value), i ≠ j → (W.setCell ⟨g, i, none⟩ u).cell? ⟨g, j, none⟩ = W.cell? ⟨g, j, none⟩ := fun W i u hi => World.cell?_setCell_other W _ _ _ (fun e => hi (congrArg Addr.off e))
  unfold put5o
  rw [e _ _ _ (by omega), e _ _ _ (by omega), e _ _ _ (by omega), e _ _ _ (by omega), e _ _ _ (by omega)]
theorem put5o_five {w : World} {g o : Nat} {v0 v1 v2 v3 v4 : Value} {cur : Array Value} {T : TypeId} (hc : w.heap[g]? = some (.cells cur T)) (hs : o + 5 ≤ cur.size) : ∃ cur', (put5o w g o v0 v1 v2 v3 v4).heap[g]? = some (.cells cur' T) ∧ Five cur' o (.agg #[v0, v1, v2, v3, v4]) := by
  have hset : ∀ (W : World) (i : Nat) (c : Array Value) (u : Value), W.heap[g]? = some (.cells c T) → (W.setCell ⟨g, i, none⟩ u).heap[g]? = some (.cells (c.setIfInBounds i u) T) := fun W i c u h => by simp [World.setCell, Array.getElem?_modify, h]
  refine ⟨_, hset _ _ _ _ (hset _ _ _ _ (hset _ _ _ _ (hset _ _ _ _ (hset _ _ _ _ hc)))), _, _, _, _, _, rfl, ?_, ?_, ?_, ?_, ?_⟩
  all_goals
    simp only [Array.getElem?_setIfInBounds, Array.size_setIfInBounds]
    simp
    try omega
theorem WithAt.done {w w5 : World} {lo ga : Nat} {t : Tree} {q : List Int} {u m : Tree} {g o a b : Nat} {v vm va vk : Value} {S' : Nat → Prop} (h : WithAt w lo ga t q u g o a b v) (hb : Below w.heap.size w w5) (hga : ga < w.heap.size)
    (hn : Node w5 (From w.heap.size w5.heap.size) (.agg #[.string m.kind, .string m.text, vm, va, vk]) m) (hS : ∀ d, From lo ga d → S' d) (hS2 : ∀ d, From w.heap.size w5.heap.size d → S' d) :
    NodeAt (put5o w5 g o (.string m.kind) (.string m.text) vm va vk) S' (withB t q m) ga 0 := by
  obtain ⟨h1, h2, h3, h4, h5⟩ := h.bounds
  obtain ⟨cur, hc, v0, v1, v2, v3, v4, rfl, f0, f1, f2, f3, f4⟩ := h.row
  have hsz : o + 5 ≤ cur.size := by have := (Array.getElem?_eq_some_iff.1 f4).1; omega
  have hc5 := (hb.block g (by omega)).trans hc
  obtain ⟨cur', hc', hf'⟩ := put5o_five (v0 := .string m.kind) (v1 := .string m.text) (v2 := vm) (v3 := va) (v4 := vk) hc5 hsz
  refine h.put _ S' m hS (fun d hd _ hne => (put5o_other hne).trans (hb.block d (by have := hd.2; omega))) (fun j hj => (put5o_off hj).trans (hb.cell (p := ⟨g, j, none⟩) (show g < w.heap.size by omega))) ?_
  exact nodeAt_five hc' hf' (hn.keep hS2 (fun d hd => put5o_other (by have := hd.1; omega)))
theorem WithAt.cells {w : World} {lo ga : Nat} {t : Tree} {q : List Int} {u : Tree} {g o a b : Nat} {v0 v1 v2 v3 v4 : Value} (h : WithAt w lo ga t q u g o a b (.agg #[v0, v1, v2, v3, v4])) :
    w.cell? ⟨g, o, none⟩ = some v0 ∧ w.cell? ⟨g, o + 1, none⟩ = some v1 ∧ w.cell? ⟨g, o + 2, none⟩ = some v2 ∧ w.cell? ⟨g, o + 3, none⟩ = some v3 ∧ w.cell? ⟨g, o + 4, none⟩ = some v4 := by
  obtain ⟨cur, hc, u0, u1, u2, u3, u4, he, f0, f1, f2, f3, f4⟩ := h.row
  injection he with he
  have h4 : v0 = u0 ∧ v1 = u1 ∧ v2 = u2 ∧ v3 = u3 ∧ v4 = u4 := by simpa using he
  obtain ⟨rfl, rfl, rfl, rfl, rfl⟩ := h4
  exact ⟨by simpa [World.cell?, hc] using f0, by simpa [World.cell?, hc] using f1, by simpa [World.cell?, hc] using f2, by simpa [World.cell?, hc] using f3, by simpa [World.cell?, hc] using f4⟩
end Go.Proofs.Ytmmifednhleggaa

namespace Go.Proofs.Ytmmifednhleggaa
open Go.RowKit Go.Sort

/-- What With answers. -/
def WithPost (w : World) (t m : Tree) (p : List Int) (e : Ending) (w' : World) : Prop :=
  ∃ A1 n1 c1 A2 n2 c2 A3 c3 u, ∃ n : Int, e = .returned (.tuple #[.agg #[.string u.kind, .string u.text, .slice A1 n1 c1, .slice A2 n2 c2, .slice A3 u.kids.length c3], .int .i64 n]) ∧
    Node w' (From w.heap.size w'.heap.size) (.agg #[.string u.kind, .string u.text, .slice A1 n1 c1, .slice A2 n2 c2, .slice A3 u.kids.length c3]) u ∧
    ((followB t p ≠ none ∧ n = 0 ∧ u = withB t p m) ∨ (followB t p = none ∧ n = 9 ∧ u = .mk ⟨#[]⟩ ⟨#[]⟩ [] [] [])) ∧ Below w.heap.size w w'

set_option maxHeartbeats 8000000 in
set_option maxRecDepth 100000 in
theorem with_any (v vp vm : Value) (t m : Tree) (p : List Int) (w : World) (h : Node w (Under w.heap.size) v t) (hm : Node w (Under w.heap.size) vm m) (hp : Ints w (Under w.heap.size) vp p) (hpr : ∀ x ∈ p, -9223372036854775808 ≤ x ∧ x ≤ 9223372036854775807) (hw : weigh t ≤ 1000000) (hwm : weigh m ≤ 1000000) :
    Calls Try.prog 17 #[v, vp, vm] w (WithPost w t m p) := by
  have HP := Lib.hid hp
  have HPR := Lib.hid hpr
  have HN := Lib.hid h
  have HM := Lib.hid hm
  obtain ⟨A1, n1, c1, A2, n2, c2, A3, c3, rfl⟩ := h.forms
  obtain ⟨M1, i1, j1, M2, i2, j2, M3, j3, rfl⟩ := hm.forms
  obtain ⟨Ap, cp, rfl, hpc⟩ := hp.form
  have hpm := hp.len.2.2
  unfold maxLen at hpm
  clear hp hpr h hm
  go_enter Try.func17, Try.ntmps17
  go_wp2_with fail
  generalize hW1 : ((w.alloc (.cells #[.string t.kind, .string t.text, .slice A1 n1 c1, .slice A2 n2 c2, .slice A3 t.kids.length c3] 31)).alloc (.cells #[.string m.kind, .string m.text, .slice M1 i1 j1, .slice M2 i2 j2, .slice M3 m.kids.length j3] 31)).alloc (.cells #[.string ⟨#[]⟩, .string ⟨#[]⟩, .slice none 0 0, .slice none 0 0, .slice none 0 0] 31) = W1
  have HB0 : Hid (Below w.heap.size w W1) := Lib.hid (by subst hW1; exact (((Below.refl _ _).alloc (Nat.le_refl _) _).alloc (by simp) _).alloc (by simp; omega) _)
  have HC1 : Hid (W1.heap[w.heap.size]? = some (.cells #[.string t.kind, .string t.text, .slice A1 n1 c1, .slice A2 n2 c2, .slice A3 t.kids.length c3] 31) ∧ W1.heap[w.heap.size + 1]? = some (.cells #[.string m.kind, .string m.text, .slice M1 i1 j1, .slice M2 i2 j2, .slice M3 m.kids.length j3] 31) ∧ W1.heap[w.heap.size + 2]? = some (.cells #[.string ⟨#[]⟩, .string ⟨#[]⟩, .slice none 0 0, .slice none 0 0, .slice none 0 0] 31) ∧ W1.heap.size = w.heap.size + 3) := Lib.hid (by
    subst hW1; exact ⟨heap_old _ _ _ (heap_old _ _ _ (heap_new _ _)), heap_old _ _ _ (heap_new' _ _ (by simp)), heap_new' _ _ (by simp), by simp⟩)
  clear hW1
  have HPK : Hid (∀ W, Below w.heap.size w W → Ints W (Under W.heap.size) (.slice Ap p.length cp) p) := Lib.hid fun W hW => HP.out.keep (fun b hb => Nat.lt_of_lt_of_le hb hW.size) (fun b hb => hW.block b hb)
  refine (follow_any _ _ t p W1 ((HN.out.below HB0.out).more HB0.out.size) (HPK.out W1 HB0.out) HPR.out hw).mono ?_
  rintro e w2 ⟨B1, m1, d1, B2, m2, d2, B3, d3, u, b, rfl, hnu, hfol, hb2⟩
  have hz1 := HC1.out.2.2.2
  have hz2 := hb2.size
  have HB2 := Lib.hid (belowNext HB0.out hb2)
  have HF := Lib.hid hfol
  generalize hob : (Obj.cells #[.string u.kind, .string u.text, .slice B1 m1 d1, .slice B2 m2 d2, .slice B3 u.kids.length d3] 31) = ob
  have hb3 : Below w2.heap.size w2 (w2.alloc ob) := (Below.refl _ _).alloc (Nat.le_refl _) _
  have hn3 := (hb3.block w.heap.size (by omega)).trans ((hb2.block w.heap.size (by omega)).trans HC1.out.1)
  have hm3 := (hb3.block (w.heap.size + 1) (by omega)).trans ((hb2.block (w.heap.size + 1) (by omega)).trans HC1.out.2.1)
  have hr3 := (hb3.block (w.heap.size + 2) (by omega)).trans ((hb2.block (w.heap.size + 2) (by omega)).trans HC1.out.2.2.1)
  have HB3 := Lib.hid (belowNext HB2.out hb3)
  have hz3 : (w2.alloc ob).heap.size = w2.heap.size + 1 := by simp
  have HZ3 := Lib.hid hz3
  have HN3 := Lib.hid hn3
  have HM3 := Lib.hid hm3
  have HR3 := Lib.hid hr3
  subst hob
  clear hb2 hnu hfol HC1 hb3 hz3 hn3 hm3 hr3
  cases b with
  | false =>
    have HE : Hid (followB t p = none) := Lib.hid HF.out
    obtain ⟨a0, a1, a2, a3, a4⟩ := cells5 HR3.out
    have f0 := frozen_of_row _ _ 0 _ _ HR3.out
    have f1 := frozen_of_row _ _ 1 _ _ HR3.out
    have f2 := frozen_of_row _ _ 2 _ _ HR3.out
    have f3 := frozen_of_row _ _ 3 _ _ HR3.out
    have f4 := frozen_of_row _ _ 4 _ _ HR3.out
    go_wp2
    obtain ⟨q0, q1, q2, q3, q4⟩ := cells5 (put5z_block (v0 := .string ⟨#[]⟩) (v1 := .string ⟨#[]⟩) (v2 := .slice none 0 0) (v3 := .slice none 0 0) (v4 := .slice none 0 0) HR3.out)
    have HBE := Lib.hid (put5z_below (g := w.heap.size + 2) (v0 := .string ⟨#[]⟩) (v1 := .string ⟨#[]⟩) (v2 := .slice none 0 0) (v3 := .slice none 0 0) (v4 := .slice none 0 0) (by omega) HB3.out)
    unfold put5z at q0 q1 q2 q3 q4
    refine bodyPost_ret (v := .tuple #[.agg #[.string ⟨#[]⟩, .string ⟨#[]⟩, .slice none 0 0, .slice none 0 0, .slice none 0 0], .int .i64 9]) (by simp [results, Try.results17, go_sem, q0, q1, q2, q3, q4]) rfl ?_
    exact ⟨none, 0, 0, none, 0, 0, none, 0, .mk ⟨#[]⟩ ⟨#[]⟩ [] [] [], 9, rfl, ⟨_, _, _, rfl, strs_nil, pairs_nil, kids_nil⟩, .inr ⟨HE.out, rfl, rfl⟩, HBE.out⟩
  | true =>
    have HE : Hid (followB t p = some u) := Lib.hid HF.out
    clear HF
    have HND : Hid (∀ W, Below w.heap.size w W → Node W (Under W.heap.size) (.agg #[.string t.kind, .string t.text, .slice A1 n1 c1, .slice A2 n2 c2, .slice A3 t.kids.length c3]) t) := Lib.hid fun W hW => (HN.out.below hW).more hW.size
    have HMD : Hid (∀ W, Below w.heap.size w W → Node W (Under W.heap.size) (.agg #[.string m.kind, .string m.text, .slice M1 i1 j1, .slice M2 i2 j2, .slice M3 m.kids.length j3]) m) := Lib.hid fun W hW => (HM.out.below hW).more hW.size
    obtain ⟨x0, x1, x2, x3, x4⟩ := cells5 HN3.out
    go_wp2_with fail
    refine (copyP_any _ t _ (HND.out _ HB3.out) hw).mono ?_
    rintro e w4 ⟨v4, rfl, hn4, hb4⟩
    obtain ⟨E1, l1, e1, E2, l2, e2, E3, e3, rfl⟩ := (NodeP.node _ _ _ _ hn4).forms
    have hz3 := HZ3.out
    have hz4 := hb4.size
    have hb5 : Below w4.heap.size w4 (w4.alloc (.cells #[.string t.kind, .string t.text, .slice E1 l1 e1, .slice E2 l2 e2, .slice E3 t.kids.length e3] 31)) := (Below.refl _ _).alloc (Nat.le_refl _) _
    have HA5 : Hid ((w4.alloc (.cells #[.string t.kind, .string t.text, .slice E1 l1 e1, .slice E2 l2 e2, .slice E3 t.kids.length e3] 31)).heap[w4.heap.size]? = some (.cells #[.string t.kind, .string t.text, .slice E1 l1 e1, .slice E2 l2 e2, .slice E3 t.kids.length e3] 31)) := Lib.hid (heap_new _ _)
    have HM5 := Lib.hid ((hb5.block (w.heap.size + 1) (by omega)).trans ((hb4.block (w.heap.size + 1) (by omega)).trans HM3.out))
    have HR5 := Lib.hid ((hb5.block (w.heap.size + 2) (by omega)).trans ((hb4.block (w.heap.size + 2) (by omega)).trans HR3.out))
    have HB5 := Lib.hid (belowNext (belowNext HB3.out hb4) hb5)
    have HN5 := Lib.hid (NodeP.keep (w' := w4.alloc (.cells #[.string t.kind, .string t.text, .slice E1 l1 e1, .slice E2 l2 e2, .slice E3 t.kids.length e3] 31)) _ _ _ (w.heap.size + 3) w4.heap.size _ (by omega) (Nat.le_refl _) (fun b hb => hb5.block b hb.2) hn4)
    have HZ5 : Hid ((w4.alloc (.cells #[.string t.kind, .string t.text, .slice E1 l1 e1, .slice E2 l2 e2, .slice E3 t.kids.length e3] 31)).heap.size = w4.heap.size + 1) := Lib.hid (by simp)
    have HLO : Hid (w.heap.size + 3 ≤ w4.heap.size) := Lib.hid (by omega)
    clear hb4 hb5 hn4 x0 x1 x2 x3 x4 HN3 HM3 HR3 HB3 HZ3 hz1 hz2 hz3 hz4 HB2
    go_wp2
    generalize w4.alloc (.cells #[.string t.kind, .string t.text, .slice E1 l1 e1, .slice E2 l2 e2, .slice E3 t.kids.length e3] 31) = W5 at *
    generalize w4.heap.size = ga at *
    have HGO : Hid (goB t p = some u) := Lib.hid (followB_some HE.out).1
    go_loopw [11, 27] (fun s11 i wr => ∃ (k : Nat) (y : Tree) (g o a b : Nat) (vv : Value), k ≤ p.length ∧ i = .int .i64 k ∧ s11 = .pointer (some ⟨g, o, none⟩) ∧ wr = W5 ∧ weigh y ≤ 1000000 ∧ Hid (goB y (p.drop k) = some u) ∧ Hid (WithAt W5 (w.heap.size + 3) ga t (p.take k) y g o a b vv)) (fun _ i _ => p.length - (intOf i).toNat)
    case atStart =>
      exact ⟨0, t, ga, 0, _, _, _, by omega, rfl, rfl, rfl, hw, Lib.hid HGO.out, Lib.hid (WithAt.start HN5.out HA5.out ⟨_, _, _, _, _, rfl, rfl, rfl, rfl, rfl, rfl⟩)⟩
    case round =>
      obtain ⟨k, y, g, o, a, b, vv, hk, rfl, rfl, rfl, hwy, hgo, hat⟩ := hrel
      by_cases hlt : k < p.length
      · have hpx : p[k]? = some p[k] := List.getElem?_eq_getElem hlt
        generalize p[k] = x at *
        have HTK : Hid (p.take (k + 1) = p.take k ++ [x]) := Lib.hid (by rw [List.take_add_one, hpx]; rfl)
        have HD := Lib.hid (drop_cons hpx)
        obtain ⟨bp, op, rfl, hup, hcx⟩ := HP.out.get hpx
        have z0 := (HB5.out.cell (p := ⟨bp, op + k, none⟩) hup).trans hcx
        have hgo' := hgo.out
        rw [HD.out, goB] at hgo'
        cases hka : kidAt y x with
        | none => rw [hka] at hgo'; cases hgo'
        | some y' =>
          rw [hka] at hgo'
          obtain ⟨hT, hx0, hyk⟩ := kidAt_some hka
          obtain ⟨j, rfl⟩ : ∃ j : Nat, x = (j : Int) := ⟨x.toNat, by omega⟩
          rw [Int.toNat_natCast] at hyk
          have hjl := (List.getElem?_eq_some_iff.1 hyk).1
          have hl2 : y.kids.length ≤ 1000000 := by have := length_le_weigh y.kids; have := kids_weigh y; omega
          have hwk := weigh_kidAt hyk
          obtain ⟨g2, c2', vm', va', a', b', v', rfl, hcc, hnext⟩ := hat.out.next hT hyk
          obtain ⟨_, _, _, _, y4⟩ := hat.out.cells
          have HNX := Lib.hid hnext
          have HGO' := Lib.hid hgo'
          clear hgo' hnext hT hka hyk hcx hpx hgo hat
          go_wp2
          exact ⟨⟨k + 1, y', g2, j * 5, a', b', v', by omega, by go_num, by simp, by first | rfl | trivial, by omega, HGO', Lib.hid (by rw [HTK.out]; exact HNX.out)⟩, by simp [intOf]; omega⟩
      · obtain rfl : k = p.length := by omega
        have HAT : Hid (WithAt wr (w.heap.size + 3) ga t p y g o a b vv) := Lib.hid (by have := hat.out; rw [List.take_length] at this; exact this)
        obtain ⟨h1, h2, h3, h4, h5⟩ := hat.out.bounds
        obtain ⟨cur, hcur, v0, v1, v2, v3, v4, rfl, f0, f1, f2, f3, f4⟩ := hat.out.row
        obtain ⟨y0, y1, y2, y3, y4⟩ := HAT.out.cells
        obtain ⟨x0, x1, x2, x3, x4⟩ := cells5 HM5.out
        have hzz := HZ5.out
        have HCU := Lib.hid hcur
        clear hat hgo f0 f1 f2 f3 f4 hcur h5
        go_upto_region 11 with fail
        go_cut [] (fun wx => Below w.heap.size w wx ∧ w.heap.size + 3 ≤ wx.heap.size ∧ Hid (wx.heap[w.heap.size + 2]? = some (.cells #[.string ⟨#[]⟩, .string ⟨#[]⟩, .slice none 0 0, .slice none 0 0, .slice none 0 0] 31)) ∧ Hid (NodeAt wx (From (w.heap.size + 3) wx.heap.size) (withB t p m) ga 0))
        case first =>
          go_wp2_with fail
          refine (copy_any _ m _ (HMD.out _ HB5.out) hwm).mono ?_
          rintro e w6 ⟨v6, rfl, hn6, hb6⟩
          obtain ⟨F1, k1, g1, F2, k2, g2, F3, g3, rfl⟩ := hn6.forms
          have HN6 := Lib.hid hn6
          have hz6 := hb6.size
          replace y0 := cell_kept y0 hb6
          replace y1 := cell_kept y1 hb6
          replace y2 := cell_kept y2 hb6
          replace y3 := cell_kept y3 hb6
          replace y4 := cell_kept y4 hb6
          have hc6 := (hb6.block g (by omega)).trans HCU.out
          have q0 := frozen_of_row _ _ o _ _ hc6
          have q1 := frozen_of_row _ _ (o + 1) _ _ hc6
          have q2 := frozen_of_row _ _ (o + 2) _ _ hc6
          have q3 := frozen_of_row _ _ (o + 3) _ _ hc6
          have q4 := frozen_of_row _ _ (o + 4) _ _ hc6
          have HB6 := Lib.hid hb6
          have HR6 := Lib.hid ((hb6.block (w.heap.size + 2) (by omega)).trans HR5.out)
          clear hb6 hn6 hc6 x0 x1 x2 x3 x4
          go_wp2_with fail
          go_meet
          have hs := put5o_size (w := w6) (g := g) (o := o) (v0 := .string m.kind) (v1 := .string m.text) (v2 := .slice F1 k1 g1) (v3 := .slice F2 k2 g2) (v4 := .slice F3 m.kids.length g3)
          unfold put5o at hs
          refine ⟨put5o_below (by omega) (belowNext HB5.out HB6.out), by omega, Lib.hid ((put5o_other (by omega)).trans HR6.out), Lib.hid ?_⟩
          rw [hs]
          exact HAT.out.done HB6.out (by omega) HN6.out (fun d hd => ⟨hd.1, by have := hd.2; omega⟩) (fun d hd => ⟨by have := hd.1; omega, hd.2⟩)
        case rest =>
          obtain ⟨hbc, hzc, hrc, hnc⟩ := hcut
          have HBC := Lib.hid hbc
          clear y0 y1 y2 y3 y4 x0 x1 x2 x3 x4 hbc
          generalize hr : withB t p m = r at *
          obtain ⟨xm, xa, xk, e0, e1', e2', e3', e4, hxm, hxa, hxk⟩ := (nodeAt_iff r ga 0).1 hnc.out
          rw [Nat.zero_add] at e1' e2' e3' e4
          have HX := Lib.hid (And.intro hxm (And.intro hxa hxk))
          obtain ⟨G1, s1, rfl, _⟩ := hxm.form
          obtain ⟨G2, s2, rfl, _⟩ := id hxa
          obtain ⟨G3, s3, rfl, _⟩ := hxk.form
          obtain ⟨a0, a1, a2, a3, a4⟩ := cells5 hrc.out
          have f0 := frozen_of_row _ _ 0 _ _ hrc.out
          have f1 := frozen_of_row _ _ 1 _ _ hrc.out
          have f2 := frozen_of_row _ _ 2 _ _ hrc.out
          have f3 := frozen_of_row _ _ 3 _ _ hrc.out
          have f4 := frozen_of_row _ _ 4 _ _ hrc.out
          have hlo := HLO.out
          clear hxm hxa hxk
          go_wp2
          obtain ⟨q0, q1, q2, q3, q4⟩ := cells5 (put5z_block (v0 := .string r.kind) (v1 := .string r.text) (v2 := .slice G1 r.marks.length s1) (v3 := .slice G2 r.attrs.length s2) (v4 := .slice G3 r.kids.length s3) hrc.out)
          have HBE := Lib.hid (put5z_below (g := w.heap.size + 2) (v0 := .string r.kind) (v1 := .string r.text) (v2 := .slice G1 r.marks.length s1) (v3 := .slice G2 r.attrs.length s2) (v4 := .slice G3 r.kids.length s3) (by omega) HBC.out)
          have hsz := put5z_size (w := wc) (g := w.heap.size + 2) (v0 := .string r.kind) (v1 := .string r.text) (v2 := .slice G1 r.marks.length s1) (v3 := .slice G2 r.attrs.length s2) (v4 := .slice G3 r.kids.length s3)
          have hot : ∀ d, From (w.heap.size + 3) wc.heap.size d → (put5z wc (w.heap.size + 2) (.string r.kind) (.string r.text) (.slice G1 r.marks.length s1) (.slice G2 r.attrs.length s2) (.slice G3 r.kids.length s3)).heap[d]? = wc.heap[d]? := fun d hd => put5z_other (by have := hd.1; omega)
          have hfr : ∀ d, From (w.heap.size + 3) wc.heap.size d → From w.heap.size (put5z wc (w.heap.size + 2) (.string r.kind) (.string r.text) (.slice G1 r.marks.length s1) (.slice G2 r.attrs.length s2) (.slice G3 r.kids.length s3)).heap.size d := fun d hd => ⟨by have := hd.1; omega, by rw [hsz]; exact hd.2⟩
          unfold put5z at q0 q1 q2 q3 q4
          refine bodyPost_ret (v := .tuple #[.agg #[.string r.kind, .string r.text, .slice G1 r.marks.length s1, .slice G2 r.attrs.length s2, .slice G3 r.kids.length s3], .int .i64 0]) (by simp [results, Try.results17, go_sem, q0, q1, q2, q3, q4]) rfl ?_
          exact ⟨G1, _, s1, G2, _, s2, G3, s3, r, 0, rfl, ⟨_, _, _, rfl, HX.out.1.keep hfr hot, HX.out.2.1.keep hfr hot, HX.out.2.2.keep hfr hot⟩, .inl ⟨by rw [HE.out]; simp, rfl, hr.symm⟩, HBE.out⟩
end Go.Proofs.Ytmmifednhleggaa

namespace Go.Proofs.Ytmmifednhleggaa
open Go.RowKit Go.Sort

/-- The blocks of S, and new ones. -/
def NewR (S : Nat → Prop) (lo hi : Nat) : Nat → Prop := fun b => S b ∨ From lo hi b
/-- What the document's With answers. -/
def RWithPost (S : Nat → Prop) (w : World) (t m : Tree) (p : List Int) (e : Ending) (w' : World) : Prop :=
  ∃ A1 n1 c1 A2 n2 c2 A3 c3 u, ∃ n : Int, e = .returned (.tuple #[.agg #[.string u.kind, .string u.text, .slice A1 n1 c1, .slice A2 n2 c2, .slice A3 u.kids.length c3], .int .i64 n]) ∧
    Node w' (NewR S w.heap.size w'.heap.size) (.agg #[.string u.kind, .string u.text, .slice A1 n1 c1, .slice A2 n2 c2, .slice A3 u.kids.length c3]) u ∧
    ((followB t p ≠ none ∧ n = 0 ∧ u = withB t p m) ∨ (followB t p = none ∧ n = 9 ∧ u = .mk ⟨#[]⟩ ⟨#[]⟩ [] [] [])) ∧ Below w.heap.size w w'

section
variable {w : World} {ops : Array Oper} {o : Oper} {a : Act} {K : Act → World → Prop} {Q : Exit → Act → World → Prop} {E : Prop}
/-- The document's With, in a region that draws its order. -/
theorem step_rwith {v vp vm : Value} {y m : Tree} {q : List Int} {S : Nat → Prop} (hgd : o.guard = none) (p1 p2 p3 : Operand) (ho : o.op = .call { callee := .value (.func 18), args := #[p1, p2, p3], argTypes := #[31, 23, 31] })
    (h1 : a.eval p1 = v) (h2 : a.eval p2 = vp) (h3 : a.eval p3 = vm) (hc : Calls Try.prog 18 #[v, vp, vm] w (RWithPost S w y m q)) (hfo : followB y q ≠ none)
    (h : ∀ A1 n1 c1 A2 n2 c2 A3 c3 w', Node w' (NewR S w.heap.size w'.heap.size) (.agg #[.string (withB y q m).kind, .string (withB y q m).text, .slice A1 n1 c1, .slice A2 n2 c2, .slice A3 (withB y q m).kids.length c3]) (withB y q m) → Below w.heap.size w w' →
      K (a.put o.dst (.tuple #[.agg #[.string (withB y q m).kind, .string (withB y q m).text, .slice A1 n1 c1, .slice A2 n2 c2, .slice A3 (withB y q m).kids.length c3], .int .i64 0])) w') :
    if Region.wanted o (yielded ops a.tmps) = true then Oper.wp Try.prog o a w K Q else E := by
  have hwn : Region.wanted o (yielded ops a.tmps) = true := by simp [Region.wanted, hgd]
  rw [if_pos hwn]
  have hrun : (execOp a.eval o).run Try.prog w = .ok (.enter 18 #[v, vp, vm]) w := by
    have hf : a.eval (.func 18) = .func (.func 18) #[] #[] := rfl
    obtain ⟨c, hc⟩ : ∃ c, Try.f18.body = some c := Option.isSome_iff_exists.1 (by kernel_rfl)
    have hne : ¬ Try.f18.name = "runtime.NumGoroutine" := of_decide_eq_false (by kernel_rfl)
    simp [execOp, ho, resolve, invoke, h1, h2, h3, hf, Deferred.ofValue, callFunc, hne, hc]
  unfold Oper.wp
  rw [hrun, Oper.upon_enter]
  refine hc.mono fun e w'' hh => ?_
  obtain ⟨A1, n1, c1, A2, n2, c2, A3, c3, u', nn, rfl, hn, hf, hb⟩ := hh
  obtain ⟨rfl, rfl⟩ : u' = withB y q m ∧ nn = 0 := by
    rcases hf with ⟨_, h0, hu⟩ | ⟨hf, _⟩
    · exact ⟨hu, h0⟩
    · exact absurd hf hfo
  exact h A1 n1 c1 A2 n2 c2 A3 c3 w'' hn hb
end

theorem Ints.tail {w : World} {S : Nat → Prop} {b o n c : Nat} {x : Int} {q : List Int} (h : Ints w S (.slice (some ⟨b, o, none⟩) n c) (x :: q)) (o' : Nat) (ho : q = [] ∨ o' = o + 1) : Ints w S (.slice (some ⟨b, o', none⟩) q.length (c - 1)) q := by
  obtain ⟨A', c', hv, h1, h2, h3⟩ := h
  injection hv with hA hn hc
  subst hc
  rw [List.length_cons] at h1
  refine ⟨_, c - 1, rfl, by omega, by omega, ?_⟩
  rcases ho with rfl | rfl
  · exact .inl rfl
  · rcases h3 with h3 | ⟨b', o'', e, hb, hcell⟩
    · cases h3
    · rw [← hA] at e
      simp only [Option.some.injEq, Addr.mk.injEq, and_true] at e
      obtain ⟨rfl, rfl⟩ := e
      exact .inr ⟨b, o + 1, rfl, hb, fun i s hi => by have := hcell (i + 1) s (by simpa using hi); rwa [show o + (i + 1) = o + 1 + i by omega] at this⟩

abbrev ZNodeR : Obj := (.cells #[.string ⟨#[]⟩, .string ⟨#[]⟩, .slice none 0 0, .slice none 0 0, .slice none 0 0] 31)

/-- What the document's With says, by the path's length. -/
def RWithSaid (m : Tree) (p : List Int) : Prop := ∀ (S : Nat → Prop) (t : Tree) (v vp vm : Value) (w : World), (∀ b, S b → b < w.heap.size) → Node w S v t → Node w S vm m → Ints w (Under w.heap.size) vp p → (∀ x ∈ p, -9223372036854775808 ≤ x ∧ x ≤ 9223372036854775807) → weigh t ≤ 1000000 →
  Calls Try.prog 18 #[v, vp, vm] w (RWithPost S w t m p)

/-- The part behind the call of itself: the kids joined anew. -/
def RWithMid (S : Nat → Prop) (w : World) (tb : Obj) (k : Tree) (s10 : Value) (wx : World) : Prop :=
  ∃ G F1 k1 g1 F2 k2 g2 F3 g3, s10 = .pointer (some ⟨G, 0, none⟩) ∧ Below w.heap.size w wx ∧ w.heap.size + 3 ≤ G ∧ wx.heap[G]? = some (.cells #[.string k.kind, .string k.text, .slice F1 k1 g1, .slice F2 k2 g2, .slice F3 k.kids.length g3] 31) ∧
    Node wx (NewR S (w.heap.size + 3) wx.heap.size) (.agg #[.string k.kind, .string k.text, .slice F1 k1 g1, .slice F2 k2 g2, .slice F3 k.kids.length g3]) k ∧ wx.heap[w.heap.size + 2]? = some ZNodeR ∧ wx.heap[w.heap.size]? = some tb

theorem mid_put {S : Nat → Prop} {w W3 w6 : World} {tb : Obj} {k : Tree} {F1 F2 F3 : Option Addr} {k1 g1 k2 g2 g3 : Nat} (hS : ∀ b, S b → b < w.heap.size) (hz : w.heap.size + 3 ≤ W3.heap.size) (hb : Below w.heap.size w w6) (hs : w6.heap[W3.heap.size]? = some ZNodeR)
    (hn : Node w6 (NewR S ((W3.alloc ZNodeR).drew).heap.size w6.heap.size) (.agg #[.string k.kind, .string k.text, .slice F1 k1 g1, .slice F2 k2 g2, .slice F3 k.kids.length g3]) k) (hr : w6.heap[w.heap.size + 2]? = some ZNodeR) (ht : w6.heap[w.heap.size]? = some tb) :
    RWithMid S w tb k (.pointer (some ⟨W3.heap.size, 0, none⟩)) (((((w6.setCell ⟨W3.heap.size, 0, none⟩ (.string k.kind)).setCell ⟨W3.heap.size, 1, none⟩ (.string k.text)).setCell ⟨W3.heap.size, 2, none⟩ (.slice F1 k1 g1)).setCell ⟨W3.heap.size, 3, none⟩ (.slice F2 k2 g2)).setCell ⟨W3.heap.size, 4, none⟩ (.slice F3 k.kids.length g3)) := by
  have hsz := put5z_size (w := w6) (g := W3.heap.size) (v0 := .string k.kind) (v1 := .string k.text) (v2 := .slice F1 k1 g1) (v3 := .slice F2 k2 g2) (v4 := .slice F3 k.kids.length g3)
  have hnz : ((W3.alloc ZNodeR).drew).heap.size = W3.heap.size + 1 := by show (W3.heap.push _).size = _; simp
  have h : RWithMid S w tb k (.pointer (some ⟨W3.heap.size, 0, none⟩)) (put5z w6 W3.heap.size (.string k.kind) (.string k.text) (.slice F1 k1 g1) (.slice F2 k2 g2) (.slice F3 k.kids.length g3)) := by
    refine ⟨W3.heap.size, F1, k1, g1, F2, k2, g2, F3, g3, rfl, put5z_below (by omega) hb, hz, put5z_block hs, hn.keep (fun b h => h.imp id fun hf => ⟨by have := hf.1; omega, by rw [hsz]; exact hf.2⟩) (fun b h => put5z_other ?_), (put5z_other (by omega)).trans hr, (put5z_other (by omega)).trans ht⟩
    rcases h with h | h
    · have := hS b h; omega
    · have := h.1; omega
  exact h
theorem mid_new {S : Nat → Prop} {w W3 w6 : World} {tb : Obj} {k : Tree} {F1 F2 F3 : Option Addr} {k1 g1 k2 g2 g3 : Nat} (hS : ∀ b, S b → b < w.heap.size) (hz : w.heap.size + 3 ≤ W3.heap.size) (hz6 : w.heap.size + 3 ≤ w6.heap.size) (hb : Below w.heap.size w w6)
    (hn : Node w6 (NewR S (W3.drew).heap.size w6.heap.size) (.agg #[.string k.kind, .string k.text, .slice F1 k1 g1, .slice F2 k2 g2, .slice F3 k.kids.length g3]) k) (hr : w6.heap[w.heap.size + 2]? = some ZNodeR) (ht : w6.heap[w.heap.size]? = some tb) :
    RWithMid S w tb k (.pointer (some ⟨w6.heap.size, 0, none⟩)) (w6.alloc (.cells #[.string k.kind, .string k.text, .slice F1 k1 g1, .slice F2 k2 g2, .slice F3 k.kids.length g3] 31)) := by
  have ha : Below w6.heap.size w6 (w6.alloc (.cells #[.string k.kind, .string k.text, .slice F1 k1 g1, .slice F2 k2 g2, .slice F3 k.kids.length g3] 31)) := (Below.refl _ _).alloc (Nat.le_refl _) _
  have hz3 : (W3.drew).heap.size = W3.heap.size := rfl
  refine ⟨w6.heap.size, F1, k1, g1, F2, k2, g2, F3, g3, rfl, hb.alloc hb.size _, hz6, heap_new _ _, hn.keep (fun b hb => hb.imp id fun hf => ⟨by have := hf.1; omega, Nat.lt_of_lt_of_le hf.2 ha.size⟩) (fun b hb' => ha.block b ?_), heap_old _ _ _ hr, heap_old _ _ _ ht⟩
  rcases hb' with h | h
  · have := hS b h; omega
  · exact h.2

set_option maxHeartbeats 8000000 in
set_option maxRecDepth 100000 in
theorem rwith_nil (m : Tree) : RWithSaid m [] := by
  intro S t v vp vm w hS h hm hp hpr hw
  have HP := Lib.hid hp
  have HS := Lib.hid hS
  have HPR := Lib.hid hpr
  have HN := Lib.hid h
  have HM := Lib.hid hm
  obtain ⟨A1, n1, c1, A2, n2, c2, A3, c3, rfl⟩ := h.forms
  obtain ⟨M1, i1, j1, M2, i2, j2, M3, j3, rfl⟩ := hm.forms
  obtain ⟨Ap, cp, rfl, hpc⟩ := hp.form
  have hpm := hp.len.2.2
  unfold maxLen at hpm
  clear hp hpr h hm hS
  go_enter Try.func18, Try.ntmps18
  go_wp2_with fail
  generalize hW1 : ((w.alloc (.cells #[.string t.kind, .string t.text, .slice A1 n1 c1, .slice A2 n2 c2, .slice A3 t.kids.length c3] 31)).alloc (.cells #[.string m.kind, .string m.text, .slice M1 i1 j1, .slice M2 i2 j2, .slice M3 m.kids.length j3] 31)).alloc (.cells #[.string ⟨#[]⟩, .string ⟨#[]⟩, .slice none 0 0, .slice none 0 0, .slice none 0 0] 31) = W1
  have HB0 : Hid (Below w.heap.size w W1) := Lib.hid (by subst hW1; exact (((Below.refl _ _).alloc (Nat.le_refl _) _).alloc (by simp) _).alloc (by simp; omega) _)
  have HC1 : Hid (W1.heap[w.heap.size]? = some (.cells #[.string t.kind, .string t.text, .slice A1 n1 c1, .slice A2 n2 c2, .slice A3 t.kids.length c3] 31) ∧ W1.heap[w.heap.size + 1]? = some (.cells #[.string m.kind, .string m.text, .slice M1 i1 j1, .slice M2 i2 j2, .slice M3 m.kids.length j3] 31) ∧ W1.heap[w.heap.size + 2]? = some (.cells #[.string ⟨#[]⟩, .string ⟨#[]⟩, .slice none 0 0, .slice none 0 0, .slice none 0 0] 31) ∧ W1.heap.size = w.heap.size + 3) := Lib.hid (by
    subst hW1; exact ⟨heap_old _ _ _ (heap_old _ _ _ (heap_new _ _)), heap_old _ _ _ (heap_new' _ _ (by simp)), heap_new' _ _ (by simp), by simp⟩)
  clear hW1
  have HPK : Hid (∀ W, Below w.heap.size w W → Ints W (Under W.heap.size) (.slice Ap (([] : List Int)).length cp) (([] : List Int))) := Lib.hid fun W hW => HP.out.keep (fun b hb => Nat.lt_of_lt_of_le hb hW.size) (fun b hb => hW.block b hb)
  refine (rinner_any _ _ t (([] : List Int)) W1 (HN.out.keep (fun b hb => Nat.lt_of_lt_of_le (HS.out b hb) HB0.out.size) (fun b hb => HB0.out.block b (HS.out b hb))) (HPK.out W1 HB0.out) HPR.out hw).mono ?_
  rintro e w2 ⟨B1, m1, d1, B2, m2, d2, B3, d3, u, nn, rfl, hnu, hfo, hb2⟩
  have hz1 := HC1.out.2.2.2
  have hz2 := hb2.size
  have HB2 := Lib.hid (belowNext HB0.out hb2)
  generalize hob : (Obj.cells #[.string u.kind, .string u.text, .slice B1 m1 d1, .slice B2 m2 d2, .slice B3 u.kids.length d3] 31) = ob
  have hb3 : Below w2.heap.size w2 (w2.alloc ob) := (Below.refl _ _).alloc (Nat.le_refl _) _
  have HN3 := Lib.hid ((hb3.block w.heap.size (by omega)).trans ((hb2.block w.heap.size (by omega)).trans HC1.out.1))
  have HM3 := Lib.hid ((hb3.block (w.heap.size + 1) (by omega)).trans ((hb2.block (w.heap.size + 1) (by omega)).trans HC1.out.2.1))
  have HR3 := Lib.hid ((hb3.block (w.heap.size + 2) (by omega)).trans ((hb2.block (w.heap.size + 2) (by omega)).trans HC1.out.2.2.1))
  have HB3 := Lib.hid (belowNext HB2.out hb3)
  have HZ3 : Hid (w.heap.size + 3 ≤ (w2.alloc ob).heap.size) := Lib.hid (by have := hb3.size; omega)
  have f0 := frozen_of_row _ _ 0 _ _ HR3.out
  have f1 := frozen_of_row _ _ 1 _ _ HR3.out
  have f2 := frozen_of_row _ _ 2 _ _ HR3.out
  have f3 := frozen_of_row _ _ 3 _ _ HR3.out
  have f4 := frozen_of_row _ _ 4 _ _ HR3.out
  obtain ⟨a0, a1, a2, a3, a4⟩ := cells5 HR3.out
  subst hob
  clear hb2 hnu HC1 hb3 hz1 hz2
  rcases hfo with ⟨hf, rfl⟩ | ⟨hf, rfl, hu0⟩
  rotate_left
  · have HE := Lib.hid hf
    clear hf hu0
    go_wp2
    obtain ⟨q0, q1, q2, q3, q4⟩ := cells5 (put5z_block (v0 := .string ⟨#[]⟩) (v1 := .string ⟨#[]⟩) (v2 := .slice none 0 0) (v3 := .slice none 0 0) (v4 := .slice none 0 0) HR3.out)
    have HBE := Lib.hid (put5z_below (g := w.heap.size + 2) (v0 := .string ⟨#[]⟩) (v1 := .string ⟨#[]⟩) (v2 := .slice none 0 0) (v3 := .slice none 0 0) (v4 := .slice none 0 0) (by omega) HB3.out)
    unfold put5z at q0 q1 q2 q3 q4
    refine bodyPost_ret (v := .tuple #[.agg #[.string ⟨#[]⟩, .string ⟨#[]⟩, .slice none 0 0, .slice none 0 0, .slice none 0 0], .int .i64 9]) (by simp [results, Try.results18, go_sem, q0, q1, q2, q3, q4]) rfl ?_
    exact ⟨none, 0, 0, none, 0, 0, none, 0, .mk ⟨#[]⟩ ⟨#[]⟩ [] [] [], 9, rfl, ⟨_, _, _, rfl, strs_nil, pairs_nil, kids_nil⟩, .inr ⟨HE.out, rfl, rfl⟩, HBE.out⟩
  · have HE := Lib.hid hf
    clear hf
    obtain ⟨x0, x1, x2, x3, x4⟩ := cells5 HM3.out
    go_wp2
    obtain ⟨q0, q1, q2, q3, q4⟩ := cells5 (put5z_block (v0 := .string m.kind) (v1 := .string m.text) (v2 := .slice M1 i1 j1) (v3 := .slice M2 i2 j2) (v4 := .slice M3 m.kids.length j3) HR3.out)
    have HBE := Lib.hid (put5z_below (g := w.heap.size + 2) (v0 := .string m.kind) (v1 := .string m.text) (v2 := .slice M1 i1 j1) (v3 := .slice M2 i2 j2) (v4 := .slice M3 m.kids.length j3) (by omega) HB3.out)
    unfold put5z at q0 q1 q2 q3 q4
    refine bodyPost_ret (v := .tuple #[.agg #[.string m.kind, .string m.text, .slice M1 i1 j1, .slice M2 i2 j2, .slice M3 m.kids.length j3], .int .i64 0]) (by simp [results, Try.results18, go_sem, q0, q1, q2, q3, q4]) rfl ?_
    exact ⟨M1, i1, j1, M2, i2, j2, M3, j3, m, 0, rfl, HM.out.keep (fun b hb => .inl hb) (fun b hb => HBE.out.block b (HS.out b hb)), .inl ⟨by rw [HE.out]; simp, rfl, by simp [withB]⟩, HBE.out⟩

end Go.Proofs.Ytmmifednhleggaa
