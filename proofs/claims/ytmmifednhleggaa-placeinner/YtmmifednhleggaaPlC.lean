/-
  What start and isThere answer.
-/
import Derived.Test.YtmmifednhleggaaPlB
namespace Go.Proofs.Ytmmifednhleggaa
open Go.RowKit Go.Sort

theorem rowAt_take {w : World} {S : Nat → Prop} {l : List Tree} {b o : Nat} (h : RowAt w S l b o) (j : Nat) : RowAt w S (l.take j) b o := by
  refine rowAt_of _ b o fun i t hi => rowAt_get l b o h i t ?_
  have hij : i < j := by have := (List.getElem?_eq_some_iff.1 hi).1; rw [List.length_take] at this; omega
  rwa [List.getElem?_take_of_lt hij] at hi
theorem Kids.upto {w : World} {S : Nat → Prop} {A : Option Addr} {n c : Nat} {l : List Tree} (h : Kids w S (.slice A n c) l) {j : Nat} (hj : j ≤ l.length) : Kids w S (.slice A j c) (l.take j) := by
  obtain ⟨A', c', hv, h1, h2, h3⟩ := h
  injection hv with hA hn hc
  subst hA; subst hc
  refine ⟨A, c, by rw [List.length_take, Nat.min_eq_left hj], by rw [List.length_take]; omega, h2, ?_⟩
  rcases h3 with rfl | ⟨b, o, rfl, hb, hr⟩
  · exact .inl (by simp)
  · exact .inr ⟨b, o, rfl, hb, rowAt_take hr j⟩
theorem Kids.len {w : World} {S : Nat → Prop} {A : Option Addr} {n c : Nat} {l : List Tree} (h : Kids w S (.slice A n c) l) : n = l.length ∧ l.length ≤ c ∧ c ≤ maxLen := by
  obtain ⟨A', c', hv, h1, h2, _⟩ := h
  injection hv with _ h3 h4
  subst h4
  exact ⟨h3, h1, h2⟩

set_option maxHeartbeats 4000000 in
theorem start_any (v vp : Value) (t u : Tree) (p : List Int) (w : World) (h : Node w (Under w.heap.size) v t) (hp : Ints w (Under w.heap.size) vp p) (hgo : goB t p = some u) (hw : weigh t ≤ 1000000) :
    Calls Try.prog 26 #[v, vp] w fun e w' => e = .returned (.int .i64 (startB t p)) ∧ Below w.heap.size w w' := by
  have HP := Lib.hid hp
  have HN := Lib.hid h
  obtain ⟨A1, n1, c1, A2, n2, c2, A3, c3, rfl⟩ := h.forms
  obtain ⟨Ap, cp, rfl, hpc⟩ := hp.form
  have hpm := hp.len.2.2
  unfold maxLen at hpm
  have hsw := startB_weigh p t
  have HGO := Lib.hid hgo
  clear hp h hgo
  go_enter Try.func26, Try.ntmps26
  go_wp2
  go_loopw [5, 10] (fun s i wr => ∃ (k n : Nat) (y : Tree), k ≤ p.length ∧ i = .int .i64 k ∧ s = .int .i64 n ∧ Below w.heap.size w wr ∧ w.heap.size + 1 ≤ wr.heap.size ∧ weigh y ≤ 1000000 ∧ n + startB y (p.drop k) = startB t p ∧ Hid (goB y (p.drop k) = some u) ∧ Hid (Box w wr w.heap.size y)) (fun _ i _ => p.length - (intOf i).toNat)
  case atStart =>
    exact ⟨0, 0, t, by omega, rfl, rfl, (Below.refl _ _).alloc (Nat.le_refl _) _, by simp, hw, by simp, Lib.hid HGO.out, Lib.hid ⟨_, _, _, _, _, _, _, _, heap_new _ _, HN.out⟩⟩
  case round =>
    obtain ⟨k, n, y, hk, rfl, rfl, hb, hz, hwy, hst, hgy, hbox⟩ := hrel
    obtain ⟨B1, m1, d1, B2, m2, d2, B3, d3, hbl, hny⟩ := hbox.out
    obtain ⟨x0, x1, x2, x3, x4⟩ := cells5 hbl
    have HNY := Lib.hid hny
    have HB := Lib.hid hb
    have HBL := Lib.hid hbl
    by_cases hlt : k < p.length
    · have hpx : p[k]? = some p[k] := List.getElem?_eq_getElem hlt
      generalize p[k] = x at *
      obtain ⟨bp, op, rfl, hup, hcx⟩ := HP.out.get hpx
      have z0 := (HB.out.cell (p := ⟨bp, op + k, none⟩) hup).trans hcx
      have hd := drop_cons hpx
      obtain ⟨y', hky, hgy'⟩ : ∃ y', kidAt y x = some y' ∧ goB y' (p.drop (k + 1)) = some u := by
        have := hgy.out
        rw [hd, goB] at this
        cases hq : kidAt y x with
        | none => rw [hq] at this; cases this
        | some y' => rw [hq] at this; exact ⟨y', rfl, this⟩
      obtain ⟨hty, hx0, hju⟩ := kidAt_some hky
      rw [hd, startB, hju] at hst
      obtain ⟨j, rfl⟩ : ∃ j : Nat, x = (j : Int) := ⟨x.toNat, by omega⟩
      rw [Int.toNat_natCast] at hju hst
      simp only at hst
      have hj : j < y.kids.length := (List.getElem?_eq_some_iff.1 hju).1
      have hwk := weigh_kidAt hju
      have hws := kids_weigh y
      have hjl := length_le_weigh y.kids
      have HWT : Hid (weighAll (y.kids.take j) ≤ 1000000) := Lib.hid (by omega)
      have hlen := hny.kidsOf.len
      have hlc := hlen.2.1
      have HTK : Hid (∀ W, Below w.heap.size w W → w.heap.size ≤ W.heap.size → Kids W (Under W.heap.size) (.slice B3 j d3) (y.kids.take j)) := Lib.hid fun W hW hz => ((HNY.out.kidsOf.upto (Nat.le_of_lt hj)).below hW).more hz
      obtain ⟨by', oy, E1, l1, e1, E2, l2, e2, E3, e3, rfl, huy, r0, r1, r2, r3, r4, hny'⟩ := hny.kidsOf.kid hju
      have HNY' := Lib.hid hny'
      have HR := Lib.hid (And.intro r0 (And.intro r1 (And.intro r2 (And.intro r3 r4))))
      have i1 : j ≤ d3 := by omega
      have HGY := Lib.hid hgy'
      clear hcx hpx hny hbl hb hlen hny' r0 r1 r2 r3 r4 hgy' hky hty hju hd hx0 hgy hbox
      go_wp2_with fail
      refine (total_any _ (y.kids.take j) _ (HTK.out _ HB.out (by omega)) HWT.out).mono ?_
      rintro e w1 ⟨rfl, hb1⟩
      have hn1 := (hb1.block w.heap.size (by omega)).trans HBL.out
      have HB1 := Lib.hid (belowNext HB.out (hb1.mono (Nat.le_refl _)))
      have hz1 := hb1.size
      have HN1 := Lib.hid hn1
      clear x0 x1 x2 x3 x4 z0 hb1 HBL
      obtain ⟨x0, x1, x2, x3, x4⟩ := cells5 hn1
      have hf : ∀ j, w1.frozen? ⟨w.heap.size, j, none⟩ = false := fun j => frozen_of_row _ _ j _ _ hn1
      have f0 := hf 0
      have f1 := hf 1
      have f2 := hf 2
      have f3 := hf 3
      have f4 := hf 4
      have s0 := (HB1.out.cell (p := ⟨by', oy + j * 5, none⟩) huy).trans HR.out.1
      have s1 := (HB1.out.cell (p := ⟨by', oy + j * 5 + 1, none⟩) huy).trans HR.out.2.1
      have s2 := (HB1.out.cell (p := ⟨by', oy + j * 5 + 2, none⟩) huy).trans HR.out.2.2.1
      have s3 := (HB1.out.cell (p := ⟨by', oy + j * 5 + 3, none⟩) huy).trans HR.out.2.2.2.1
      have s4 := (HB1.out.cell (p := ⟨by', oy + j * 5 + 4, none⟩) huy).trans HR.out.2.2.2.2
      have HST := Lib.hid hst
      generalize totalB (y.kids.take j) = tt at *
      clear hf hn1
      go_wp2
      refine ⟨⟨k + 1, n + (tt + 1), y', by omega, by go_num, by go_num, put5z_below (Nat.le_refl _) HB1.out, ?_, by omega, by have := HST.out; omega, HGY, Lib.hid ⟨_, _, _, _, _, _, _, _, put5z_block HN1.out, HNY'.out⟩⟩, by simp [intOf]; omega⟩
      have := put5z_size (w := w1) (g := w.heap.size) (v0 := .string y'.kind) (v1 := .string y'.text) (v2 := .slice E1 l1 e1) (v3 := .slice E2 l2 e2) (v4 := .slice E3 y'.kids.length e3)
      unfold put5z at this
      omega
    · rw [List.drop_of_length_le (by omega), startB] at hst
      go_wp2
      go_ret
      exact ⟨by rw [← hst]; rfl, HB.out⟩
end Go.Proofs.Ytmmifednhleggaa
