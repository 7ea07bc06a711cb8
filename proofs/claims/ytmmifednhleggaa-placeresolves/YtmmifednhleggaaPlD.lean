/-
  What isThere, Pos, Inner and Start answer.
-/
import Derived.Test.YtmmifednhleggaaPlC
import Derived.Test.YtmmifednhleggaaW23
namespace Go.Proofs.Ytmmifednhleggaa
open Go.RowKit Go.Sort

theorem there_out {K : List Tree} {j o : Int} (h : j < 0 ∨ (K.length : Int) < j) : thereB K j o = false := by
  unfold thereB
  rcases h with h | h <;> simp [h]
theorem there_in {K : List Tree} {j : Nat} {o : Int} (h : j ≤ K.length) : thereB K (j : Int) o = thereAt K[j]? o := by
  unfold thereB
  rw [decide_eq_false (by omega), decide_eq_false (by omega), Int.toNat_natCast]; rfl

set_option maxHeartbeats 4000000 in
theorem isThere_any (v : Value) (K : List Tree) (j o : Int) (w : World) (h : Kids w (Under w.heap.size) v K) (hw : weighAll K ≤ 1000000) (hj1 : -9223372036854775808 ≤ j) (hj2 : j ≤ 9223372036854775807) (ho1 : -9223372036854775808 ≤ o) (ho2 : o ≤ 9223372036854775807) :
    Calls Try.prog 25 #[v, .int .i64 j, .int .i64 o] w fun e w' => e = .returned (.bool (thereB K j o)) ∧ Below w.heap.size w w' := by
  have HK := Lib.hid h
  obtain ⟨A, c, rfl, hlc⟩ := h.form
  have hll := length_le_weigh K
  clear h
  go_enter Try.func25, Try.ntmps25
  by_cases h0 : j < 0
  · have HE := Lib.hid (there_out (K := K) (o := o) (.inl h0))
    go_wp2
    go_ret
    exact ⟨ret_bool HE.out.symm, Below.refl _ _⟩
  · by_cases h1 : (K.length : Int) < j
    · have HE := Lib.hid (there_out (K := K) (o := o) (.inr h1))
      go_wp2
      go_ret
      exact ⟨ret_bool HE.out.symm, Below.refl _ _⟩
    · obtain ⟨j, rfl⟩ : ∃ k : Nat, j = (k : Int) := ⟨j.toNat, by omega⟩
      have HE := Lib.hid (there_in (K := K) (j := j) (o := o) (by omega))
      by_cases h2 : j < K.length
      · have hx : K[j]? = some K[j] := List.getElem?_eq_getElem h2
        generalize K[j] = x at *
        have hwx := weigh_mem (List.mem_of_getElem? hx)
        obtain ⟨b, o', E1, l1, e1, E2, l2, e2, E3, e3, rfl, hub, r0, r1, r2, r3, r4, hnx⟩ := HK.out.kid hx
        have HX := Lib.hid hx
        have HNX := Lib.hid hnx
        have i1 : (j : Int) < (K.length : Int) := by omega
        have i2 : ¬ (K.length : Int) < (j : Int) := by omega
        clear hx hnx h1 h0
        go_wp2_with fail
        refine (pText_any _ _ _ _ _ _).mono ?_
        rintro e w1 ⟨rfl, hb1⟩
        have HB1 := Lib.hid hb1
        cases hT : isTxt x.kind with
        | false =>
          have HF : Hid (thereB K (j : Int) o = (o == 0)) := Lib.hid (by rw [HE.out, HX.out]; simp [thereAt, hT])
          clear hT
          go_wp2
          go_ret
          exact ⟨ret_bool HF.out.symm, HB1.out⟩
        | true =>
          have s0 := (hb1.cell (p := ⟨b, o' + j * 5, none⟩) hub).trans r0
          have s1 := (hb1.cell (p := ⟨b, o' + j * 5 + 1, none⟩) hub).trans r1
          have s2 := (hb1.cell (p := ⟨b, o' + j * 5 + 2, none⟩) hub).trans r2
          have s3 := (hb1.cell (p := ⟨b, o' + j * 5 + 3, none⟩) hub).trans r3
          have s4 := (hb1.cell (p := ⟨b, o' + j * 5 + 4, none⟩) hub).trans r4
          have HF : Hid (thereB K (j : Int) o = (decide (0 ≤ o) && decide (o < (sizeB x : Int)))) := Lib.hid (by rw [HE.out, HX.out]; simp [thereAt, hT])
          clear hT hb1 r0 r1 r2 r3 r4
          by_cases hq : o < 0
          · have HG : Hid (thereB K (j : Int) o = false) := Lib.hid (by rw [HF.out, decide_eq_false (by omega)]; rfl)
            have hq' : ¬ 0 ≤ o := by omega
            go_wp2
            go_ret
            exact ⟨ret_bool HG.out.symm, HB1.out⟩
          · have hq' : 0 ≤ o := by omega
            have HG : Hid (thereB K (j : Int) o = decide (o < (sizeB x : Int))) := Lib.hid (by rw [HF.out, decide_eq_true hq']; rfl)
            clear hq
            go_wp2_with fail
            refine (size_any _ x w1 ((HNX.out.below HB1.out).more HB1.out.size) (by omega)).mono ?_
            rintro e w2 ⟨rfl, hb2⟩
            have HB2 := Lib.hid (belowNext HB1.out hb2)
            clear hb2
            go_wp2
            all_goals
              go_ret
              exact ⟨ret_bool HG.out.symm, HB2.out⟩
      · have HX : Hid (K[j]? = none) := Lib.hid (by simp; omega)
        have HF : Hid (thereB K (j : Int) o = (o == 0)) := Lib.hid (by rw [HE.out, HX.out]; rfl)
        have i1 : ¬ (j : Int) < (K.length : Int) := by omega
        go_wp2
        go_ret
        exact ⟨ret_bool HF.out.symm, Below.refl _ _⟩
end Go.Proofs.Ytmmifednhleggaa
