/-
  PlaceResolves: whatever raw numbers, position and spot are handed in, the call answers true, and they read behind it as they read before. No condition is typed.
-/
import Derived.Test.YtmmifednhleggaaArgI
import Derived.Test.YtmmifednhleggaaMRD
import Derived.Carry
import Derived.ChangeMaps5
namespace Go.Proofs.Ytmmifednhleggaa
open Go.ChangeShapes Go.WideShapes Go.ChangeAt Go.RowKit Go.Lib Go.ChangeMaps

/-- A world for the witness: the settled one. -/
noncomputable def presWorld (os : Os) : World := World.holding Try.prog os ⟨#[], #[], []⟩

set_option maxRecDepth 100000 in
theorem pres_contract (H : Type) (enc : TypeId × Value → H) (W : World) (base : Nat) (args : Array Value) (ds gs : List (DataW H)) (before : List MemPlace)
    (hval : ∀ (j : Nat) t v, Try.f3.params[j]? = some t → args[j]? = some v → Value.okWide Try.prog W .any base t v)
    (hW : DataW.Whole enc Try.prog Try.f3.params.toList Rows.placeResolvesSpec.vars false W args.toList ds gs before) :
    Calls Try.prog 3 args W fun e W' => ∃ v, e = .returned v ∧ Rows.placeResolvesSpec.post enc Try.prog Try.f3 false true false false W args v W' := by
  have hW' := hW
  have hlt : ∀ p ∈ before, p.block < W.heap.size := fun p hp => hW.lt p hp
  obtain ⟨p, q, hA0, hV, rfl, hfz, hnd⟩ := hW
  have hA : DataW.TrodAll enc Try.prog W 0 (fun _ => true) true Try.f3.params.toList args.toList ds p := hA0
  rw [Try.params3] at hA hval
  obtain ⟨v0, v1, v2, d0, d1, d2, p0, p1, p2, hargs, rfl, rfl, h0, h1, h2⟩ := trodAll_three hA
  obtain rfl : args = #[v0, v1, v2] := by cases args; simp_all
  obtain ⟨rfl, rfl⟩ := trodVars_none hV
  obtain ⟨A, len, cap, rfl⟩ := okWide_slice Try.underlying22 (hval 0 22 v0 rfl rfl)
  obtain ⟨n, rfl, rfl, rfl, ww⟩ := open_int Try.underlying3 (hval 1 3 v1 rfl rfl) h1
  obtain ⟨b0, b1⟩ := bounds_i64 ww
  have h0' := h0
  have h2' := h2
  obtain ⟨fuel, hf⟩ := h0
  obtain ⟨l, hl⟩ := cels_of (by simpa [Value.cells] using hf)
  obtain ⟨fuel', hf'⟩ := h2
  obtain ⟨cs, rfl, hcs⟩ := okWide_struct Try.underlying25 (hval 2 25 v2 rfl rfl)
  rw [spot_cells] at hcs
  obtain ⟨vp, js, os, ps, hce, hi, hr, hj, ho⟩ := spot_of (by simpa using hcs) (show DataW.trod enc Try.prog W 0 (fun _ => true) true fuel' 25 cs.toList = some (d2, p2) by simpa [Value.cells] using hf')
  obtain rfl : cs = #[vp, .int .i64 js, .int .i64 os] := Array.ext' (by rw [hce])
  refine (placeResolves_walk _ vp l n ps js os W hl hi hr b0 b1 hj.1 hj.2 ho.1 ho.2).mono fun e W' ⟨he, hb⟩ => ?_
  subst he
  have e1 : Rows.placeResolvesSpec.fn H ([d0, .lit (.int .i64 n), d2] ++ []) = { results := [.lit (.bool true)], args := [d0, .lit (.int .i64 n), d2] } := rfl
  refine ⟨_, rfl, _, _, _, [], p0 ++ p2, [], by simpa using hW', ?_, ?_, ?_, hb.frame _, fun h => by cases h⟩
  · rw [e1]; exact trodAll_mk1 (shut_bool Try.underlying4 _)
  · rw [e1]
    have t2 := trodAll_mk3 (Below.trod laidOut (by kernel_rfl) (of_decide_eq_true (by kernel_rfl)) h0' hb (fun x hx => hlt x (by simp [hx]))) (shut_int Try.underlying3 ww) (Below.trod laidOut (by kernel_rfl) (of_decide_eq_true (by kernel_rfl)) h2' hb (fun x hx => hlt x (by simp [hx])))
    simp only [List.nil_append] at t2
    exact t2
  · rw [e1]; rfl

theorem pres_reads (os : Os) {H : Type} (enc : TypeId × Value → H) : ∃ places, DataW.whole enc Try.prog ((presWorld os).forCall (fun _ _ => 0) ⟨#[], #[.slice none 0 0, .int .i64 0, .agg #[.slice none 0 0, .int .i64 0, .int .i64 0]], []⟩).memory Try.f3.params.toList Rows.placeResolvesSpec.vars false #[Value.slice none 0 0, .int .i64 0, .agg #[.slice none 0 0, .int .i64 0, .int .i64 0]].toList 8 = some ([.nil, .lit (.int .i64 0), .agg [.nil, .lit (.int .i64 0), .lit (.int .i64 0)]], [], places) :=
  ⟨[], by kernel_rfl⟩

set_option maxRecDepth 100000 in
theorem pres_lifted (os : Os) (started : os.Started) (H : Type) (enc : TypeId × Value → H) (F : Stop.Interp) :
    ReturnsInHanded {} Try.checked os 3 .any ((OpenSpec.ofChange Rows.placeResolvesSpec).preRow enc Try.prog Try.f3 Rows.placeResolvesRow.domain false Rows.placeResolvesRow.laid) (((OpenSpec.ofChange Rows.placeResolvesSpec).at F).post enc Try.prog Try.f3 false true false false) := by
  obtain ⟨places, hx⟩ := pres_reads os enc
  refine returnsInHanded_of_row (C := Try.checked) (s := OpenSpec.ofChange Rows.placeResolvesSpec) own started (by kernel_rfl) Try.func3
    (witness_row_at (enc := enc) (C := Try.checked) false (presWorld os) #[.slice none 0 0, .int .i64 0, .agg #[.slice none 0 0, .int .i64 0, .int .i64 0]] rfl (by kernel_rfl) (by kernel_rfl) (by kernel_rfl)
      (OpenSpec.preRow_of_cond 8 hx (by kernel_rfl) (fun k hk => by cases hk) (by kernel_rfl) (laidMet_nil _ _))) ?_
  intro W base args ds gs before hval hW _ _ _ _ _ _
  exact pres_contract H enc W base args ds gs before hval hW

theorem pres_said : Rows.PlaceResolvesSaid :=
  OpenClaim.holds_of_cond 3 Try.f3 rfl rfl rfl rfl rfl rfl rfl ⟨rfl, rfl, rfl, rfl, rfl⟩ rfl rfl rfl rfl rfl (by kernel_rfl) Try.func3 (by kernel_rfl)
    (of_decide_eq_true (by kernel_rfl)) (by unfold Func.isWrapper; first | (rw [if_pos (by decide +kernel)]; kernel_rfl) | (rw [if_neg (by decide +kernel)]; exact ⟨rfl, rfl⟩))
    (fun os started H enc _ F => by rw [OpenClaim.pre_eq_preRow]; exact pres_lifted os started H enc F)
end Go.Proofs.Ytmmifednhleggaa
