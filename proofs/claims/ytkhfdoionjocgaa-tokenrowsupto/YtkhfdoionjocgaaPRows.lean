/-
  TokenRows, where what it reads is of bulk at most 1048576: whatever raw numbers, and whatever node, are handed in, the call answers true, and they read behind it as they read before. The one condition is the bulk.
-/
import Derived.Test.YtkhfdoionjocgaaRp
import Derived.Test.YtkhfdoionjocgaaRs
import Derived.Carry
import Derived.ChangeMaps5
namespace Go.Proofs.Ytkhfdoionjocgaa
open Go.ChangeShapes Go.WideShapes Go.ChangeAt Go.RowKit Go.Lib Go.ChangeMaps

/-- A world for the witness: the settled one. -/
noncomputable def rowsWorld (os : Os) : World := World.holding Try.prog os ⟨#[], #[], []⟩

/-- What the walk says. -/
def RowsWalk : Prop := ∀ (va vn : Value) (a : List Cel) (x : Tree) (w : World), Cels w (Under w.heap.size) va a → Node w (Under w.heap.size) vn x → weigh x ≤ 1048576 → Calls Try.prog 3 #[va, vn] w fun e w' => e = .returned (.bool true) ∧ Below w.heap.size w w'
set_option maxRecDepth 100000 in
theorem rows_contract (hwalk : RowsWalk) (H : Type) (enc : TypeId × Value → H) (W : World) (base : Nat) (args : Array Value) (ds gs : List (DataW H)) (before : List MemPlace)
    (hval : ∀ (j : Nat) t v, Try.f3.params[j]? = some t → args[j]? = some v → Value.okWide Try.prog W .any base t v)
    (hW : DataW.Whole enc Try.prog Try.f3.params.toList Rows.tokenRowsSpec.vars false W args.toList ds gs before) (hk : Rows.uptoSmall H (ds ++ gs) = true) :
    Calls Try.prog 3 args W fun e W' => ∃ v, e = .returned v ∧ Rows.tokenRowsSpec.post enc Try.prog Try.f3 false true false false W args v W' := by
  have hW' := hW
  have hlt : ∀ p ∈ before, p.block < W.heap.size := fun p hp => hW.lt p hp
  obtain ⟨p, q, hA0, hV, rfl, hfz, hnd⟩ := hW
  have hA : DataW.TrodAll enc Try.prog W 0 (fun _ => true) true Try.f3.params.toList args.toList ds p := hA0
  rw [Try.params3] at hA hval
  obtain ⟨v0, v1, d0, d1, p0, p1, hargs, rfl, rfl, h0, h1⟩ := trodAll_two hA
  obtain rfl : args = #[v0, v1] := by cases args; simp_all
  obtain ⟨rfl, rfl⟩ := trodVars_none hV
  obtain ⟨A, len, cap, rfl⟩ := okWide_slice Try.underlying22 (hval 0 22 v0 rfl rfl)
  have h0' := h0
  have h1' := h1
  obtain ⟨fuel, hf⟩ := h0
  obtain ⟨l, hl⟩ := cels_of (by simpa [Value.cells] using hf)
  obtain ⟨fuel', hf'⟩ := h1
  have hb := of_decide_eq_true hk
  simp only [List.append_nil, Rows.uptoBulkAll] at hb
  obtain ⟨cs, rfl, hcs⟩ := okWide_struct Try.underlying27 (hval 1 27 v1 rfl rfl)
  rw [node_cells] at hcs
  obtain ⟨t, vm, vp, vk, hce, tm, tp, tk, tw⟩ := node_of fuel' cs.toList _ (by simpa using hcs) (by simpa [Value.cells] using hf')
  obtain rfl : cs = #[.string t.kind, .string t.text, vm, vp, vk] := Array.ext' (by rw [hce])
  refine (hwalk _ _ l t W hl ⟨vm, vp, vk, rfl, tm, tp, tk⟩ (by simp only at tw; omega)).mono fun e W' ⟨he, hbw⟩ => ?_
  subst he
  have e1 : Rows.tokenRowsSpec.fn H ([d0, d1] ++ []) = { results := [.lit (.bool true)], args := [d0, d1] } := rfl
  refine ⟨_, rfl, _, _, _, [], p0 ++ p1, [], hW', ?_, ?_, ?_, hbw.frame _, fun h => by cases h⟩
  · rw [e1]; exact trodAll_mk1 (shut_bool Try.underlying4 _)
  · rw [e1]
    have t2 := trodAll_mk2 (Below.trod laidOut (by kernel_rfl) (of_decide_eq_true (by kernel_rfl)) h0' hbw (fun x hx => hlt x (by simp [hx]))) (Below.trod laidOut (by kernel_rfl) (of_decide_eq_true (by kernel_rfl)) h1' hbw (fun x hx => hlt x (by simp [hx])))
    exact t2
  · rw [e1]; rfl

theorem rows_reads (os : Os) {H : Type} (enc : TypeId × Value → H) : ∃ places, DataW.whole enc Try.prog ((rowsWorld os).forCall (fun _ _ => 0) ⟨#[], #[.slice none 0 0, .agg #[.string ⟨#[]⟩, .string ⟨#[]⟩, .slice none 0 0, .slice none 0 0, .slice none 0 0]], []⟩).memory Try.f3.params.toList Rows.tokenRowsSpec.vars false #[Value.slice none 0 0, .agg #[.string ⟨#[]⟩, .string ⟨#[]⟩, .slice none 0 0, .slice none 0 0, .slice none 0 0]].toList 8 = some ([.nil, .agg [.lit (.string []), .lit (.string []), .nil, .nil, .nil]], [], places) :=
  ⟨[], by kernel_rfl⟩

set_option maxRecDepth 100000 in
theorem rows_lifted (hwalk : RowsWalk) (os : Os) (started : os.Started) (H : Type) (enc : TypeId × Value → H) (F : Stop.Interp) :
    ReturnsInHanded {} Try.checked os 3 .any ((Rows.OpenSpec.upto Rows.tokenRowsSpec).preRow enc Try.prog Try.f3 Rows.tokenRowsUptoRow.domain false Rows.tokenRowsUptoRow.laid) (((Rows.OpenSpec.upto Rows.tokenRowsSpec).at F).post enc Try.prog Try.f3 false true false false) := by
  obtain ⟨places, hx⟩ := rows_reads os enc
  refine returnsInHanded_of_row (C := Try.checked) (s := Rows.OpenSpec.upto Rows.tokenRowsSpec) own started (by kernel_rfl) Try.func3
    (witness_row_at (enc := enc) (C := Try.checked) false (rowsWorld os) #[.slice none 0 0, .agg #[.string ⟨#[]⟩, .string ⟨#[]⟩, .slice none 0 0, .slice none 0 0, .slice none 0 0]] rfl (by kernel_rfl) (by kernel_rfl) (by kernel_rfl)
      (OpenSpec.preRow_of_cond 8 hx (by kernel_rfl) (fun k hk => by cases hk; kernel_rfl) (by kernel_rfl) (laidMet_nil _ _))) ?_
  intro W base args ds gs before hval hW k1 k2 k3 k4 k5 k6
  exact rows_contract hwalk H enc W base args ds gs before hval hW (by first | exact k1 _ rfl | exact k2 _ rfl | exact k3 _ rfl | exact k4 _ rfl | exact k5 _ rfl | exact k6 _ rfl)

theorem rows_said_of (hwalk : RowsWalk) : Rows.TokenRowsUptoSaid :=
  OpenClaim.holds_of_cond 3 Try.f3 rfl rfl rfl rfl rfl rfl rfl ⟨rfl, rfl, rfl, rfl, rfl⟩ rfl rfl rfl rfl rfl (by kernel_rfl) Try.func3 (by kernel_rfl)
    (of_decide_eq_true (by kernel_rfl)) (by unfold Func.isWrapper; first | (rw [if_pos (by decide +kernel)]; kernel_rfl) | (rw [if_neg (by decide +kernel)]; exact ⟨rfl, rfl⟩))
    (fun os started H enc _ F => by rw [OpenClaim.pre_eq_preRow]; exact rows_lifted hwalk os started H enc F)
end Go.Proofs.Ytkhfdoionjocgaa
