/-
  The document of the statements, its spots, and calls in regions that draw their order.
-/
import Derived.Test.YtmmifednhleggaaPlI
import Derived.Test.YtmmifednhleggaaPlF
namespace Go.Proofs.Ytmmifednhleggaa
open Go.RowKit Go.Sort Go.Maps

theorem docB_weigh (l : List Cel) : weigh (docB l) ≤ 800 := by
  have h := madeB_weigh l
  have h1 : DOC.size = 3 := by decide
  have h2 : ByteArray.empty.size = 0 := by decide
  simp only [docB, weigh, weighL, weighP, List.map_nil, List.sum_nil, h1, h2]; omega
theorem docB_plain (l : List Cel) : isTxt (docB l).kind = false := by
  show isTxt DOC = false
  decide +kernel
theorem docB_kids (l : List Cel) : (docB l).kids = madeB l := rfl
abbrev docCells (A : Option Addr) (n c : Nat) : Array Value := #[.string ⟨#[100, 111, 99]⟩, .string ⟨#[]⟩, .slice none 0 0, .slice none 0 0, .slice A n c]
/-- The document in memory. -/
theorem doc_node {w : World} {S : Nat → Prop} {A : Option Addr} {c : Nat} {l : List Cel} (h : Kids w S (.slice A (madeB l).length c) (madeB l)) : Node w S (.agg (docCells A (madeB l).length c)) (docB l) := ⟨_, _, _, rfl, strs_nil, pairs_nil, h⟩
/-- A spot of the document, and where it leads. -/
theorem doc_spot (l : List Cel) {k : Nat} (hk : k ≤ totalB (madeB l)) : ∃ p, ∃ j o : Nat, ∃ u, resolveB (docB l) (k : Int) = some (p, j, o) ∧ SpotOk (docB l) k (p, j, o) u := by
  have hl : k < (spotsB 0 (docB l).kids).length := by rw [spotsB_len, docB_kids]; omega
  have hs : (spotsB 0 (docB l).kids)[k]? = some (spotsB 0 (docB l).kids)[k] := List.getElem?_eq_getElem hl
  obtain ⟨u, hu⟩ := spots_ok (docB l) (docB_plain l) k _ hs
  exact ⟨_, _, _, u, by rw [resolveB_nat (docB_plain l)]; exact hs, hu⟩
theorem path_range : ∀ (p : List Int) (t u : Tree), goB t p = some u → weigh t ≤ 1000000 → ∀ x ∈ p, -9223372036854775808 ≤ x ∧ x ≤ 9223372036854775807
  | [], _, _, _, _, x, hx => by cases hx
  | i :: p, t, u, h, hw, x, hx => by
    rw [goB] at h
    cases hk : kidAt t i with
    | none => rw [hk] at h; cases h
    | some y =>
      rw [hk] at h
      obtain ⟨_, h0, hy⟩ := kidAt_some hk
      have hl := (List.getElem?_eq_some_iff.1 hy).1
      have h1 := length_le_weigh t.kids
      have h2 := kids_weigh t
      rcases List.mem_cons.1 hx with rfl | hx
      · omega
      · exact path_range p y u h (Nat.le_trans (goB_weigh [i] t y (by simp [goB, hk])) hw) x hx
section
variable {w : World} {ops : Array Oper} {o : Oper} {a : Act} {K : Act → World → Prop} {Q : Exit → Act → World → Prop} {E : Prop}
/-- Total, in a region that draws its order. -/
theorem step_total {v : Value} {n : Int} (hgd : o.guard = none) (p : Operand) (ho : o.op = .call { callee := .value (.func 27), args := #[p], argTypes := #[29] })
    (hp : a.eval p = v) (hc : Calls Try.prog 27 #[v] w fun e w' => e = .returned (.int .i64 n) ∧ Below w.heap.size w w') (h : ∀ w', Below w.heap.size w w' → K (a.put o.dst (.int .i64 n)) w') :
    if Region.wanted o (yielded ops a.tmps) = true then Oper.wp Try.prog o a w K Q else E := by
  have hwn : Region.wanted o (yielded ops a.tmps) = true := by simp [Region.wanted, hgd]
  rw [if_pos hwn]
  have hrun : (execOp a.eval o).run Try.prog w = .ok (.enter 27 #[v]) w := by
    have hf : a.eval (.func 27) = .func (.func 27) #[] #[] := rfl
    obtain ⟨c, hc⟩ : ∃ c, Try.f27.body = some c := Option.isSome_iff_exists.1 (by kernel_rfl)
    have hne : ¬ Try.f27.name = "runtime.NumGoroutine" := of_decide_eq_false (by kernel_rfl)
    simp [execOp, ho, resolve, invoke, hp, hf, Deferred.ofValue, callFunc, hne, hc]
  unfold Oper.wp
  rw [hrun, Oper.upon_enter]
  refine hc.mono fun e w'' hh => ?_
  obtain ⟨rfl, h1⟩ := hh
  exact h w'' h1
/-- Resolve, in a region that draws its order. -/
theorem step_resolve {v x : Value} {m : Int} (hgd : o.guard = none) (p q : Operand) (ho : o.op = .call { callee := .value (.func 7), args := #[p, q], argTypes := #[31, 3] })
    (hp : a.eval p = v) (hq : a.eval q = .int .i64 m) (hc : Calls Try.prog 7 #[v, .int .i64 m] w fun e w' => e = .returned x ∧ Below w.heap.size w w') (h : ∀ w', Below w.heap.size w w' → K (a.put o.dst x) w') :
    if Region.wanted o (yielded ops a.tmps) = true then Oper.wp Try.prog o a w K Q else E := by
  have hwn : Region.wanted o (yielded ops a.tmps) = true := by simp [Region.wanted, hgd]
  rw [if_pos hwn]
  have hrun : (execOp a.eval o).run Try.prog w = .ok (.enter 7 #[v, .int .i64 m]) w := by
    have hf : a.eval (.func 7) = .func (.func 7) #[] #[] := rfl
    obtain ⟨c, hc⟩ : ∃ c, Try.f7.body = some c := Option.isSome_iff_exists.1 (by kernel_rfl)
    have hne : ¬ Try.f7.name = "runtime.NumGoroutine" := of_decide_eq_false (by kernel_rfl)
    simp [execOp, ho, resolve, invoke, hp, hq, hf, Deferred.ofValue, callFunc, hne, hc]
  unfold Oper.wp
  rw [hrun, Oper.upon_enter]
  refine hc.mono fun e w'' hh => ?_
  obtain ⟨rfl, h1⟩ := hh
  exact h w'' h1
end
/-- Resolve, where there is no spot. -/
theorem resolve_none {v : Value} {t : Tree} {m : Int} {w : World} (h : Node w (Under w.heap.size) v t) (hw : weigh t ≤ 1000000) (h1 : -9223372036854775808 ≤ m) (h2 : m ≤ 9223372036854775807) (hn : resolveB t m = none) :
    Calls Try.prog 7 #[v, .int .i64 m] w fun e w' => e = .returned (.tuple #[.agg #[.slice none 0 0, .int .i64 0, .int .i64 0], .int .i64 3]) ∧ Below w.heap.size w w' := by
  refine (resolve_any v t m w h hw h1 h2).mono ?_
  rintro e w' ⟨hb, hr⟩
  rw [hn] at hr
  rcases hr with ⟨_, rfl⟩ | ⟨p, j, o, A, c, hr, _⟩
  · exact ⟨rfl, hb⟩
  · cases hr

end Go.Proofs.Ytmmifednhleggaa
