/-
  TokenChange walked.
-/
import Derived.Test.YtaepolgmojkglaaDoorN0
import Derived.Test.YtaepolgmojkglaaDoorN1
import Derived.Test.YtaepolgmojkglaaDoorN2
import Derived.Test.YtaepolgmojkglaaDoorN3
namespace Go.Proofs.YtaepolgmojkglaaDoor
open Go.RowKit Go.Sort Go.Maps

theorem tokenChange_walk (va : Value) (a : List Cel) (at' to' : Int) (w : World) (ha : Cels w (Under w.heap.size) va a) (h0 : -9223372036854775808 ≤ at') (h1 : at' ≤ 9223372036854775807) (h2 : -9223372036854775808 ≤ to') (h3 : to' ≤ 9223372036854775807) (hT : Tabs w) :
    Calls Tryd.prog 5 #[va, .int .i64 at', .int .i64 to'] w fun e w' => e = .returned (.bool true) ∧ Below w.heap.size w w' := by
  cases hz : (toksB (madeB a))[(pickN at' ((toksB (madeB a)).length : Int)).toNat]? with
  | none => exact tokenChange_0 va a at' to' w ha h0 h1 h2 h3 hT (fun z x hz' _ => by rw [hz] at hz'; cases hz')
  | some z =>
    cases hx : otherT[(pickN to' 6).toNat]? with
    | none => exact tokenChange_0 va a at' to' w ha h0 h1 h2 h3 hT (fun z x _ hx' => by rw [hx] at hx'; cases hx')
    | some x =>
      have key : ∀ (P : Tok → Tok → Prop), P z x → ∀ z' x', (toksB (madeB a))[(pickN at' ((toksB (madeB a)).length : Int)).toNat]? = some z' → otherT[(pickN to' 6).toNat]? = some x' → P z' x' := fun P h z' x' h1' h2' => by
        rw [hz] at h1'; rw [hx] at h2'
        rw [← Option.some.inj h1', ← Option.some.inj h2']; exact h
      by_cases c0 : z.kind = x.kind
      · by_cases c1 : z.text = x.text
        · by_cases c2 : z.head = x.head
          · exact tokenChange_0 va a at' to' w ha h0 h1 h2 h3 hT (key (fun z x => z = x) (by obtain ⟨_, _, _⟩ := z; obtain ⟨_, _, _⟩ := x; simp only at c0 c1 c2; rw [c0, c1, c2]))
          · exact tokenChange_3 va a at' to' w ha h0 h1 h2 h3 hT (key (fun z x => z.kind = x.kind ∧ z.text = x.text ∧ ¬ z.head = x.head) ⟨c0, c1, c2⟩)
        · exact tokenChange_2 va a at' to' w ha h0 h1 h2 h3 hT (key (fun z x => z.kind = x.kind ∧ ¬ z.text = x.text) ⟨c0, c1⟩)
      · exact tokenChange_1 va a at' to' w ha h0 h1 h2 h3 hT (key (fun z x => ¬ z.kind = x.kind) c0)
end Go.Proofs.YtaepolgmojkglaaDoor
