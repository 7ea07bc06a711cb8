/-
  The kinds of what made gives have four letters (no program is named here).
-/
import Derived.Test.YtogpaamkmifalaaDoorRight
namespace Go.Proofs.YtogpaamkmifalaaDoor
open Go.RowKit Go.Sort

/-! ### the kinds of what is made: four letters each -/
def Four (l : List Tree) : Prop := ∀ x ∈ l, x.kind.size = 4
theorem four_join : ∀ (l out : List Tree), Four out → Four l → Four (l.foldl joinStep out)
  | [], out, h, _ => h
  | n :: l, out, h, hl => by
    have hn := hl n (by simp)
    refine four_join l _ ?_ (fun x hx => hl x (by simp [hx]))
    have hadd : Four (out ++ [n]) := fun x hx => by
      rcases List.mem_append.1 hx with e | e
      · exact h x e
      · rw [List.mem_singleton.1 e]; exact hn
    unfold joinStep
    split
    · exact h
    · split
      · split
        · intro x hx
          rcases List.mem_append.1 hx with e | e
          · exact h x ((List.dropLast_sublist _).subset e)
          · rw [List.mem_singleton.1 e]; exact hn
        · exact hadd
      · exact hadd
theorem four_kinds : ∀ i, i < 4 → (kindsL.getD i ByteArray.empty).size = 4 := by decide +kernel
theorem four_step (out : List Tree) (c : Cel) (h : Four out) : Four (madeStep out c) := by
  have hk : (kindOf c).size = 4 := four_kinds _ (pick_nat c.a 4 (by omega))
  have ht : TEXT.size = 4 := by decide +kernel
  unfold madeStep
  intro x hx
  split at hx
  · rcases List.mem_append.1 hx with hx | hx
    · exact h x hx
    · rw [List.mem_singleton.1 hx]; exact ht
  · split at hx
    · rcases List.mem_append.1 hx with hx | hx
      · exact h x (List.mem_of_mem_take hx)
      · rw [List.mem_singleton.1 hx]; exact hk
    · rcases List.mem_append.1 hx with hx | hx
      · exact h x hx
      · rw [List.mem_singleton.1 hx]; exact hk
theorem four_fold : ∀ (l : List Cel) (out : List Tree), Four out → Four (l.foldl madeStep out)
  | [], _, h => h
  | c :: l, out, h => four_fold l _ (four_step out c h)
theorem four_made (l : List Cel) : Four (madeB l) := four_join _ [] (by intro x hx; cases hx) (four_fold _ [] (by intro x hx; cases hx))
end Go.Proofs.YtogpaamkmifalaaDoor
