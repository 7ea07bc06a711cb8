/-
  A text cut behind some of its code points: plain facts (no program is named here).
-/
import Derived.Test.YtamoklceekeheaaDoorJoinP
namespace Go.Proofs.YtamoklceekeheaaDoor
open Go.RowKit Go.Sort

/-- Where so many code points end. -/
def atB : Nat → List UInt8 → Nat
  | 0, _ => 0
  | n + 1, l => if l = [] then 0 else (Lib.decodeL l).2 + atB n (l.drop (Lib.decodeL l).2)
/-- How many bytes the next code point has. -/
def widthB (l : List UInt8) : Nat := if l = [] then 0 else (Lib.decodeL l).2
theorem atB_nil : ∀ n, atB n [] = 0
  | 0 => rfl
  | n + 1 => by simp [atB]
theorem atB_succ : ∀ (n : Nat) (l : List UInt8), atB (n + 1) l = atB n l + widthB (l.drop (atB n l))
  | 0, l => by simp [atB, widthB]
  | n + 1, l => by
    by_cases h : l = []
    · subst h; simp [atB, widthB]
    · rw [atB, if_neg h, atB_succ n, show atB (n + 1) l = (Lib.decodeL l).2 + atB n (l.drop (Lib.decodeL l).2) by rw [atB, if_neg h], List.drop_drop]
      omega
theorem atB_le : ∀ (n : Nat) (l : List UInt8), atB n l ≤ l.length
  | 0, l => by simp [atB]
  | n + 1, l => by
    rw [atB]
    split
    · omega
    · rename_i h
      have h1 := Lib.decodeL_le l h
      have h2 := atB_le n (l.drop (Lib.decodeL l).2)
      rw [List.length_drop] at h2; omega
theorem decodeN_own {n b0 b1 b2 b3 c1 c2 c3 : Nat} (h1 : 1 < (Lib.decodeN n b0 b1 b2 b3).2 → b1 = c1) (h2 : 2 < (Lib.decodeN n b0 b1 b2 b3).2 → b2 = c2) (h3 : 3 < (Lib.decodeN n b0 b1 b2 b3).2 → b3 = c3) (hv : ¬ ((Lib.decodeN n b0 b1 b2 b3).1 = 65533 ∧ (Lib.decodeN n b0 b1 b2 b3).2 = 1)) :
    Lib.decodeN (Lib.decodeN n b0 b1 b2 b3).2 b0 c1 c2 c3 = Lib.decodeN n b0 b1 b2 b3 := by
  rcases Lib.decodeN_shape n b0 b1 b2 b3 with ⟨c, e⟩ | ⟨d1, d2, d3, dv, e⟩ | ⟨d1, d2, d3, d4, dv, ds, e⟩ | ⟨d1, d2, d3, d4, d5, dv, dw, e⟩ | e
  · rw [e]; unfold Lib.decodeN; rw [if_pos c]
  · rw [e] at h1 ⊢; have := h1 (by simp); subst this
    unfold Lib.decodeN; rw [if_neg (by omega), if_pos ⟨by omega, by omega, by omega⟩, if_pos (by omega)]
  · rw [e] at h1 h2 ⊢; have := h1 (by simp); subst this; have := h2 (by simp); subst this
    unfold Lib.decodeN; rw [if_neg (by omega), if_neg (by omega), if_pos ⟨by omega, ⟨by omega, by omega⟩, by omega, by omega⟩, if_pos (by omega)]
  · rw [e] at h1 h2 h3 ⊢; have := h1 (by simp); subst this; have := h2 (by simp); subst this; have := h3 (by simp); subst this
    unfold Lib.decodeN; rw [if_neg (by omega), if_neg (by omega), if_neg (by omega), if_pos ⟨by omega, ⟨by omega, by omega⟩, ⟨by omega, by omega⟩, by omega, by omega⟩, if_pos (by omega)]
  · rw [e] at hv; exact absurd ⟨rfl, rfl⟩ hv
theorem getD_take (a : List UInt8) (i n : Nat) (h : i < n) : (a.take n).getD i 0 = a.getD i 0 := by
  simp [List.getD, h]
theorem decodeL_own (l : List UInt8) (h : l ≠ []) (hv : ¬ ((Lib.decodeL l).1 = 65533 ∧ (Lib.decodeL l).2 = 1)) : Lib.decodeL (l.take (Lib.decodeL l).2) = Lib.decodeL l := by
  have hw := Lib.decodeL_width l
  have hle := Lib.decodeL_le l h
  have hl : (l.take (Lib.decodeL l).2).length = (Lib.decodeL l).2 := by rw [List.length_take]; omega
  rw [Lib.decodeL_N (l.take (Lib.decodeL l).2), hl, getD_take l 0 _ (by omega)]
  rw [Lib.decodeL_N l] at hv hw ⊢
  exact decodeN_own (fun h => by rw [getD_take l 1 _ h]) (fun h => by rw [getD_take l 2 _ h]) (fun h => by rw [getD_take l 3 _ h]) hv
theorem one_valid (l : List UInt8) (h : l ≠ []) (hv : ¬ ((Lib.decodeL l).1 = 65533 ∧ (Lib.decodeL l).2 = 1)) : Lib.validD (l.take (Lib.decodeL l).2) = true ∧ Lib.runeCountL (l.take (Lib.decodeL l).2) = 1 := by
  have hw := Lib.decodeL_width l
  have hle := Lib.decodeL_le l h
  have hd := decodeL_own l h hv
  have hl : (l.take (Lib.decodeL l).2).length = (Lib.decodeL l).2 := by rw [List.length_take]; omega
  have hn : l.take (Lib.decodeL l).2 ≠ [] := fun e => by rw [e] at hl; simp at hl; omega
  have hdr : (l.take (Lib.decodeL l).2).drop (Lib.decodeL l).2 = [] := List.drop_eq_nil_iff.2 (by omega)
  constructor
  · rw [Lib.validD_step _ hn, hd, if_neg hv, hdr]; rfl
  · rw [rc_step _ hn, hd, hdr, rc_nil]
/-- A well formed text, cut. -/
theorem cut_valid : ∀ (n : Nat) (l : List UInt8), Lib.validD l = true → n ≤ Lib.runeCountL l → Lib.validD (l.take (atB n l)) = true ∧ Lib.validD (l.drop (atB n l)) = true ∧ Lib.runeCountL (l.take (atB n l)) = n ∧ Lib.runeCountL (l.drop (atB n l)) + n = Lib.runeCountL l
  | 0, l, h, _ => by simp [atB, h, Lib.validD_nil, rc_nil]
  | n + 1, l, h, hn => by
    by_cases hne : l = []
    · subst hne; rw [rc_nil] at hn; omega
    · have hv : ¬ ((Lib.decodeL l).1 = 65533 ∧ (Lib.decodeL l).2 = 1) := fun hh => by rw [Lib.validD_step l hne, if_pos hh] at h; cases h
      have h1 : Lib.validD (l.drop (Lib.decodeL l).2) = true := by rw [Lib.validD_step l hne, if_neg hv] at h; exact h
      have h2 := rc_step l hne
      obtain ⟨i1, i2, i3, i4⟩ := cut_valid n (l.drop (Lib.decodeL l).2) h1 (by omega)
      obtain ⟨o1, o2⟩ := one_valid l hne hv
      rw [atB, if_neg hne]
      have ht : l.take ((Lib.decodeL l).2 + atB n (l.drop (Lib.decodeL l).2)) = l.take (Lib.decodeL l).2 ++ (l.drop (Lib.decodeL l).2).take (atB n (l.drop (Lib.decodeL l).2)) := List.take_add
      rw [ht, ← List.drop_drop]
      refine ⟨validD_app _ _ _ (Nat.le_refl _) o1 i1, i2, ?_, by omega⟩
      rw [rc_app _ _ _ (Nat.le_refl _) o1, o2, i3]; omega
end Go.Proofs.YtamoklceekeheaaDoor
