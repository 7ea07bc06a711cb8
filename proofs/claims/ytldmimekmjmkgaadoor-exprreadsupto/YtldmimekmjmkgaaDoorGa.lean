/-
  What is read never grows, and each part takes a unit (plain: no program's function is named here); a row of expressions of the call's own.
-/
import Derived.Test.YtldmimekmjmkgaaDoorFw
namespace Go.Proofs.YtldmimekmjmkgaaDoor
open Go.RowKit Go.Sort Go.Maps Go.WideMaps

/-- A reading call takes signs, and a unit at least; of units that there are it goes no further than one below none. -/
def Shr (f : RdS → Ex × RdS) : Prop := ∀ s : RdS, (f s).2.1.length ≤ s.1.length ∧ (f s).2.2 ≤ s.2 - 1 ∧ (0 ≤ s.2 → -1 ≤ (f s).2.2)
theorem trim_le (l p : List UInt8) : (Lib.trimPrefix l p).length ≤ l.length := by
  unfold Lib.trimPrefix
  split
  · rw [List.length_drop]; omega
  · exact Nat.le_refl _
theorem shr_more {part : RdS → Ex × RdS} (h : Shr part) (sep : List UInt8) : ∀ (k : Nat) (s : RdS), (moreP sep part k s).2.1.length ≤ s.1.length ∧ (moreP sep part k s).2.2 ≤ s.2 ∧ (-1 ≤ s.2 → -1 ≤ (moreP sep part k s).2.2)
  | 0, s => ⟨Nat.le_refl _, Int.le_refl _, fun h => h⟩
  | k + 1, s => by
    rw [moreP]
    split
    · rename_i hc
      have h1 := h (skipL s sep)
      have h2 := shr_more h sep k (part (skipL s sep)).2
      have h3 := trim_le s.1 sep
      simp only [skipL] at h1 h2 h3 ⊢
      refine ⟨by omega, by omega, fun h0 => h2.2.2 (h1.2.2 (by omega))⟩
    · exact ⟨Nat.le_refl _, Int.le_refl _, fun h => h⟩
theorem shr_several {part : RdS → Ex × RdS} (h : Shr part) (op : Nat) (sep : List UInt8) : Shr (severalP op sep part) := by
  intro s
  have h1 := h s
  have h2 := shr_more h sep (part s).2.2.toNat (part s).2
  have e : (severalP op sep part s).2 = (moreP sep part (part s).2.2.toNat (part s).2).2 := by
    unfold severalP
    split <;> rfl
  rw [e]
  exact ⟨by omega, by omega, fun h0 => h2.2.2 (h1.2.2 h0)⟩
theorem repeatedP_rest (unit : RdS → Ex × RdS) (s : RdS) : (repeatedP unit s).2.1.length ≤ (unit s).2.1.length ∧ (repeatedP unit s).2.2 = (unit s).2.2 := by
  unfold repeatedP
  cases e : (unit s).2.1 with
  | nil => simp [e]
  | cons c r =>
    simp only
    split
    · simp
    · simp [e]
theorem shr_repeated {unit : RdS → Ex × RdS} (h : Shr unit) : Shr (repeatedP unit) := by
  intro s
  have h1 := h s
  have h2 := repeatedP_rest unit s
  rw [h2.2]
  exact ⟨by omega, h1.2.1, h1.2.2⟩
theorem shr_unit : ∀ n, Shr (unitP n)
  | 0 => fun s => ⟨Nat.le_refl _, Int.le_refl _, fun h => by show -1 ≤ s.2 - 1; omega⟩
  | n + 1 => fun s => by
    rw [unitP]
    split
    · exact ⟨Nat.le_refl _, Int.le_refl _, fun h => by show -1 ≤ s.2 - 1; omega⟩
    · rename_i h0
      split
      · have := trim_le s.1 [40, 41]
        exact ⟨this, Int.le_refl _, fun _ => by show -1 ≤ s.2 - 1; omega⟩
      · split
        · have h1 := shr_several (shr_several (shr_repeated (shr_unit n)) 115 [32]) 97 [124] (Lib.trimPrefix s.1 [40], s.2 - 1)
          have h2 := trim_le s.1 [40]
          simp only at h1
          generalize severalP 97 [124] (severalP 115 [32] (repeatedP (unitP n))) (Lib.trimPrefix s.1 [40], s.2 - 1) = c at *
          have h3 := trim_le c.2.1 [41]
          simp only
          split
          · exact ⟨by simp only; omega, by simp only; omega, fun _ => by simp only; exact h1.2.2 (by omega)⟩
          · exact ⟨by simp only; omega, by simp only; omega, fun _ => by simp only; exact h1.2.2 (by omega)⟩
        · refine ⟨?_, Int.le_refl _, fun _ => by show -1 ≤ s.2 - 1; omega⟩
          exact (List.dropWhile_suffix small).sublist.length_le
theorem shr_row (n : Nat) : Shr (rowP n) := shr_several (shr_repeated (shr_unit n)) _ _
theorem shr_choice (n : Nat) : Shr (choiceP n) := shr_several (shr_row n) _ _

/-- The cells of kids. -/
def KC (w : World) (S : Nat → Prop) : List Ex → List Value → Prop
  | [], xs => xs = []
  | e :: l, xs => ∃ vk ys, xs = .int .u8 (e.op : Int) :: .string e.name :: vk :: ys ∧ Exs w S vk e.kids ∧ KC w S l ys
theorem KC.keep {w w' : World} {S S' : Nat → Prop} (hS : ∀ b, S b → S' b) (hk : ∀ b, S b → w'.heap[b]? = w.heap[b]?) : ∀ {l : List Ex} {xs : List Value}, KC w S l xs → KC w' S' l xs
  | [], _, h => h
  | _ :: _, _, ⟨vk, ys, e1, h1, h2⟩ => ⟨vk, ys, e1, h1.keep hS hk, KC.keep hS hk h2⟩
theorem KC.append {w : World} {S : Nat → Prop} : ∀ {a b : List Ex} {xs ys : List Value}, KC w S a xs → KC w S b ys → KC w S (a ++ b) (xs ++ ys)
  | [], _, _, _, h, h' => by simp only [KC] at h; subst h; exact h'
  | e :: a, b, _, ys, ⟨vk, zs, e1, h1, h2⟩, h' => ⟨vk, zs ++ ys, by subst e1; rfl, h1, KC.append h2 h'⟩
theorem KC.length {w : World} {S : Nat → Prop} : ∀ {a : List Ex} {xs : List Value}, KC w S a xs → xs.length = a.length * 3
  | [], _, h => by simp only [KC] at h; subst h; rfl
  | e :: a, _, ⟨vk, zs, e1, _, h2⟩ => by have := h2.length; subst e1; simp only [List.length_cons, this]; omega
/-- Kids' cells that lie in a row. -/
theorem KC.at {w : World} {S : Nat → Prop} {b : Nat} : ∀ {a : List Ex} {xs : List Value} {o : Nat}, KC w S a xs → (∀ (j : Nat) u, xs[j]? = some u → w.cell? ⟨b, o + j, none⟩ = some u) → ExsAt w S a b o
  | [], _, _, _, _ => trivial
  | e :: a, _, o, ⟨vk, zs, e1, h1, h2⟩, hc => by
    subst e1
    refine ⟨(exAt_iff e b o).2 ⟨vk, hc 0 _ rfl, hc 1 _ rfl, hc 2 _ rfl, h1⟩, KC.at h2 fun j u hj => ?_⟩
    rw [show o + 3 + j = o + (j + 3) by omega]
    exact hc (j + 3) u (by simpa using hj)
/-- A row of kids of the call's own: what lies in the kids lies elsewhere. -/
def KRow (w : World) (lo : Nat) (v : Value) (ks : List Ex) : Prop :=
  ∃ xs, w.ownsRow lo 24 3 v ks.length xs ∧ KC w (fun b => lo ≤ b ∧ b < w.heap.size ∧ v.ownBlock ≠ some b) ks xs
theorem KRow.keep {w w' : World} {lo : Nat} {v : Value} {ks : List Ex} (h : KRow w lo v ks) (hz : w.heap.size ≤ w'.heap.size) (hk : ∀ b, lo ≤ b → b < w.heap.size → w'.heap[b]? = w.heap[b]?) : KRow w' lo v ks := by
  obtain ⟨xs, h1, h2⟩ := h
  exact ⟨xs, ownsRow_keep h1 fun b hb => hk b (h1.lt b hb).1 (h1.lt b hb).2, h2.keep (fun b hb => ⟨hb.1, Nat.lt_of_lt_of_le hb.2.1 hz, hb.2.2⟩) fun b hb => hk b hb.1 hb.2.1⟩
theorem KRow.exs {w : World} {lo : Nat} {v : Value} {ks : List Ex} (h : KRow w lo v ks) : Exs w (From lo w.heap.size) v ks := by
  obtain ⟨xs, h1, h2⟩ := h
  have hc := fun g hg => h1.cells (g := g) hg
  have hlt := h1.lt
  obtain ⟨hl, ⟨hv, h0⟩ | ⟨g, cap, cur, hv, _, _, hn, hcap, _⟩⟩ := h1
  · subst hv
    have : ks = [] := List.eq_nil_of_length_eq_zero h0
    subst this
    exact exs_nil w _
  · subst hv
    refine ⟨_, cap, rfl, hn, hcap, .inr ⟨g, 0, rfl, hlt g rfl, ?_⟩⟩
    refine (h2.keep (S' := From lo w.heap.size) (fun b hb => ⟨hb.1, hb.2.1⟩) fun _ _ => rfl).at fun j u hj => ?_
    have := hc g rfl j u hj
    rwa [add_cell] at this
/-- One kid more. -/
theorem KRow.more {w w1 : World} {lo : Nat} {v v1 vk : Value} {ks : List Ex} {xs : List Value} {e : Ex} (hc : KC w (fun b => lo ≤ b ∧ b < w.heap.size ∧ v.ownBlock ≠ some b) ks xs)
    (ho : w1.ownsRow lo 24 3 v1 (ks.length + 1) (xs ++ [.int .u8 (e.op : Int), .string e.name, vk])) (hg : w.grownBy w1 v.ownBlock) (hb : v1.ownBlock = v.ownBlock ∨ v1.ownBlock = some w.heap.size)
    (hk : Exs w (fun b => lo ≤ b ∧ b < w.heap.size ∧ v.ownBlock ≠ some b) vk e.kids) : KRow w1 lo v1 (ks ++ [e]) := by
  have hS : ∀ b, (lo ≤ b ∧ b < w.heap.size ∧ v.ownBlock ≠ some b) → lo ≤ b ∧ b < w1.heap.size ∧ v1.ownBlock ≠ some b := fun b h => ⟨h.1, Nat.lt_of_lt_of_le h.2.1 hg.size, by
    rcases hb with h1 | h1
    · rw [h1]; exact h.2.2
    · rw [h1]; intro h2; have := Option.some.inj h2; omega⟩
  have hK : ∀ b, (lo ≤ b ∧ b < w.heap.size ∧ v.ownBlock ≠ some b) → w1.heap[b]? = w.heap[b]? := fun b h => hg.block b h.2.1 fun h1 => h.2.2 h1.symm
  refine ⟨_, by rw [List.length_append]; exact ho, (hc.keep hS hK).append ⟨vk, [], rfl, hk.keep hS hK, rfl⟩⟩
end Go.Proofs.YtldmimekmjmkgaaDoor
