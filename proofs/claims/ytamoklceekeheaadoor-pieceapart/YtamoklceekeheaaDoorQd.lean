/-
  Nodes split in two, as plain data (no program is named here).
-/
import Derived.Test.YtamoklceekeheaaDoorQa
import Derived.Test.YtamoklceekeheaaDoorPlA
namespace Go.Proofs.YtamoklceekeheaaDoor
open Go.RowKit Go.Sort

def cutL (x : Tree) (n : Nat) : Tree := .mk x.kind (x.text.extract 0 (atB n x.text.data.toList)) x.marks x.attrs x.kids
def cutR (x : Tree) (n : Nat) : Tree := .mk x.kind (x.text.extract (atB n x.text.data.toList) x.text.size) x.marks x.attrs x.kids
def withKids (u : Tree) (k : List Tree) : Tree := .mk u.kind u.text u.marks u.attrs k
/-- What is wrong, what is ahead, what is behind. -/
abbrev Spl := Nat × List Tree × List Tree
def preB (a : List Tree) (r : Spl) : Spl := if r.1 = 0 then (0, a ++ r.2.1, r.2.2) else (r.1, [], [])
def splitB : List Tree → Nat → Spl
  | [], n => if n = 0 then (0, [], []) else (3, [], [])
  | x :: l, n => if sizeB x ≤ n then preB [x] (splitB l (n - sizeB x)) else if n = 0 then (0, [], x :: l) else if isTxt x.kind = true then (0, [cutL x n], cutR x n :: l) else (10, [], [])
theorem preB_pre (a b : List Tree) (r : Spl) : preB a (preB b r) = preB (a ++ b) r := by
  unfold preB
  by_cases h : r.1 = 0
  · simp [h]
  · simp [h]
theorem preB_nil (r : Spl) (h : r.1 ≠ 0 → r.2 = ([], [])) : preB [] r = r := by
  obtain ⟨c, a, b⟩ := r
  unfold preB
  by_cases hc : c = 0
  · subst hc; simp
  · have := h hc; simp only at this
    simp only [Prod.mk.injEq] at this
    obtain ⟨rfl, rfl⟩ := this
    simp [hc]
theorem splitB_err : ∀ (l : List Tree) (n : Nat), (splitB l n).1 ≠ 0 → (splitB l n).2 = ([], [])
  | [], n => by
    rw [splitB]; split <;> simp
  | x :: l, n => by
    rw [splitB]
    split
    · unfold preB
      split
      · intro h; simp at h
      · intro _; rfl
    · split
      · intro h; simp at h
      · split
        · intro h; simp at h
        · intro _; rfl
/-- One node more is ahead. -/
theorem split_step {l : List Tree} {n m i : Nat} {x : Tree} (h : splitB l n = preB (l.take i) (splitB (l.drop i) m)) (hx : l[i]? = some x) (hs : sizeB x ≤ m) : splitB l n = preB (l.take (i + 1)) (splitB (l.drop (i + 1)) (m - sizeB x)) := by
  obtain ⟨hl, he⟩ := List.getElem?_eq_some_iff.1 hx
  have hd : l.drop i = x :: l.drop (i + 1) := by rw [← he, List.getElem_cons_drop]
  have ht : l.take (i + 1) = l.take i ++ [x] := by rw [List.take_add_one, hx]; rfl
  rw [h, hd, splitB, if_pos hs, preB_pre, ht]
theorem split_here {l : List Tree} {n m i : Nat} {x : Tree} (h : splitB l n = preB (l.take i) (splitB (l.drop i) m)) (hx : l[i]? = some x) (hs : ¬ sizeB x ≤ m) :
    splitB l n = if m = 0 then (0, l.take i, l.drop i) else if isTxt x.kind = true then (0, l.take i ++ [cutL x m], cutR x m :: l.drop (i + 1)) else (10, [], []) := by
  obtain ⟨hl, he⟩ := List.getElem?_eq_some_iff.1 hx
  have hd : l.drop i = x :: l.drop (i + 1) := by rw [← he, List.getElem_cons_drop]
  rw [h, hd, splitB, if_neg hs]
  by_cases hm : m = 0
  · rw [if_pos hm, if_pos hm]; simp [preB]
  · rw [if_neg hm, if_neg hm]
    by_cases ht : isTxt x.kind = true
    · rw [if_pos ht, if_pos ht]; simp [preB]
    · rw [if_neg ht, if_neg ht]; simp [preB]
theorem split_end {l : List Tree} {n m : Nat} (h : splitB l n = preB (l.take l.length) (splitB (l.drop l.length) m)) : splitB l n = if m = 0 then (0, l, []) else (3, [], []) := by
  rw [h, List.drop_length, List.take_length, splitB]
  by_cases hm : m = 0
  · rw [if_pos hm, if_pos hm]; simp [preB]
  · rw [if_neg hm, if_neg hm]; simp [preB]
theorem cutL_weigh (x : Tree) (n : Nat) : weigh (cutL x n) ≤ weigh x := by
  obtain ⟨k, t, m, a, l⟩ := x
  have : (t.extract 0 (atB n t.data.toList)).size ≤ t.size := by rw [ByteArray.size_extract]; omega
  simp only [cutL, Tree.kind, Tree.text, Tree.marks, Tree.attrs, Tree.kids, weigh]; omega
theorem cutR_weigh (x : Tree) (n : Nat) : weigh (cutR x n) ≤ weigh x := by
  obtain ⟨k, t, m, a, l⟩ := x
  have : (t.extract (atB n t.data.toList) t.size).size ≤ t.size := by rw [ByteArray.size_extract]; omega
  simp only [cutR, Tree.kind, Tree.text, Tree.marks, Tree.attrs, Tree.kids, weigh]; omega
theorem splitB_weigh : ∀ (l : List Tree) (n : Nat), weighAll (splitB l n).2.1 ≤ weighAll l ∧ weighAll (splitB l n).2.2 ≤ weighAll l
  | [], n => by rw [splitB]; split <;> simp
  | x :: l, n => by
    have ih := splitB_weigh l (n - sizeB x)
    rw [splitB]
    split
    · unfold preB
      split
      · simp only [List.cons_append, List.nil_append, weighAll]; omega
      · simp [weighAll]
    · split
      · simp [weighAll]
      · split
        · have h1 := cutL_weigh x n
          have h2 := cutR_weigh x n
          simp only [weighAll]; omega
        · simp [weighAll]
end Go.Proofs.YtamoklceekeheaaDoor
