/-
  What the node layer answers, as plain functions on trees (no program is named here).
-/
import Derived.Test.YtldmimekmjmkgaaDoorTree
import Derived.Lib.RuneCount
import Derived.Lib.ValidU
namespace Go.Proofs.YtldmimekmjmkgaaDoor
open Go.RowKit

/-- Is a kind the texts' one? -/
def isTxt (k : ByteArray) : Bool := k.toList == [116, 101, 120, 116]
def small (c : UInt8) : Bool := decide (97 ≤ c.toNat) && decide (c.toNat ≤ 122)
def nameB (s : ByteArray) : Bool := decide (1 ≤ s.size) && (decide (s.size ≤ 8) && (!isTxt s && s.data.toList.all small))
def valueB (s : ByteArray) : Bool := decide (s.size ≤ 40) && Lib.validD s.data.toList
def less (a b : ByteArray) : Bool := Op.bytesLess a.toList b.toList

/-- Is the i-th name of some one, and above the one ahead of it? -/
def markOk (l : List ByteArray) (i : Nat) : Bool := nameB (l.getD i ByteArray.empty) && (decide (i = 0) || less (l.getD (i - 1) ByteArray.empty) (l.getD i ByteArray.empty))
def marksB (l : List ByteArray) : Bool := (List.range l.length).all (markOk l)
def pairAt (l : List (ByteArray × ByteArray)) (i : Nat) : ByteArray × ByteArray := l.getD i (ByteArray.empty, ByteArray.empty)
def attrOk (l : List (ByteArray × ByteArray)) (i : Nat) : Bool :=
  nameB (pairAt l i).1 && (valueB (pairAt l i).2 && (decide (i = 0) || less (pairAt l (i - 1)).1 (pairAt l i).1))
def attrsB (l : List (ByteArray × ByteArray)) : Bool := (List.range l.length).all (attrOk l)

theorem all_range_true {n : Nat} {p : Nat → Bool} (h : ∀ i, i < n → p i = true) : (List.range n).all p = true := by
  rw [List.all_eq_true]; intro i hi; exact h i (List.mem_range.1 hi)
theorem all_range_false {n : Nat} {p : Nat → Bool} (k : Nat) (hk : k < n) (h : p k = false) : (List.range n).all p = false := by
  rw [List.all_eq_false]; exact ⟨k, List.mem_range.2 hk, by simp [h]⟩

/-- The same names, one by one. -/
def sameL (a b : List ByteArray) : Bool := decide (a.length = b.length) && (List.range a.length).all fun i => (a.getD i ByteArray.empty).toList == (b.getD i ByteArray.empty).toList
def alikeB (a b : Tree) : Bool := isTxt a.kind && (isTxt b.kind && sameL a.marks b.marks)
def textB (t : Tree) : Bool := !t.text.toList.isEmpty && (Lib.validD t.text.data.toList && (marksB t.marks && (decide (t.attrs.length = 0) && decide (t.kids.length = 0))))
def headB (t : Tree) : Bool := nameB t.kind && (t.text.toList.isEmpty && (decide (t.marks.length = 0) && attrsB t.attrs))

def alikeO (p : Option Tree) (x : Tree) : Bool := match p with | some y => alikeB y x | none => false
mutual
def formedB : Tree → Bool
  | .mk k t m a l => if isTxt k then textB (.mk k t m a l) else headB (.mk k t m a l) && rowB none l
def rowB : Option Tree → List Tree → Bool
  | _, [] => true
  | p, x :: l => !alikeO p x && (formedB x && rowB (some x) l)
end

mutual
def depthB : Tree → Nat
  | .mk k _ _ _ l => if isTxt k then 0 else deepB l + 1
def deepB : List Tree → Nat
  | [] => 0
  | x :: l => max (depthB x) (deepB l)
end

mutual
def sizeB : Tree → Nat
  | .mk k t _ _ l => if isTxt k then Lib.runeCount t else 2 + totalB l
def totalB : List Tree → Nat
  | [] => 0
  | x :: l => sizeB x + totalB l
end

def checkB (t : Tree) : Int := if formedB t then (if 40 < depthB t then 4 else if 4000 < sizeB t then 5 else 0) else 2

/-- How much there is in a tree: no more than this is its size, and its depth. -/
def weighL (l : List ByteArray) : Nat := (l.map fun s => s.size + 1).sum
def weighP (l : List (ByteArray × ByteArray)) : Nat := (l.map fun p => p.1.size + p.2.size + 1).sum
mutual
def weigh : Tree → Nat
  | .mk k t m a l => k.size + t.size + weighL m + weighP a + weighAll l + 2
def weighAll : List Tree → Nat
  | [] => 0
  | x :: l => weigh x + weighAll l
end

theorem weighAll_append (a b : List Tree) : weighAll (a ++ b) = weighAll a + weighAll b := by
  induction a with
  | nil => simp [weighAll]
  | cons x l ih => simp only [List.cons_append, weighAll, ih]; omega
theorem totalB_append (a b : List Tree) : totalB (a ++ b) = totalB a + totalB b := by
  induction a with
  | nil => simp [totalB]
  | cons x l ih => simp only [List.cons_append, totalB, ih]; omega
theorem deepB_append (a b : List Tree) : deepB (a ++ b) = max (deepB a) (deepB b) := by
  induction a with
  | nil => simp [deepB]
  | cons x l ih => simp only [List.cons_append, deepB, ih]; omega
theorem weigh_mem {x : Tree} : ∀ {l : List Tree}, x ∈ l → weigh x ≤ weighAll l
  | [], h => by cases h
  | y :: l, h => by
    simp only [weighAll]
    rcases List.mem_cons.1 h with e | e
    · subst e; omega
    · have := weigh_mem e; omega
theorem length_le_weigh : ∀ l : List Tree, 2 * l.length ≤ weighAll l
  | [] => by simp [weighAll]
  | .mk k t m a l :: r => by have := length_le_weigh r; simp only [List.length_cons, weighAll, weigh]; omega
theorem kids_weigh (t : Tree) : weighAll t.kids + 2 ≤ weigh t := by obtain ⟨k, t, m, a, l⟩ := t; simp only [weigh, Tree.kids]; omega

theorem runeCount_le (s : ByteArray) : Lib.runeCount s ≤ s.size := Lib.runeCountFrom_le s s.size 0

mutual
theorem size_le_weigh : ∀ t : Tree, sizeB t ≤ weigh t
  | .mk k t m a l => by
    have h1 := total_le_weigh l
    have h2 := runeCount_le t
    simp only [sizeB, weigh]; split <;> omega
theorem total_le_weigh : ∀ l : List Tree, totalB l ≤ weighAll l
  | [] => by simp [totalB]
  | x :: l => by have h1 := size_le_weigh x; have h2 := total_le_weigh l; simp only [totalB, weighAll]; omega
end
mutual
theorem depth_le_weigh : ∀ t : Tree, depthB t ≤ weigh t
  | .mk k t m a l => by
    have h1 := deep_le_weigh l
    simp only [depthB, weigh]; split <;> omega
theorem deep_le_weigh : ∀ l : List Tree, deepB l ≤ weighAll l
  | [] => by simp [deepB]
  | x :: l => by have h1 := depth_le_weigh x; have h2 := deep_le_weigh l; simp only [deepB, weighAll]; omega
end

/-- The nodes ahead of k are well formed, and no two of them alike beside one another. -/
def kidOk (l : List Tree) (i : Nat) : Prop := ∃ x, l[i]? = some x ∧ formedB x = true ∧ ∀ y, 0 < i → l[i - 1]? = some y → alikeB y x = false

theorem rowB_true : ∀ (l : List Tree) (p : Option Tree), (∀ y x, p = some y → l[0]? = some x → alikeB y x = false) → (∀ i, i < l.length → kidOk l i) → rowB p l = true
  | [], p, _, _ => by cases p <;> simp [rowB]
  | x :: l, p, hp, h => by
    obtain ⟨x', hx, hf, _⟩ := h 0 (by simp)
    simp at hx; subst hx
    have hr := rowB_true l (some x) (fun y z hy hz => by
      injection hy with hy; subst hy
      obtain ⟨z', hz', _, ha⟩ := h 1 (by rcases l with _ | ⟨a, l⟩ <;> simp at hz ⊢)
      have : z' = z := by simpa [hz] using hz'.symm
      subst this
      exact ha x (by omega) (by simp)) (fun i hi => by
      obtain ⟨z, hz, hf', ha⟩ := h (i + 1) (by simpa using hi)
      refine ⟨z, by simpa using hz, hf', fun y h0 hy => ha y (by omega) ?_⟩
      obtain ⟨j, rfl⟩ : ∃ j, i = j + 1 := ⟨i - 1, by omega⟩
      simpa using hy)
    have h1 : alikeO p x = false := by
      cases p with
      | none => rfl
      | some y => exact hp y x rfl (by simp)
    simp [rowB, hf, hr, h1]

theorem rowB_false : ∀ (l : List Tree) (p : Option Tree) (k : Nat) (x : Tree), l[k]? = some x → (formedB x = false ∨ ∃ y, 0 < k ∧ l[k - 1]? = some y ∧ alikeB y x = true) → rowB p l = false
  | [], _, k, x, h, _ => by simp at h
  | z :: l, p, 0, x, h, hb => by
    simp at h; subst h
    rcases hb with hb | ⟨y, h0, _⟩
    · simp [rowB, hb]
    · omega
  | z :: l, p, k + 1, x, h, hb => by
    have hr : rowB (some z) l = false := by
      rcases hb with hb | ⟨y, _, hy, ha⟩
      · exact rowB_false l (some z) k x (by simpa using h) (.inl hb)
      · cases k with
        | zero =>
          simp at hy; subst hy
          rcases l with _ | ⟨a, l⟩
          · simp at h
          · simp at h; subst h; simp [rowB, alikeO, ha]
        | succ k => exact rowB_false l (some z) (k + 1) x (by simpa using h) (.inr ⟨y, by omega, by simpa using hy, ha⟩)
    simp [rowB, hr]
end Go.Proofs.YtldmimekmjmkgaaDoor
