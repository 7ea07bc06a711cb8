/-
  Expressions as plain data, the rows that they mean, and the places by which one goes along a row (no program is named here).
-/
import Derived.Test.YtldmimekmjmkgaaDoorPure
namespace Go.Proofs.YtldmimekmjmkgaaDoor
open Go.RowKit

inductive Ex where
  | mk (op : Nat) (name : ByteArray) (kids : List Ex)
namespace Ex
def op : Ex → Nat | .mk o _ _ => o
def name : Ex → ByteArray | .mk _ s _ => s
def kids : Ex → List Ex | .mk _ _ l => l
end Ex

/-! ### rows -/
abbrev Rws := List ByteArray → Prop
def lCat (A B : Rws) : Rws := fun w => ∃ u v, w = u ++ v ∧ A u ∧ B v
inductive lStar (A : Rws) : Rws
  | nil : lStar A []
  | app {u v : List ByteArray} (hu : A u) (hv : lStar A v) : lStar A (u ++ v)
mutual
/-- The rows that an expression means. -/
def lang : Ex → Rws
  | .mk op s l => if op = 110 then fun w => w = [s] else if op = 115 then langSeq l else if op = 97 then langAlt l else if op = 42 then lStar (langOne l) else if op = 43 then lCat (langOne l) (lStar (langOne l)) else fun w => w = [] ∨ langOne l w
def langSeq : List Ex → Rws
  | [] => fun w => w = []
  | x :: l => lCat (lang x) (langSeq l)
def langAlt : List Ex → Rws
  | [] => fun _ => False
  | x :: l => fun w => lang x w ∨ langAlt l w
def langOne : List Ex → Rws
  | [] => fun _ => False
  | x :: _ => lang x
end
theorem lStar_one {A : Rws} {u : List ByteArray} (h : A u) : lStar A u := by have := lStar.app h lStar.nil; rwa [List.append_nil] at this
theorem lStar_app {A : Rws} {u v : List ByteArray} (hu : lStar A u) (hv : lStar A v) : lStar A (u ++ v) := by
  induction hu with
  | nil => simpa using hv
  | app h _ ih => rw [List.append_assoc]; exact .app h ih

/-! ### places -/
/-- Places from one number on: with which rows may begin, and end; whether the row of nothing is one; which may come right behind which; the names there. -/
structure Pl where
  first : List Nat
  last : List Nat
  none : Bool
  fol : List (Nat × Nat)
  names : List ByteArray
def cross (a b : List Nat) : List (Nat × Nat) := a.flatMap fun x => b.map fun y => (x, y)
theorem mem_cross {a b : List Nat} {x y : Nat} : (x, y) ∈ cross a b ↔ x ∈ a ∧ y ∈ b := by
  unfold cross
  simp only [List.mem_flatMap, List.mem_map, Prod.mk.injEq]
  constructor
  · rintro ⟨p, hp, q, hq, rfl, rfl⟩; exact ⟨hp, hq⟩
  · rintro ⟨hx, hy⟩; exact ⟨x, hx, y, hy, rfl, rfl⟩
def pOne (s : ByteArray) (n : Nat) : Pl := ⟨[n], [n], false, [], [s]⟩
def pEps : Pl := ⟨[], [], true, [], []⟩
def pVoid : Pl := ⟨[], [], false, [], []⟩
def pCat (a b : Pl) : Pl := ⟨a.first ++ (if a.none then b.first else []), b.last ++ (if b.none then a.last else []), a.none && b.none, a.fol ++ b.fol ++ cross a.last b.first, a.names ++ b.names⟩
def pAlt (a b : Pl) : Pl := ⟨a.first ++ b.first, a.last ++ b.last, a.none || b.none, a.fol ++ b.fol, a.names ++ b.names⟩
def pLoop (a : Pl) (none : Bool) : Pl := ⟨a.first, a.last, a.none || none, a.fol ++ cross a.last a.first, a.names⟩
def pOpt (a : Pl) : Pl := ⟨a.first, a.last, true, a.fol, a.names⟩
mutual
/-- The places of an expression, from the number n on. -/
def place : Ex → Nat → Pl
  | .mk op s l, n => if op = 110 then pOne s n else if op = 115 then placeSeq pEps l n else if op = 97 then placeAlt pVoid l n else if op = 42 then pLoop (placeOne l n) true else if op = 43 then pLoop (placeOne l n) false else pOpt (placeOne l n)
def placeSeq : Pl → List Ex → Nat → Pl
  | acc, [], _ => acc
  | acc, x :: l, n => placeSeq (pCat acc (place x n)) l (n + (place x n).names.length)
def placeAlt : Pl → List Ex → Nat → Pl
  | acc, [], _ => acc
  | acc, x :: l, n => placeAlt (pAlt acc (place x n)) l (n + (place x n).names.length)
def placeOne : List Ex → Nat → Pl
  | [], _ => pVoid
  | x :: _, n => place x n
end
/-- One may go along these places. -/
def Ch (R : List (Nat × Nat)) : List Nat → Prop
  | [] => True
  | [_] => True
  | a :: b :: l => (a, b) ∈ R ∧ Ch R (b :: l)
/-- A row of places, from a first one to a last one. -/
def Way (a : Pl) (p : List Nat) : Prop := (p = [] ∧ a.none = true) ∨ (∃ x, p.head? = some x ∧ x ∈ a.first) ∧ (∃ y, p.getLast? = some y ∧ y ∈ a.last) ∧ Ch a.fol p
/-- All places are those from n on, one for each name. -/
structure At (a : Pl) (n : Nat) : Prop where
  first : ∀ x ∈ a.first, n ≤ x ∧ x < n + a.names.length
  last : ∀ x ∈ a.last, n ≤ x ∧ x < n + a.names.length
  fol : ∀ x y, (x, y) ∈ a.fol → (n ≤ x ∧ x < n + a.names.length) ∧ n ≤ y ∧ y < n + a.names.length
theorem Ch.mono {R R' : List (Nat × Nat)} (h : ∀ x, x ∈ R → x ∈ R') : ∀ {p : List Nat}, Ch R p → Ch R' p
  | [], _ => trivial
  | [_], _ => trivial
  | _ :: _ :: _, hc => ⟨h _ hc.1, Ch.mono h hc.2⟩
theorem Ch.tail {R : List (Nat × Nat)} : ∀ {x : Nat} {p : List Nat}, Ch R (x :: p) → Ch R p
  | _, [], _ => trivial
  | _, _ :: _, hc => hc.2
/-- Joined ways. -/
theorem Ch.app {R : List (Nat × Nat)} : ∀ {p q : List Nat}, Ch R p → Ch R q → (∀ x y, p.getLast? = some x → q.head? = some y → (x, y) ∈ R) → Ch R (p ++ q)
  | [], _, _, hq, _ => hq
  | [x], [], hp, _, _ => hp
  | [x], y :: q, _, hq, hl => ⟨hl x y rfl rfl, hq⟩
  | x :: y :: p, q, hp, hq, hl => ⟨hp.1, Ch.app (p := y :: p) hp.2 hq fun a b ha hb => hl a b (by simpa using ha) hb⟩
theorem at_one (s : ByteArray) (n : Nat) : At (pOne s n) n := ⟨by intro x hx; simp [pOne] at *; omega, by intro x hx; simp [pOne] at *; omega, by intro x y h; simp [pOne] at h⟩
theorem at_eps (n : Nat) : At pEps n := ⟨by intro x hx; simp [pEps] at hx, by intro x hx; simp [pEps] at hx, by intro x y h; simp [pEps] at h⟩
theorem at_void (n : Nat) : At pVoid n := ⟨by intro x hx; simp [pVoid] at hx, by intro x hx; simp [pVoid] at hx, by intro x y h; simp [pVoid] at h⟩
theorem at_cat {a b : Pl} {n : Nat} (ha : At a n) (hb : At b (n + a.names.length)) : At (pCat a b) n := by
  have hl : (pCat a b).names.length = a.names.length + b.names.length := by simp [pCat]
  refine ⟨fun x hx => ?_, fun x hx => ?_, fun x y h => ?_⟩
  · rw [hl]
    simp only [pCat, List.mem_append] at hx
    rcases hx with hx | hx
    · have := ha.first x hx; omega
    · split at hx
      · have := hb.first x hx; omega
      · cases hx
  · rw [hl]
    simp only [pCat, List.mem_append] at hx
    rcases hx with hx | hx
    · have := hb.last x hx; omega
    · split at hx
      · have := ha.last x hx; omega
      · cases hx
  · rw [hl]
    simp only [pCat, List.mem_append, mem_cross] at h
    rcases h with (h | h) | h
    · have := ha.fol x y h; omega
    · have := hb.fol x y h; omega
    · have h1 := ha.last x h.1; have h2 := hb.first y h.2; omega
theorem at_alt {a b : Pl} {n : Nat} (ha : At a n) (hb : At b (n + a.names.length)) : At (pAlt a b) n := by
  have hl : (pAlt a b).names.length = a.names.length + b.names.length := by simp [pAlt]
  refine ⟨fun x hx => ?_, fun x hx => ?_, fun x y h => ?_⟩
  · rw [hl]
    simp only [pAlt, List.mem_append] at hx
    rcases hx with hx | hx
    · have := ha.first x hx; omega
    · have := hb.first x hx; omega
  · rw [hl]
    simp only [pAlt, List.mem_append] at hx
    rcases hx with hx | hx
    · have := ha.last x hx; omega
    · have := hb.last x hx; omega
  · rw [hl]
    simp only [pAlt, List.mem_append] at h
    rcases h with h | h
    · have := ha.fol x y h; omega
    · have := hb.fol x y h; omega
theorem at_loop {a : Pl} {n : Nat} (b : Bool) (ha : At a n) : At (pLoop a b) n := by
  refine ⟨ha.first, ha.last, fun x y h => ?_⟩
  simp only [pLoop, List.mem_append, mem_cross] at h
  rcases h with h | h
  · exact ha.fol x y h
  · exact ⟨ha.last x h.1, ha.first y h.2⟩
theorem at_opt {a : Pl} {n : Nat} (ha : At a n) : At (pOpt a) n := ⟨ha.first, ha.last, ha.fol⟩
end Go.Proofs.YtldmimekmjmkgaaDoor
