/-
  What wellFormed, Depth, Total, Size, Check and Right answer.
-/
import Derived.Test.YtmmifednhleggaaW4
import Derived.OneCell
namespace Go.Proofs.Ytmmifednhleggaa
open Go.RowKit Go.Sort

/-- Only block p, and what is new, has turned. -/
def Only (p : Nat) (w w' : World) : Prop := w.grownBy w' (some p)
theorem Only.refl (p : Nat) (w : World) : Only p w w := ⟨rfl, rfl, rfl, Nat.le_refl _, fun _ _ _ => rfl⟩
theorem Only.trans {p : Nat} {a b c : World} (h : Only p a b) (k : Only p b c) : Only p a c :=
  ⟨k.os.trans h.os, k.tape.trans h.tape, k.output.trans h.output, Nat.le_trans h.size k.size, fun i hi hn => (k.block i (Nat.lt_of_lt_of_le hi h.size) hn).trans (h.block i hi hn)⟩
theorem Only.of_below {p : Nat} {a b : World} (h : Below a.heap.size a b) : Only p a b := ⟨h.os, h.tape, h.output, h.size, fun i hi _ => h.block i hi⟩
theorem Only.alloc {p : Nat} {a w : World} (h : Only p a w) (o : Obj) : Only p a (w.alloc o) := h.trans (Only.of_below ((Below.refl _ _).alloc (Nat.le_refl _) _))
theorem Only.set {p : Nat} {a w : World} (h : Only p a w) (o : Nat) (u : Value) : Only p a (w.setCell ⟨p, o, none⟩ u) :=
  h.trans ⟨rfl, rfl, rfl, by simp [World.setCell], fun i _ hn => Below.heap_setCell _ _ _ _ (fun e => hn (by rw [e]))⟩
theorem Only.cell {p : Nat} {w w' : World} (h : Only p w w') {g o : Nat} {v : Value} (hc : w.cell? ⟨g, o, none⟩ = some v) (hn : g ≠ p) : w'.cell? ⟨g, o, none⟩ = some v :=
  (World.cell?_of_block (a := ⟨g, o, none⟩) (h.block g (cell_lt hc) (fun e => hn (Option.some.inj e)))).trans hc
theorem Only.up {p : Nat} {w w' : World} (hp : w.heap.size ≤ p) (h : Only p w w') : Below w.heap.size w w' :=
  ⟨h.os, h.tape, h.output, h.size, fun i hi => h.block i hi (fun e => by have := Option.some.inj e; omega)⟩

/-- All blocks below a number, but one. -/
def But (n p : Nat) : Nat → Prop := fun b => b < n ∧ b ≠ p
theorem Node.only {p : Nat} {w w' : World} {v : Value} {t : Tree} (h : Node w (But w.heap.size p) v t) (hb : Only p w w') : Node w' (But w'.heap.size p) v t :=
  h.keep (fun _ hb' => ⟨Nat.lt_of_lt_of_le hb'.1 hb.size, hb'.2⟩) fun b hb' => hb.block b hb'.1 (fun e => hb'.2 (Option.some.inj e))
theorem Kids.only {p : Nat} {w w' : World} {v : Value} {l : List Tree} (h : Kids w (But w.heap.size p) v l) (hb : Only p w w') : Kids w' (But w'.heap.size p) v l :=
  h.keep (fun _ hb' => ⟨Nat.lt_of_lt_of_le hb'.1 hb.size, hb'.2⟩) fun b hb' => hb.block b hb'.1 (fun e => hb'.2 (Option.some.inj e))

/-- A variable of one number. -/
def Cnt (w : World) (p : Nat) (d : Int) : Prop := w.heap[p]? = some (.cells #[.int .i64 d] 3)
theorem Cnt.cell {w : World} {p : Nat} {d : Int} (h : Cnt w p d) : w.cell? ⟨p, 0, none⟩ = some (.int .i64 d) := by unfold Cnt at h; simp [World.cell?, h]
theorem Cnt.frozen {w : World} {p : Nat} {d : Int} (h : Cnt w p d) : w.frozen? ⟨p, 0, none⟩ = false := by unfold Cnt at h; simp [World.frozen?, h]
theorem Cnt.lt {w : World} {p : Nat} {d : Int} (h : Cnt w p d) : p < w.heap.size := cell_lt h.cell
theorem Cnt.set {w : World} {p : Nat} {d : Int} (h : Cnt w p d) (e : Int) : Cnt (w.setCell ⟨p, 0, none⟩ (.int .i64 e)) p e := by
  unfold Cnt at *
  simp [World.setCell, Array.getElem?_modify, h]
theorem Cnt.below {w w' : World} {p : Nat} {d : Int} (h : Cnt w p d) (hb : Below w.heap.size w w') : Cnt w' p d := (hb.block p h.lt).trans h

theorem Cnt.new {w : World} {p : Nat} {d : Int} (hp : w.heap.size = p) (o : Obj) : Cnt ((w.alloc (.cells #[.int .i64 d] 3)).alloc o) p d := by
  subst hp
  exact (Below.heap_alloc _ o _ (by simp)).trans (by show (w.heap.push _)[w.heap.size]? = _; simp)
theorem Only.down {B p : Nat} {w w' : World} (h : Only p w w') (hp : B ≤ p) (hB : B ≤ w.heap.size) : Below B w w' :=
  ⟨h.os, h.tape, h.output, h.size, fun i hi => h.block i (by omega) (fun e => by have := Option.some.inj e; omega)⟩

/-- A closure that holds a counter and itself. -/
def SelfAt2 (w : World) (f : FuncId) (d p : Nat) : Prop := w.cell? ⟨p, 0, none⟩ = some (.func (.func f) #[] #[.pointer (some ⟨d, 0, none⟩), .pointer (some ⟨p, 0, none⟩)])

theorem Strs.but {w : World} {B p : Nat} {v : Value} {l : List ByteArray} (h : Strs w (Under B) v l) (hp : B ≤ p) : Strs w (But B p) v l := h.keep (fun b hb => ⟨hb, by unfold Under at hb; omega⟩) fun _ _ => rfl
theorem Node.but {w : World} {B p : Nat} {v : Value} {t : Tree} (h : Node w (Under B) v t) (hp : B ≤ p) : Node w (But B p) v t := h.keep (fun b hb => ⟨hb, by unfold Under at hb; omega⟩) fun _ _ => rfl
theorem Kids.but {w : World} {B p : Nat} {v : Value} {l : List Tree} (h : Kids w (Under B) v l) (hp : B ≤ p) : Kids w (But B p) v l := h.keep (fun b hb => ⟨hb, by unfold Under at hb; omega⟩) fun _ _ => rfl
theorem Node.wide {w : World} {B B' p : Nat} {v : Value} {t : Tree} (h : Node w (But B p) v t) (hB : B ≤ B') : Node w (But B' p) v t := h.keep (fun _ hb => ⟨Nat.lt_of_lt_of_le hb.1 hB, hb.2⟩) fun _ _ => rfl
theorem Kids.wide {w : World} {B B' p : Nat} {v : Value} {l : List Tree} (h : Kids w (But B p) v l) (hB : B ≤ B') : Kids w (But B' p) v l := h.keep (fun _ hb => ⟨Nat.lt_of_lt_of_le hb.1 hB, hb.2⟩) fun _ _ => rfl

end Go.Proofs.Ytmmifednhleggaa
