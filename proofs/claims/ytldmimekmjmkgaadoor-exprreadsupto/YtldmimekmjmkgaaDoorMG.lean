/-
  Rename: what its loop keeps.
  The document's Rename: what it answers.
  Rename: it answers the expression renamed.
  The law's as, and Rename, of great expressions.
  The names of an expression: addNames; what is sorted and compacted (plain).
  Names: what is told of an expression's names.
  The document's Put and Names: what they answer.
-/
import Derived.Test.YtldmimekmjmkgaaDoorMA
import Derived.Deep.DrawnRows
import Derived.OwnWalk
import Derived.Test.YtldmimekmjmkgaaDoorME
import Derived.Lib.SlicesCompact
import Derived.Sort.Walk0
import Derived.Test.YtldmimekmjmkgaaDoorShelfN
import Derived.Sort.OwnSorted
import Derived.Sort.Grow
import Derived.Lib.OwnBridge
import Derived.Lib.RowBridge
import Derived.Sort.EveryDepth
import Derived.Test.YtldmimekmjmkgaaDoorMF
namespace Go.Proofs.YtldmimekmjmkgaaDoor
open Go.RowKit Go.Sort Go.Maps Go.WideMaps

theorem ren_op (f t : ByteArray) (e : Ex) : (renE f t e).op = e.op := by obtain ⟨o, s, l⟩ := e; rw [renE]; rfl
theorem rens_map (f t : ByteArray) : ∀ l, renEs f t l = l.map (renE f t)
  | [] => rfl
  | x :: l => by rw [renEs, rens_map f t l]; rfl
section
variable {w : World} {ops : Array Oper} {o : Oper} {a : Act} {Q : Exit → Act → World → Prop} {K : Act → World → Prop} {E : Prop}
theorem step_ren {v : Value} {f t : ByteArray} {x : Ex} (hw : Region.wanted o (yielded ops a.tmps) = true) (p q r : Operand) (ho : o.op = .call { callee := .value (.func 22), args := #[p, q, r], argTypes := #[24, 9, 9] })
    (hp : a.eval p = v) (hq : a.eval q = .string f) (hr : a.eval r = .string t) (hC : Calls Tryd.prog 22 #[v, .string f, .string t] w (EPost w x))
    (h : ∀ (A : Option Addr) (n c : Nat) (w' : World), Exs w' (From w.heap.size w'.heap.size) (.slice A n c) x.kids → Below w.heap.size w w' → K (a.put o.dst (.agg #[.int .u8 (x.op : Int), .string x.name, .slice A n c])) w') : if Region.wanted o (yielded ops a.tmps) = true then Oper.wp Tryd.prog o a w K Q else E := by
  rw [if_pos hw]
  have hrun : (execOp a.eval o).run Tryd.prog w = .ok (.enter 22 #[v, .string f, .string t]) w := by
    have hf : a.eval (.func 22) = .func (.func 22) #[] #[] := rfl
    obtain ⟨c, hc⟩ : ∃ c, Tryd.f22.body = some c := Option.isSome_iff_exists.1 (by kernel_rfl)
    have hne : ¬ Tryd.f22.name = "runtime.NumGoroutine" := of_decide_eq_false (by kernel_rfl)
    simp [execOp, ho, resolve, invoke, hp, hq, hr, hf, Deferred.ofValue, callFunc, hne, hc]
  unfold Oper.wp
  rw [hrun, Oper.upon_enter]
  refine hC.mono fun e w'' hh => ?_
  obtain ⟨A, n, c, rfl, h1, h2⟩ := hh
  exact h A n c w'' h1 h2
end

/-- Where Rename's loop stands: i kids are renamed. -/
structure RnAt (w wx : World) (o : Nat) (s : ByteArray) (f t : ByteArray) (l : List Ex) (i : Nat) : Prop where
  below : Below w.heap.size w wx
  res : wx.heap[w.heap.size + 1]? = some (.cells #[.int .u8 0, .string ⟨#[]⟩, .slice none 0 0] 24)
  out : wx.heap[w.heap.size + 2]? = some (.cells #[.int .u8 (o : Int), .string s, .slice (some ⟨w.heap.size + 3, 0, none⟩) l.length l.length] 24)
  row : ∃ cur : Array Value, wx.heap[w.heap.size + 3]? = some (.cells cur 24) ∧ cur.size = l.length * 3 ∧ ∀ j x, j < i → l[j]? = some x → ∃ vk, cur[j * 3]? = some (.int .u8 ((renE f t x).op : Int)) ∧ cur[j * 3 + 1]? = some (.string (renE f t x).name) ∧ cur[j * 3 + 2]? = some vk ∧ Exs wx (fun b => w.heap.size + 4 ≤ b ∧ b < wx.heap.size) vk (renE f t x).kids
theorem RnAt.low {w wx : World} {o : Nat} {s f t : ByteArray} {l : List Ex} {i : Nat} (h : RnAt w wx o s f t l i) : w.heap.size + 3 < wx.heap.size := by
  obtain ⟨cur, h1, _⟩ := h.row
  exact (Array.getElem?_eq_some_iff.1 h1).1
theorem RnAt.keep {w wx wy : World} {o : Nat} {s f t : ByteArray} {l : List Ex} {i : Nat} (h : RnAt w wx o s f t l i) (hb : Below wx.heap.size wx wy) : RnAt w wy o s f t l i := by
  have hl := h.low
  obtain ⟨cur, h1, h2, h3⟩ := h.row
  refine ⟨belowNext h.below hb, (hb.block _ (by omega)).trans h.res, (hb.block _ (by omega)).trans h.out, cur, (hb.block _ hl).trans h1, h2, fun j x hj hx => ?_⟩
  obtain ⟨vk, c0, c1, c2, hk⟩ := h3 j x hj hx
  exact ⟨vk, c0, c1, c2, hk.keep (fun b hb' => ⟨hb'.1, Nat.lt_of_lt_of_le hb'.2 hb.size⟩) fun b hb' => hb.block b hb'.2⟩
/-- One more is renamed. -/
theorem RnAt.next {w W : World} {o : Nat} {s f t : ByteArray} {l : List Ex} {i : Nat} {x : Ex} {vk : Value} (h : RnAt w W o s f t l i) (hi : i < l.length) (hx : l[i]? = some x) (hk : Exs W (fun b => w.heap.size + 4 ≤ b ∧ b < W.heap.size) vk (renE f t x).kids) :
    RnAt w (((W.setCell ⟨w.heap.size + 3, i * 3, none⟩ (.int .u8 ((renE f t x).op : Int))).setCell ⟨w.heap.size + 3, i * 3 + 1, none⟩ (.string (renE f t x).name)).setCell ⟨w.heap.size + 3, i * 3 + 2, none⟩ vk) o s f t l (i + 1) := by
  have hl := h.low
  obtain ⟨cur, h1, h2, h3⟩ := h.row
  have hz : (((W.setCell ⟨w.heap.size + 3, i * 3, none⟩ (.int .u8 ((renE f t x).op : Int))).setCell ⟨w.heap.size + 3, i * 3 + 1, none⟩ (.string (renE f t x).name)).setCell ⟨w.heap.size + 3, i * 3 + 2, none⟩ vk).heap.size = W.heap.size := by simp [World.setCell]
  have hb : ∀ b, b ≠ w.heap.size + 3 → (((W.setCell ⟨w.heap.size + 3, i * 3, none⟩ (.int .u8 ((renE f t x).op : Int))).setCell ⟨w.heap.size + 3, i * 3 + 1, none⟩ (.string (renE f t x).name)).setCell ⟨w.heap.size + 3, i * 3 + 2, none⟩ vk).heap[b]? = W.heap[b]? := fun b hb =>
    (Below.heap_setCell _ _ _ _ hb).trans ((Below.heap_setCell _ _ _ _ hb).trans (Below.heap_setCell _ _ _ _ hb))
  have hrow : (((W.setCell ⟨w.heap.size + 3, i * 3, none⟩ (.int .u8 ((renE f t x).op : Int))).setCell ⟨w.heap.size + 3, i * 3 + 1, none⟩ (.string (renE f t x).name)).setCell ⟨w.heap.size + 3, i * 3 + 2, none⟩ vk).heap[w.heap.size + 3]? = some (.cells (((cur.setIfInBounds (i * 3) (.int .u8 ((renE f t x).op : Int))).setIfInBounds (i * 3 + 1) (.string (renE f t x).name)).setIfInBounds (i * 3 + 2) vk) 24) :=
    heap_setCell_same _ _ _ _ _ _ (heap_setCell_same _ _ _ _ _ _ (heap_setCell_same _ _ _ _ _ _ h1))
  refine ⟨⟨h.below.os, h.below.tape, h.below.output, by rw [hz]; exact h.below.size, fun b hb' => (hb b (by omega)).trans (h.below.block b hb')⟩, (hb _ (by omega)).trans h.res, (hb _ (by omega)).trans h.out, _, hrow, by simpa using h2, fun j y hj hy => ?_⟩
  by_cases e : j = i
  · subst e
    obtain rfl : x = y := Option.some.inj (hx.symm.trans hy)
    refine ⟨vk, ?_, ?_, ?_, hk.keep (fun b hb' => by rw [hz]; exact hb') fun b hb' => hb b (by omega)⟩
    · rw [Array.getElem?_setIfInBounds_ne (by omega), Array.getElem?_setIfInBounds_ne (by omega), Array.getElem?_setIfInBounds_self_of_lt (by omega)]
    · rw [Array.getElem?_setIfInBounds_ne (by omega), Array.getElem?_setIfInBounds_self_of_lt (by simp; omega)]
    · rw [Array.getElem?_setIfInBounds_self_of_lt (by simp; omega)]
  · obtain ⟨vj, c0, c1, c2, hkj⟩ := h3 j y (by omega) hy
    refine ⟨vj, ?_, ?_, ?_, hkj.keep (fun b hb' => by rw [hz]; exact hb') fun b hb' => hb b (by omega)⟩
    · rw [Array.getElem?_setIfInBounds_ne (by omega), Array.getElem?_setIfInBounds_ne (by omega), Array.getElem?_setIfInBounds_ne (by omega)]; exact c0
    · rw [Array.getElem?_setIfInBounds_ne (by omega), Array.getElem?_setIfInBounds_ne (by omega), Array.getElem?_setIfInBounds_ne (by omega)]; exact c1
    · rw [Array.getElem?_setIfInBounds_ne (by omega), Array.getElem?_setIfInBounds_ne (by omega), Array.getElem?_setIfInBounds_ne (by omega)]; exact c2
/-- All are. -/
theorem RnAt.all {w W : World} {o : Nat} {s f t : ByteArray} {l : List Ex} {i : Nat} (h : RnAt w W o s f t l i) (hi : l.length ≤ i) (hm : l.length ≤ maxLen) : Exs W (fun b => w.heap.size ≤ b ∧ b < W.heap.size ∧ b ≠ w.heap.size + 1) (.slice (some ⟨w.heap.size + 3, 0, none⟩) l.length l.length) (renEs f t l) := by
  have hl := h.low
  obtain ⟨cur, h1, h2, h3⟩ := h.row
  rw [rens_map]
  refine ⟨some ⟨w.heap.size + 3, 0, none⟩, l.length, by rw [List.length_map], by rw [List.length_map]; exact Nat.le_refl _, hm, .inr ⟨w.heap.size + 3, 0, rfl, ⟨by omega, by omega, by omega⟩, exsAt_of _ _ _ fun j y hj => ?_⟩⟩
  rw [List.getElem?_map] at hj
  cases hx : l[j]? with
  | none => rw [hx] at hj; simp at hj
  | some x =>
    rw [hx] at hj
    simp only [Option.map_some, Option.some.injEq] at hj
    subst hj
    obtain ⟨vk, c0, c1, c2, hk⟩ := h3 j x (by have := (List.getElem?_eq_some_iff.1 hx).1; omega) hx
    refine (exAt_iff _ _ _).2 ⟨vk, ?_, ?_, ?_, hk.keep (fun b hb => ⟨by have := hb.1; omega, hb.2, by have := hb.1; omega⟩) fun _ _ => rfl⟩
    · simp only [World.cell?, h1, Nat.zero_add]; exact c0
    · simp only [World.cell?, h1, Nat.zero_add]; exact c1
    · simp only [World.cell?, h1, Nat.zero_add]; exact c2
theorem ren_fin {w W : World} {e : Ex} {A : Option Addr} {n c : Nat} {u0 u1 u2 : Value} (hB : Below w.heap.size w W) (hz : W.heap[w.heap.size + 1]? = some (.cells #[u0, u1, u2] 24)) (hk : Exs W (fun b => w.heap.size ≤ b ∧ b < W.heap.size ∧ b ≠ w.heap.size + 1) (.slice A n c) e.kids) :
    (((W.setCell ⟨w.heap.size + 1, 0, none⟩ (.int .u8 (e.op : Int))).setCell ⟨w.heap.size + 1, 1, none⟩ (.string e.name)).setCell ⟨w.heap.size + 1, 2, none⟩ (.slice A n c)).heap[w.heap.size + 1]? = some (.cells #[.int .u8 (e.op : Int), .string e.name, .slice A n c] 24) ∧
    EPost w e (.returned (.agg #[.int .u8 (e.op : Int), .string e.name, .slice A n c])) (((W.setCell ⟨w.heap.size + 1, 0, none⟩ (.int .u8 (e.op : Int))).setCell ⟨w.heap.size + 1, 1, none⟩ (.string e.name)).setCell ⟨w.heap.size + 1, 2, none⟩ (.slice A n c)) := by
  obtain ⟨x0, hx, hzz⟩ := put3x (v0 := .int .u8 (e.op : Int)) (v1 := .string e.name) (v2 := .slice A n c) hz
  exact ⟨x0, A, n, c, rfl, hk.keep (fun b hb => ⟨hb.1, by rw [hzz]; exact hb.2.1⟩) fun b hb => hx b hb.2.2, hB.os, hB.tape, hB.output, by rw [hzz]; exact hB.size, fun b hb => (hx b (by omega)).trans (hB.block b hb)⟩
/-- The three boxes that it begins with. -/
theorem ren_start (w : World) (o : Int) (s s' : ByteArray) (v : Value) : Below w.heap.size w (((w.alloc (.cells #[.int .u8 o, .string s, v] 24)).alloc (.cells #[.int .u8 0, .string ⟨#[]⟩, .slice none 0 0] 24)).alloc (.cells #[.int .u8 o, .string s', .slice none 0 0] 24)) ∧
    (((w.alloc (.cells #[.int .u8 o, .string s, v] 24)).alloc (.cells #[.int .u8 0, .string ⟨#[]⟩, .slice none 0 0] 24)).alloc (.cells #[.int .u8 o, .string s', .slice none 0 0] 24)).heap[w.heap.size]? = some (.cells #[.int .u8 o, .string s, v] 24) ∧
    (((w.alloc (.cells #[.int .u8 o, .string s, v] 24)).alloc (.cells #[.int .u8 0, .string ⟨#[]⟩, .slice none 0 0] 24)).alloc (.cells #[.int .u8 o, .string s', .slice none 0 0] 24)).heap[w.heap.size + 1]? = some (.cells #[.int .u8 0, .string ⟨#[]⟩, .slice none 0 0] 24) ∧
    (((w.alloc (.cells #[.int .u8 o, .string s, v] 24)).alloc (.cells #[.int .u8 0, .string ⟨#[]⟩, .slice none 0 0] 24)).alloc (.cells #[.int .u8 o, .string s', .slice none 0 0] 24)).heap[w.heap.size + 2]? = some (.cells #[.int .u8 o, .string s', .slice none 0 0] 24) ∧
    (((w.alloc (.cells #[.int .u8 o, .string s, v] 24)).alloc (.cells #[.int .u8 0, .string ⟨#[]⟩, .slice none 0 0] 24)).alloc (.cells #[.int .u8 o, .string s', .slice none 0 0] 24)).heap.size = w.heap.size + 3 := by
  have hz1 : (w.alloc (.cells #[.int .u8 o, .string s, v] 24)).heap.size = w.heap.size + 1 := by simp
  have hz2 : ((w.alloc (.cells #[.int .u8 o, .string s, v] 24)).alloc (.cells #[.int .u8 0, .string ⟨#[]⟩, .slice none 0 0] 24)).heap.size = w.heap.size + 2 := by simp
  exact ⟨(((Below.refl _ _).alloc (Nat.le_refl _) _).alloc (by omega) _).alloc (by omega) _, (Below.heap_alloc _ _ _ (by omega)).trans ((Below.heap_alloc _ _ _ (by omega)).trans (heap_new _ _)), (Below.heap_alloc _ _ _ (by omega)).trans (heap_new' _ _ hz1), heap_new' _ _ hz2, by simp⟩
/-- The row is made. -/
theorem RnAt.start {w W w1 : World} {o n : Nat} {s f t : ByteArray} {l : List Ex} (hn : l.length = n) (hB : Below w.heap.size w W) (hr : W.heap[w.heap.size + 1]? = some (.cells #[.int .u8 0, .string ⟨#[]⟩, .slice none 0 0] 24)) (ho : W.heap[w.heap.size + 2]? = some (.cells #[.int .u8 (o : Int), .string s, .slice none 0 0] 24)) (hz : W.heap.size = w.heap.size + 3)
    {xs : List Value} (hown : w1.ownsRow (w.heap.size + 3) 24 3 (.slice (some ⟨w.heap.size + 3, 0, none⟩) n n) n xs) (hg : W.grownBy w1 none) :
    RnAt w (w1.setCell ⟨w.heap.size + 2, 2, none⟩ (.slice (some ⟨w.heap.size + 3, 0, none⟩) n n)) o s f t l 0 := by
  have hb : Below W.heap.size W w1 := (Below.refl W.heap.size W).grown hg (Nat.le_refl _) (fun j hj => by cases hj)
  have hx : ∀ b, b ≠ w.heap.size + 2 → (w1.setCell ⟨w.heap.size + 2, 2, none⟩ (.slice (some ⟨w.heap.size + 3, 0, none⟩) n n)).heap[b]? = w1.heap[b]? := fun b hb => Below.heap_setCell _ _ _ _ hb
  have hzz : (w1.setCell ⟨w.heap.size + 2, 2, none⟩ (.slice (some ⟨w.heap.size + 3, 0, none⟩) n n)).heap.size = w1.heap.size := by simp [World.setCell]
  have hbw := belowNext hB hb
  subst hn
  refine ⟨⟨hbw.os, hbw.tape, hbw.output, by rw [hzz]; exact hbw.size, fun b hb' => (hx b (by omega)).trans (hbw.block b hb')⟩, (hx _ (by omega)).trans ((hb.block _ (by omega)).trans hr), heap_setCell_same w1 _ 2 _ _ _ ((hb.block _ (by omega)).trans ho), ?_⟩
  obtain ⟨_, ⟨h, _⟩ | ⟨g, cap, cur, h, _, hg', _, _, hcs, _⟩⟩ := hown
  · cases h
  · injection h with h1 _ h3
    injection h1 with h1
    injection h1 with h1 _ _
    subst h1 h3
    exact ⟨cur, (hx _ (by omega)).trans hg', hcs, fun j x hj => absurd hj (by omega)⟩
theorem row_three {W : World} {g : Nat} {cur : Array Value} {T : TypeId} (h : W.heap[g]? = some (.cells cur T)) {i : Nat} (hi : i * 3 + 2 < cur.size) : (∃ v, W.cell? ⟨g, i * 3, none⟩ = some v) ∧ (∃ v, W.cell? ⟨g, i * 3 + 1, none⟩ = some v) ∧ ∃ v, W.cell? ⟨g, i * 3 + 2, none⟩ = some v := by
  simp only [World.cell?, h]
  exact ⟨⟨_, Array.getElem?_eq_getElem (by omega)⟩, ⟨_, Array.getElem?_eq_getElem (by omega)⟩, _, Array.getElem?_eq_getElem (by omega)⟩
end Go.Proofs.YtldmimekmjmkgaaDoor

namespace Go.Proofs.YtldmimekmjmkgaaDoor
open Go.RowKit Go.Sort Go.Maps Go.WideMaps

section
variable {w : World} {ops : Array Oper} {o : Oper} {a : Act} {Q : Exit → Act → World → Prop} {K : Act → World → Prop} {E : Prop}
theorem step_rren {v : Value} {f t : ByteArray} {x : Ex} (hw : Region.wanted o (yielded ops a.tmps) = true) (p q r : Operand) (ho : o.op = .call { callee := .value (.func 23), args := #[p, q, r], argTypes := #[30, 9, 9] })
    (hp : a.eval p = v) (hq : a.eval q = .string f) (hr : a.eval r = .string t) (hC : Calls Tryd.prog 23 #[v, .string f, .string t] w (EPost w x))
    (h : ∀ (A : Option Addr) (n c : Nat) (w' : World), Exs w' (From w.heap.size w'.heap.size) (.slice A n c) x.kids → Below w.heap.size w w' → K (a.put o.dst (.agg #[.int .u8 (x.op : Int), .string x.name, .slice A n c])) w') : if Region.wanted o (yielded ops a.tmps) = true then Oper.wp Tryd.prog o a w K Q else E := by
  rw [if_pos hw]
  have hrun : (execOp a.eval o).run Tryd.prog w = .ok (.enter 23 #[v, .string f, .string t]) w := by
    have hf : a.eval (.func 23) = .func (.func 23) #[] #[] := rfl
    obtain ⟨c, hc⟩ : ∃ c, Tryd.f23.body = some c := Option.isSome_iff_exists.1 (by kernel_rfl)
    have hne : ¬ Tryd.f23.name = "runtime.NumGoroutine" := of_decide_eq_false (by kernel_rfl)
    simp [execOp, ho, resolve, invoke, hp, hq, hr, hf, Deferred.ofValue, callFunc, hne, hc]
  unfold Oper.wp
  rw [hrun, Oper.upon_enter]
  refine hC.mono fun e w'' hh => ?_
  obtain ⟨A, n, c, rfl, h1, h2⟩ := hh
  exact h A n c w'' h1 h2
end
/-- Where the document's Rename stands: i kids are renamed. -/
structure RsAt (w wx : World) (o : Nat) (s s' : ByteArray) (l l' : List Ex) (A : Option Addr) (c : Nat) (i : Nat) (vk : Value) : Prop where
  below : Below w.heap.size w wx
  box : wx.heap[w.heap.size]? = some (.cells #[.int .u8 (o : Int), .string s, .slice A l.length c] 30)
  res : wx.heap[w.heap.size + 1]? = some (.cells #[.int .u8 0, .string ⟨#[]⟩, .slice none 0 0] 30)
  out : wx.heap[w.heap.size + 2]? = some (.cells #[.int .u8 (o : Int), .string s', vk] 30)
  row : KRowR wx (w.heap.size + 3) vk (l'.take i)
theorem RsAt.low {w wx : World} {o : Nat} {s s' : ByteArray} {l l' : List Ex} {A : Option Addr} {c i : Nat} {vk : Value} (h : RsAt w wx o s s' l l' A c i vk) : w.heap.size + 2 < wx.heap.size := (Array.getElem?_eq_some_iff.1 h.out).1
theorem RsAt.keep {w wx wy : World} {o : Nat} {s s' : ByteArray} {l l' : List Ex} {A : Option Addr} {c i : Nat} {vk : Value} (h : RsAt w wx o s s' l l' A c i vk) (hb : Below wx.heap.size wx wy) : RsAt w wy o s s' l l' A c i vk := by
  have hl := h.low
  exact ⟨belowNext h.below hb, (hb.block _ (by omega)).trans h.box, (hb.block _ (by omega)).trans h.res, (hb.block _ (by omega)).trans h.out, h.row.keep hb.size fun b _ hb2 => hb.block b hb2⟩
theorem RsAt.next {w W w5 : World} {o : Nat} {s s' : ByteArray} {l l' : List Ex} {A : Option Addr} {c i : Nat} {vk v5 vx : Value} {x : Ex} {xs : List Value} (h : RsAt w W o s s' l l' A c i vk) (hx : l'.take (i + 1) = l'.take i ++ [x])
    (hvk : ∀ b, vk.ownBlock = some b → w.heap.size + 3 ≤ b) (hkc : KC W (fun b => w.heap.size + 3 ≤ b ∧ b < W.heap.size ∧ vk.ownBlock ≠ some b) (l'.take i) xs)
    (ho : w5.ownsRow (w.heap.size + 3) 30 3 v5 ((l'.take i).length + 1) (xs ++ [.int .u8 (x.op : Int), .string x.name, vx])) (hg : W.grownBy w5 vk.ownBlock) (hb : v5.ownBlock = vk.ownBlock ∨ v5.ownBlock = some W.heap.size)
    (hk : Exs W (fun b => w.heap.size + 3 ≤ b ∧ b < W.heap.size ∧ vk.ownBlock ≠ some b) vx x.kids) : RsAt w (w5.setCell ⟨w.heap.size + 2, 2, none⟩ v5) o s s' l l' A c (i + 1) v5 := by
  have hl := h.low
  have hblk : ∀ b, b < w.heap.size + 3 → w5.heap[b]? = W.heap[b]? := fun b hb' => hg.block b (by omega) fun e => by have := hvk b e.symm; omega
  have hrow := KRowR.more hkc ho hg hb hk
  refine ⟨⟨hg.os.trans h.below.os, hg.tape.trans h.below.tape, hg.output.trans h.below.output, by have h1 := h.below.size; have h2 := hg.size; simp [World.setCell]; omega, fun b hb' => (Below.heap_setCell _ _ _ _ (by dsimp only; omega)).trans ((hblk b (by omega)).trans (h.below.block b hb'))⟩, ?_, ?_, ?_, ?_⟩
  · exact (Below.heap_setCell _ _ _ _ (by dsimp only; omega)).trans ((hblk _ (by omega)).trans h.box)
  · exact (Below.heap_setCell _ _ _ _ (by dsimp only; omega)).trans ((hblk _ (by omega)).trans h.res)
  · exact heap_setCell_same w5 _ 2 _ _ _ ((hblk _ (by omega)).trans h.out)
  · rw [hx]
    exact hrow.keep (by simp [World.setCell]) fun b hb1 _ => Below.heap_setCell _ _ _ _ (by dsimp only; omega)
theorem RsAt.fin {w W : World} {o : Nat} {s s' : ByteArray} {l l' : List Ex} {A : Option Addr} {c i : Nat} {A' : Option Addr} {n' c' : Nat} (h : RsAt w W o s s' l l' A c i (.slice A' n' c')) (hi : l'.take i = l') :
    (((W.setCell ⟨w.heap.size + 1, 0, none⟩ (.int .u8 (o : Int))).setCell ⟨w.heap.size + 1, 1, none⟩ (.string s')).setCell ⟨w.heap.size + 1, 2, none⟩ (.slice A' n' c')).heap[w.heap.size + 1]? = some (.cells #[.int .u8 (o : Int), .string s', .slice A' n' c'] 30) ∧
    EPost w (.mk o s' l') (.returned (.agg #[.int .u8 (o : Int), .string s', .slice A' n' c'])) (((W.setCell ⟨w.heap.size + 1, 0, none⟩ (.int .u8 (o : Int))).setCell ⟨w.heap.size + 1, 1, none⟩ (.string s')).setCell ⟨w.heap.size + 1, 2, none⟩ (.slice A' n' c')) := by
  obtain ⟨x0, hx, hzz⟩ := put3x (v0 := .int .u8 (o : Int)) (v1 := .string s') (v2 := .slice A' n' c') h.res
  have he := h.row.exs
  rw [hi] at he
  refine ⟨x0, A', n', c', rfl, he.keep (fun b hb => ⟨by have := hb.1; omega, by rw [hzz]; exact hb.2⟩) fun b hb => hx b (by have := hb.1; omega), h.below.os, h.below.tape, h.below.output, by rw [hzz]; exact h.below.size, fun b hb => (hx b (by omega)).trans (h.below.block b hb)⟩
def RRn (e : Ex) : Prop := ∀ (f t : ByteArray) (A : Option Addr) (n c B : Nat) (w : World), sizeE e ≤ 2000000 → Exs w (Under B) (.slice A n c) e.kids → B ≤ w.heap.size →
  Calls Tryd.prog 23 #[.agg #[.int .u8 (e.op : Int), .string e.name, .slice A n c], .string f, .string t] w (EPost w (renE f t e))
attribute [local go_sem ↓] Go.wp_at_zero Go.wp_at_succ
set_option maxRecDepth 100000 in
set_option maxHeartbeats 8000000 in
theorem rren_walk : ∀ e, RRn e := by
  intro e
  induction e using Ex.induct_one with
  | h o s l ih =>
    intro f t A n c B w hsz hl hB
    have IH := Lib.hid ih
    clear ih
    simp only [Ex.op, Ex.name, Ex.kids] at *
    have hlen := hl.len
    obtain ⟨A', c', hv, hc, hm, _⟩ := id hl
    injection hv with hA hn hc'
    subst hA hn hc'
    unfold maxLen at hm
    have HSZ := Lib.hid hsz
    have hll : l.length ≤ 2000000 := by
      have h1 : ∀ l : List Ex, l.length ≤ sizeEs l := fun l => by
        induction l with
        | nil => exact Nat.le_refl _
        | cons x l ih => obtain ⟨_, _, _⟩ := x; simp only [sizeEs, sizeE, List.length_cons]; omega
      have := h1 l
      simp only [sizeE] at hsz
      omega
    have HA := Lib.hid hl
    obtain ⟨l', hl'⟩ : ∃ l', l' = l.map (renE f t) := ⟨_, rfl⟩
    have HLL := Lib.hid hl'
    have hll' : l'.length ≤ 2000000 := by rw [hl', List.length_map]; exact hll
    have HRN : Hid (renE f t (.mk o s l) = .mk o (if o = 110 ∧ s = f then t else s) l') := Lib.hid (by rw [renE, rens_map, hl'])
    have hz1 : (w.alloc (.cells #[.int .u8 (o : Int), .string s, .slice A l.length c] 30)).heap.size = w.heap.size + 1 := by simp
    have hz2 : ((w.alloc (.cells #[.int .u8 (o : Int), .string s, .slice A l.length c] 30)).alloc (.cells #[.int .u8 0, .string ⟨#[]⟩, .slice none 0 0] 30)).heap.size = w.heap.size + 2 := by simp
    have HAT : Hid (∀ s', RsAt w (((w.alloc (.cells #[.int .u8 (o : Int), .string s, .slice A l.length c] 30)).alloc (.cells #[.int .u8 0, .string ⟨#[]⟩, .slice none 0 0] 30)).alloc (.cells #[.int .u8 (o : Int), .string s', .slice none 0 0] 30)) o s s' l l' A c 0 (.slice none 0 0)) := Lib.hid fun s' =>
      ⟨(((Below.refl _ _).alloc (Nat.le_refl _) _).alloc (by omega) _).alloc (by omega) _,
       (Below.heap_alloc _ _ _ (by omega)).trans ((Below.heap_alloc _ _ _ (by omega)).trans (heap_new _ _)),
       (Below.heap_alloc _ _ _ (by omega)).trans (heap_new' _ _ hz1), heap_new' _ _ hz2, ⟨[], World.ownsRow_nil _ _ _ _, rfl⟩⟩
    clear hl hsz hz1 hz2 hl'
    by_cases ho : o = 110
    · by_cases hsf : s = f
      · have HQ : Hid (renE f t (.mk o s l) = .mk o t l') := Lib.hid (by rw [HRN.out, if_pos ⟨ho, hsf⟩])
        have e1 : ((o : Int) == 110) = true := by simp [ho]
        have e2 : (s.toList == f.toList) = true := by rw [hsf]; simp
        replace HAT := Lib.hid (HAT.out t)
        clear ho hsf HRN
        go_enter Tryd.func23, Tryd.ntmps23
        go_wp2
        generalize ((w.alloc (.cells #[.int .u8 (o : Int), .string s, .slice A l.length c] 30)).alloc (.cells #[.int .u8 0, .string ⟨#[]⟩, .slice none 0 0] 30)).alloc (.cells #[.int .u8 (o : Int), .string t, .slice none 0 0] 30) = w1 at *
        go_loopg [8] l.length (fun g u wx => ∃ (i : Nat) (vk : Value), u = .int .i64 i ∧ i + g = l.length ∧ Hid (RsAt w wx o s t l l' A c i vk))
        case atStart => exact ⟨0, _, rfl, by omega, HAT⟩
        case round =>
          clear HAT
          obtain ⟨i, vk, rfl, hig, HR⟩ := hrel
          obtain ⟨Ak, ck, rfl, hck, hckm, _⟩ := id HR.out.row.exs
          generalize hnk : (l'.take i).length = nk at *
          have HNK := Lib.hid hnk
          have hnk2 : nk ≤ 2000000 := by rw [← hnk, List.length_take]; omega
          clear hnk
          obtain ⟨b0, b1, b2⟩ := three_cells HR.out.box
          obtain ⟨r0, r1, r2⟩ := three_cells HR.out.res
          obtain ⟨q0, q1, q2⟩ := three_cells HR.out.out
          have fb := fun j => frozen_of_row _ (w.heap.size + 2) j _ _ HR.out.out
          have t2 := fb 2
          have z0 := frozen_of_row _ (w.heap.size + 1) 0 _ _ HR.out.res
          have z1 := frozen_of_row _ (w.heap.size + 1) 1 _ _ HR.out.res
          have z2 := frozen_of_row _ (w.heap.size + 1) 2 _ _ HR.out.res
          have hlow := HR.out.low
          clear fb
          by_cases hi : i < l.length
          · have hlx : l[i]? = some l[i] := List.getElem?_eq_getElem hi
            generalize hx : l[i] = x at *
            have hlxx : l'.take (i + 1) = l'.take i ++ [renE f t x] := by rw [HLL.out, List.take_add_one, List.getElem?_map, hlx]; rfl
            have HLX := Lib.hid hlxx
            have HAR : Hid (Exs wr (Under B) (.slice A l.length c) l) := Lib.hid (HA.out.keep (fun _ h => h) fun b hb => HR.out.below.block b (Nat.lt_of_lt_of_le hb hB))
            obtain ⟨b, off, rfl, hb, hat⟩ := HAR.out.get hlx
            obtain ⟨v3, f0, f1, f2, exk⟩ := (exAt_iff x b _).1 hat
            obtain ⟨A3, c3, rfl, _⟩ := id exk
            have hl3 := cell_lt f0
            have HX := Lib.hid hlx
            have hbw : b < w.heap.size := Nat.lt_of_lt_of_le hb hB
            have HXS : Hid (sizeE x ≤ 2000000) := Lib.hid (by have h1 := size_mem (List.mem_of_getElem? hlx); have h2 := HSZ.out; simp only [sizeE] at h2; omega)
            have HCALL := Lib.hid (IH.out x (List.mem_of_getElem? hlx) f t A3 _ c3 B wr.drew HXS.out (exk.keep (fun _ h => h) fun _ _ => rfl) (Nat.le_trans hB HR.out.below.size))
            obtain ⟨g, rfl⟩ : ∃ g, gk = g + 1 := ⟨gk - 1, by omega⟩
            clear exk hx hlx hat hb hlxx r0 r1 r2 z0 z1 z2
            generalize hxy : renE f t x = y at *
            clear hxy
            have HVK : Hid (∀ b, (Value.slice Ak nk ck).ownBlock = some b → w.heap.size + 3 ≤ b) := Lib.hid (by obtain ⟨xs, h, _⟩ := HR.out.row; exact fun b hb => (h.lt b hb).1)
            go_wp2_with fail
            go_region_law (first
              | ((with_reducible refine step_rren (v := .agg #[.int .u8 (x.op : Int), .string x.name, .slice A3 x.kids.length c3]) (f := f) (t := t) (x := y) (by kernel_rfl) (.tmp 38) (.tmp 39) (.tmp 40) rfl rfl rfl rfl HCALL.out ?_); intro A4 n4 c4 w2 hk2 hb2; have HB2 : Hid (Below wr.heap.size wr w2) := Lib.hid ((below_drewX wr).trans hb2); have HR2 := Lib.hid (HR.out.keep HB2.out); obtain ⟨p0, p1, p2⟩ := three_cells HR2.out.out; have s2 := frozen_of_row _ (w.heap.size + 2) 2 _ _ HR2.out.out; have hlow2 := HR2.out.low; have HR3 := Lib.hid (HR2.out.keep (wy := w2.alloc (.cells #[.int .u8 (y.op : Int), .string y.name, .slice A4 n4 c4] 30)) ((Below.refl _ _).alloc (Nat.le_refl _) _)); obtain ⟨xs, hxs, hkc⟩ := HR3.out.row; rw [HNK.out] at hxs; have HXS4 := Lib.hid hxs; have HKC := Lib.hid hkc; have HNEW : Hid ((w2.alloc (.cells #[.int .u8 (y.op : Int), .string y.name, .slice A4 n4 c4] 30)).heap[w2.heap.size]? = some (.cells #[.int .u8 (y.op : Int), .string y.name, .slice A4 n4 c4] 30)) := Lib.hid (heap_new _ _); have HON4 : Hid (∀ u ∈ [Value.int .u8 (y.op : Int), .string y.name, .slice A4 n4 c4], u.oneCell' = true) := Lib.hid (by simp [Value.oneCell']); have HN1 : Hid (nk + 1 ≤ 100000000) := Lib.hid (by omega); have HBS : Hid (w.heap.size + 3 ≤ (w2.alloc (.cells #[.int .u8 (y.op : Int), .string y.name, .slice A4 n4 c4] 30)).heap.size) := Lib.hid (by simp; omega); have HKX : Hid (Exs (w2.alloc (.cells #[.int .u8 (y.op : Int), .string y.name, .slice A4 n4 c4] 30)) (fun b => w.heap.size + 3 ≤ b ∧ b < (w2.alloc (.cells #[.int .u8 (y.op : Int), .string y.name, .slice A4 n4 c4] 30)).heap.size ∧ (Value.slice Ak nk ck).ownBlock ≠ some b) (.slice A4 n4 c4) y.kids) := Lib.hid (hk2.keep (fun b hb => ⟨by have h1 : wr.heap.size ≤ b := hb.1; omega, by have := hb.2; simp; omega, by intro h5; obtain ⟨ys, h6, _⟩ := HR.out.row; have h7 := (h6.lt b h5).2; have h8 : wr.heap.size ≤ b := hb.1; omega⟩) fun b hb => Below.heap_alloc _ _ _ hb.2); clear hk2 hb2 hxs hkc)
              | ((with_reducible refine step_append_exR (by kernel_rfl) (.tmp 33) (.tmp 42) rfl (w.heap.size + 3) (.slice Ak nk ck) nk xs w2.heap.size 1 (.int .u8 (y.op : Int)) (.string y.name) (.slice A4 n4 c4) rfl rfl HXS4.out HNEW.out HON4.out HN1.out HBS.out ?_); intro v5 w5 ho5 hg5 hb5; obtain ⟨G5, d5, rfl⟩ := own_slice ho5; have HFIN := Lib.hid (HR3.out.next HLX.out HVK.out HKC.out (by rw [HNK.out]; exact ho5) hg5 hb5 HKX.out); have hw5 : w5.heap[w.heap.size + 2]? = some (.cells #[.int .u8 (o : Int), .string t, .slice Ak nk ck] 30) := (hg5.block _ (by simp; omega) (fun e5 => by have := HVK.out _ e5.symm; omega)).trans HR3.out.out; obtain ⟨y0, y1, y2⟩ := three_cells hw5; have u2 := frozen_of_row _ (w.heap.size + 2) 2 _ _ hw5; have hlow5 := cell_lt y0; clear ho5 hg5 hb5 hw5))
            all_goals
              go_wp2
              go_roundg g
              case measure => omega
              case rel => exact ⟨i + 1, _, by go_num, by omega, HFIN⟩
          · have HE : Hid (l'.take i = l') := Lib.hid (List.take_of_length_le (by rw [HLL.out, List.length_map]; omega))
            go_wp2
            obtain ⟨x0, x1⟩ := HR.out.fin HE.out
            obtain ⟨y0, y1, y2⟩ := three_cells x0
            refine bodyPost_ret (v := .agg #[.int .u8 (o : Int), .string t, .slice Ak nk ck]) (by simp [results, Tryd.results23, go_sem, y0, y1, y2]) rfl ?_
            rw [HQ.out]
            exact x1
      · have HQ : Hid (renE f t (.mk o s l) = .mk o s l') := Lib.hid (by rw [HRN.out, if_neg (fun h => hsf h.2)])
        have e1 : ((o : Int) == 110) = true := by simp [ho]
        have e2 : (s.toList == f.toList) = false := by
          rw [beq_eq_false_iff_ne]; intro h; rw [Lib.toList_data, Lib.toList_data] at h; exact hsf (bytesE_of h)
        replace HAT := Lib.hid (HAT.out s)
        clear ho hsf HRN
        go_enter Tryd.func23, Tryd.ntmps23
        go_wp2
        generalize ((w.alloc (.cells #[.int .u8 (o : Int), .string s, .slice A l.length c] 30)).alloc (.cells #[.int .u8 0, .string ⟨#[]⟩, .slice none 0 0] 30)).alloc (.cells #[.int .u8 (o : Int), .string s, .slice none 0 0] 30) = w1 at *
        go_loopg [8] l.length (fun g u wx => ∃ (i : Nat) (vk : Value), u = .int .i64 i ∧ i + g = l.length ∧ Hid (RsAt w wx o s s l l' A c i vk))
        case atStart => exact ⟨0, _, rfl, by omega, HAT⟩
        case round =>
          clear HAT
          obtain ⟨i, vk, rfl, hig, HR⟩ := hrel
          obtain ⟨Ak, ck, rfl, hck, hckm, _⟩ := id HR.out.row.exs
          generalize hnk : (l'.take i).length = nk at *
          have HNK := Lib.hid hnk
          have hnk2 : nk ≤ 2000000 := by rw [← hnk, List.length_take]; omega
          clear hnk
          obtain ⟨b0, b1, b2⟩ := three_cells HR.out.box
          obtain ⟨r0, r1, r2⟩ := three_cells HR.out.res
          obtain ⟨q0, q1, q2⟩ := three_cells HR.out.out
          have fb := fun j => frozen_of_row _ (w.heap.size + 2) j _ _ HR.out.out
          have t2 := fb 2
          have z0 := frozen_of_row _ (w.heap.size + 1) 0 _ _ HR.out.res
          have z1 := frozen_of_row _ (w.heap.size + 1) 1 _ _ HR.out.res
          have z2 := frozen_of_row _ (w.heap.size + 1) 2 _ _ HR.out.res
          have hlow := HR.out.low
          clear fb
          by_cases hi : i < l.length
          · have hlx : l[i]? = some l[i] := List.getElem?_eq_getElem hi
            generalize hx : l[i] = x at *
            have hlxx : l'.take (i + 1) = l'.take i ++ [renE f t x] := by rw [HLL.out, List.take_add_one, List.getElem?_map, hlx]; rfl
            have HLX := Lib.hid hlxx
            have HAR : Hid (Exs wr (Under B) (.slice A l.length c) l) := Lib.hid (HA.out.keep (fun _ h => h) fun b hb => HR.out.below.block b (Nat.lt_of_lt_of_le hb hB))
            obtain ⟨b, off, rfl, hb, hat⟩ := HAR.out.get hlx
            obtain ⟨v3, f0, f1, f2, exk⟩ := (exAt_iff x b _).1 hat
            obtain ⟨A3, c3, rfl, _⟩ := id exk
            have hl3 := cell_lt f0
            have HX := Lib.hid hlx
            have hbw : b < w.heap.size := Nat.lt_of_lt_of_le hb hB
            have HXS : Hid (sizeE x ≤ 2000000) := Lib.hid (by have h1 := size_mem (List.mem_of_getElem? hlx); have h2 := HSZ.out; simp only [sizeE] at h2; omega)
            have HCALL := Lib.hid (IH.out x (List.mem_of_getElem? hlx) f t A3 _ c3 B wr.drew HXS.out (exk.keep (fun _ h => h) fun _ _ => rfl) (Nat.le_trans hB HR.out.below.size))
            obtain ⟨g, rfl⟩ : ∃ g, gk = g + 1 := ⟨gk - 1, by omega⟩
            clear exk hx hlx hat hb hlxx r0 r1 r2 z0 z1 z2
            generalize hxy : renE f t x = y at *
            clear hxy
            have HVK : Hid (∀ b, (Value.slice Ak nk ck).ownBlock = some b → w.heap.size + 3 ≤ b) := Lib.hid (by obtain ⟨xs, h, _⟩ := HR.out.row; exact fun b hb => (h.lt b hb).1)
            go_wp2_with fail
            go_region_law (first
              | ((with_reducible refine step_rren (v := .agg #[.int .u8 (x.op : Int), .string x.name, .slice A3 x.kids.length c3]) (f := f) (t := t) (x := y) (by kernel_rfl) (.tmp 38) (.tmp 39) (.tmp 40) rfl rfl rfl rfl HCALL.out ?_); intro A4 n4 c4 w2 hk2 hb2; have HB2 : Hid (Below wr.heap.size wr w2) := Lib.hid ((below_drewX wr).trans hb2); have HR2 := Lib.hid (HR.out.keep HB2.out); obtain ⟨p0, p1, p2⟩ := three_cells HR2.out.out; have s2 := frozen_of_row _ (w.heap.size + 2) 2 _ _ HR2.out.out; have hlow2 := HR2.out.low; have HR3 := Lib.hid (HR2.out.keep (wy := w2.alloc (.cells #[.int .u8 (y.op : Int), .string y.name, .slice A4 n4 c4] 30)) ((Below.refl _ _).alloc (Nat.le_refl _) _)); obtain ⟨xs, hxs, hkc⟩ := HR3.out.row; rw [HNK.out] at hxs; have HXS4 := Lib.hid hxs; have HKC := Lib.hid hkc; have HNEW : Hid ((w2.alloc (.cells #[.int .u8 (y.op : Int), .string y.name, .slice A4 n4 c4] 30)).heap[w2.heap.size]? = some (.cells #[.int .u8 (y.op : Int), .string y.name, .slice A4 n4 c4] 30)) := Lib.hid (heap_new _ _); have HON4 : Hid (∀ u ∈ [Value.int .u8 (y.op : Int), .string y.name, .slice A4 n4 c4], u.oneCell' = true) := Lib.hid (by simp [Value.oneCell']); have HN1 : Hid (nk + 1 ≤ 100000000) := Lib.hid (by omega); have HBS : Hid (w.heap.size + 3 ≤ (w2.alloc (.cells #[.int .u8 (y.op : Int), .string y.name, .slice A4 n4 c4] 30)).heap.size) := Lib.hid (by simp; omega); have HKX : Hid (Exs (w2.alloc (.cells #[.int .u8 (y.op : Int), .string y.name, .slice A4 n4 c4] 30)) (fun b => w.heap.size + 3 ≤ b ∧ b < (w2.alloc (.cells #[.int .u8 (y.op : Int), .string y.name, .slice A4 n4 c4] 30)).heap.size ∧ (Value.slice Ak nk ck).ownBlock ≠ some b) (.slice A4 n4 c4) y.kids) := Lib.hid (hk2.keep (fun b hb => ⟨by have h1 : wr.heap.size ≤ b := hb.1; omega, by have := hb.2; simp; omega, by intro h5; obtain ⟨ys, h6, _⟩ := HR.out.row; have h7 := (h6.lt b h5).2; have h8 : wr.heap.size ≤ b := hb.1; omega⟩) fun b hb => Below.heap_alloc _ _ _ hb.2); clear hk2 hb2 hxs hkc)
              | ((with_reducible refine step_append_exR (by kernel_rfl) (.tmp 33) (.tmp 42) rfl (w.heap.size + 3) (.slice Ak nk ck) nk xs w2.heap.size 1 (.int .u8 (y.op : Int)) (.string y.name) (.slice A4 n4 c4) rfl rfl HXS4.out HNEW.out HON4.out HN1.out HBS.out ?_); intro v5 w5 ho5 hg5 hb5; obtain ⟨G5, d5, rfl⟩ := own_slice ho5; have HFIN := Lib.hid (HR3.out.next HLX.out HVK.out HKC.out (by rw [HNK.out]; exact ho5) hg5 hb5 HKX.out); have hw5 : w5.heap[w.heap.size + 2]? = some (.cells #[.int .u8 (o : Int), .string s, .slice Ak nk ck] 30) := (hg5.block _ (by simp; omega) (fun e5 => by have := HVK.out _ e5.symm; omega)).trans HR3.out.out; obtain ⟨y0, y1, y2⟩ := three_cells hw5; have u2 := frozen_of_row _ (w.heap.size + 2) 2 _ _ hw5; have hlow5 := cell_lt y0; clear ho5 hg5 hb5 hw5))
            all_goals
              go_wp2
              go_roundg g
              case measure => omega
              case rel => exact ⟨i + 1, _, by go_num, by omega, HFIN⟩
          · have HE : Hid (l'.take i = l') := Lib.hid (List.take_of_length_le (by rw [HLL.out, List.length_map]; omega))
            go_wp2
            obtain ⟨x0, x1⟩ := HR.out.fin HE.out
            obtain ⟨y0, y1, y2⟩ := three_cells x0
            refine bodyPost_ret (v := .agg #[.int .u8 (o : Int), .string s, .slice Ak nk ck]) (by simp [results, Tryd.results23, go_sem, y0, y1, y2]) rfl ?_
            rw [HQ.out]
            exact x1
    · have HQ : Hid (renE f t (.mk o s l) = .mk o s l') := Lib.hid (by rw [HRN.out, if_neg (fun h => ho h.1)])
      have e1 : ((o : Int) == 110) = false := by simp; omega
      replace HAT := Lib.hid (HAT.out s)
      clear ho HRN
      go_enter Tryd.func23, Tryd.ntmps23
      go_wp2
      generalize ((w.alloc (.cells #[.int .u8 (o : Int), .string s, .slice A l.length c] 30)).alloc (.cells #[.int .u8 0, .string ⟨#[]⟩, .slice none 0 0] 30)).alloc (.cells #[.int .u8 (o : Int), .string s, .slice none 0 0] 30) = w1 at *
      go_loopg [8] l.length (fun g u wx => ∃ (i : Nat) (vk : Value), u = .int .i64 i ∧ i + g = l.length ∧ Hid (RsAt w wx o s s l l' A c i vk))
      case atStart => exact ⟨0, _, rfl, by omega, HAT⟩
      case round =>
        clear HAT
        obtain ⟨i, vk, rfl, hig, HR⟩ := hrel
        obtain ⟨Ak, ck, rfl, hck, hckm, _⟩ := id HR.out.row.exs
        generalize hnk : (l'.take i).length = nk at *
        have HNK := Lib.hid hnk
        have hnk2 : nk ≤ 2000000 := by rw [← hnk, List.length_take]; omega
        clear hnk
        obtain ⟨b0, b1, b2⟩ := three_cells HR.out.box
        obtain ⟨r0, r1, r2⟩ := three_cells HR.out.res
        obtain ⟨q0, q1, q2⟩ := three_cells HR.out.out
        have fb := fun j => frozen_of_row _ (w.heap.size + 2) j _ _ HR.out.out
        have t2 := fb 2
        have z0 := frozen_of_row _ (w.heap.size + 1) 0 _ _ HR.out.res
        have z1 := frozen_of_row _ (w.heap.size + 1) 1 _ _ HR.out.res
        have z2 := frozen_of_row _ (w.heap.size + 1) 2 _ _ HR.out.res
        have hlow := HR.out.low
        clear fb
        by_cases hi : i < l.length
        · have hlx : l[i]? = some l[i] := List.getElem?_eq_getElem hi
          generalize hx : l[i] = x at *
          have hlxx : l'.take (i + 1) = l'.take i ++ [renE f t x] := by rw [HLL.out, List.take_add_one, List.getElem?_map, hlx]; rfl
          have HLX := Lib.hid hlxx
          have HAR : Hid (Exs wr (Under B) (.slice A l.length c) l) := Lib.hid (HA.out.keep (fun _ h => h) fun b hb => HR.out.below.block b (Nat.lt_of_lt_of_le hb hB))
          obtain ⟨b, off, rfl, hb, hat⟩ := HAR.out.get hlx
          obtain ⟨v3, f0, f1, f2, exk⟩ := (exAt_iff x b _).1 hat
          obtain ⟨A3, c3, rfl, _⟩ := id exk
          have hl3 := cell_lt f0
          have HX := Lib.hid hlx
          have hbw : b < w.heap.size := Nat.lt_of_lt_of_le hb hB
          have HXS : Hid (sizeE x ≤ 2000000) := Lib.hid (by have h1 := size_mem (List.mem_of_getElem? hlx); have h2 := HSZ.out; simp only [sizeE] at h2; omega)
          have HCALL := Lib.hid (IH.out x (List.mem_of_getElem? hlx) f t A3 _ c3 B wr.drew HXS.out (exk.keep (fun _ h => h) fun _ _ => rfl) (Nat.le_trans hB HR.out.below.size))
          obtain ⟨g, rfl⟩ : ∃ g, gk = g + 1 := ⟨gk - 1, by omega⟩
          clear exk hx hlx hat hb hlxx r0 r1 r2 z0 z1 z2
          generalize hxy : renE f t x = y at *
          clear hxy
          have HVK : Hid (∀ b, (Value.slice Ak nk ck).ownBlock = some b → w.heap.size + 3 ≤ b) := Lib.hid (by obtain ⟨xs, h, _⟩ := HR.out.row; exact fun b hb => (h.lt b hb).1)
          go_wp2_with fail
          go_region_law (first
            | ((with_reducible refine step_rren (v := .agg #[.int .u8 (x.op : Int), .string x.name, .slice A3 x.kids.length c3]) (f := f) (t := t) (x := y) (by kernel_rfl) (.tmp 38) (.tmp 39) (.tmp 40) rfl rfl rfl rfl HCALL.out ?_); intro A4 n4 c4 w2 hk2 hb2; have HB2 : Hid (Below wr.heap.size wr w2) := Lib.hid ((below_drewX wr).trans hb2); have HR2 := Lib.hid (HR.out.keep HB2.out); obtain ⟨p0, p1, p2⟩ := three_cells HR2.out.out; have s2 := frozen_of_row _ (w.heap.size + 2) 2 _ _ HR2.out.out; have hlow2 := HR2.out.low; have HR3 := Lib.hid (HR2.out.keep (wy := w2.alloc (.cells #[.int .u8 (y.op : Int), .string y.name, .slice A4 n4 c4] 30)) ((Below.refl _ _).alloc (Nat.le_refl _) _)); obtain ⟨xs, hxs, hkc⟩ := HR3.out.row; rw [HNK.out] at hxs; have HXS4 := Lib.hid hxs; have HKC := Lib.hid hkc; have HNEW : Hid ((w2.alloc (.cells #[.int .u8 (y.op : Int), .string y.name, .slice A4 n4 c4] 30)).heap[w2.heap.size]? = some (.cells #[.int .u8 (y.op : Int), .string y.name, .slice A4 n4 c4] 30)) := Lib.hid (heap_new _ _); have HON4 : Hid (∀ u ∈ [Value.int .u8 (y.op : Int), .string y.name, .slice A4 n4 c4], u.oneCell' = true) := Lib.hid (by simp [Value.oneCell']); have HN1 : Hid (nk + 1 ≤ 100000000) := Lib.hid (by omega); have HBS : Hid (w.heap.size + 3 ≤ (w2.alloc (.cells #[.int .u8 (y.op : Int), .string y.name, .slice A4 n4 c4] 30)).heap.size) := Lib.hid (by simp; omega); have HKX : Hid (Exs (w2.alloc (.cells #[.int .u8 (y.op : Int), .string y.name, .slice A4 n4 c4] 30)) (fun b => w.heap.size + 3 ≤ b ∧ b < (w2.alloc (.cells #[.int .u8 (y.op : Int), .string y.name, .slice A4 n4 c4] 30)).heap.size ∧ (Value.slice Ak nk ck).ownBlock ≠ some b) (.slice A4 n4 c4) y.kids) := Lib.hid (hk2.keep (fun b hb => ⟨by have h1 : wr.heap.size ≤ b := hb.1; omega, by have := hb.2; simp; omega, by intro h5; obtain ⟨ys, h6, _⟩ := HR.out.row; have h7 := (h6.lt b h5).2; have h8 : wr.heap.size ≤ b := hb.1; omega⟩) fun b hb => Below.heap_alloc _ _ _ hb.2); clear hk2 hb2 hxs hkc)
            | ((with_reducible refine step_append_exR (by kernel_rfl) (.tmp 33) (.tmp 42) rfl (w.heap.size + 3) (.slice Ak nk ck) nk xs w2.heap.size 1 (.int .u8 (y.op : Int)) (.string y.name) (.slice A4 n4 c4) rfl rfl HXS4.out HNEW.out HON4.out HN1.out HBS.out ?_); intro v5 w5 ho5 hg5 hb5; obtain ⟨G5, d5, rfl⟩ := own_slice ho5; have HFIN := Lib.hid (HR3.out.next HLX.out HVK.out HKC.out (by rw [HNK.out]; exact ho5) hg5 hb5 HKX.out); have hw5 : w5.heap[w.heap.size + 2]? = some (.cells #[.int .u8 (o : Int), .string s, .slice Ak nk ck] 30) := (hg5.block _ (by simp; omega) (fun e5 => by have := HVK.out _ e5.symm; omega)).trans HR3.out.out; obtain ⟨y0, y1, y2⟩ := three_cells hw5; have u2 := frozen_of_row _ (w.heap.size + 2) 2 _ _ hw5; have hlow5 := cell_lt y0; clear ho5 hg5 hb5 hw5))
          all_goals
            go_wp2
            go_roundg g
            case measure => omega
            case rel => exact ⟨i + 1, _, by go_num, by omega, HFIN⟩
        · have HE : Hid (l'.take i = l') := Lib.hid (List.take_of_length_le (by rw [HLL.out, List.length_map]; omega))
          go_wp2
          obtain ⟨x0, x1⟩ := HR.out.fin HE.out
          obtain ⟨y0, y1, y2⟩ := three_cells x0
          refine bodyPost_ret (v := .agg #[.int .u8 (o : Int), .string s, .slice Ak nk ck]) (by simp [results, Tryd.results23, go_sem, y0, y1, y2]) rfl ?_
          rw [HQ.out]
          exact x1
end Go.Proofs.YtldmimekmjmkgaaDoor

namespace Go.Proofs.YtldmimekmjmkgaaDoor
open Go.RowKit Go.Sort Go.Maps Go.WideMaps

def RnSaid (e : Ex) : Prop := ∀ (f t : ByteArray) (A : Option Addr) (n c B : Nat) (w : World), sizeE e ≤ 1000 → Exs w (Under B) (.slice A n c) e.kids → B ≤ w.heap.size →
  Calls Tryd.prog 22 #[.agg #[.int .u8 (e.op : Int), .string e.name, .slice A n c], .string f, .string t] w (EPost w (renE f t e))
attribute [local go_sem ↓] Go.wp_at_zero Go.wp_at_succ
set_option maxRecDepth 100000 in
set_option maxHeartbeats 4000000 in
theorem ren_walk : ∀ e, RnSaid e := by
  intro e
  induction e using Ex.induct_one with
  | h o s l ih =>
    intro f t A n c B w hsz hl hB
    have IH := Lib.hid ih
    clear ih
    simp only [Ex.op, Ex.name, Ex.kids] at *
    have hlen := hl.len
    obtain ⟨A', c', hv, hc, hm, _⟩ := id hl
    injection hv with hA hn hc'
    subst hA hn hc'
    unfold maxLen at hm
    have HSZ := Lib.hid hsz
    have hll : l.length ≤ 1000 := by
      have h1 : ∀ l : List Ex, l.length ≤ sizeEs l := fun l => by
        induction l with
        | nil => exact Nat.le_refl _
        | cons x l ih => obtain ⟨_, _, _⟩ := x; simp only [sizeEs, sizeE, List.length_cons]; omega
      have := h1 l
      simp only [sizeE] at hsz
      omega
    have HA := Lib.hid hl
    clear hl hsz
    by_cases ho : o = 110
    · subst ho
      by_cases hsf : s = f
      · subst hsf
        have hse : (s.toList == s.toList) = true := by simp
        have HR : Hid (renE s t (.mk 110 s l) = .mk 110 t (renEs s t l)) := Lib.hid (by rw [renE, if_pos ⟨rfl, rfl⟩])
        have H0 := Lib.hid (ren_start w 110 s s (.slice A l.length c))
        have H4 := Lib.hid (ren_start w 110 s t (.slice A l.length c))
        go_enter Tryd.func22, Tryd.ntmps22
        obtain ⟨b0, b1, b2⟩ := three_cells H0.out.2.1
        obtain ⟨r0, r1, r2⟩ := three_cells H0.out.2.2.1
        obtain ⟨o0, o1, o2⟩ := three_cells H0.out.2.2.2.1
        have t1 := frozen_of_row _ (w.heap.size + 2) 1 _ _ H0.out.2.2.2.1
        have hzl := cell_lt o0
        go_upto_region 4 with fail
        generalize ((w.alloc (.cells #[.int .u8 110, .string s, .slice A l.length c] 24)).alloc (.cells #[.int .u8 0, .string ⟨#[]⟩, .slice none 0 0] 24)).alloc (.cells #[.int .u8 110, .string t, .slice none 0 0] 24) = W4 at *
        clear b0 b1 b2 r0 r1 r2 o0 o1 o2 t1 hzl H0
        obtain ⟨b0, b1, b2⟩ := three_cells H4.out.2.1
        obtain ⟨o0, o1, o2⟩ := three_cells H4.out.2.2.2.1
        have hzl := cell_lt o0
        by_cases hk0 : l = []
        · subst hk0
          go_wp2
          go_loopg [38] 0 (fun g u wx => u = .int .i64 0 ∧ wx = W4)
          case atStart => exact ⟨rfl, rfl⟩
          case round =>
            obtain ⟨rfl, rfl⟩ := hrel
            obtain ⟨z0, z1, z2⟩ := three_cells H4.out.2.2.1
            have y0 := frozen_of_row _ (w.heap.size + 1) 0 _ _ H4.out.2.2.1
            have y1 := frozen_of_row _ (w.heap.size + 1) 1 _ _ H4.out.2.2.1
            have y2 := frozen_of_row _ (w.heap.size + 1) 2 _ _ H4.out.2.2.1
            go_wp2
            obtain ⟨x0, x1⟩ := ren_fin (e := .mk 110 t []) H4.out.1 H4.out.2.2.1 (exs_nil _ _)
            have x0' : (((wr.setCell ⟨w.heap.size + 1, 0, none⟩ (.int .u8 110)).setCell ⟨w.heap.size + 1, 1, none⟩ (.string t)).setCell ⟨w.heap.size + 1, 2, none⟩ (.slice none 0 0)).heap[w.heap.size + 1]? = some (.cells #[.int .u8 110, .string t, .slice none 0 0] 24) := x0
            obtain ⟨v0, v1, v2⟩ := three_cells x0'
            refine bodyPost_ret (v := .agg #[.int .u8 110, .string t, .slice none 0 0]) (by simp [results, Tryd.results22, go_sem, v0, v1, v2]) rfl ?_
            rw [HR.out]
            exact x1
        · have hn0 : 0 < l.length := List.length_pos_iff.2 hk0
          generalize hn : l.length = n at *
          have HN := Lib.hid hn
          clear hn hk0
          have HZ4 := Lib.hid H4.out.2.2.2.2
          obtain ⟨i0, hi, hz0, hz1, hz2⟩ := info_parts exprE_info
          go_upto_region 6 with (first
            | (at_make; refine wpList_make_full _ rfl _ _ 22 rfl (w.heap.size + 3) 24 i0 (.agg #[.int .u8 0, .string ⟨#[]⟩, .slice none 0 0]) 3 Tryd.underlying22 hi hz0 hz1 .i64 .i64 _ _ n rfl rfl rfl rfl (by rw [hz2]; omega) (by unfold maxLen; omega) (by rw [HZ4.out]; exact Nat.le_refl _) ?_; intro w1 hown hgrow; rw [HZ4.out] at hown; rw [HZ4.out]; have HGR : Hid (Below W4.heap.size W4 w1) := Lib.hid ((Below.refl W4.heap.size W4).grown hgrow (Nat.le_refl _) (fun j hj => by cases hj)); have HR5 := Lib.hid (RnAt.start (o := 110) (s := t) (f := s) (t := t) HN.out H4.out.1 H4.out.2.2.1 H4.out.2.2.2.1 HZ4.out hown hgrow); have hbo : w1.heap[w.heap.size + 2]? = some (.cells #[.int .u8 110, .string t, .slice none 0 0] 24) := (HGR.out.block _ (by have := HZ4.out; omega)).trans H4.out.2.2.2.1; have HBX : Hid (w1.heap[w.heap.size]? = some (.cells #[.int .u8 110, .string s, .slice A n c] 24)) := Lib.hid ((HGR.out.block _ (by have := HZ4.out; omega)).trans H4.out.2.1); obtain ⟨u0, u1, u2⟩ := three_cells hbo; have t2 := frozen_of_row _ (w.heap.size + 2) 2 _ _ hbo; have hul := cell_lt u0; clear hown hgrow hbo b0 b1 b2 o0 o1 o2 hzl)
            | fail)
          have HB5 : Hid ((w1.setCell ⟨w.heap.size + 2, 2, none⟩ (.slice (some ⟨w.heap.size + 3, 0, none⟩) n n)).heap[w.heap.size]? = some (.cells #[.int .u8 110, .string s, .slice A n c] 24)) := Lib.hid ((Below.heap_setCell _ _ _ _ (by dsimp only; omega)).trans HBX.out)
          generalize w1.setCell ⟨w.heap.size + 2, 2, none⟩ (.slice (some ⟨w.heap.size + 3, 0, none⟩) n n) = W5 at *
          clear u0 u1 u2 t2 hul HGR HBX H4 HZ4 hi hz0 hz1 hz2
          obtain ⟨b0, b1, b2⟩ := three_cells HB5.out
          have hzl := cell_lt b0
          go_wp2
          clear b0 b1 b2 hzl HB5
          go_loopg [38] n (fun g u wx => ∃ i : Nat, u = .int .i64 i ∧ i + g = n ∧ Hid (RnAt w wx 110 t s t l i))
          case atStart => exact ⟨0, rfl, by omega, HR5⟩
          case round =>
            clear HR5
            obtain ⟨i, rfl, hig, HQ⟩ := hrel
            have hlow := HQ.out.low
            by_cases hi : i < n
            · obtain ⟨x, hlx⟩ : ∃ x, l[i]? = some x := ⟨_, List.getElem?_eq_getElem (by rw [HN.out]; exact hi)⟩
              have HAR : Hid (Exs wr (Under B) (.slice A n c) l) := Lib.hid (HA.out.keep (fun _ h => h) fun b hb => HQ.out.below.block b (Nat.lt_of_lt_of_le hb hB))
              obtain ⟨b, off, rfl, hb, hat⟩ := HAR.out.get hlx
              obtain ⟨v3, f0, f1, f2, exk⟩ := (exAt_iff x b _).1 hat
              obtain ⟨A3, c3, rfl, _⟩ := id exk
              have hl3 := cell_lt f0
              have HX := Lib.hid hlx
              have HXS : Hid (sizeE x ≤ 1000) := Lib.hid (by have h1 := size_mem (List.mem_of_getElem? hlx); have h2 := HSZ.out; simp only [sizeE] at h2; omega)
              have HEK := Lib.hid exk
              obtain ⟨g, rfl⟩ : ∃ g, gk = g + 1 := ⟨gk - 1, by omega⟩
              clear exk hlx hat hb
              go_upto_region 9 with fail
              have HBB : Hid (Below wr.heap.size wr (wr.alloc (.cells #[.int .u8 (x.op : Int), .string x.name, .slice A3 x.kids.length c3] 24))) := Lib.hid ((Below.refl _ _).alloc (Nat.le_refl _) _)
              have HBX : Hid ((wr.alloc (.cells #[.int .u8 (x.op : Int), .string x.name, .slice A3 x.kids.length c3] 24)).heap[wr.heap.size]? = some (.cells #[.int .u8 (x.op : Int), .string x.name, .slice A3 x.kids.length c3] 24)) := Lib.hid (heap_new _ _)
              have HSB : Hid (wr.heap.size < (wr.alloc (.cells #[.int .u8 (x.op : Int), .string x.name, .slice A3 x.kids.length c3] 24)).heap.size) := Lib.hid (by simp)
              generalize wr.alloc (.cells #[.int .u8 (x.op : Int), .string x.name, .slice A3 x.kids.length c3] 24) = wb at *
              have HQB := Lib.hid (HQ.out.keep HBB.out)
              have HCALL := Lib.hid (IH.out x (List.mem_of_getElem? HX.out) s t A3 _ c3 B wb.drew HXS.out ((HEK.out.keep (fun _ h => h) fun b hb => HBB.out.block b (Nat.lt_of_lt_of_le hb (Nat.le_trans hB HQ.out.below.size))).keep (fun _ h => h) fun _ _ => rfl) (Nat.le_trans hB HQB.out.below.size))
              clear f0 f1 f2 hl3 HEK
              have hob := HQB.out.out
              rw [HN.out] at hob
              obtain ⟨p0, p1, p2⟩ := three_cells hob
              obtain ⟨g0, g1, g2⟩ := three_cells HBX.out
              have m0 := cell_lt g0
              have m1 := cell_lt p0
              clear hob
              go_wp2_with fail
              go_region_law (first
                | ((with_reducible refine step_ren (v := .agg #[.int .u8 (x.op : Int), .string x.name, .slice A3 x.kids.length c3]) (f := s) (t := t) (x := renE s t x) (by kernel_rfl) (.tmp 46) (.tmp 47) (.tmp 48) rfl rfl rfl rfl HCALL.out ?_); intro A4 n4 c4 w2 hk2 hb2; have HB2 : Hid (Below wb.heap.size wb w2) := Lib.hid ((below_drewX wb).trans hb2); have HR2 := Lib.hid (HQB.out.keep HB2.out); have hob2 := HR2.out.out; rw [HN.out] at hob2; obtain ⟨q0, q1, q2⟩ := three_cells hob2; have k1 := cell_lt q0; obtain ⟨cur, hcur, hcsz, _⟩ := id HR2.out.row; rw [HN.out] at hcsz; obtain ⟨⟨yv0, y0⟩, ⟨yv1, y1⟩, yv2, y2⟩ := row_three hcur (i := i) (by omega); have z0 := frozen_of_row _ (w.heap.size + 3) (i * 3) _ _ hcur; have z1 := frozen_of_row _ (w.heap.size + 3) (i * 3 + 1) _ _ hcur; have z2 := frozen_of_row _ (w.heap.size + 3) (i * 3 + 2) _ _ hcur; have k2 := cell_lt y0; have HFIN := Lib.hid (HR2.out.next (by rw [HN.out]; exact hi) HX.out (hk2.keep (fun b hb => ⟨by have h1 : wb.heap.size ≤ b := hb.1; have := HSB.out; omega, hb.2⟩) fun _ _ => rfl)); clear hk2 hb2 hob2 hcur))
              all_goals
                go_wp2
                go_roundg g
                case measure => omega
                case rel => exact ⟨i + 1, by go_num, by omega, HFIN⟩
            · have hob := HQ.out.out
              rw [HN.out] at hob
              obtain ⟨q0, q1, q2⟩ := three_cells hob
              have k1 := cell_lt q0
              obtain ⟨z0, z1, z2⟩ := three_cells HQ.out.res
              have y0 := frozen_of_row _ (w.heap.size + 1) 0 _ _ HQ.out.res
              have y1 := frozen_of_row _ (w.heap.size + 1) 1 _ _ HQ.out.res
              have y2 := frozen_of_row _ (w.heap.size + 1) 2 _ _ HQ.out.res
              clear hob
              go_wp2
              have h9 := HQ.out.all (by rw [HN.out]; omega) (by rw [HN.out]; unfold maxLen; omega)
              rw [HN.out] at h9
              obtain ⟨x0, x1⟩ := ren_fin (e := .mk 110 t (renEs s t l)) HQ.out.below HQ.out.res h9
              have x0' : (((wr.setCell ⟨w.heap.size + 1, 0, none⟩ (.int .u8 110)).setCell ⟨w.heap.size + 1, 1, none⟩ (.string t)).setCell ⟨w.heap.size + 1, 2, none⟩ (.slice (some ⟨w.heap.size + 3, 0, none⟩) n n)).heap[w.heap.size + 1]? = some (.cells #[.int .u8 110, .string t, .slice (some ⟨w.heap.size + 3, 0, none⟩) n n] 24) := x0
              obtain ⟨v0, v1, v2⟩ := three_cells x0'
              refine bodyPost_ret (v := .agg #[.int .u8 110, .string t, .slice (some ⟨w.heap.size + 3, 0, none⟩) n n]) (by simp [results, Tryd.results22, go_sem, v0, v1, v2]) rfl ?_
              rw [HR.out]
              exact x1
      · have hse : (s.toList == f.toList) = false := by
          rw [beq_eq_false_iff_ne]; intro h; rw [Lib.toList_data, Lib.toList_data] at h; exact hsf (bytesE_of h)
        have HR : Hid (renE f t (.mk 110 s l) = .mk 110 s (renEs f t l)) := Lib.hid (by rw [renE, if_neg (fun h => hsf h.2)])
        clear hsf
        have H0 := Lib.hid (ren_start w 110 s s (.slice A l.length c))
        have H4 := Lib.hid (ren_start w 110 s s (.slice A l.length c))
        go_enter Tryd.func22, Tryd.ntmps22
        obtain ⟨b0, b1, b2⟩ := three_cells H0.out.2.1
        obtain ⟨r0, r1, r2⟩ := three_cells H0.out.2.2.1
        obtain ⟨o0, o1, o2⟩ := three_cells H0.out.2.2.2.1
        have t1 := frozen_of_row _ (w.heap.size + 2) 1 _ _ H0.out.2.2.2.1
        have hzl := cell_lt o0
        go_upto_region 4 with fail
        generalize ((w.alloc (.cells #[.int .u8 110, .string s, .slice A l.length c] 24)).alloc (.cells #[.int .u8 0, .string ⟨#[]⟩, .slice none 0 0] 24)).alloc (.cells #[.int .u8 110, .string s, .slice none 0 0] 24) = W4 at *
        clear b0 b1 b2 r0 r1 r2 o0 o1 o2 t1 hzl H0
        obtain ⟨b0, b1, b2⟩ := three_cells H4.out.2.1
        obtain ⟨o0, o1, o2⟩ := three_cells H4.out.2.2.2.1
        have hzl := cell_lt o0
        by_cases hk0 : l = []
        · subst hk0
          go_wp2
          go_loopg [38] 0 (fun g u wx => u = .int .i64 0 ∧ wx = W4)
          case atStart => exact ⟨rfl, rfl⟩
          case round =>
            obtain ⟨rfl, rfl⟩ := hrel
            obtain ⟨z0, z1, z2⟩ := three_cells H4.out.2.2.1
            have y0 := frozen_of_row _ (w.heap.size + 1) 0 _ _ H4.out.2.2.1
            have y1 := frozen_of_row _ (w.heap.size + 1) 1 _ _ H4.out.2.2.1
            have y2 := frozen_of_row _ (w.heap.size + 1) 2 _ _ H4.out.2.2.1
            go_wp2
            obtain ⟨x0, x1⟩ := ren_fin (e := .mk 110 s []) H4.out.1 H4.out.2.2.1 (exs_nil _ _)
            have x0' : (((wr.setCell ⟨w.heap.size + 1, 0, none⟩ (.int .u8 110)).setCell ⟨w.heap.size + 1, 1, none⟩ (.string s)).setCell ⟨w.heap.size + 1, 2, none⟩ (.slice none 0 0)).heap[w.heap.size + 1]? = some (.cells #[.int .u8 110, .string s, .slice none 0 0] 24) := x0
            obtain ⟨v0, v1, v2⟩ := three_cells x0'
            refine bodyPost_ret (v := .agg #[.int .u8 110, .string s, .slice none 0 0]) (by simp [results, Tryd.results22, go_sem, v0, v1, v2]) rfl ?_
            rw [HR.out]
            exact x1
        · have hn0 : 0 < l.length := List.length_pos_iff.2 hk0
          generalize hn : l.length = n at *
          have HN := Lib.hid hn
          clear hn hk0
          have HZ4 := Lib.hid H4.out.2.2.2.2
          obtain ⟨i0, hi, hz0, hz1, hz2⟩ := info_parts exprE_info
          go_upto_region 6 with (first
            | (at_make; refine wpList_make_full _ rfl _ _ 22 rfl (w.heap.size + 3) 24 i0 (.agg #[.int .u8 0, .string ⟨#[]⟩, .slice none 0 0]) 3 Tryd.underlying22 hi hz0 hz1 .i64 .i64 _ _ n rfl rfl rfl rfl (by rw [hz2]; omega) (by unfold maxLen; omega) (by rw [HZ4.out]; exact Nat.le_refl _) ?_; intro w1 hown hgrow; rw [HZ4.out] at hown; rw [HZ4.out]; have HGR : Hid (Below W4.heap.size W4 w1) := Lib.hid ((Below.refl W4.heap.size W4).grown hgrow (Nat.le_refl _) (fun j hj => by cases hj)); have HR5 := Lib.hid (RnAt.start (o := 110) (s := s) (f := f) (t := t) HN.out H4.out.1 H4.out.2.2.1 H4.out.2.2.2.1 HZ4.out hown hgrow); have hbo : w1.heap[w.heap.size + 2]? = some (.cells #[.int .u8 110, .string s, .slice none 0 0] 24) := (HGR.out.block _ (by have := HZ4.out; omega)).trans H4.out.2.2.2.1; have HBX : Hid (w1.heap[w.heap.size]? = some (.cells #[.int .u8 110, .string s, .slice A n c] 24)) := Lib.hid ((HGR.out.block _ (by have := HZ4.out; omega)).trans H4.out.2.1); obtain ⟨u0, u1, u2⟩ := three_cells hbo; have t2 := frozen_of_row _ (w.heap.size + 2) 2 _ _ hbo; have hul := cell_lt u0; clear hown hgrow hbo b0 b1 b2 o0 o1 o2 hzl)
            | fail)
          have HB5 : Hid ((w1.setCell ⟨w.heap.size + 2, 2, none⟩ (.slice (some ⟨w.heap.size + 3, 0, none⟩) n n)).heap[w.heap.size]? = some (.cells #[.int .u8 110, .string s, .slice A n c] 24)) := Lib.hid ((Below.heap_setCell _ _ _ _ (by dsimp only; omega)).trans HBX.out)
          generalize w1.setCell ⟨w.heap.size + 2, 2, none⟩ (.slice (some ⟨w.heap.size + 3, 0, none⟩) n n) = W5 at *
          clear u0 u1 u2 t2 hul HGR HBX H4 HZ4 hi hz0 hz1 hz2
          obtain ⟨b0, b1, b2⟩ := three_cells HB5.out
          have hzl := cell_lt b0
          go_wp2
          clear b0 b1 b2 hzl HB5
          go_loopg [38] n (fun g u wx => ∃ i : Nat, u = .int .i64 i ∧ i + g = n ∧ Hid (RnAt w wx 110 s f t l i))
          case atStart => exact ⟨0, rfl, by omega, HR5⟩
          case round =>
            clear HR5
            obtain ⟨i, rfl, hig, HQ⟩ := hrel
            have hlow := HQ.out.low
            by_cases hi : i < n
            · obtain ⟨x, hlx⟩ : ∃ x, l[i]? = some x := ⟨_, List.getElem?_eq_getElem (by rw [HN.out]; exact hi)⟩
              have HAR : Hid (Exs wr (Under B) (.slice A n c) l) := Lib.hid (HA.out.keep (fun _ h => h) fun b hb => HQ.out.below.block b (Nat.lt_of_lt_of_le hb hB))
              obtain ⟨b, off, rfl, hb, hat⟩ := HAR.out.get hlx
              obtain ⟨v3, f0, f1, f2, exk⟩ := (exAt_iff x b _).1 hat
              obtain ⟨A3, c3, rfl, _⟩ := id exk
              have hl3 := cell_lt f0
              have HX := Lib.hid hlx
              have HXS : Hid (sizeE x ≤ 1000) := Lib.hid (by have h1 := size_mem (List.mem_of_getElem? hlx); have h2 := HSZ.out; simp only [sizeE] at h2; omega)
              have HEK := Lib.hid exk
              obtain ⟨g, rfl⟩ : ∃ g, gk = g + 1 := ⟨gk - 1, by omega⟩
              clear exk hlx hat hb
              go_upto_region 9 with fail
              have HBB : Hid (Below wr.heap.size wr (wr.alloc (.cells #[.int .u8 (x.op : Int), .string x.name, .slice A3 x.kids.length c3] 24))) := Lib.hid ((Below.refl _ _).alloc (Nat.le_refl _) _)
              have HBX : Hid ((wr.alloc (.cells #[.int .u8 (x.op : Int), .string x.name, .slice A3 x.kids.length c3] 24)).heap[wr.heap.size]? = some (.cells #[.int .u8 (x.op : Int), .string x.name, .slice A3 x.kids.length c3] 24)) := Lib.hid (heap_new _ _)
              have HSB : Hid (wr.heap.size < (wr.alloc (.cells #[.int .u8 (x.op : Int), .string x.name, .slice A3 x.kids.length c3] 24)).heap.size) := Lib.hid (by simp)
              generalize wr.alloc (.cells #[.int .u8 (x.op : Int), .string x.name, .slice A3 x.kids.length c3] 24) = wb at *
              have HQB := Lib.hid (HQ.out.keep HBB.out)
              have HCALL := Lib.hid (IH.out x (List.mem_of_getElem? HX.out) f t A3 _ c3 B wb.drew HXS.out ((HEK.out.keep (fun _ h => h) fun b hb => HBB.out.block b (Nat.lt_of_lt_of_le hb (Nat.le_trans hB HQ.out.below.size))).keep (fun _ h => h) fun _ _ => rfl) (Nat.le_trans hB HQB.out.below.size))
              clear f0 f1 f2 hl3 HEK
              have hob := HQB.out.out
              rw [HN.out] at hob
              obtain ⟨p0, p1, p2⟩ := three_cells hob
              obtain ⟨g0, g1, g2⟩ := three_cells HBX.out
              have m0 := cell_lt g0
              have m1 := cell_lt p0
              clear hob
              go_wp2_with fail
              go_region_law (first
                | ((with_reducible refine step_ren (v := .agg #[.int .u8 (x.op : Int), .string x.name, .slice A3 x.kids.length c3]) (f := f) (t := t) (x := renE f t x) (by kernel_rfl) (.tmp 46) (.tmp 47) (.tmp 48) rfl rfl rfl rfl HCALL.out ?_); intro A4 n4 c4 w2 hk2 hb2; have HB2 : Hid (Below wb.heap.size wb w2) := Lib.hid ((below_drewX wb).trans hb2); have HR2 := Lib.hid (HQB.out.keep HB2.out); have hob2 := HR2.out.out; rw [HN.out] at hob2; obtain ⟨q0, q1, q2⟩ := three_cells hob2; have k1 := cell_lt q0; obtain ⟨cur, hcur, hcsz, _⟩ := id HR2.out.row; rw [HN.out] at hcsz; obtain ⟨⟨yv0, y0⟩, ⟨yv1, y1⟩, yv2, y2⟩ := row_three hcur (i := i) (by omega); have z0 := frozen_of_row _ (w.heap.size + 3) (i * 3) _ _ hcur; have z1 := frozen_of_row _ (w.heap.size + 3) (i * 3 + 1) _ _ hcur; have z2 := frozen_of_row _ (w.heap.size + 3) (i * 3 + 2) _ _ hcur; have k2 := cell_lt y0; have HFIN := Lib.hid (HR2.out.next (by rw [HN.out]; exact hi) HX.out (hk2.keep (fun b hb => ⟨by have h1 : wb.heap.size ≤ b := hb.1; have := HSB.out; omega, hb.2⟩) fun _ _ => rfl)); clear hk2 hb2 hob2 hcur))
              all_goals
                go_wp2
                go_roundg g
                case measure => omega
                case rel => exact ⟨i + 1, by go_num, by omega, HFIN⟩
            · have hob := HQ.out.out
              rw [HN.out] at hob
              obtain ⟨q0, q1, q2⟩ := three_cells hob
              have k1 := cell_lt q0
              obtain ⟨z0, z1, z2⟩ := three_cells HQ.out.res
              have y0 := frozen_of_row _ (w.heap.size + 1) 0 _ _ HQ.out.res
              have y1 := frozen_of_row _ (w.heap.size + 1) 1 _ _ HQ.out.res
              have y2 := frozen_of_row _ (w.heap.size + 1) 2 _ _ HQ.out.res
              clear hob
              go_wp2
              have h9 := HQ.out.all (by rw [HN.out]; omega) (by rw [HN.out]; unfold maxLen; omega)
              rw [HN.out] at h9
              obtain ⟨x0, x1⟩ := ren_fin (e := .mk 110 s (renEs f t l)) HQ.out.below HQ.out.res h9
              have x0' : (((wr.setCell ⟨w.heap.size + 1, 0, none⟩ (.int .u8 110)).setCell ⟨w.heap.size + 1, 1, none⟩ (.string s)).setCell ⟨w.heap.size + 1, 2, none⟩ (.slice (some ⟨w.heap.size + 3, 0, none⟩) n n)).heap[w.heap.size + 1]? = some (.cells #[.int .u8 110, .string s, .slice (some ⟨w.heap.size + 3, 0, none⟩) n n] 24) := x0
              obtain ⟨v0, v1, v2⟩ := three_cells x0'
              refine bodyPost_ret (v := .agg #[.int .u8 110, .string s, .slice (some ⟨w.heap.size + 3, 0, none⟩) n n]) (by simp [results, Tryd.results22, go_sem, v0, v1, v2]) rfl ?_
              rw [HR.out]
              exact x1
    · have HR : Hid (renE f t (.mk o s l) = .mk o s (renEs f t l)) := Lib.hid (by rw [renE, if_neg (fun h => ho h.1)])
      have ho' : ¬ (o : Int) = 110 := by omega
      clear ho
      have H0 := Lib.hid (ren_start w (o : Int) s s (.slice A l.length c))
      have H4 := Lib.hid (ren_start w (o : Int) s s (.slice A l.length c))
      go_enter Tryd.func22, Tryd.ntmps22
      obtain ⟨b0, b1, b2⟩ := three_cells H0.out.2.1
      obtain ⟨r0, r1, r2⟩ := three_cells H0.out.2.2.1
      obtain ⟨o0, o1, o2⟩ := three_cells H0.out.2.2.2.1
      have t1 := frozen_of_row _ (w.heap.size + 2) 1 _ _ H0.out.2.2.2.1
      have hzl := cell_lt o0
      go_upto_region 4 with fail
      generalize ((w.alloc (.cells #[.int .u8 (o : Int), .string s, .slice A l.length c] 24)).alloc (.cells #[.int .u8 0, .string ⟨#[]⟩, .slice none 0 0] 24)).alloc (.cells #[.int .u8 (o : Int), .string s, .slice none 0 0] 24) = W4 at *
      clear b0 b1 b2 r0 r1 r2 o0 o1 o2 t1 hzl H0
      obtain ⟨b0, b1, b2⟩ := three_cells H4.out.2.1
      obtain ⟨o0, o1, o2⟩ := three_cells H4.out.2.2.2.1
      have hzl := cell_lt o0
      by_cases hk0 : l = []
      · subst hk0
        go_wp2
        go_loopg [38] 0 (fun g u wx => u = .int .i64 0 ∧ wx = W4)
        case atStart => exact ⟨rfl, rfl⟩
        case round =>
          obtain ⟨rfl, rfl⟩ := hrel
          obtain ⟨z0, z1, z2⟩ := three_cells H4.out.2.2.1
          have y0 := frozen_of_row _ (w.heap.size + 1) 0 _ _ H4.out.2.2.1
          have y1 := frozen_of_row _ (w.heap.size + 1) 1 _ _ H4.out.2.2.1
          have y2 := frozen_of_row _ (w.heap.size + 1) 2 _ _ H4.out.2.2.1
          go_wp2
          obtain ⟨x0, x1⟩ := ren_fin (e := .mk o s []) H4.out.1 H4.out.2.2.1 (exs_nil _ _)
          have x0' : (((wr.setCell ⟨w.heap.size + 1, 0, none⟩ (.int .u8 (o : Int))).setCell ⟨w.heap.size + 1, 1, none⟩ (.string s)).setCell ⟨w.heap.size + 1, 2, none⟩ (.slice none 0 0)).heap[w.heap.size + 1]? = some (.cells #[.int .u8 (o : Int), .string s, .slice none 0 0] 24) := x0
          obtain ⟨v0, v1, v2⟩ := three_cells x0'
          refine bodyPost_ret (v := .agg #[.int .u8 (o : Int), .string s, .slice none 0 0]) (by simp [results, Tryd.results22, go_sem, v0, v1, v2]) rfl ?_
          rw [HR.out]
          exact x1
      · have hn0 : 0 < l.length := List.length_pos_iff.2 hk0
        generalize hn : l.length = n at *
        have HN := Lib.hid hn
        clear hn hk0
        have HZ4 := Lib.hid H4.out.2.2.2.2
        obtain ⟨i0, hi, hz0, hz1, hz2⟩ := info_parts exprE_info
        go_upto_region 6 with (first
          | (at_make; refine wpList_make_full _ rfl _ _ 22 rfl (w.heap.size + 3) 24 i0 (.agg #[.int .u8 0, .string ⟨#[]⟩, .slice none 0 0]) 3 Tryd.underlying22 hi hz0 hz1 .i64 .i64 _ _ n rfl rfl rfl rfl (by rw [hz2]; omega) (by unfold maxLen; omega) (by rw [HZ4.out]; exact Nat.le_refl _) ?_; intro w1 hown hgrow; rw [HZ4.out] at hown; rw [HZ4.out]; have HGR : Hid (Below W4.heap.size W4 w1) := Lib.hid ((Below.refl W4.heap.size W4).grown hgrow (Nat.le_refl _) (fun j hj => by cases hj)); have HR5 := Lib.hid (RnAt.start (o := o) (s := s) (f := f) (t := t) HN.out H4.out.1 H4.out.2.2.1 H4.out.2.2.2.1 HZ4.out hown hgrow); have hbo : w1.heap[w.heap.size + 2]? = some (.cells #[.int .u8 (o : Int), .string s, .slice none 0 0] 24) := (HGR.out.block _ (by have := HZ4.out; omega)).trans H4.out.2.2.2.1; have HBX : Hid (w1.heap[w.heap.size]? = some (.cells #[.int .u8 (o : Int), .string s, .slice A n c] 24)) := Lib.hid ((HGR.out.block _ (by have := HZ4.out; omega)).trans H4.out.2.1); obtain ⟨u0, u1, u2⟩ := three_cells hbo; have t2 := frozen_of_row _ (w.heap.size + 2) 2 _ _ hbo; have hul := cell_lt u0; clear hown hgrow hbo b0 b1 b2 o0 o1 o2 hzl)
          | fail)
        have HB5 : Hid ((w1.setCell ⟨w.heap.size + 2, 2, none⟩ (.slice (some ⟨w.heap.size + 3, 0, none⟩) n n)).heap[w.heap.size]? = some (.cells #[.int .u8 (o : Int), .string s, .slice A n c] 24)) := Lib.hid ((Below.heap_setCell _ _ _ _ (by dsimp only; omega)).trans HBX.out)
        generalize w1.setCell ⟨w.heap.size + 2, 2, none⟩ (.slice (some ⟨w.heap.size + 3, 0, none⟩) n n) = W5 at *
        clear u0 u1 u2 t2 hul HGR HBX H4 HZ4 hi hz0 hz1 hz2
        obtain ⟨b0, b1, b2⟩ := three_cells HB5.out
        have hzl := cell_lt b0
        go_wp2
        clear b0 b1 b2 hzl HB5
        go_loopg [38] n (fun g u wx => ∃ i : Nat, u = .int .i64 i ∧ i + g = n ∧ Hid (RnAt w wx o s f t l i))
        case atStart => exact ⟨0, rfl, by omega, HR5⟩
        case round =>
          clear HR5
          obtain ⟨i, rfl, hig, HQ⟩ := hrel
          have hlow := HQ.out.low
          by_cases hi : i < n
          · obtain ⟨x, hlx⟩ : ∃ x, l[i]? = some x := ⟨_, List.getElem?_eq_getElem (by rw [HN.out]; exact hi)⟩
            have HAR : Hid (Exs wr (Under B) (.slice A n c) l) := Lib.hid (HA.out.keep (fun _ h => h) fun b hb => HQ.out.below.block b (Nat.lt_of_lt_of_le hb hB))
            obtain ⟨b, off, rfl, hb, hat⟩ := HAR.out.get hlx
            obtain ⟨v3, f0, f1, f2, exk⟩ := (exAt_iff x b _).1 hat
            obtain ⟨A3, c3, rfl, _⟩ := id exk
            have hl3 := cell_lt f0
            have HX := Lib.hid hlx
            have HXS : Hid (sizeE x ≤ 1000) := Lib.hid (by have h1 := size_mem (List.mem_of_getElem? hlx); have h2 := HSZ.out; simp only [sizeE] at h2; omega)
            have HEK := Lib.hid exk
            obtain ⟨g, rfl⟩ : ∃ g, gk = g + 1 := ⟨gk - 1, by omega⟩
            clear exk hlx hat hb
            go_upto_region 9 with fail
            have HBB : Hid (Below wr.heap.size wr (wr.alloc (.cells #[.int .u8 (x.op : Int), .string x.name, .slice A3 x.kids.length c3] 24))) := Lib.hid ((Below.refl _ _).alloc (Nat.le_refl _) _)
            have HBX : Hid ((wr.alloc (.cells #[.int .u8 (x.op : Int), .string x.name, .slice A3 x.kids.length c3] 24)).heap[wr.heap.size]? = some (.cells #[.int .u8 (x.op : Int), .string x.name, .slice A3 x.kids.length c3] 24)) := Lib.hid (heap_new _ _)
            have HSB : Hid (wr.heap.size < (wr.alloc (.cells #[.int .u8 (x.op : Int), .string x.name, .slice A3 x.kids.length c3] 24)).heap.size) := Lib.hid (by simp)
            generalize wr.alloc (.cells #[.int .u8 (x.op : Int), .string x.name, .slice A3 x.kids.length c3] 24) = wb at *
            have HQB := Lib.hid (HQ.out.keep HBB.out)
            have HCALL := Lib.hid (IH.out x (List.mem_of_getElem? HX.out) f t A3 _ c3 B wb.drew HXS.out ((HEK.out.keep (fun _ h => h) fun b hb => HBB.out.block b (Nat.lt_of_lt_of_le hb (Nat.le_trans hB HQ.out.below.size))).keep (fun _ h => h) fun _ _ => rfl) (Nat.le_trans hB HQB.out.below.size))
            clear f0 f1 f2 hl3 HEK
            have hob := HQB.out.out
            rw [HN.out] at hob
            obtain ⟨p0, p1, p2⟩ := three_cells hob
            obtain ⟨g0, g1, g2⟩ := three_cells HBX.out
            have m0 := cell_lt g0
            have m1 := cell_lt p0
            clear hob
            go_wp2_with fail
            go_region_law (first
              | ((with_reducible refine step_ren (v := .agg #[.int .u8 (x.op : Int), .string x.name, .slice A3 x.kids.length c3]) (f := f) (t := t) (x := renE f t x) (by kernel_rfl) (.tmp 46) (.tmp 47) (.tmp 48) rfl rfl rfl rfl HCALL.out ?_); intro A4 n4 c4 w2 hk2 hb2; have HB2 : Hid (Below wb.heap.size wb w2) := Lib.hid ((below_drewX wb).trans hb2); have HR2 := Lib.hid (HQB.out.keep HB2.out); have hob2 := HR2.out.out; rw [HN.out] at hob2; obtain ⟨q0, q1, q2⟩ := three_cells hob2; have k1 := cell_lt q0; obtain ⟨cur, hcur, hcsz, _⟩ := id HR2.out.row; rw [HN.out] at hcsz; obtain ⟨⟨yv0, y0⟩, ⟨yv1, y1⟩, yv2, y2⟩ := row_three hcur (i := i) (by omega); have z0 := frozen_of_row _ (w.heap.size + 3) (i * 3) _ _ hcur; have z1 := frozen_of_row _ (w.heap.size + 3) (i * 3 + 1) _ _ hcur; have z2 := frozen_of_row _ (w.heap.size + 3) (i * 3 + 2) _ _ hcur; have k2 := cell_lt y0; have HFIN := Lib.hid (HR2.out.next (by rw [HN.out]; exact hi) HX.out (hk2.keep (fun b hb => ⟨by have h1 : wb.heap.size ≤ b := hb.1; have := HSB.out; omega, hb.2⟩) fun _ _ => rfl)); clear hk2 hb2 hob2 hcur))
            all_goals
              go_wp2
              go_roundg g
              case measure => omega
              case rel => exact ⟨i + 1, by go_num, by omega, HFIN⟩
          · have hob := HQ.out.out
            rw [HN.out] at hob
            obtain ⟨q0, q1, q2⟩ := three_cells hob
            have k1 := cell_lt q0
            obtain ⟨z0, z1, z2⟩ := three_cells HQ.out.res
            have y0 := frozen_of_row _ (w.heap.size + 1) 0 _ _ HQ.out.res
            have y1 := frozen_of_row _ (w.heap.size + 1) 1 _ _ HQ.out.res
            have y2 := frozen_of_row _ (w.heap.size + 1) 2 _ _ HQ.out.res
            clear hob
            go_wp2
            have h9 := HQ.out.all (by rw [HN.out]; omega) (by rw [HN.out]; unfold maxLen; omega)
            rw [HN.out] at h9
            obtain ⟨x0, x1⟩ := ren_fin (e := .mk o s (renEs f t l)) HQ.out.below HQ.out.res h9
            have x0' : (((wr.setCell ⟨w.heap.size + 1, 0, none⟩ (.int .u8 (o : Int))).setCell ⟨w.heap.size + 1, 1, none⟩ (.string s)).setCell ⟨w.heap.size + 1, 2, none⟩ (.slice (some ⟨w.heap.size + 3, 0, none⟩) n n)).heap[w.heap.size + 1]? = some (.cells #[.int .u8 (o : Int), .string s, .slice (some ⟨w.heap.size + 3, 0, none⟩) n n] 24) := x0
            obtain ⟨v0, v1, v2⟩ := three_cells x0'
            refine bodyPost_ret (v := .agg #[.int .u8 (o : Int), .string s, .slice (some ⟨w.heap.size + 3, 0, none⟩) n n]) (by simp [results, Tryd.results22, go_sem, v0, v1, v2]) rfl ?_
            rw [HR.out]
            exact x1
end Go.Proofs.YtldmimekmjmkgaaDoor

namespace Go.Proofs.YtldmimekmjmkgaaDoor
open Go.RowKit Go.Sort Go.Maps Go.WideMaps

mutual
theorem size_weigh : ∀ e : Ex, sizeE e ≤ e.weigh
  | .mk o s l => by
    have := sizes_weigh l
    unfold sizeE Ex.weigh
    omega
theorem sizes_weigh : ∀ l : List Ex, sizeEs l ≤ Ex.weighAll l
  | [] => Nat.le_refl _
  | x :: l => by
    have h1 := size_weigh x
    have h2 := sizes_weigh l
    unfold sizeEs Ex.weighAll
    omega
end
def ASaidU (e : Ex) : Prop := ∀ (A : Option Addr) (n c B : Nat) (w : World), sizeE e ≤ 2000000 → Exs w (Under B) (.slice A n c) e.kids → B ≤ w.heap.size →
  Calls Tryd.prog 13 #[.agg #[.int .u8 (e.op : Int), .string e.name, .slice A n c]] w (EPost w e)
attribute [local go_sem ↓] Go.wp_at_zero Go.wp_at_succ
set_option maxRecDepth 100000 in
set_option maxHeartbeats 4000000 in
theorem as_walkU : ∀ e, ASaidU e := by
  intro e
  induction e using Ex.induct_one with
  | h o s l ih =>
    intro A n c B w hsz hl hB
    have IH := Lib.hid ih
    clear ih
    simp only [Ex.op, Ex.name, Ex.kids] at *
    have hlen := hl.len
    obtain ⟨A', c', hv, hc, hm, _⟩ := id hl
    injection hv with hA hn hc'
    subst hA hn hc'
    unfold maxLen at hm
    have HSZ := Lib.hid hsz
    have hll : l.length ≤ 2000000 := by
      have h1 : ∀ l : List Ex, l.length ≤ sizeEs l := fun l => by
        induction l with
        | nil => exact Nat.le_refl _
        | cons x l ih => obtain ⟨_, _, _⟩ := x; simp only [sizeEs, sizeE, List.length_cons]; omega
      have := h1 l
      simp only [sizeE] at hsz
      omega
    have HA := Lib.hid hl
    have hz1 : (w.alloc (.cells #[.int .u8 (o : Int), .string s, .slice A l.length c] 24)).heap.size = w.heap.size + 1 := by simp
    have hz2 : ((w.alloc (.cells #[.int .u8 (o : Int), .string s, .slice A l.length c] 24)).alloc (.cells #[.int .u8 0, .string ⟨#[]⟩, .slice none 0 0] 30)).heap.size = w.heap.size + 2 := by simp
    have HAT : Hid (AsAt w (((w.alloc (.cells #[.int .u8 (o : Int), .string s, .slice A l.length c] 24)).alloc (.cells #[.int .u8 0, .string ⟨#[]⟩, .slice none 0 0] 30)).alloc (.cells #[.int .u8 (o : Int), .string s, .slice none 0 0] 30)) o s l A c 0 (.slice none 0 0)) := Lib.hid
      ⟨(((Below.refl _ _).alloc (Nat.le_refl _) _).alloc (by omega) _).alloc (by omega) _,
       (Below.heap_alloc _ _ _ (by omega)).trans ((Below.heap_alloc _ _ _ (by omega)).trans (heap_new _ _)),
       (Below.heap_alloc _ _ _ (by omega)).trans (heap_new' _ _ hz1), heap_new' _ _ hz2, ⟨[], World.ownsRow_nil _ _ _ _, rfl⟩⟩
    clear hl hsz hz1 hz2
    go_enter Tryd.func13, Tryd.ntmps13
    go_wp2
    generalize ((w.alloc (.cells #[.int .u8 (o : Int), .string s, .slice A l.length c] 24)).alloc (.cells #[.int .u8 0, .string ⟨#[]⟩, .slice none 0 0] 30)).alloc (.cells #[.int .u8 (o : Int), .string s, .slice none 0 0] 30) = w1 at *
    go_loopg [4] l.length (fun g u wx => ∃ (i : Nat) (vk : Value), u = .int .i64 i ∧ i + g = l.length ∧ Hid (AsAt w wx o s l A c i vk))
    case atStart => exact ⟨0, _, rfl, by omega, HAT⟩
    case round =>
      clear HAT
      obtain ⟨i, vk, rfl, hig, HR⟩ := hrel
      obtain ⟨Ak, ck, rfl, hck, hckm, _⟩ := id HR.out.row.exs
      generalize hnk : (l.take i).length = nk at *
      have HNK := Lib.hid hnk
      have hnk2 : nk ≤ 2000000 := by rw [← hnk, List.length_take]; omega
      clear hnk
      obtain ⟨b0, b1, b2⟩ := three_cells HR.out.box
      obtain ⟨r0, r1, r2⟩ := three_cells HR.out.res
      obtain ⟨q0, q1, q2⟩ := three_cells HR.out.out
      have fb := fun j => frozen_of_row _ (w.heap.size + 2) j _ _ HR.out.out
      have t2 := fb 2
      have z0 := frozen_of_row _ (w.heap.size + 1) 0 _ _ HR.out.res
      have z1 := frozen_of_row _ (w.heap.size + 1) 1 _ _ HR.out.res
      have z2 := frozen_of_row _ (w.heap.size + 1) 2 _ _ HR.out.res
      have hlow := HR.out.low
      clear fb
      by_cases hi : i < l.length
      · have hlx : l[i]? = some l[i] := List.getElem?_eq_getElem hi
        generalize hx : l[i] = x at *
        have hlxx : l.take (i + 1) = l.take i ++ [x] := by rw [List.take_add_one, hlx]; rfl
        have HLX := Lib.hid hlxx
        have HAR : Hid (Exs wr (Under B) (.slice A l.length c) l) := Lib.hid (HA.out.keep (fun _ h => h) fun b hb => HR.out.below.block b (Nat.lt_of_lt_of_le hb hB))
        obtain ⟨b, off, rfl, hb, hat⟩ := HAR.out.get hlx
        obtain ⟨v3, f0, f1, f2, exk⟩ := (exAt_iff x b _).1 hat
        obtain ⟨A3, c3, rfl, _⟩ := id exk
        have hl3 := cell_lt f0
        have HX := Lib.hid hlx
        have hbw : b < w.heap.size := Nat.lt_of_lt_of_le hb hB
        have HXS : Hid (sizeE x ≤ 2000000) := Lib.hid (by have h1 := size_mem (List.mem_of_getElem? hlx); have h2 := HSZ.out; simp only [sizeE] at h2; omega)
        have HCALL := Lib.hid (IH.out x (List.mem_of_getElem? hlx) A3 _ c3 B wr.drew HXS.out (exk.keep (fun _ h => h) fun _ _ => rfl) (Nat.le_trans hB HR.out.below.size))
        obtain ⟨g, rfl⟩ : ∃ g, gk = g + 1 := ⟨gk - 1, by omega⟩
        clear exk hx hlx hat hb hlxx r0 r1 r2 z0 z1 z2
        have HONE : Hid (∀ u ∈ [Value.int .u8 (x.op : Int), .string x.name, .slice none 0 0], u.oneCell' = true) := Lib.hid (by simp [Value.oneCell'])
        have HVK : Hid (∀ b, (Value.slice Ak nk ck).ownBlock = some b → w.heap.size + 3 ≤ b) := Lib.hid (by obtain ⟨xs, h, _⟩ := HR.out.row; exact fun b hb => (h.lt b hb).1)
        go_wp2_with fail
        go_region_law (first
          | ((with_reducible refine step_as (v := .agg #[.int .u8 (x.op : Int), .string x.name, .slice A3 x.kids.length c3]) (x := x) (by kernel_rfl) (.tmp 23) rfl rfl HCALL.out ?_); intro A4 n4 c4 w2 hk2 hb2; have HB2 : Hid (Below wr.heap.size wr w2) := Lib.hid ((below_drewX wr).trans hb2); have HR2 := Lib.hid (HR.out.keep HB2.out); obtain ⟨p0, p1, p2⟩ := three_cells HR2.out.out; have s2 := frozen_of_row _ (w.heap.size + 2) 2 _ _ HR2.out.out; have hlow2 := HR2.out.low; have HR3 := Lib.hid (HR2.out.keep (wy := w2.alloc (.cells #[.int .u8 (x.op : Int), .string x.name, .slice A4 n4 c4] 30)) ((Below.refl _ _).alloc (Nat.le_refl _) _)); obtain ⟨xs, hxs, hkc⟩ := HR3.out.row; rw [HNK.out] at hxs; have HXS4 := Lib.hid hxs; have HKC := Lib.hid hkc; have HNEW : Hid ((w2.alloc (.cells #[.int .u8 (x.op : Int), .string x.name, .slice A4 n4 c4] 30)).heap[w2.heap.size]? = some (.cells #[.int .u8 (x.op : Int), .string x.name, .slice A4 n4 c4] 30)) := Lib.hid (heap_new _ _); have HON4 : Hid (∀ u ∈ [Value.int .u8 (x.op : Int), .string x.name, .slice A4 n4 c4], u.oneCell' = true) := Lib.hid (by simp [Value.oneCell']); have HN1 : Hid (nk + 1 ≤ 100000000) := Lib.hid (by omega); have HBS : Hid (w.heap.size + 3 ≤ (w2.alloc (.cells #[.int .u8 (x.op : Int), .string x.name, .slice A4 n4 c4] 30)).heap.size) := Lib.hid (by simp; omega); have HKX : Hid (Exs (w2.alloc (.cells #[.int .u8 (x.op : Int), .string x.name, .slice A4 n4 c4] 30)) (fun b => w.heap.size + 3 ≤ b ∧ b < (w2.alloc (.cells #[.int .u8 (x.op : Int), .string x.name, .slice A4 n4 c4] 30)).heap.size ∧ (Value.slice Ak nk ck).ownBlock ≠ some b) (.slice A4 n4 c4) x.kids) := Lib.hid (hk2.keep (fun b hb => ⟨by have h1 : wr.heap.size ≤ b := hb.1; omega, by have := hb.2; simp; omega, by intro h5; obtain ⟨ys, h6, _⟩ := HR.out.row; have h7 := (h6.lt b h5).2; have h8 : wr.heap.size ≤ b := hb.1; omega⟩) fun b hb => Below.heap_alloc _ _ _ hb.2); clear hk2 hb2 hxs hkc)
          | ((with_reducible refine step_append_exR (by kernel_rfl) (.tmp 18) (.tmp 25) rfl (w.heap.size + 3) (.slice Ak nk ck) nk xs w2.heap.size 1 (.int .u8 (x.op : Int)) (.string x.name) (.slice A4 n4 c4) rfl rfl HXS4.out HNEW.out HON4.out HN1.out HBS.out ?_); intro v5 w5 ho5 hg5 hb5; obtain ⟨G5, d5, rfl⟩ := own_slice ho5; have HFIN := Lib.hid (HR3.out.next HLX.out HVK.out HKC.out (by rw [HNK.out]; exact ho5) hg5 hb5 HKX.out); have hw5 : w5.heap[w.heap.size + 2]? = some (.cells #[.int .u8 (o : Int), .string s, .slice Ak nk ck] 30) := (hg5.block _ (by simp; omega) (fun e5 => by have := HVK.out _ e5.symm; omega)).trans HR3.out.out; obtain ⟨y0, y1, y2⟩ := three_cells hw5; have u2 := frozen_of_row _ (w.heap.size + 2) 2 _ _ hw5; have hlow5 := cell_lt y0; clear ho5 hg5 hb5 hw5))
        all_goals
          go_wp2
          go_roundg g
          case measure => omega
          case rel => exact ⟨i + 1, _, by go_num, by omega, HFIN⟩
      · have HE : Hid (l.take i = l) := Lib.hid (List.take_of_length_le (by omega))
        go_wp2
        obtain ⟨x0, x1⟩ := HR.out.fin HE.out
        obtain ⟨y0, y1, y2⟩ := three_cells x0
        refine bodyPost_ret (v := .agg #[.int .u8 (o : Int), .string s, .slice Ak nk ck]) (by simp [results, Tryd.results13, go_sem, y0, y1, y2]) rfl x1
def RnSaidU (e : Ex) : Prop := ∀ (f t : ByteArray) (A : Option Addr) (n c B : Nat) (w : World), sizeE e ≤ 2000000 → Exs w (Under B) (.slice A n c) e.kids → B ≤ w.heap.size →
  Calls Tryd.prog 22 #[.agg #[.int .u8 (e.op : Int), .string e.name, .slice A n c], .string f, .string t] w (EPost w (renE f t e))
set_option maxRecDepth 100000 in
set_option maxHeartbeats 4000000 in
theorem ren_walkU : ∀ e, RnSaidU e := by
  intro e
  induction e using Ex.induct_one with
  | h o s l ih =>
    intro f t A n c B w hsz hl hB
    have IH := Lib.hid ih
    clear ih
    simp only [Ex.op, Ex.name, Ex.kids] at *
    have hlen := hl.len
    obtain ⟨A', c', hv, hc, hm, _⟩ := id hl
    injection hv with hA hn hc'
    subst hA hn hc'
    unfold maxLen at hm
    have HSZ := Lib.hid hsz
    have hll : l.length ≤ 2000000 := by
      have h1 : ∀ l : List Ex, l.length ≤ sizeEs l := fun l => by
        induction l with
        | nil => exact Nat.le_refl _
        | cons x l ih => obtain ⟨_, _, _⟩ := x; simp only [sizeEs, sizeE, List.length_cons]; omega
      have := h1 l
      simp only [sizeE] at hsz
      omega
    have HA := Lib.hid hl
    clear hl hsz
    by_cases ho : o = 110
    · subst ho
      by_cases hsf : s = f
      · subst hsf
        have hse : (s.toList == s.toList) = true := by simp
        have HR : Hid (renE s t (.mk 110 s l) = .mk 110 t (renEs s t l)) := Lib.hid (by rw [renE, if_pos ⟨rfl, rfl⟩])
        have H0 := Lib.hid (ren_start w 110 s s (.slice A l.length c))
        have H4 := Lib.hid (ren_start w 110 s t (.slice A l.length c))
        go_enter Tryd.func22, Tryd.ntmps22
        obtain ⟨b0, b1, b2⟩ := three_cells H0.out.2.1
        obtain ⟨r0, r1, r2⟩ := three_cells H0.out.2.2.1
        obtain ⟨o0, o1, o2⟩ := three_cells H0.out.2.2.2.1
        have t1 := frozen_of_row _ (w.heap.size + 2) 1 _ _ H0.out.2.2.2.1
        have hzl := cell_lt o0
        go_upto_region 4 with fail
        generalize ((w.alloc (.cells #[.int .u8 110, .string s, .slice A l.length c] 24)).alloc (.cells #[.int .u8 0, .string ⟨#[]⟩, .slice none 0 0] 24)).alloc (.cells #[.int .u8 110, .string t, .slice none 0 0] 24) = W4 at *
        clear b0 b1 b2 r0 r1 r2 o0 o1 o2 t1 hzl H0
        obtain ⟨b0, b1, b2⟩ := three_cells H4.out.2.1
        obtain ⟨o0, o1, o2⟩ := three_cells H4.out.2.2.2.1
        have hzl := cell_lt o0
        by_cases hk0 : l = []
        · subst hk0
          go_wp2
          go_loopg [38] 0 (fun g u wx => u = .int .i64 0 ∧ wx = W4)
          case atStart => exact ⟨rfl, rfl⟩
          case round =>
            obtain ⟨rfl, rfl⟩ := hrel
            obtain ⟨z0, z1, z2⟩ := three_cells H4.out.2.2.1
            have y0 := frozen_of_row _ (w.heap.size + 1) 0 _ _ H4.out.2.2.1
            have y1 := frozen_of_row _ (w.heap.size + 1) 1 _ _ H4.out.2.2.1
            have y2 := frozen_of_row _ (w.heap.size + 1) 2 _ _ H4.out.2.2.1
            go_wp2
            obtain ⟨x0, x1⟩ := ren_fin (e := .mk 110 t []) H4.out.1 H4.out.2.2.1 (exs_nil _ _)
            have x0' : (((wr.setCell ⟨w.heap.size + 1, 0, none⟩ (.int .u8 110)).setCell ⟨w.heap.size + 1, 1, none⟩ (.string t)).setCell ⟨w.heap.size + 1, 2, none⟩ (.slice none 0 0)).heap[w.heap.size + 1]? = some (.cells #[.int .u8 110, .string t, .slice none 0 0] 24) := x0
            obtain ⟨v0, v1, v2⟩ := three_cells x0'
            refine bodyPost_ret (v := .agg #[.int .u8 110, .string t, .slice none 0 0]) (by simp [results, Tryd.results22, go_sem, v0, v1, v2]) rfl ?_
            rw [HR.out]
            exact x1
        · have hn0 : 0 < l.length := List.length_pos_iff.2 hk0
          generalize hn : l.length = n at *
          have HN := Lib.hid hn
          clear hn hk0
          have HZ4 := Lib.hid H4.out.2.2.2.2
          obtain ⟨i0, hi, hz0, hz1, hz2⟩ := info_parts exprE_info
          go_upto_region 6 with (first
            | (at_make; refine wpList_make_full _ rfl _ _ 22 rfl (w.heap.size + 3) 24 i0 (.agg #[.int .u8 0, .string ⟨#[]⟩, .slice none 0 0]) 3 Tryd.underlying22 hi hz0 hz1 .i64 .i64 _ _ n rfl rfl rfl rfl (by rw [hz2]; omega) (by unfold maxLen; omega) (by rw [HZ4.out]; exact Nat.le_refl _) ?_; intro w1 hown hgrow; rw [HZ4.out] at hown; rw [HZ4.out]; have HGR : Hid (Below W4.heap.size W4 w1) := Lib.hid ((Below.refl W4.heap.size W4).grown hgrow (Nat.le_refl _) (fun j hj => by cases hj)); have HR5 := Lib.hid (RnAt.start (o := 110) (s := t) (f := s) (t := t) HN.out H4.out.1 H4.out.2.2.1 H4.out.2.2.2.1 HZ4.out hown hgrow); have hbo : w1.heap[w.heap.size + 2]? = some (.cells #[.int .u8 110, .string t, .slice none 0 0] 24) := (HGR.out.block _ (by have := HZ4.out; omega)).trans H4.out.2.2.2.1; have HBX : Hid (w1.heap[w.heap.size]? = some (.cells #[.int .u8 110, .string s, .slice A n c] 24)) := Lib.hid ((HGR.out.block _ (by have := HZ4.out; omega)).trans H4.out.2.1); obtain ⟨u0, u1, u2⟩ := three_cells hbo; have t2 := frozen_of_row _ (w.heap.size + 2) 2 _ _ hbo; have hul := cell_lt u0; clear hown hgrow hbo b0 b1 b2 o0 o1 o2 hzl)
            | fail)
          have HB5 : Hid ((w1.setCell ⟨w.heap.size + 2, 2, none⟩ (.slice (some ⟨w.heap.size + 3, 0, none⟩) n n)).heap[w.heap.size]? = some (.cells #[.int .u8 110, .string s, .slice A n c] 24)) := Lib.hid ((Below.heap_setCell _ _ _ _ (by dsimp only; omega)).trans HBX.out)
          generalize w1.setCell ⟨w.heap.size + 2, 2, none⟩ (.slice (some ⟨w.heap.size + 3, 0, none⟩) n n) = W5 at *
          clear u0 u1 u2 t2 hul HGR HBX H4 HZ4 hi hz0 hz1 hz2
          obtain ⟨b0, b1, b2⟩ := three_cells HB5.out
          have hzl := cell_lt b0
          go_wp2
          clear b0 b1 b2 hzl HB5
          go_loopg [38] n (fun g u wx => ∃ i : Nat, u = .int .i64 i ∧ i + g = n ∧ Hid (RnAt w wx 110 t s t l i))
          case atStart => exact ⟨0, rfl, by omega, HR5⟩
          case round =>
            clear HR5
            obtain ⟨i, rfl, hig, HQ⟩ := hrel
            have hlow := HQ.out.low
            by_cases hi : i < n
            · obtain ⟨x, hlx⟩ : ∃ x, l[i]? = some x := ⟨_, List.getElem?_eq_getElem (by rw [HN.out]; exact hi)⟩
              have HAR : Hid (Exs wr (Under B) (.slice A n c) l) := Lib.hid (HA.out.keep (fun _ h => h) fun b hb => HQ.out.below.block b (Nat.lt_of_lt_of_le hb hB))
              obtain ⟨b, off, rfl, hb, hat⟩ := HAR.out.get hlx
              obtain ⟨v3, f0, f1, f2, exk⟩ := (exAt_iff x b _).1 hat
              obtain ⟨A3, c3, rfl, _⟩ := id exk
              have hl3 := cell_lt f0
              have HX := Lib.hid hlx
              have HXS : Hid (sizeE x ≤ 2000000) := Lib.hid (by have h1 := size_mem (List.mem_of_getElem? hlx); have h2 := HSZ.out; simp only [sizeE] at h2; omega)
              have HEK := Lib.hid exk
              obtain ⟨g, rfl⟩ : ∃ g, gk = g + 1 := ⟨gk - 1, by omega⟩
              clear exk hlx hat hb
              go_upto_region 9 with fail
              have HBB : Hid (Below wr.heap.size wr (wr.alloc (.cells #[.int .u8 (x.op : Int), .string x.name, .slice A3 x.kids.length c3] 24))) := Lib.hid ((Below.refl _ _).alloc (Nat.le_refl _) _)
              have HBX : Hid ((wr.alloc (.cells #[.int .u8 (x.op : Int), .string x.name, .slice A3 x.kids.length c3] 24)).heap[wr.heap.size]? = some (.cells #[.int .u8 (x.op : Int), .string x.name, .slice A3 x.kids.length c3] 24)) := Lib.hid (heap_new _ _)
              have HSB : Hid (wr.heap.size < (wr.alloc (.cells #[.int .u8 (x.op : Int), .string x.name, .slice A3 x.kids.length c3] 24)).heap.size) := Lib.hid (by simp)
              generalize wr.alloc (.cells #[.int .u8 (x.op : Int), .string x.name, .slice A3 x.kids.length c3] 24) = wb at *
              have HQB := Lib.hid (HQ.out.keep HBB.out)
              have HCALL := Lib.hid (IH.out x (List.mem_of_getElem? HX.out) s t A3 _ c3 B wb.drew HXS.out ((HEK.out.keep (fun _ h => h) fun b hb => HBB.out.block b (Nat.lt_of_lt_of_le hb (Nat.le_trans hB HQ.out.below.size))).keep (fun _ h => h) fun _ _ => rfl) (Nat.le_trans hB HQB.out.below.size))
              clear f0 f1 f2 hl3 HEK
              have hob := HQB.out.out
              rw [HN.out] at hob
              obtain ⟨p0, p1, p2⟩ := three_cells hob
              obtain ⟨g0, g1, g2⟩ := three_cells HBX.out
              have m0 := cell_lt g0
              have m1 := cell_lt p0
              clear hob
              go_wp2_with fail
              go_region_law (first
                | ((with_reducible refine step_ren (v := .agg #[.int .u8 (x.op : Int), .string x.name, .slice A3 x.kids.length c3]) (f := s) (t := t) (x := renE s t x) (by kernel_rfl) (.tmp 46) (.tmp 47) (.tmp 48) rfl rfl rfl rfl HCALL.out ?_); intro A4 n4 c4 w2 hk2 hb2; have HB2 : Hid (Below wb.heap.size wb w2) := Lib.hid ((below_drewX wb).trans hb2); have HR2 := Lib.hid (HQB.out.keep HB2.out); have hob2 := HR2.out.out; rw [HN.out] at hob2; obtain ⟨q0, q1, q2⟩ := three_cells hob2; have k1 := cell_lt q0; obtain ⟨cur, hcur, hcsz, _⟩ := id HR2.out.row; rw [HN.out] at hcsz; obtain ⟨⟨yv0, y0⟩, ⟨yv1, y1⟩, yv2, y2⟩ := row_three hcur (i := i) (by omega); have z0 := frozen_of_row _ (w.heap.size + 3) (i * 3) _ _ hcur; have z1 := frozen_of_row _ (w.heap.size + 3) (i * 3 + 1) _ _ hcur; have z2 := frozen_of_row _ (w.heap.size + 3) (i * 3 + 2) _ _ hcur; have k2 := cell_lt y0; have HFIN := Lib.hid (HR2.out.next (by rw [HN.out]; exact hi) HX.out (hk2.keep (fun b hb => ⟨by have h1 : wb.heap.size ≤ b := hb.1; have := HSB.out; omega, hb.2⟩) fun _ _ => rfl)); clear hk2 hb2 hob2 hcur))
              all_goals
                go_wp2
                go_roundg g
                case measure => omega
                case rel => exact ⟨i + 1, by go_num, by omega, HFIN⟩
            · have hob := HQ.out.out
              rw [HN.out] at hob
              obtain ⟨q0, q1, q2⟩ := three_cells hob
              have k1 := cell_lt q0
              obtain ⟨z0, z1, z2⟩ := three_cells HQ.out.res
              have y0 := frozen_of_row _ (w.heap.size + 1) 0 _ _ HQ.out.res
              have y1 := frozen_of_row _ (w.heap.size + 1) 1 _ _ HQ.out.res
              have y2 := frozen_of_row _ (w.heap.size + 1) 2 _ _ HQ.out.res
              clear hob
              go_wp2
              have h9 := HQ.out.all (by rw [HN.out]; omega) (by rw [HN.out]; unfold maxLen; omega)
              rw [HN.out] at h9
              obtain ⟨x0, x1⟩ := ren_fin (e := .mk 110 t (renEs s t l)) HQ.out.below HQ.out.res h9
              have x0' : (((wr.setCell ⟨w.heap.size + 1, 0, none⟩ (.int .u8 110)).setCell ⟨w.heap.size + 1, 1, none⟩ (.string t)).setCell ⟨w.heap.size + 1, 2, none⟩ (.slice (some ⟨w.heap.size + 3, 0, none⟩) n n)).heap[w.heap.size + 1]? = some (.cells #[.int .u8 110, .string t, .slice (some ⟨w.heap.size + 3, 0, none⟩) n n] 24) := x0
              obtain ⟨v0, v1, v2⟩ := three_cells x0'
              refine bodyPost_ret (v := .agg #[.int .u8 110, .string t, .slice (some ⟨w.heap.size + 3, 0, none⟩) n n]) (by simp [results, Tryd.results22, go_sem, v0, v1, v2]) rfl ?_
              rw [HR.out]
              exact x1
      · have hse : (s.toList == f.toList) = false := by
          rw [beq_eq_false_iff_ne]; intro h; rw [Lib.toList_data, Lib.toList_data] at h; exact hsf (bytesE_of h)
        have HR : Hid (renE f t (.mk 110 s l) = .mk 110 s (renEs f t l)) := Lib.hid (by rw [renE, if_neg (fun h => hsf h.2)])
        clear hsf
        have H0 := Lib.hid (ren_start w 110 s s (.slice A l.length c))
        have H4 := Lib.hid (ren_start w 110 s s (.slice A l.length c))
        go_enter Tryd.func22, Tryd.ntmps22
        obtain ⟨b0, b1, b2⟩ := three_cells H0.out.2.1
        obtain ⟨r0, r1, r2⟩ := three_cells H0.out.2.2.1
        obtain ⟨o0, o1, o2⟩ := three_cells H0.out.2.2.2.1
        have t1 := frozen_of_row _ (w.heap.size + 2) 1 _ _ H0.out.2.2.2.1
        have hzl := cell_lt o0
        go_upto_region 4 with fail
        generalize ((w.alloc (.cells #[.int .u8 110, .string s, .slice A l.length c] 24)).alloc (.cells #[.int .u8 0, .string ⟨#[]⟩, .slice none 0 0] 24)).alloc (.cells #[.int .u8 110, .string s, .slice none 0 0] 24) = W4 at *
        clear b0 b1 b2 r0 r1 r2 o0 o1 o2 t1 hzl H0
        obtain ⟨b0, b1, b2⟩ := three_cells H4.out.2.1
        obtain ⟨o0, o1, o2⟩ := three_cells H4.out.2.2.2.1
        have hzl := cell_lt o0
        by_cases hk0 : l = []
        · subst hk0
          go_wp2
          go_loopg [38] 0 (fun g u wx => u = .int .i64 0 ∧ wx = W4)
          case atStart => exact ⟨rfl, rfl⟩
          case round =>
            obtain ⟨rfl, rfl⟩ := hrel
            obtain ⟨z0, z1, z2⟩ := three_cells H4.out.2.2.1
            have y0 := frozen_of_row _ (w.heap.size + 1) 0 _ _ H4.out.2.2.1
            have y1 := frozen_of_row _ (w.heap.size + 1) 1 _ _ H4.out.2.2.1
            have y2 := frozen_of_row _ (w.heap.size + 1) 2 _ _ H4.out.2.2.1
            go_wp2
            obtain ⟨x0, x1⟩ := ren_fin (e := .mk 110 s []) H4.out.1 H4.out.2.2.1 (exs_nil _ _)
            have x0' : (((wr.setCell ⟨w.heap.size + 1, 0, none⟩ (.int .u8 110)).setCell ⟨w.heap.size + 1, 1, none⟩ (.string s)).setCell ⟨w.heap.size + 1, 2, none⟩ (.slice none 0 0)).heap[w.heap.size + 1]? = some (.cells #[.int .u8 110, .string s, .slice none 0 0] 24) := x0
            obtain ⟨v0, v1, v2⟩ := three_cells x0'
            refine bodyPost_ret (v := .agg #[.int .u8 110, .string s, .slice none 0 0]) (by simp [results, Tryd.results22, go_sem, v0, v1, v2]) rfl ?_
            rw [HR.out]
            exact x1
        · have hn0 : 0 < l.length := List.length_pos_iff.2 hk0
          generalize hn : l.length = n at *
          have HN := Lib.hid hn
          clear hn hk0
          have HZ4 := Lib.hid H4.out.2.2.2.2
          obtain ⟨i0, hi, hz0, hz1, hz2⟩ := info_parts exprE_info
          go_upto_region 6 with (first
            | (at_make; refine wpList_make_full _ rfl _ _ 22 rfl (w.heap.size + 3) 24 i0 (.agg #[.int .u8 0, .string ⟨#[]⟩, .slice none 0 0]) 3 Tryd.underlying22 hi hz0 hz1 .i64 .i64 _ _ n rfl rfl rfl rfl (by rw [hz2]; omega) (by unfold maxLen; omega) (by rw [HZ4.out]; exact Nat.le_refl _) ?_; intro w1 hown hgrow; rw [HZ4.out] at hown; rw [HZ4.out]; have HGR : Hid (Below W4.heap.size W4 w1) := Lib.hid ((Below.refl W4.heap.size W4).grown hgrow (Nat.le_refl _) (fun j hj => by cases hj)); have HR5 := Lib.hid (RnAt.start (o := 110) (s := s) (f := f) (t := t) HN.out H4.out.1 H4.out.2.2.1 H4.out.2.2.2.1 HZ4.out hown hgrow); have hbo : w1.heap[w.heap.size + 2]? = some (.cells #[.int .u8 110, .string s, .slice none 0 0] 24) := (HGR.out.block _ (by have := HZ4.out; omega)).trans H4.out.2.2.2.1; have HBX : Hid (w1.heap[w.heap.size]? = some (.cells #[.int .u8 110, .string s, .slice A n c] 24)) := Lib.hid ((HGR.out.block _ (by have := HZ4.out; omega)).trans H4.out.2.1); obtain ⟨u0, u1, u2⟩ := three_cells hbo; have t2 := frozen_of_row _ (w.heap.size + 2) 2 _ _ hbo; have hul := cell_lt u0; clear hown hgrow hbo b0 b1 b2 o0 o1 o2 hzl)
            | fail)
          have HB5 : Hid ((w1.setCell ⟨w.heap.size + 2, 2, none⟩ (.slice (some ⟨w.heap.size + 3, 0, none⟩) n n)).heap[w.heap.size]? = some (.cells #[.int .u8 110, .string s, .slice A n c] 24)) := Lib.hid ((Below.heap_setCell _ _ _ _ (by dsimp only; omega)).trans HBX.out)
          generalize w1.setCell ⟨w.heap.size + 2, 2, none⟩ (.slice (some ⟨w.heap.size + 3, 0, none⟩) n n) = W5 at *
          clear u0 u1 u2 t2 hul HGR HBX H4 HZ4 hi hz0 hz1 hz2
          obtain ⟨b0, b1, b2⟩ := three_cells HB5.out
          have hzl := cell_lt b0
          go_wp2
          clear b0 b1 b2 hzl HB5
          go_loopg [38] n (fun g u wx => ∃ i : Nat, u = .int .i64 i ∧ i + g = n ∧ Hid (RnAt w wx 110 s f t l i))
          case atStart => exact ⟨0, rfl, by omega, HR5⟩
          case round =>
            clear HR5
            obtain ⟨i, rfl, hig, HQ⟩ := hrel
            have hlow := HQ.out.low
            by_cases hi : i < n
            · obtain ⟨x, hlx⟩ : ∃ x, l[i]? = some x := ⟨_, List.getElem?_eq_getElem (by rw [HN.out]; exact hi)⟩
              have HAR : Hid (Exs wr (Under B) (.slice A n c) l) := Lib.hid (HA.out.keep (fun _ h => h) fun b hb => HQ.out.below.block b (Nat.lt_of_lt_of_le hb hB))
              obtain ⟨b, off, rfl, hb, hat⟩ := HAR.out.get hlx
              obtain ⟨v3, f0, f1, f2, exk⟩ := (exAt_iff x b _).1 hat
              obtain ⟨A3, c3, rfl, _⟩ := id exk
              have hl3 := cell_lt f0
              have HX := Lib.hid hlx
              have HXS : Hid (sizeE x ≤ 2000000) := Lib.hid (by have h1 := size_mem (List.mem_of_getElem? hlx); have h2 := HSZ.out; simp only [sizeE] at h2; omega)
              have HEK := Lib.hid exk
              obtain ⟨g, rfl⟩ : ∃ g, gk = g + 1 := ⟨gk - 1, by omega⟩
              clear exk hlx hat hb
              go_upto_region 9 with fail
              have HBB : Hid (Below wr.heap.size wr (wr.alloc (.cells #[.int .u8 (x.op : Int), .string x.name, .slice A3 x.kids.length c3] 24))) := Lib.hid ((Below.refl _ _).alloc (Nat.le_refl _) _)
              have HBX : Hid ((wr.alloc (.cells #[.int .u8 (x.op : Int), .string x.name, .slice A3 x.kids.length c3] 24)).heap[wr.heap.size]? = some (.cells #[.int .u8 (x.op : Int), .string x.name, .slice A3 x.kids.length c3] 24)) := Lib.hid (heap_new _ _)
              have HSB : Hid (wr.heap.size < (wr.alloc (.cells #[.int .u8 (x.op : Int), .string x.name, .slice A3 x.kids.length c3] 24)).heap.size) := Lib.hid (by simp)
              generalize wr.alloc (.cells #[.int .u8 (x.op : Int), .string x.name, .slice A3 x.kids.length c3] 24) = wb at *
              have HQB := Lib.hid (HQ.out.keep HBB.out)
              have HCALL := Lib.hid (IH.out x (List.mem_of_getElem? HX.out) f t A3 _ c3 B wb.drew HXS.out ((HEK.out.keep (fun _ h => h) fun b hb => HBB.out.block b (Nat.lt_of_lt_of_le hb (Nat.le_trans hB HQ.out.below.size))).keep (fun _ h => h) fun _ _ => rfl) (Nat.le_trans hB HQB.out.below.size))
              clear f0 f1 f2 hl3 HEK
              have hob := HQB.out.out
              rw [HN.out] at hob
              obtain ⟨p0, p1, p2⟩ := three_cells hob
              obtain ⟨g0, g1, g2⟩ := three_cells HBX.out
              have m0 := cell_lt g0
              have m1 := cell_lt p0
              clear hob
              go_wp2_with fail
              go_region_law (first
                | ((with_reducible refine step_ren (v := .agg #[.int .u8 (x.op : Int), .string x.name, .slice A3 x.kids.length c3]) (f := f) (t := t) (x := renE f t x) (by kernel_rfl) (.tmp 46) (.tmp 47) (.tmp 48) rfl rfl rfl rfl HCALL.out ?_); intro A4 n4 c4 w2 hk2 hb2; have HB2 : Hid (Below wb.heap.size wb w2) := Lib.hid ((below_drewX wb).trans hb2); have HR2 := Lib.hid (HQB.out.keep HB2.out); have hob2 := HR2.out.out; rw [HN.out] at hob2; obtain ⟨q0, q1, q2⟩ := three_cells hob2; have k1 := cell_lt q0; obtain ⟨cur, hcur, hcsz, _⟩ := id HR2.out.row; rw [HN.out] at hcsz; obtain ⟨⟨yv0, y0⟩, ⟨yv1, y1⟩, yv2, y2⟩ := row_three hcur (i := i) (by omega); have z0 := frozen_of_row _ (w.heap.size + 3) (i * 3) _ _ hcur; have z1 := frozen_of_row _ (w.heap.size + 3) (i * 3 + 1) _ _ hcur; have z2 := frozen_of_row _ (w.heap.size + 3) (i * 3 + 2) _ _ hcur; have k2 := cell_lt y0; have HFIN := Lib.hid (HR2.out.next (by rw [HN.out]; exact hi) HX.out (hk2.keep (fun b hb => ⟨by have h1 : wb.heap.size ≤ b := hb.1; have := HSB.out; omega, hb.2⟩) fun _ _ => rfl)); clear hk2 hb2 hob2 hcur))
              all_goals
                go_wp2
                go_roundg g
                case measure => omega
                case rel => exact ⟨i + 1, by go_num, by omega, HFIN⟩
            · have hob := HQ.out.out
              rw [HN.out] at hob
              obtain ⟨q0, q1, q2⟩ := three_cells hob
              have k1 := cell_lt q0
              obtain ⟨z0, z1, z2⟩ := three_cells HQ.out.res
              have y0 := frozen_of_row _ (w.heap.size + 1) 0 _ _ HQ.out.res
              have y1 := frozen_of_row _ (w.heap.size + 1) 1 _ _ HQ.out.res
              have y2 := frozen_of_row _ (w.heap.size + 1) 2 _ _ HQ.out.res
              clear hob
              go_wp2
              have h9 := HQ.out.all (by rw [HN.out]; omega) (by rw [HN.out]; unfold maxLen; omega)
              rw [HN.out] at h9
              obtain ⟨x0, x1⟩ := ren_fin (e := .mk 110 s (renEs f t l)) HQ.out.below HQ.out.res h9
              have x0' : (((wr.setCell ⟨w.heap.size + 1, 0, none⟩ (.int .u8 110)).setCell ⟨w.heap.size + 1, 1, none⟩ (.string s)).setCell ⟨w.heap.size + 1, 2, none⟩ (.slice (some ⟨w.heap.size + 3, 0, none⟩) n n)).heap[w.heap.size + 1]? = some (.cells #[.int .u8 110, .string s, .slice (some ⟨w.heap.size + 3, 0, none⟩) n n] 24) := x0
              obtain ⟨v0, v1, v2⟩ := three_cells x0'
              refine bodyPost_ret (v := .agg #[.int .u8 110, .string s, .slice (some ⟨w.heap.size + 3, 0, none⟩) n n]) (by simp [results, Tryd.results22, go_sem, v0, v1, v2]) rfl ?_
              rw [HR.out]
              exact x1
    · have HR : Hid (renE f t (.mk o s l) = .mk o s (renEs f t l)) := Lib.hid (by rw [renE, if_neg (fun h => ho h.1)])
      have ho' : ¬ (o : Int) = 110 := by omega
      clear ho
      have H0 := Lib.hid (ren_start w (o : Int) s s (.slice A l.length c))
      have H4 := Lib.hid (ren_start w (o : Int) s s (.slice A l.length c))
      go_enter Tryd.func22, Tryd.ntmps22
      obtain ⟨b0, b1, b2⟩ := three_cells H0.out.2.1
      obtain ⟨r0, r1, r2⟩ := three_cells H0.out.2.2.1
      obtain ⟨o0, o1, o2⟩ := three_cells H0.out.2.2.2.1
      have t1 := frozen_of_row _ (w.heap.size + 2) 1 _ _ H0.out.2.2.2.1
      have hzl := cell_lt o0
      go_upto_region 4 with fail
      generalize ((w.alloc (.cells #[.int .u8 (o : Int), .string s, .slice A l.length c] 24)).alloc (.cells #[.int .u8 0, .string ⟨#[]⟩, .slice none 0 0] 24)).alloc (.cells #[.int .u8 (o : Int), .string s, .slice none 0 0] 24) = W4 at *
      clear b0 b1 b2 r0 r1 r2 o0 o1 o2 t1 hzl H0
      obtain ⟨b0, b1, b2⟩ := three_cells H4.out.2.1
      obtain ⟨o0, o1, o2⟩ := three_cells H4.out.2.2.2.1
      have hzl := cell_lt o0
      by_cases hk0 : l = []
      · subst hk0
        go_wp2
        go_loopg [38] 0 (fun g u wx => u = .int .i64 0 ∧ wx = W4)
        case atStart => exact ⟨rfl, rfl⟩
        case round =>
          obtain ⟨rfl, rfl⟩ := hrel
          obtain ⟨z0, z1, z2⟩ := three_cells H4.out.2.2.1
          have y0 := frozen_of_row _ (w.heap.size + 1) 0 _ _ H4.out.2.2.1
          have y1 := frozen_of_row _ (w.heap.size + 1) 1 _ _ H4.out.2.2.1
          have y2 := frozen_of_row _ (w.heap.size + 1) 2 _ _ H4.out.2.2.1
          go_wp2
          obtain ⟨x0, x1⟩ := ren_fin (e := .mk o s []) H4.out.1 H4.out.2.2.1 (exs_nil _ _)
          have x0' : (((wr.setCell ⟨w.heap.size + 1, 0, none⟩ (.int .u8 (o : Int))).setCell ⟨w.heap.size + 1, 1, none⟩ (.string s)).setCell ⟨w.heap.size + 1, 2, none⟩ (.slice none 0 0)).heap[w.heap.size + 1]? = some (.cells #[.int .u8 (o : Int), .string s, .slice none 0 0] 24) := x0
          obtain ⟨v0, v1, v2⟩ := three_cells x0'
          refine bodyPost_ret (v := .agg #[.int .u8 (o : Int), .string s, .slice none 0 0]) (by simp [results, Tryd.results22, go_sem, v0, v1, v2]) rfl ?_
          rw [HR.out]
          exact x1
      · have hn0 : 0 < l.length := List.length_pos_iff.2 hk0
        generalize hn : l.length = n at *
        have HN := Lib.hid hn
        clear hn hk0
        have HZ4 := Lib.hid H4.out.2.2.2.2
        obtain ⟨i0, hi, hz0, hz1, hz2⟩ := info_parts exprE_info
        go_upto_region 6 with (first
          | (at_make; refine wpList_make_full _ rfl _ _ 22 rfl (w.heap.size + 3) 24 i0 (.agg #[.int .u8 0, .string ⟨#[]⟩, .slice none 0 0]) 3 Tryd.underlying22 hi hz0 hz1 .i64 .i64 _ _ n rfl rfl rfl rfl (by rw [hz2]; omega) (by unfold maxLen; omega) (by rw [HZ4.out]; exact Nat.le_refl _) ?_; intro w1 hown hgrow; rw [HZ4.out] at hown; rw [HZ4.out]; have HGR : Hid (Below W4.heap.size W4 w1) := Lib.hid ((Below.refl W4.heap.size W4).grown hgrow (Nat.le_refl _) (fun j hj => by cases hj)); have HR5 := Lib.hid (RnAt.start (o := o) (s := s) (f := f) (t := t) HN.out H4.out.1 H4.out.2.2.1 H4.out.2.2.2.1 HZ4.out hown hgrow); have hbo : w1.heap[w.heap.size + 2]? = some (.cells #[.int .u8 (o : Int), .string s, .slice none 0 0] 24) := (HGR.out.block _ (by have := HZ4.out; omega)).trans H4.out.2.2.2.1; have HBX : Hid (w1.heap[w.heap.size]? = some (.cells #[.int .u8 (o : Int), .string s, .slice A n c] 24)) := Lib.hid ((HGR.out.block _ (by have := HZ4.out; omega)).trans H4.out.2.1); obtain ⟨u0, u1, u2⟩ := three_cells hbo; have t2 := frozen_of_row _ (w.heap.size + 2) 2 _ _ hbo; have hul := cell_lt u0; clear hown hgrow hbo b0 b1 b2 o0 o1 o2 hzl)
          | fail)
        have HB5 : Hid ((w1.setCell ⟨w.heap.size + 2, 2, none⟩ (.slice (some ⟨w.heap.size + 3, 0, none⟩) n n)).heap[w.heap.size]? = some (.cells #[.int .u8 (o : Int), .string s, .slice A n c] 24)) := Lib.hid ((Below.heap_setCell _ _ _ _ (by dsimp only; omega)).trans HBX.out)
        generalize w1.setCell ⟨w.heap.size + 2, 2, none⟩ (.slice (some ⟨w.heap.size + 3, 0, none⟩) n n) = W5 at *
        clear u0 u1 u2 t2 hul HGR HBX H4 HZ4 hi hz0 hz1 hz2
        obtain ⟨b0, b1, b2⟩ := three_cells HB5.out
        have hzl := cell_lt b0
        go_wp2
        clear b0 b1 b2 hzl HB5
        go_loopg [38] n (fun g u wx => ∃ i : Nat, u = .int .i64 i ∧ i + g = n ∧ Hid (RnAt w wx o s f t l i))
        case atStart => exact ⟨0, rfl, by omega, HR5⟩
        case round =>
          clear HR5
          obtain ⟨i, rfl, hig, HQ⟩ := hrel
          have hlow := HQ.out.low
          by_cases hi : i < n
          · obtain ⟨x, hlx⟩ : ∃ x, l[i]? = some x := ⟨_, List.getElem?_eq_getElem (by rw [HN.out]; exact hi)⟩
            have HAR : Hid (Exs wr (Under B) (.slice A n c) l) := Lib.hid (HA.out.keep (fun _ h => h) fun b hb => HQ.out.below.block b (Nat.lt_of_lt_of_le hb hB))
            obtain ⟨b, off, rfl, hb, hat⟩ := HAR.out.get hlx
            obtain ⟨v3, f0, f1, f2, exk⟩ := (exAt_iff x b _).1 hat
            obtain ⟨A3, c3, rfl, _⟩ := id exk
            have hl3 := cell_lt f0
            have HX := Lib.hid hlx
            have HXS : Hid (sizeE x ≤ 2000000) := Lib.hid (by have h1 := size_mem (List.mem_of_getElem? hlx); have h2 := HSZ.out; simp only [sizeE] at h2; omega)
            have HEK := Lib.hid exk
            obtain ⟨g, rfl⟩ : ∃ g, gk = g + 1 := ⟨gk - 1, by omega⟩
            clear exk hlx hat hb
            go_upto_region 9 with fail
            have HBB : Hid (Below wr.heap.size wr (wr.alloc (.cells #[.int .u8 (x.op : Int), .string x.name, .slice A3 x.kids.length c3] 24))) := Lib.hid ((Below.refl _ _).alloc (Nat.le_refl _) _)
            have HBX : Hid ((wr.alloc (.cells #[.int .u8 (x.op : Int), .string x.name, .slice A3 x.kids.length c3] 24)).heap[wr.heap.size]? = some (.cells #[.int .u8 (x.op : Int), .string x.name, .slice A3 x.kids.length c3] 24)) := Lib.hid (heap_new _ _)
            have HSB : Hid (wr.heap.size < (wr.alloc (.cells #[.int .u8 (x.op : Int), .string x.name, .slice A3 x.kids.length c3] 24)).heap.size) := Lib.hid (by simp)
            generalize wr.alloc (.cells #[.int .u8 (x.op : Int), .string x.name, .slice A3 x.kids.length c3] 24) = wb at *
            have HQB := Lib.hid (HQ.out.keep HBB.out)
            have HCALL := Lib.hid (IH.out x (List.mem_of_getElem? HX.out) f t A3 _ c3 B wb.drew HXS.out ((HEK.out.keep (fun _ h => h) fun b hb => HBB.out.block b (Nat.lt_of_lt_of_le hb (Nat.le_trans hB HQ.out.below.size))).keep (fun _ h => h) fun _ _ => rfl) (Nat.le_trans hB HQB.out.below.size))
            clear f0 f1 f2 hl3 HEK
            have hob := HQB.out.out
            rw [HN.out] at hob
            obtain ⟨p0, p1, p2⟩ := three_cells hob
            obtain ⟨g0, g1, g2⟩ := three_cells HBX.out
            have m0 := cell_lt g0
            have m1 := cell_lt p0
            clear hob
            go_wp2_with fail
            go_region_law (first
              | ((with_reducible refine step_ren (v := .agg #[.int .u8 (x.op : Int), .string x.name, .slice A3 x.kids.length c3]) (f := f) (t := t) (x := renE f t x) (by kernel_rfl) (.tmp 46) (.tmp 47) (.tmp 48) rfl rfl rfl rfl HCALL.out ?_); intro A4 n4 c4 w2 hk2 hb2; have HB2 : Hid (Below wb.heap.size wb w2) := Lib.hid ((below_drewX wb).trans hb2); have HR2 := Lib.hid (HQB.out.keep HB2.out); have hob2 := HR2.out.out; rw [HN.out] at hob2; obtain ⟨q0, q1, q2⟩ := three_cells hob2; have k1 := cell_lt q0; obtain ⟨cur, hcur, hcsz, _⟩ := id HR2.out.row; rw [HN.out] at hcsz; obtain ⟨⟨yv0, y0⟩, ⟨yv1, y1⟩, yv2, y2⟩ := row_three hcur (i := i) (by omega); have z0 := frozen_of_row _ (w.heap.size + 3) (i * 3) _ _ hcur; have z1 := frozen_of_row _ (w.heap.size + 3) (i * 3 + 1) _ _ hcur; have z2 := frozen_of_row _ (w.heap.size + 3) (i * 3 + 2) _ _ hcur; have k2 := cell_lt y0; have HFIN := Lib.hid (HR2.out.next (by rw [HN.out]; exact hi) HX.out (hk2.keep (fun b hb => ⟨by have h1 : wb.heap.size ≤ b := hb.1; have := HSB.out; omega, hb.2⟩) fun _ _ => rfl)); clear hk2 hb2 hob2 hcur))
            all_goals
              go_wp2
              go_roundg g
              case measure => omega
              case rel => exact ⟨i + 1, by go_num, by omega, HFIN⟩
          · have hob := HQ.out.out
            rw [HN.out] at hob
            obtain ⟨q0, q1, q2⟩ := three_cells hob
            have k1 := cell_lt q0
            obtain ⟨z0, z1, z2⟩ := three_cells HQ.out.res
            have y0 := frozen_of_row _ (w.heap.size + 1) 0 _ _ HQ.out.res
            have y1 := frozen_of_row _ (w.heap.size + 1) 1 _ _ HQ.out.res
            have y2 := frozen_of_row _ (w.heap.size + 1) 2 _ _ HQ.out.res
            clear hob
            go_wp2
            have h9 := HQ.out.all (by rw [HN.out]; omega) (by rw [HN.out]; unfold maxLen; omega)
            rw [HN.out] at h9
            obtain ⟨x0, x1⟩ := ren_fin (e := .mk o s (renEs f t l)) HQ.out.below HQ.out.res h9
            have x0' : (((wr.setCell ⟨w.heap.size + 1, 0, none⟩ (.int .u8 (o : Int))).setCell ⟨w.heap.size + 1, 1, none⟩ (.string s)).setCell ⟨w.heap.size + 1, 2, none⟩ (.slice (some ⟨w.heap.size + 3, 0, none⟩) n n)).heap[w.heap.size + 1]? = some (.cells #[.int .u8 (o : Int), .string s, .slice (some ⟨w.heap.size + 3, 0, none⟩) n n] 24) := x0
            obtain ⟨v0, v1, v2⟩ := three_cells x0'
            refine bodyPost_ret (v := .agg #[.int .u8 (o : Int), .string s, .slice (some ⟨w.heap.size + 3, 0, none⟩) n n]) (by simp [results, Tryd.results22, go_sem, v0, v1, v2]) rfl ?_
            rw [HR.out]
            exact x1
end Go.Proofs.YtldmimekmjmkgaaDoor

namespace Go.Proofs.YtldmimekmjmkgaaDoor
open Go.RowKit Go.Sort Go.Maps Go.WideMaps

theorem lt_of_le_ne {a b : List UInt8} (h : a ≤ b) (hne : a ≠ b) : a < b := List.not_le.1 fun h' => hne (List.le_antisymm h h')
theorem compact_upto {zs : List (List UInt8)} (hs : ∀ i j, i ≤ j → j < zs.length → zs.toArray[i]! ≤ zs.toArray[j]!) : ∀ m, m ≤ zs.length →
    (∀ x, x ∈ Lib.compactUpTo zs.toArray m ↔ ∃ j, j < m ∧ zs.toArray[j]! = x) ∧ (Lib.compactUpTo zs.toArray m).Pairwise (· < ·)
  | 0, _ => ⟨fun x => ⟨fun h => by simp [Lib.compactUpTo] at h, fun ⟨j, h, _⟩ => absurd h (by omega)⟩, by simp [Lib.compactUpTo]⟩
  | m + 1, hm => by
    obtain ⟨h1, h2⟩ := compact_upto hs m (by omega)
    rw [Lib.compactUpTo_succ]
    by_cases hk : Lib.keeps zs.toArray m = true
    · rw [if_pos hk]
      refine ⟨fun x => ?_, ?_⟩
      · rw [List.mem_append, h1, List.mem_singleton]
        constructor
        · rintro (⟨j, hj, e⟩ | e)
          · exact ⟨j, by omega, e⟩
          · exact ⟨m, by omega, e.symm⟩
        · rintro ⟨j, hj, e⟩
          by_cases hjm : j < m
          · exact .inl ⟨j, hjm, e⟩
          · obtain rfl : j = m := by omega
            exact .inr e.symm
      · rw [List.pairwise_append]
        refine ⟨h2, by simp, fun x hx y hy => ?_⟩
        rw [List.mem_singleton] at hy
        subst hy
        obtain ⟨j, hj, rfl⟩ := (h1 x).1 hx
        have hk2 : m = 0 ∨ zs.toArray[m]! ≠ zs.toArray[m - 1]! := by simpa [Lib.keeps] using hk
        have h3 : zs.toArray[j]! ≤ zs.toArray[m - 1]! := hs j (m - 1) (by omega) (by omega)
        have h4 : zs.toArray[m - 1]! ≤ zs.toArray[m]! := hs (m - 1) m (by omega) (by omega)
        have h5 : zs.toArray[m]! ≠ zs.toArray[m - 1]! := hk2.resolve_left (by omega)
        refine lt_of_le_ne (List.le_trans h3 h4) fun e => h5 ?_
        exact List.le_antisymm (by rw [← e]; exact h3) h4
    · rw [if_neg hk, List.append_nil]
      refine ⟨fun x => ?_, h2⟩
      rw [h1]
      have hk2 : m ≠ 0 ∧ zs.toArray[m]! = zs.toArray[m - 1]! := by
        simp only [Lib.keeps, decide_eq_true_eq] at hk
        exact ⟨fun h => hk (.inl h), Classical.byContradiction fun h => hk (.inr h)⟩
      constructor
      · rintro ⟨j, hj, e⟩; exact ⟨j, by omega, e⟩
      · rintro ⟨j, hj, e⟩
        by_cases hjm : j < m
        · exact ⟨j, hjm, e⟩
        · obtain rfl : j = m := by omega
          exact ⟨j - 1, by omega, by rw [← hk2.2]; exact e⟩
theorem sorted_names (zs : List (List UInt8)) : (∀ x, x ∈ Lib.compact (zs.mergeSort fun x y => decide (x ≤ y)) ↔ x ∈ zs) ∧ (Lib.compact (zs.mergeSort fun x y => decide (x ≤ y))).Pairwise (· < ·) := by
  have hp : (zs.mergeSort fun x y => decide (x ≤ y)).Pairwise (fun x y => decide (x ≤ y) = true) := List.pairwise_mergeSort (fun a b c h1 h2 => by simp only [decide_eq_true_eq] at *; exact List.le_trans h1 h2) (fun a b => by simp only [Bool.or_eq_true, decide_eq_true_eq]; exact List.le_total a b) zs
  have hm : ∀ x, x ∈ (zs.mergeSort fun x y => decide (x ≤ y)) ↔ x ∈ zs := fun x => (List.mergeSort_perm zs _).mem_iff
  generalize (zs.mergeSort fun x y => decide (x ≤ y)) = ss at *
  have hs : ∀ i j, i ≤ j → j < ss.length → ss.toArray[i]! ≤ ss.toArray[j]! := by
    intro i j hij hj
    by_cases e : i = j
    · subst e; exact List.le_refl _
    · have := List.pairwise_iff_getElem.1 hp i j (by omega) hj (by omega)
      simp only [decide_eq_true_eq] at this
      simpa [getElem!_pos, hj, show i < ss.length by omega] using this
  obtain ⟨h1, h2⟩ := compact_upto hs ss.length (Nat.le_refl _)
  refine ⟨fun x => ?_, h2⟩
  unfold Lib.compact
  rw [h1, ← hm, List.mem_iff_getElem]
  constructor
  · rintro ⟨j, hj, e⟩; exact ⟨j, hj, by simpa [getElem!_pos, hj] using e⟩
  · rintro ⟨j, hj, e⟩; exact ⟨j, hj, by simpa [getElem!_pos, hj] using e⟩

theorem run_append_strsM {w : World} {base : Nat} {S : Nat → Prop} {v x : Value} {l l' : List ByteArray} (ty : TypeId) (hown : SRowE w base v l) (hsrc : Strs w S x l')
    (hn : l.length + l'.length ≤ 2000000) (hbase : base ≤ w.heap.size) :
    ∃ v' w', (Builtin.append_ #[25, 25] ty #[v, x]).run Tryd.prog w = .ok v' w' ∧ SRowE w' base v' (l ++ l') ∧ w.grownBy w' v.ownBlock ∧ (v'.ownBlock = v.ownBlock ∨ v'.ownBlock = some w.heap.size) := by
  obtain ⟨A, c, rfl, _, _, hsrc⟩ := hsrc
  obtain ⟨i, hi, hz0, hz1, hz2⟩ := info_parts strE_info
  cases A with
  | none =>
    have hl : l' = [] := by
      rcases hsrc with h | ⟨b, o, h, _⟩
      · exact h
      · cases h
    subst hl
    refine ⟨v, w, ?_, by simpa using hown, ⟨rfl, rfl, rfl, Nat.le_refl _, fun _ _ _ => rfl⟩, .inl rfl⟩
    rcases hown.2 with ⟨rfl, h0⟩ | ⟨g, cap, cur, rfl, _, _, hnc, _⟩
    · simp [Builtin.append_, run_underlying Tryd.underlying25, sizeOf, typeInfo, hi, Builtin.lenOf, Builtin.firstCells]
    · simp [Builtin.append_, run_underlying Tryd.underlying25, sizeOf, typeInfo, hi, Builtin.lenOf, Builtin.firstCells, hnc, storeCells]
  | some a =>
    have ha : ∀ j u, (l'.map Value.string)[j]? = some u → w.cell? (a.add j) = some u := by
      rcases hsrc with h | ⟨b, o, h, _, hx⟩
      · subst h; intro j u h; simp at h
      · injection h with h; subst h
        intro j u hj
        rw [List.getElem?_map] at hj
        cases hq : l'[j]? with
        | none => rw [hq] at hj; simp at hj
        | some s =>
          rw [hq] at hj
          simp only [Option.map_some, Option.some.injEq] at hj
          subst hj
          rw [add_cell]
          exact hx j s hq
    have hone : ∀ u ∈ l'.map Value.string, u.oneCell' = true := by
      intro u hu
      obtain ⟨t, _, ht⟩ := List.mem_map.1 hu
      subst ht; rfl
    obtain ⟨v', w', hr, h1, h2, _, h4⟩ := run_append_own_at (P := Tryd.prog) w base 25 ty 9 i _ 1 16 Tryd.underlying25 hi hz0 hz1 hz2 rfl (by omega) v l.length _ hown a l'.length c _ (by simp) ha hone (by unfold maxLen; omega) (by omega) hbase
    exact ⟨v', w', hr, by unfold SRowE; rw [List.length_append, List.map_append]; exact h1, h2, h4⟩
section
variable {w : World} {ops : Array Oper} {rest : List Oper} {o : Oper} {a : Act} {Q : Exit → Act → World → Prop}
theorem wpList_append_strsM (hgd : o.guard = none) (s x : Operand) (ho : o.op = .call { callee := .builtin .append, args := #[s, x], argTypes := #[25, 25] })
    (base : Nat) (S : Nat → Prop) (v u : Value) (l l' : List ByteArray) (hs : a.eval s = v) (hx : a.eval x = u) (hown : SRowE w base v l) (hsrc : Strs w S u l')
    (hn : l.length + l'.length ≤ 2000000) (hbase : base ≤ w.heap.size)
    (h : ∀ v' w', SRowE w' base v' (l ++ l') → w.grownBy w' v.ownBlock → (v'.ownBlock = v.ownBlock ∨ v'.ownBlock = some w.heap.size) → wpList Tryd.prog ops Q rest (a.put o.dst v') w') : wpList Tryd.prog ops Q (o :: rest) a w := by
  refine wpList_plain hgd fun _ hK => ?_
  obtain ⟨v', w', hr, h1, h2, h3⟩ := run_append_strsM o.type hown hsrc hn hbase
  unfold Oper.wp execOp
  simp only [ho, resolve, invoke, builtin, Sem.run_bind, Sem.run_pure, Result.andThen_ok, List.map_toArray, List.map_cons, List.map_nil, hs, hx, hr]
  exact hK _ _ (h v' w' h1 h2 h3)
end
theorem namesEs_app : ∀ (l m : List Ex), namesEs (l ++ m) = namesEs l ++ namesEs m
  | [], m => rfl
  | x :: l, m => by rw [List.cons_append, namesEs, namesEs_app l m, namesEs, List.append_assoc]
theorem namesEs_next {l : List Ex} {i : Nat} {x : Ex} (h : l[i]? = some x) : namesEs (l.take (i + 1)) = namesEs (l.take i) ++ namesE x := by
  rw [List.take_add_one, h]
  show namesEs (l.take i ++ [x]) = _
  rw [namesEs_app, namesEs, namesEs, List.append_nil]
theorem namesEs_le {l : List Ex} (i : Nat) : (namesEs (l.take i)).length ≤ (namesEs l).length := by
  have h := namesEs_app (l.take i) (l.drop i)
  rw [List.take_append_drop] at h
  rw [h, List.length_append]; omega

mutual
theorem names_weigh : ∀ e : Ex, (namesE e).length ≤ e.weigh
  | .mk o s l => by
    have := namesEs_weigh l
    unfold namesE Ex.weigh
    split
    · simp only [List.length_cons, List.length_nil]; omega
    · omega
theorem namesEs_weigh : ∀ l : List Ex, (namesEs l).length ≤ Ex.weighAll l
  | [] => Nat.le_refl _
  | x :: l => by
    have h1 := names_weigh x
    have h2 := namesEs_weigh l
    unfold namesEs Ex.weighAll
    rw [List.length_append]; omega
end
mutual
theorem names_few : ∀ e : Ex, (namesE e).length ≤ sizeE e
  | .mk o s l => by
    have := namesEs_few l
    unfold namesE sizeE
    split
    · simp only [List.length_cons, List.length_nil]; omega
    · omega
theorem namesEs_few : ∀ l : List Ex, (namesEs l).length ≤ sizeEs l
  | [] => Nat.le_refl _
  | x :: l => by
    have h1 := names_few x
    have h2 := namesEs_few l
    unfold namesEs sizeEs
    rw [List.length_append]; omega
end
def NPost (w : World) (base : Nat) (l : List ByteArray) (x : Ending) (w' : World) : Prop := ∃ v, x = .returned v ∧ SRowE w' base v l ∧ Below base w w'
def NSaid (e : Ex) : Prop := ∀ (A : Option Addr) (n c B base : Nat) (v : Value) (la : List ByteArray) (w : World), Exs w (Under B) (.slice A n c) e.kids → B ≤ base → base ≤ w.heap.size → SRowE w base v la → la.length + (namesE e).length ≤ 2000000 →
  Calls Tryd.prog 33 #[v, .agg #[.int .u8 (e.op : Int), .string e.name, .slice A n c]] w (NPost w base (la ++ namesE e))
set_option maxRecDepth 100000 in
set_option maxHeartbeats 4000000 in
theorem addNames_walk : ∀ e, NSaid e := by
  intro e
  induction e using Ex.induct_one with
  | h o s l ih =>
    intro A n c B base v la w hl hB hbase hrow hlen
    have IH := Lib.hid ih
    clear ih
    simp only [Ex.op, Ex.name, Ex.kids] at *
    have hlen' := hl.len
    obtain ⟨A', c', hv, hc, hm, _⟩ := id hl
    injection hv with hA hn hc'
    subst hA hn hc'
    unfold maxLen at hm
    have HA := Lib.hid hl
    have hn1 : (w.alloc (.cells #[.int .u8 (o : Int), .string s, .slice A l.length c] 24)).heap[w.heap.size]? = some (.cells #[.int .u8 (o : Int), .string s, .slice A l.length c] 24) := heap_new _ _
    have HB1 : Hid (Below w.heap.size w (w.alloc (.cells #[.int .u8 (o : Int), .string s, .slice A l.length c] 24))) := Lib.hid ((Below.refl _ _).alloc (Nat.le_refl _) _)
    have HR1 : Hid (SRowE (w.alloc (.cells #[.int .u8 (o : Int), .string s, .slice A l.length c] 24)) base v la) := Lib.hid (World.ownsRow.alloc hrow _)
    have HN1 := Lib.hid hn1
    have HBB : Hid (Below base w (w.alloc (.cells #[.int .u8 (o : Int), .string s, .slice A l.length c] 24))) := Lib.hid (HB1.out.mono hbase)
    clear hl hrow hn1
    by_cases ho : o = 110
    · subst ho
      have hne : namesE (.mk 110 s l) = [s] := by rw [namesE, if_pos rfl]
      rw [hne] at hlen ⊢
      have HLN := Lib.hid hlen
      clear hne hlen
      go_enter Tryd.func33, Tryd.ntmps33
      obtain ⟨d0, d1, d2⟩ := three_cells HN1.out
      have hzl := cell_lt d0
      go_wp2_with (first
        | (at_builtin; refine wpList_append_strsM rfl (.tmp 10) (.tmp 13) rfl base (Under ((w.alloc (.cells #[.int .u8 (110 : Nat), .string s, .slice A l.length c] 24)).heap.size + 1)) v (.slice (some ⟨w.heap.size + 1, 0, none⟩) 1 1) la [s] rfl rfl (World.ownsRow.alloc HR1.out _) (strs_one (heap_new' _ _ (by simp)) (by show _ < _; simp)) (by simpa using HLN.out) (by simp; omega) ?_; intro v5 w5 ho5 hg5 hb5
           have HO5 : Hid (SRowE w5 base v5 (la ++ [s])) := Lib.hid ho5
           have HB5 : Hid (Below base w w5) := Lib.hid (below_grown (HBB.out.alloc (by simp; omega) _) hg5 (fun k hk => (World.ownsRow.lt HR1.out k hk).1) (by simp; omega))
           clear ho5 hg5 hb5)
        | fail)
      go_ret
      exact ⟨_, rfl, HO5.out, HB5.out⟩
    · have hne : namesE (.mk o s l) = namesEs l := by rw [namesE, if_neg ho]
      rw [hne] at hlen ⊢
      have HLN := Lib.hid hlen
      have ho' : ¬ (o : Int) = 110 := by omega
      clear hne hlen
      go_enter Tryd.func33, Tryd.ntmps33
      obtain ⟨d0, d1, d2⟩ := three_cells HN1.out
      have hzl := cell_lt d0
      go_wp2
      generalize w.alloc (.cells #[.int .u8 (o : Int), .string s, .slice A l.length c] 24) = w1 at *
      clear d0 d1 d2
      have hw1 : w.heap.size ≤ w1.heap.size := HB1.out.size
      go_loopg [18, 0] l.length (fun g u vv wx => ∃ i : Nat, u = .int .i64 i ∧ i + g = l.length ∧ Hid (SRowE wx base vv (la ++ namesEs (l.take i))) ∧ Hid (Below base w wx))
      case atStart => exact ⟨0, rfl, by omega, Lib.hid (by rw [List.take_zero, namesEs, List.append_nil]; exact HR1.out), HBB⟩
      case round =>
        obtain ⟨i, rfl, hig, HR, HW⟩ := hrel
        by_cases hi : i < l.length
        · have hlx : l[i]? = some l[i] := List.getElem?_eq_getElem hi
          generalize hx : l[i] = x at *
          have HX := Lib.hid (namesEs_next hlx)
          have HXL := Lib.hid (namesEs_le (l := l) (i + 1))
          have HAR : Hid (Exs wr (Under B) (.slice A l.length c) l) := Lib.hid (HA.out.keep (fun _ h => h) fun b hb => HW.out.block b (Nat.lt_of_lt_of_le hb hB))
          obtain ⟨b, off, rfl, hb, hat⟩ := HAR.out.get hlx
          obtain ⟨v3, f0, f1, f2, exk⟩ := (exAt_iff x b _).1 hat
          obtain ⟨A3, c3, rfl, _⟩ := id exk
          have hl3 := cell_lt f0
          have HMEM := Lib.hid (List.mem_of_getElem? hlx)
          have HEK := Lib.hid exk
          obtain ⟨g, rfl⟩ : ∃ g, gk = g + 1 := ⟨gk - 1, by omega⟩
          clear exk hx hlx hat hb
          have hbw : base ≤ wr.heap.size := Nat.le_trans hbase HW.out.size
          go_wp2_with fail
          have HB2 : Hid (Below wr.heap.size wr (wr.alloc (.cells #[.int .u8 (x.op : Int), .string x.name, .slice A3 x.kids.length c3] 24))) := Lib.hid ((Below.refl _ _).alloc (Nat.le_refl _) _)
          refine (IH.out x HMEM.out A3 _ c3 B base _ _ _ (HEK.out.keep (fun _ h => h) fun k hk => HB2.out.block k (Nat.lt_of_lt_of_le hk (Nat.le_trans hB hbw))) hB (Nat.le_trans hbw HB2.out.size) (World.ownsRow.alloc HR.out _) (by have h1 := HXL.out; rw [HX.out, List.length_append] at h1; have h2 := HLN.out; rw [List.length_append]; omega)).mono ?_
          rintro e w3 ⟨v4, rfl, hr4, hb4⟩
          have HR4 : Hid (SRowE w3 base v4 (la ++ namesEs (l.take (i + 1)))) := Lib.hid (by rw [HX.out, ← List.append_assoc]; exact hr4)
          have HW4 : Hid (Below base w w3) := Lib.hid ((HW.out.trans (HB2.out.mono hbw)).trans hb4)
          clear hr4 hb4 f0 f1 f2 HEK
          go_wp2
          go_roundg g
          case measure => omega
          case rel => exact ⟨i + 1, by go_num, by omega, HR4, HW4⟩
        · have HE : Hid (l.take i = l) := Lib.hid (List.take_of_length_le (by omega))
          go_wp2
          go_ret
          exact ⟨_, rfl, by have h := HR.out; rw [HE.out] at h; exact h, HW.out⟩
end Go.Proofs.YtldmimekmjmkgaaDoor

namespace Go.Proofs.YtldmimekmjmkgaaDoor
open Go.RowKit Go.Sort Go.Maps Go.WideMaps

/-- The names: each once, in order. -/
def NamesOk (e : Ex) (L : List ByteArray) : Prop := (∀ s, s ∈ L ↔ s ∈ namesE e) ∧ L.Pairwise (fun a b => a.data.toList < b.data.toList)
def NmPost (w : World) (e : Ex) (x : Ending) (w' : World) : Prop := ∃ v L, x = .returned v ∧ SRowE w' w.heap.size v L ∧ Below w.heap.size w w' ∧ NamesOk e L
def bytesL (l : List (List UInt8)) : List ByteArray := l.map fun x => ⟨x.toArray⟩
theorem bytesL_string (l : List (List UInt8)) : (bytesL l).map Value.string = l.map Proofs.encStr := by
  unfold bytesL
  rw [List.map_map]
  rfl
def namesB (e : Ex) : List (List UInt8) := (namesE e).map fun s : ByteArray => s.data.toList
/-- From what the library's contracts leave. -/
theorem names_fin {w w1 : World} {e : Ex} {g cap nn q n : Nat} {os : Array Obj} (hown : w1.ownsRow w.heap.size 9 1 (.slice (some ⟨g, 0, none⟩) n cap) n ((namesB e).map Proofs.encStr)) (hbel : Below w.heap.size w w1) (hbg : w.heap.size ≤ g) (hlen : (namesB e).length = n) :
    NmPost w e (.returned (.slice (some ⟨g, 0, none⟩) (Lib.compact ((namesB e).mergeSort fun x y => decide (x ≤ y))).length cap))
      (putRow Proofs.encStr (Sort.ahead (grow (putRow Proofs.encStr (Sort.ahead w1 nn) g 0 ((namesB e).mergeSort fun x y => decide (x ≤ y)).toArray) os) q) g 0 (Lib.compact ((namesB e).mergeSort fun x y => decide (x ≤ y)) ++ List.replicate (n - (Lib.compact ((namesB e).mergeSort fun x y => decide (x ≤ y))).length) []).toArray) := by
  obtain ⟨hm, hp⟩ := sorted_names (namesB e)
  have hmem : ∀ s : ByteArray, s.data.toList ∈ namesB e ↔ s ∈ namesE e := fun s => by
    unfold namesB
    rw [List.mem_map]
    constructor
    · rintro ⟨t, ht, he⟩; rwa [← bytesE_of he]
    · exact fun h => ⟨s, h, rfl⟩
  generalize namesB e = ss at *
  have hl2 : (ss.mergeSort fun x y => decide (x ≤ y)).length = ss.length := List.length_mergeSort ss
  have hle := Lib.compact_length_le (ss.mergeSort fun x y => decide (x ≤ y))
  subst hlen
  rcases hown.2 with ⟨h0, _⟩ | ⟨g', cap', cur, hv, hbase, hb, h1, h2, h3, h4⟩
  · cases h0
  cases hv
  have hs := ownsRow_sorted (n := nn) (os := os) (ts := ss.mergeSort fun x y => decide (x ≤ y)) hl2 hbase hb h1 h2 h3
  have hc := Lib.ownsRow_putRow (q := q) (k := (Lib.compact (ss.mergeSort fun x y => decide (x ≤ y))).length) (ys := Lib.compact (ss.mergeSort fun x y => decide (x ≤ y)) ++ List.replicate (ss.length - (Lib.compact (ss.mergeSort fun x y => decide (x ≤ y))).length) []) hs (by simp; omega) (by omega)
  rw [List.take_left] at hc
  refine ⟨_, bytesL (Lib.compact (ss.mergeSort fun x y => decide (x ≤ y))), rfl, ?_, Lib.below_putRow (hbel.grown (grownBy_sorted _) hbel.size (fun j hj => by cases hj; exact hbase)) hbg, fun s => ?_, ?_⟩
  · unfold SRowE
    rw [bytesL_string, show (bytesL (Lib.compact (ss.mergeSort fun x y => decide (x ≤ y)))).length = (Lib.compact (ss.mergeSort fun x y => decide (x ≤ y))).length by simp [bytesL]]
    exact hc
  · rw [← hmem, ← hm]
    unfold bytesL
    rw [List.mem_map]
    constructor
    · rintro ⟨t, ht, rfl⟩; exact ht
    · exact fun h => ⟨_, h, rfl⟩
  · unfold bytesL
    rw [List.pairwise_map]
    exact hp

set_option maxRecDepth 100000 in
set_option maxHeartbeats 4000000 in
theorem names_any (e : Ex) (A : Option Addr) (n c : Nat) (w : World) (hl : Exs w (Under w.heap.size) (.slice A n c) e.kids) (hlen : (namesE e).length ≤ 2000000) :
    Calls Tryd.prog 19 #[.agg #[.int .u8 (e.op : Int), .string e.name, .slice A n c]] w (NmPost w e) := by
  have hn1 : (w.alloc (.cells #[.int .u8 (e.op : Int), .string e.name, .slice A n c] 24)).heap[w.heap.size]? = some (.cells #[.int .u8 (e.op : Int), .string e.name, .slice A n c] 24) := heap_new _ _
  have HN1 := Lib.hid hn1
  have HB1 : Hid (Below w.heap.size w (w.alloc (.cells #[.int .u8 (e.op : Int), .string e.name, .slice A n c] 24))) := Lib.hid ((Below.refl _ _).alloc (Nat.le_refl _) _)
  have HA := Lib.hid hl
  have HLN := Lib.hid hlen
  clear hl hn1 hlen
  go_enter Tryd.func19, Tryd.ntmps19
  obtain ⟨d0, d1, d2⟩ := three_cells HN1.out
  have hzl := cell_lt d0
  go_wp2_with fail
  generalize w.alloc (.cells #[.int .u8 (e.op : Int), .string e.name, .slice A n c] 24) = w1 at *
  refine (addNames_walk e A n c w.heap.size w.heap.size (.slice none 0 0) [] w1 (HA.out.keep (fun _ h => h) fun b hb => HB1.out.block b hb) (Nat.le_refl _) HB1.out.size (World.ownsRow_nil _ _ _ _) (by simpa using HLN.out)).mono ?_
  rintro x w2 ⟨v, rfl, hr2, hb2⟩
  rw [List.nil_append] at hr2
  have HB2 : Hid (Below w.heap.size w w2) := Lib.hid (HB1.out.trans hb2)
  clear hb2 d0 d1 d2 hzl
  by_cases hv : v = .slice none 0 0
  · subst hv
    have h0 : namesE e = [] := by
      rcases hr2.2 with ⟨_, h⟩ | ⟨g, cap, cur, hv, _⟩
      · exact List.eq_nil_of_length_eq_zero h
      · cases hv
    have H0 := Lib.hid h0
    clear hr2 h0
    have HC1 : Hid (∀ W, Calls Tryd.prog 34 #[.slice none 0 0] W fun x w' => x = .returned (.tuple #[]) ∧ w' = W) := Lib.hid fun W => Any.slices_Sort_string_none Tryd.laysSort none 0 W
    have HC2 : Hid (∀ W, Calls Tryd.prog 35 #[.slice none 0 0] W fun x w' => x = .returned (.slice none 0 0) ∧ w' = W) := Lib.hid fun W => Any.slices_Compact_string_empty Tryd.laysCompact none 0 W
    go_wp2_with fail
    refine (HC1.out _).mono ?_
    rintro x w3 ⟨rfl, rfl⟩
    go_wp2_with fail
    refine (HC2.out _).mono ?_
    rintro x w4 ⟨rfl, rfl⟩
    go_wp2
    go_ret
    exact ⟨_, [], rfl, World.ownsRow_nil _ _ _ _, HB2.out, fun s => by rw [H0.out], List.Pairwise.nil⟩
  · have hr3 : w2.ownsRow w.heap.size 9 1 v (namesE e).length ((namesB e).map Proofs.encStr) := by unfold namesB; rw [Lib.map_encStr]; exact hr2
    obtain ⟨g, cap, rfl, hbg, hgl, hncap, hcm, hlz, hH⟩ := Lib.holds_of_ownsRow hr3 hv
    have HOWN := Lib.hid hr3
    have HLZ := Lib.hid hlz
    have HH := Lib.hid hH
    have hN : (namesE e).length ≤ 2000000 := HLN.out
    generalize hNe : (namesE e).length = N at *
    have HNE := Lib.hid hNe
    have HFIN := Lib.hid (fun nn os q => names_fin (nn := nn) (os := os) (q := q) HOWN.out HB2.out hbg HLZ.out)
    generalize namesB e = ss at *
    have HS : Hid (Calls Tryd.prog 34 #[.slice (some ⟨g, 0, none⟩) N cap] w2 fun x w' => x = .returned (.tuple #[]) ∧ ∃ nn os, w' = grow (putRow Proofs.encStr (Sort.ahead w2 nn) g 0 (ss.mergeSort fun x y => decide (x ≤ y)).toArray) os) := Lib.hid (by
      have h := calls_of_every_depth fun D => AnyS.slices_Sort_string_alone Tryd.laysSort D g 0 cap ss w2 HH.out hgl (by rw [HLZ.out]; omega)
      rw [HLZ.out] at h
      exact h)
    have HC : Hid (∀ nn os, Calls Tryd.prog 35 #[.slice (some ⟨g, 0, none⟩) N cap] (grow (putRow Proofs.encStr (Sort.ahead w2 nn) g 0 (ss.mergeSort fun x y => decide (x ≤ y)).toArray) os) fun x w' => x = .returned (.slice (some ⟨g, 0, none⟩) (Lib.compact (ss.mergeSort fun x y => decide (x ≤ y))).length cap) ∧ ∃ q, w' = putRow Proofs.encStr (Sort.ahead (grow (putRow Proofs.encStr (Sort.ahead w2 nn) g 0 (ss.mergeSort fun x y => decide (x ≤ y)).toArray) os) q) g 0 (Lib.compact (ss.mergeSort fun x y => decide (x ≤ y)) ++ List.replicate (N - (Lib.compact (ss.mergeSort fun x y => decide (x ≤ y))).length) []).toArray) := Lib.hid (fun nn os => by
      have hl2 : (ss.mergeSort fun x y => decide (x ≤ y)).length = N := by rw [List.length_mergeSort]; exact HLZ.out
      have hH2 : Holds Proofs.encStr (grow (putRow Proofs.encStr (Sort.ahead w2 nn) g 0 (ss.mergeSort fun x y => decide (x ≤ y)).toArray) os) g 0 (ss.mergeSort fun x y => decide (x ≤ y)).toArray :=
        holds_grow Proofs.encStr _ os g 0 _ (by simpa [putRow, mapBlock, Sort.ahead] using hgl) (holds_putRow Proofs.encStr _ g 0 _ _ (holds_ahead Proofs.encStr w2 nn g 0 _ HH.out) (by simp))
      have h := Any.slices_Compact_string Tryd.laysCompact g 0 cap (ss.mergeSort fun x y => decide (x ≤ y)) _ hH2 (by omega) (by omega)
      rw [hl2] at h
      exact h)
    clear hr2 hr3 hv hlz hH hNe
    go_wp2_with fail
    refine HS.out.mono ?_
    rintro x w3 ⟨rfl, nn, os, rfl⟩
    go_wp2_with fail
    refine (HC.out nn os).mono ?_
    rintro x w4 ⟨rfl, q, rfl⟩
    go_wp2
    go_ret
    exact HFIN.out nn os q
end Go.Proofs.YtldmimekmjmkgaaDoor

namespace Go.Proofs.YtldmimekmjmkgaaDoor
open Go.RowKit Go.Sort Go.Maps Go.WideMaps

/-- A name in its place among names in order. -/
def insP (s : ByteArray) : List ByteArray → List ByteArray
  | [] => [s]
  | x :: l => if s.data.toList < x.data.toList then s :: x :: l else x :: insP s l
noncomputable def putP (l : List ByteArray) (s : ByteArray) : List ByteArray := @ite _ (s ∈ l) (Classical.propDecidable _) l (insP s l)
def anyB (s : ByteArray) (l : List ByteArray) : Bool := l.any fun x => decide (s.data.toList < x.data.toList)
theorem ins_mem (s : ByteArray) : ∀ (l : List ByteArray) (y : ByteArray), y ∈ insP s l ↔ y ∈ l ∨ y = s
  | [], y => by simp [insP]
  | x :: l, y => by
    rw [insP]
    split
    · simp only [List.mem_cons]
      constructor
      · rintro (h | h | h)
        · exact .inr h
        · exact .inl (.inl h)
        · exact .inl (.inr h)
      · rintro ((h | h) | h)
        · exact .inr (.inl h)
        · exact .inr (.inr h)
        · exact .inl h
    · rw [List.mem_cons, ins_mem s l y, List.mem_cons, or_assoc]
theorem put_mem (l : List ByteArray) (s y : ByteArray) : y ∈ putP l s ↔ y ∈ l ∨ y = s := by
  unfold putP
  split
  · rename_i h
    exact ⟨.inl, fun h1 => h1.elim id fun e => e ▸ h⟩
  · exact ins_mem s l y
abbrev Ord (l : List ByteArray) : Prop := l.Pairwise fun a b => a.data.toList < b.data.toList
theorem ins_ord {s : ByteArray} : ∀ {l : List ByteArray}, Ord l → s ∉ l → Ord (insP s l)
  | [], _, _ => by simp [insP]
  | x :: l, h, hs => by
    obtain ⟨h1, h2⟩ := List.pairwise_cons.1 h
    rw [insP]
    split
    · rename_i hlt
      refine List.pairwise_cons.2 ⟨fun y hy => ?_, h⟩
      rcases List.mem_cons.1 hy with rfl | hy
      · exact hlt
      · exact List.lt_trans hlt (h1 y hy)
    · rename_i hlt
      refine List.pairwise_cons.2 ⟨fun y hy => ?_, ins_ord h2 fun h => hs (List.mem_cons_of_mem _ h)⟩
      rcases (ins_mem s l y).1 hy with hy | rfl
      · exact h1 y hy
      · exact lt_of_le_ne (List.not_lt.1 hlt) fun e => hs (by rw [← bytesE_of e]; exact List.mem_cons_self ..)
theorem put_ord {s : ByteArray} {l : List ByteArray} (h : Ord l) : Ord (putP l s) := by
  unfold putP
  split
  · exact h
  · rename_i hs; exact ins_ord h hs
theorem ins_len (s : ByteArray) : ∀ l : List ByteArray, (insP s l).length = l.length + 1
  | [] => rfl
  | x :: l => by rw [insP]; split <;> simp [ins_len s l]
theorem put_len (l : List ByteArray) (s : ByteArray) : (putP l s).length ≤ l.length + 1 := by
  unfold putP
  split
  · omega
  · rw [ins_len]; exact Nat.le_refl _
theorem ins_done {s x : ByteArray} : ∀ {l : List ByteArray}, anyB s l = true → insP s (l ++ [x]) = insP s l ++ [x]
  | [], h => by simp [anyB] at h
  | y :: l, h => by
    rw [List.cons_append, insP, insP]
    by_cases hy : s.data.toList < y.data.toList
    · rw [if_pos hy, if_pos hy]; rfl
    · rw [if_neg hy, if_neg hy, List.cons_append, ins_done (l := l)]
      unfold anyB at h ⊢
      rw [List.any_cons, decide_eq_false hy, Bool.false_or] at h
      exact h
theorem ins_none {s : ByteArray} : ∀ {l : List ByteArray}, anyB s l = false → insP s l = l ++ [s]
  | [], _ => rfl
  | y :: l, h => by
    unfold anyB at h
    rw [List.any_cons, Bool.or_eq_false_iff] at h
    rw [insP, if_neg (of_decide_eq_false h.1), ins_none (l := l) h.2]; rfl
theorem ins_new {s x : ByteArray} : ∀ {l : List ByteArray}, anyB s l = false → s.data.toList < x.data.toList → insP s (l ++ [x]) = l ++ [s] ++ [x]
  | [], _, hx => by rw [List.nil_append, insP, if_pos hx]; rfl
  | y :: l, h, hx => by
    unfold anyB at h
    rw [List.any_cons, Bool.or_eq_false_iff] at h
    rw [List.cons_append, insP, if_neg (of_decide_eq_false h.1), ins_new (l := l) h.2 hx]; rfl
/-- Where Put's loop stands. -/
structure PutS (l : List ByteArray) (s : ByteArray) (i : Nat) (d : Bool) (outs : List ByteArray) : Prop where
  none : ∀ (j : Nat) y, j < i → l[j]? = some y → y ≠ s
  done : d = anyB s (l.take i)
  outs : outs = if d then insP s (l.take i) else l.take i
theorem PutS.start (l : List ByteArray) (s : ByteArray) : PutS l s 0 false [] := ⟨fun j y h => absurd h (by omega), rfl, by rw [List.take_zero]; rfl⟩
theorem any_end (s x : ByteArray) (l : List ByteArray) : anyB s (l ++ [x]) = (anyB s l || decide (s.data.toList < x.data.toList)) := by unfold anyB; rw [List.any_append]; simp
theorem PutS.none' {l : List ByteArray} {s : ByteArray} {i : Nat} {d : Bool} {outs : List ByteArray} (h : PutS l s i d outs) {x : ByteArray} (hx : l[i]? = some x) (hn : x ≠ s) : ∀ (j : Nat) y, j < i + 1 → l[j]? = some y → y ≠ s := by
  intro j y hj hy
  by_cases e : j = i
  · subst e
    rw [hx] at hy
    rw [← Option.some.inj hy]; exact hn
  · exact h.none j y (by omega) hy
theorem take_next {l : List ByteArray} {i : Nat} {x : ByteArray} (hx : l[i]? = some x) : l.take (i + 1) = l.take i ++ [x] := by rw [List.take_add_one, hx]; rfl
theorem PutS.keep {l : List ByteArray} {s : ByteArray} {i : Nat} {outs : List ByteArray} (h : PutS l s i true outs) {x : ByteArray} (hx : l[i]? = some x) (hn : x ≠ s) : PutS l s (i + 1) true (outs ++ [x]) := by
  have h1 := h.done
  refine ⟨h.none' hx hn, by rw [take_next hx, any_end, ← h1]; rfl, ?_⟩
  rw [h.outs, if_pos rfl, if_pos rfl, take_next hx, ins_done h1.symm]
theorem PutS.new {l : List ByteArray} {s : ByteArray} {i : Nat} {outs : List ByteArray} (h : PutS l s i false outs) {x : ByteArray} (hx : l[i]? = some x) (hn : x ≠ s) (hl : s.data.toList < x.data.toList) : PutS l s (i + 1) true (outs ++ [s] ++ [x]) := by
  have h1 := h.done
  refine ⟨h.none' hx hn, by rw [take_next hx, any_end, decide_eq_true hl, Bool.or_true], ?_⟩
  rw [h.outs, if_neg (by decide), if_pos rfl, take_next hx, ins_new h1.symm hl]
theorem PutS.pass {l : List ByteArray} {s : ByteArray} {i : Nat} {outs : List ByteArray} (h : PutS l s i false outs) {x : ByteArray} (hx : l[i]? = some x) (hn : x ≠ s) (hl : ¬ s.data.toList < x.data.toList) : PutS l s (i + 1) false (outs ++ [x]) := by
  have h1 := h.done
  refine ⟨h.none' hx hn, by rw [take_next hx, any_end, ← h1, decide_eq_false hl]; rfl, ?_⟩
  rw [h.outs, if_neg (by decide), if_neg (by decide), take_next hx]
theorem PutS.not {l : List ByteArray} {s : ByteArray} {i : Nat} {d : Bool} {outs : List ByteArray} (h : PutS l s i d outs) (hi : l.length ≤ i) : s ∉ l := by
  intro hm
  obtain ⟨j, hj⟩ := List.mem_iff_getElem?.1 hm
  exact h.none j s (by have := (List.getElem?_eq_some_iff.1 hj).1; omega) hj rfl
theorem PutS.fin1 {l : List ByteArray} {s : ByteArray} {i : Nat} {outs : List ByteArray} (h : PutS l s i true outs) (hi : l.length ≤ i) : putP l s = outs := by
  unfold putP
  rw [if_neg (h.not hi), h.outs, if_pos rfl, List.take_of_length_le hi]
theorem PutS.fin0 {l : List ByteArray} {s : ByteArray} {i : Nat} {outs : List ByteArray} (h : PutS l s i false outs) (hi : l.length ≤ i) : putP l s = outs ++ [s] := by
  have h1 := h.done
  rw [List.take_of_length_le hi] at h1
  unfold putP
  rw [if_neg (h.not hi), h.outs, if_neg (by decide), List.take_of_length_le hi, ins_none h1.symm]
theorem PutS.len {l : List ByteArray} {s : ByteArray} {i : Nat} {d : Bool} {outs : List ByteArray} (h : PutS l s i d outs) : outs.length ≤ i + 1 := by
  rw [h.outs]
  split
  · rw [ins_len, List.length_take]; omega
  · rw [List.length_take]; omega

def PutPost (w : World) (l : List ByteArray) (x : Ending) (w' : World) : Prop := ∃ v, x = .returned v ∧ Strs w' (Under w'.heap.size) v l ∧ Below w.heap.size w w'
theorem less_is (a b : ByteArray) : Op.bytesLess a.toList b.toList = decide (a.data.toList < b.data.toList) := by rw [bytesLess_eq, Lib.toList_data, Lib.toList_data]
theorem strIx {W : World} {S : Nat → Prop} {A : Option Addr} {n c : Nat} {l : List ByteArray} (h : Strs W S (.slice A n c) l) {i : Nat} {s : ByteArray} (hi : l[i]? = some s) : ∃ b o, A = some ⟨b, o, none⟩ ∧ W.cell? ⟨b, o + i, none⟩ = some (.string s) := by
  obtain ⟨A', c', hv, _, _, h⟩ := h
  injection hv with hA _ _
  subst hA
  rcases h with h | ⟨b, o, rfl, _, hx⟩
  · subst h; simp at hi
  · exact ⟨b, o, rfl, hx i s hi⟩
set_option maxRecDepth 100000 in
set_option maxHeartbeats 8000000 in
theorem rput_any (vl : Value) (l : List ByteArray) (s : ByteArray) (w : World) (hl : Strs w (Under w.heap.size) vl l) (hn : l.length ≤ 1100000) :
    Calls Tryd.prog 36 #[vl, .string s] w (PutPost w (putP l s)) := by
  obtain ⟨Al, cl, rfl, hcl, hcml, _⟩ := id hl
  unfold maxLen at hcml
  have HL := Lib.hid hl
  generalize hN : l.length = N at *
  have HN := Lib.hid hN
  clear hl hN
  go_enter Tryd.func36, Tryd.ntmps36
  go_wp2
  go_loopg [5, 6, 7] N (fun g v q u wx => ∃ (i : Nat) (d : Bool) (outs : List ByteArray) (Ak : Option Addr) (nk ck : Nat), v = .slice Ak nk ck ∧ q = .bool d ∧ u = .int .i64 i ∧ i + g = N ∧ Hid (PutS l s i d outs) ∧ Hid (SRowE wx w.heap.size (.slice Ak nk ck) outs) ∧ Hid (Below w.heap.size w wx))
  case atStart => exact ⟨0, false, [], none, 0, 0, rfl, rfl, rfl, by omega, Lib.hid (PutS.start _ _), Lib.hid (World.ownsRow_nil _ _ _ _), Lib.hid (Below.refl _ _)⟩
  case round =>
    obtain ⟨i, d, outs, Ak, nk, ck, rfl, rfl, rfl, hig, HS, HR, HB⟩ := hrel
    have HLN : Hid (outs.length + 1 ≤ 2000000) := Lib.hid (by have := HS.out.len; omega)
    have HLN2 : Hid ((outs ++ [s]).length + 1 ≤ 2000000) := Lib.hid (by have := HS.out.len; rw [List.length_append, List.length_cons, List.length_nil]; omega)
    by_cases hi : i < N
    · obtain ⟨x, hx⟩ : ∃ x, l[i]? = some x := ⟨_, List.getElem?_eq_getElem (by rw [HN.out]; exact hi)⟩
      have HX := Lib.hid hx
      have HLR : Hid (Strs wr (Under w.heap.size) (.slice Al N cl) l) := Lib.hid (HL.out.keep (fun _ h => h) fun b hb => HB.out.block b hb)
      obtain ⟨bl, ol, rfl, cx⟩ := strIx HLR.out hx
      have hlx := cell_lt cx
      clear hx
      obtain ⟨gg, rfl⟩ : ∃ g, gk = g + 1 := ⟨gk - 1, by omega⟩
      by_cases hxs : x = s
      · have hse : (x.toList == s.toList) = true := by rw [hxs]; simp
        have HQ : Hid (putP l s = l) := Lib.hid (by unfold putP; rw [if_pos (by rw [← hxs]; exact List.mem_of_getElem? HX.out)])
        clear hxs
        go_wp2
        go_ret
        exact ⟨_, rfl, by rw [HQ.out]; exact HLR.out.keep (fun b hb => Nat.lt_of_lt_of_le hb HB.out.size) (fun _ _ => rfl), HB.out⟩
      · have hse : (x.toList == s.toList) = false := by
          rw [beq_eq_false_iff_ne]; intro h; rw [Lib.toList_data, Lib.toList_data] at h; exact hxs (bytesE_of h)
        have HXS := Lib.hid hxs
        clear hxs
        cases d with
        | true =>
          have HSN := Lib.hid (HS.out.keep HX.out HXS.out)
          go_wp2_with (first
            | (at_builtin; refine wpList_append_strsM rfl (.tmp 35) (.tmp 40) rfl w.heap.size (Under ((wr.alloc (.cells #[.string x] 9)).heap.size)) (.slice Ak nk ck) (.slice (some ⟨wr.heap.size, 0, none⟩) 1 1) outs [x] rfl rfl (World.ownsRow.alloc HR.out _) (strs_one (heap_new _ _) (by show _ < _; simp)) HLN.out (by have := HB.out.size; simp; omega) ?_; intro v5 w5 ho5 hg5 hb5; obtain ⟨G5, n5, d5, rfl, _⟩ := strsN (SRowE.strs ho5); have HO5 := Lib.hid ho5; have HB5 := Lib.hid (srowB HB.out HR.out hg5); clear ho5 hg5 hb5)
            | fail)
          go_roundg gg
          case measure => omega
          case rel => exact ⟨i + 1, true, _, G5, n5, d5, rfl, rfl, by go_num, by omega, HSN, HO5, HB5⟩
        | false =>
          by_cases hlt : s.data.toList < x.data.toList
          · have hls : Op.bytesLess s.toList x.toList = true := by rw [less_is]; exact decide_eq_true hlt
            have HSN := Lib.hid (HS.out.new HX.out HXS.out hlt)
            clear hlt
            go_wp2_with (first
              | (at_builtin; refine wpList_append_strsM rfl (.tmp 31) (.tmp 33) rfl w.heap.size (Under ((wr.alloc (.cells #[.string s] 9)).heap.size)) (.slice Ak nk ck) (.slice (some ⟨wr.heap.size, 0, none⟩) 1 1) outs [s] rfl rfl (World.ownsRow.alloc HR.out _) (strs_one (heap_new _ _) (by show _ < _; simp)) HLN.out (by have := HB.out.size; simp; omega) ?_; intro v5 w5 ho5 hg5 hb5; obtain ⟨G5, n5, d5, rfl, _⟩ := strsN (SRowE.strs ho5); have HO5 := Lib.hid ho5; have HB5 := Lib.hid (srowB HB.out HR.out hg5); have cx5 : w5.cell? ⟨bl, ol + i, none⟩ = some (.string x) := by { have hlr5 : Strs w5 (Under w.heap.size) (.slice (some ⟨bl, ol, none⟩) N cl) l := HL.out.keep (fun _ h => h) fun b hb => HB5.out.block b hb; obtain ⟨b9, o9, h9, h10⟩ := strIx hlr5 HX.out; injection h9 with h9; injection h9 with h9 h11 _; subst h9 h11; exact h10 }; have hlx5 := cell_lt cx5; clear ho5 hg5 hb5)
              | (at_builtin; refine wpList_append_strsM rfl (.tmp 35) (.tmp 40) rfl w.heap.size (Under ((w5.alloc (.cells #[.string x] 9)).heap.size)) (.slice G5 n5 d5) (.slice (some ⟨w5.heap.size, 0, none⟩) 1 1) (outs ++ [s]) [x] rfl rfl (World.ownsRow.alloc HO5.out _) (strs_one (heap_new _ _) (by show _ < _; simp)) HLN2.out (by have := HB5.out.size; simp; omega) ?_; intro v6 w6 ho6 hg6 hb6; obtain ⟨G6, n6, d6, rfl, _⟩ := strsN (SRowE.strs ho6); have HO6 := Lib.hid ho6; have HB6 := Lib.hid (srowB HB5.out HO5.out hg6); clear ho6 hg6 hb6)
              | fail)
            go_roundg gg
            case measure => omega
            case rel => exact ⟨i + 1, true, _, G6, n6, d6, rfl, rfl, by go_num, by omega, HSN, HO6, HB6⟩
          · have hls : Op.bytesLess s.toList x.toList = false := by rw [less_is]; exact decide_eq_false hlt
            have HSN := Lib.hid (HS.out.pass HX.out HXS.out hlt)
            clear hlt
            go_wp2_with (first
              | (at_builtin; refine wpList_append_strsM rfl (.tmp 35) (.tmp 40) rfl w.heap.size (Under ((wr.alloc (.cells #[.string x] 9)).heap.size)) (.slice Ak nk ck) (.slice (some ⟨wr.heap.size, 0, none⟩) 1 1) outs [x] rfl rfl (World.ownsRow.alloc HR.out _) (strs_one (heap_new _ _) (by show _ < _; simp)) HLN.out (by have := HB.out.size; simp; omega) ?_; intro v5 w5 ho5 hg5 hb5; obtain ⟨G5, n5, d5, rfl, _⟩ := strsN (SRowE.strs ho5); have HO5 := Lib.hid ho5; have HB5 := Lib.hid (srowB HB.out HR.out hg5); clear ho5 hg5 hb5)
              | fail)
            go_roundg gg
            case measure => omega
            case rel => exact ⟨i + 1, false, _, G5, n5, d5, rfl, rfl, by go_num, by omega, HSN, HO5, HB5⟩
    · cases d with
      | true =>
        have HQ := Lib.hid (HS.out.fin1 (by rw [HN.out]; omega))
        go_wp2
        go_ret
        exact ⟨_, rfl, by rw [HQ.out]; exact HR.out.strs, HB.out⟩
      | false =>
        have HQ := Lib.hid (HS.out.fin0 (by rw [HN.out]; omega))
        go_wp2_with (first
          | (at_builtin; refine wpList_append_strsM rfl (.tmp 44) (.tmp 46) rfl w.heap.size (Under ((wr.alloc (.cells #[.string s] 9)).heap.size)) (.slice Ak nk ck) (.slice (some ⟨wr.heap.size, 0, none⟩) 1 1) outs [s] rfl rfl (World.ownsRow.alloc HR.out _) (strs_one (heap_new _ _) (by show _ < _; simp)) HLN.out (by have := HB.out.size; simp; omega) ?_; intro v5 w5 ho5 hg5 hb5; obtain ⟨G5, n5, d5, rfl, _⟩ := strsN (SRowE.strs ho5); have HO5 := Lib.hid ho5; have HB5 := Lib.hid (srowB HB.out HR.out hg5); clear ho5 hg5 hb5)
          | fail)
        go_ret
        exact ⟨_, rfl, by rw [HQ.out]; exact HO5.out.strs, HB5.out⟩

/-- Names so far: those of ns, each once, in order. -/
structure NsOk (ns R : List ByteArray) : Prop where
  mem : ∀ s, s ∈ R ↔ s ∈ ns
  ord : Ord R
  len : R.length ≤ ns.length
theorem NsOk.put {ns R : List ByteArray} (h : NsOk ns R) (s : ByteArray) : NsOk (ns ++ [s]) (putP R s) :=
  ⟨fun y => by rw [put_mem, h.mem, List.mem_append, List.mem_singleton], put_ord h.ord, by have h1 := put_len R s; have h2 := h.len; rw [List.length_append, List.length_cons, List.length_nil]; omega⟩
theorem NsOk.start : NsOk [] [] := ⟨fun _ => Iff.rfl, List.Pairwise.nil, Nat.le_refl _⟩
def RNPost (w : World) (e : Ex) (x : Ending) (w' : World) : Prop := ∃ v L, x = .returned v ∧ Strs w' (Under w'.heap.size) v L ∧ NsOk (namesE e) L ∧ Below w.heap.size w w'
def RNm (e : Ex) : Prop := ∀ (A : Option Addr) (n c B : Nat) (w : World), Exs w (Under B) (.slice A n c) e.kids → B ≤ w.heap.size → (namesE e).length ≤ 1050000 →
  Calls Tryd.prog 20 #[.agg #[.int .u8 (e.op : Int), .string e.name, .slice A n c]] w (RNPost w e)
theorem NsOk.kid {l : List Ex} {i : Nat} {x : Ex} (hx : l[i]? = some x) {K R : List ByteArray} (hK : NsOk (namesE x) K) (h : NsOk (namesEs (l.take i) ++ K) R) : NsOk (namesEs (l.take (i + 1))) R := by
  rw [namesEs_next hx]
  refine ⟨fun s => by rw [h.mem, List.mem_append, List.mem_append, hK.mem], h.ord, ?_⟩
  have h1 := h.len
  have h2 := hK.len
  rw [List.length_append] at h1 ⊢; omega
set_option maxRecDepth 100000 in
set_option maxHeartbeats 8000000 in
theorem rnames_walk : ∀ e, RNm e := by
  intro e
  induction e using Ex.induct_one with
  | h o s l ih =>
    intro A n c B w hl hB hlen
    have IH := Lib.hid ih
    clear ih
    simp only [Ex.op, Ex.name, Ex.kids] at *
    have hlen' := hl.len
    obtain ⟨A', c', hv, hc, hm, _⟩ := id hl
    injection hv with hA hn hc'
    subst hA hn hc'
    unfold maxLen at hm
    have HA := Lib.hid hl
    have HB1 : Hid (Below w.heap.size w (w.alloc (.cells #[.int .u8 (o : Int), .string s, .slice A l.length c] 30))) := Lib.hid ((Below.refl _ _).alloc (Nat.le_refl _) _)
    have HN1 : Hid ((w.alloc (.cells #[.int .u8 (o : Int), .string s, .slice A l.length c] 30)).heap[w.heap.size]? = some (.cells #[.int .u8 (o : Int), .string s, .slice A l.length c] 30)) := Lib.hid (heap_new _ _)
    have hz1 : (w.alloc (.cells #[.int .u8 (o : Int), .string s, .slice A l.length c] 30)).heap.size = w.heap.size + 1 := by simp
    clear hl
    by_cases ho : o = 110
    · have e1 : ((o : Int) == 110) = true := by simp [ho]
      have HOK : Hid (NsOk (namesE (.mk o s l)) [s]) := Lib.hid (by rw [namesE, if_pos ho]; exact ⟨fun _ => Iff.rfl, by simp, Nat.le_refl _⟩)
      have HST : Hid (Strs ((w.alloc (.cells #[.int .u8 (o : Int), .string s, .slice A l.length c] 30)).alloc (.cells #[.string s] 9)) (Under ((w.alloc (.cells #[.int .u8 (o : Int), .string s, .slice A l.length c] 30)).alloc (.cells #[.string s] 9)).heap.size) (.slice (some ⟨w.heap.size + 1, 0, none⟩) 1 1) [s]) := Lib.hid (strs_one (heap_new' _ _ hz1) (by show _ < _; simp))
      have HB2 : Hid (Below w.heap.size w ((w.alloc (.cells #[.int .u8 (o : Int), .string s, .slice A l.length c] 30)).alloc (.cells #[.string s] 9))) := Lib.hid (HB1.out.alloc HB1.out.size _)
      clear ho hz1 hlen
      go_enter Tryd.func20, Tryd.ntmps20
      go_wp2
      go_ret
      exact ⟨_, [s], rfl, HST.out, HOK.out, HB2.out⟩
    · have e1 : ((o : Int) == 110) = false := by simp; omega
      have HNE : Hid (namesE (.mk o s l) = namesEs l) := Lib.hid (by rw [namesE, if_neg ho])
      have HLE : Hid ((namesEs l).length ≤ 1050000) := Lib.hid (by rw [← HNE.out]; exact hlen)
      clear ho hlen
      go_enter Tryd.func20, Tryd.ntmps20
      go_wp2
      generalize w.alloc (.cells #[.int .u8 (o : Int), .string s, .slice A l.length c] 30) = w1 at *
      go_loopg [3, 4, 5, 6] l.length (fun g v u y z wx => ∃ (i : Nat) (R : List ByteArray), u = .int .i64 i ∧ i + g = l.length ∧ Hid (Below w1.heap.size w1 wx) ∧ Hid (Strs wx (Under wx.heap.size) v R) ∧ Hid (NsOk (namesEs (l.take i)) R))
      case atStart => exact ⟨0, [], rfl, by omega, Lib.hid (Below.refl _ _), Lib.hid ⟨none, 0, rfl, Nat.le_refl _, by unfold maxLen; omega, .inl rfl⟩, Lib.hid (by rw [List.take_zero]; exact NsOk.start)⟩
      case round =>
        obtain ⟨i, R, rfl, hig, HR, HV, HE⟩ := hrel
        have HBX : Hid (wr.heap[w.heap.size]? = some (.cells #[.int .u8 (o : Nat), .string s, .slice A l.length c] 30)) := Lib.hid ((HR.out.block _ (by omega)).trans HN1.out)
        obtain ⟨d0, d1, d2⟩ := three_cells HBX.out
        have hzd := cell_lt d0
        by_cases hi : i < l.length
        · have hlx : l[i]? = some l[i] := List.getElem?_eq_getElem hi
          generalize hx : l[i] = x at *
          have HAR : Hid (Exs wr (Under B) (.slice A l.length c) l) := Lib.hid (HA.out.keep (fun _ h => h) fun b hb => (HR.out.block b (by have : b < B := hb; omega)).trans (HB1.out.block b (Nat.lt_of_lt_of_le hb hB)))
          obtain ⟨b, off, rfl, hb, hat⟩ := HAR.out.get hlx
          obtain ⟨v3, f0, f1, f2, exk⟩ := (exAt_iff x b _).1 hat
          obtain ⟨A3, c3, rfl, _⟩ := id exk
          have hl3 := cell_lt f0
          have HX := Lib.hid hlx
          have HMEM := Lib.hid (List.mem_of_getElem? hlx)
          have HEK := Lib.hid exk
          have HXL : Hid ((namesEs (l.take i)).length + (namesE x).length ≤ 1050000) := Lib.hid (by have h1 := namesEs_le (l := l) (i + 1); rw [namesEs_next hlx, List.length_append] at h1; have := HLE.out; omega)
          obtain ⟨gg, rfl⟩ : ∃ g, gk = g + 1 := ⟨gk - 1, by omega⟩
          clear exk hx hlx hat hb
          go_wp2_with fail
          refine (IH.out x HMEM.out A3 _ c3 B _ HEK.out (by have := HR.out.size; omega) (by have := HXL.out; omega)).mono ?_
          rintro e w3 ⟨vK, K, rfl, hvK, hK, hb3⟩
          obtain ⟨AK, cK, rfl, hcK, hcmK, _⟩ := id hvK
          unfold maxLen at hcmK
          have HR3 : Hid (Below w1.heap.size w1 w3) := Lib.hid (belowNext HR.out hb3)
          have HV3 : Hid (Strs w3 (Under w3.heap.size) _ R) := Lib.hid (HV.out.keep (fun b hb => Nat.lt_of_lt_of_le hb hb3.size) fun b hb => hb3.block b hb)
          have HVK := Lib.hid hvK
          have HKO := Lib.hid hK
          generalize hNK : K.length = NK at *
          have HNK := Lib.hid hNK
          clear hb3 hvK hK hNK f0 f1 f2 HEK d0 d1 d2 hzd HV HBX
          go_wp2
          go_loopg [3, 6] NK (fun h v z wx => ∃ (k : Nat) (Q : List ByteArray), z = .int .i64 k ∧ k + h = NK ∧ Hid (Below w3.heap.size w3 wx) ∧ Hid (Strs wx (Under wx.heap.size) v Q) ∧ Hid (NsOk (namesEs (l.take i) ++ K.take k) Q))
          case atStart => exact ⟨0, R, rfl, by omega, Lib.hid (Below.refl _ _), HV3, Lib.hid (by rw [List.take_zero, List.append_nil]; exact HE.out)⟩
          case round =>
            obtain ⟨k, Q, rfl, hkg, HRI, HVI, HEI⟩ := hrel
            by_cases hk : k < NK
            · obtain ⟨y, hy⟩ : ∃ y, K[k]? = some y := ⟨_, List.getElem?_eq_getElem (by rw [HNK.out]; exact hk)⟩
              have HKR := HVK.out.keep (w' := wr) (fun b hb => (show b < w3.heap.size from hb)) fun b hb => HRI.out.block b hb
              obtain ⟨bk, ok, rfl, cy⟩ := strIx HKR hy
              have hly := cell_lt cy
              have HYN : Hid (K.take (k + 1) = K.take k ++ [y]) := Lib.hid (take_next hy)
              have HQL : Hid (Q.length ≤ 1100000) := Lib.hid (by have h1 := HEI.out.len; have h2 := HKO.out.len; have h3 := HXL.out; have h4 := HNK.out; rw [List.length_append, List.length_take] at h1; omega)
              obtain ⟨hh, rfl⟩ : ∃ g, gk = g + 1 := ⟨gk - 1, by omega⟩
              clear hy HKR
              go_wp2_with fail
              refine (rput_any _ Q y wr HVI.out HQL.out).mono ?_
              rintro e w5 ⟨v5, rfl, hv5, hb5⟩
              have HR5 : Hid (Below w3.heap.size w3 w5) := Lib.hid (belowNext HRI.out hb5)
              have HV5 := Lib.hid hv5
              have HE5 : Hid (NsOk (namesEs (l.take i) ++ K.take (k + 1)) (putP Q y)) := Lib.hid (by rw [HYN.out, ← List.append_assoc]; exact HEI.out.put y)
              clear hb5 hv5
              go_wp2
              go_roundg hh
              case measure => omega
              case rel => exact ⟨k + 1, _, by go_num, by omega, HR5, HV5, HE5⟩
            · have HT : Hid (K.take k = K) := Lib.hid (List.take_of_length_le (by rw [HNK.out]; omega))
              have HE9 : Hid (NsOk (namesEs (l.take (i + 1))) Q) := Lib.hid (NsOk.kid HX.out HKO.out (by have h := HEI.out; rw [HT.out] at h; exact h))
              have HR9 : Hid (Below w1.heap.size w1 wr) := Lib.hid (belowNext HR3.out HRI.out)
              go_wp2
              go_roundg gg
              case measure => omega
              case rel => exact ⟨i + 1, Q, by go_num, by omega, HR9, HVI, HE9⟩
        · have HT : Hid (l.take i = l) := Lib.hid (List.take_of_length_le (by omega))
          go_wp2
          go_ret
          exact ⟨_, R, rfl, HV.out, by have h := HE.out; rw [HT.out] at h; rw [HNE.out]; exact h, HB1.out.trans (HR.out.mono (by omega))⟩
/-- Two rows in order with the same names are one. -/
theorem ord_same : ∀ {L M : List ByteArray}, Ord L → Ord M → (∀ s, s ∈ L ↔ s ∈ M) → L = M
  | [], [], _, _, _ => rfl
  | [], y :: M, _, _, h => absurd ((h y).2 (List.mem_cons_self ..)) (by simp)
  | x :: L, [], _, _, h => absurd ((h x).1 (List.mem_cons_self ..)) (by simp)
  | x :: L, y :: M, hL, hM, h => by
    obtain ⟨h1, h2⟩ := List.pairwise_cons.1 hL
    obtain ⟨h3, h4⟩ := List.pairwise_cons.1 hM
    have hxy : x = y := by
      rcases List.mem_cons.1 ((h x).1 (List.mem_cons_self ..)) with e | e
      · exact e
      · rcases List.mem_cons.1 ((h y).2 (List.mem_cons_self ..)) with e2 | e2
        · exact e2.symm
        · exact absurd (List.lt_trans (h3 x e) (h1 y e2)) (List.lt_irrefl _)
    subst hxy
    rw [ord_same h2 h4 fun s => ?_]
    constructor
    · intro hs
      rcases List.mem_cons.1 ((h s).1 (List.mem_cons_of_mem _ hs)) with e | e
      · subst e; exact absurd (h1 s hs) (List.lt_irrefl _)
      · exact e
    · intro hs
      rcases List.mem_cons.1 ((h s).2 (List.mem_cons_of_mem _ hs)) with e | e
      · subst e; exact absurd (h3 s hs) (List.lt_irrefl _)
      · exact e
end Go.Proofs.YtldmimekmjmkgaaDoor
