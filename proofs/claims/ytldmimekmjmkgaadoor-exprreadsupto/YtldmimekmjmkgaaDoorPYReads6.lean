/-
  ExprReads: the laws of its calls, and what is held while its last statement is walked.
  ExprReads walked: whatever expression, names and row are handed in, it answers true.
  ExprReads: whatever is handed in, the call answers true, and it reads behind it as it read before. The arguments hold together at most 1048576 values and letters. The library's table of math/bits is as the program's text lays it (the card ties it).
-/
import Derived.Test.YtldmimekmjmkgaaDoorMF
import Derived.Test.YtldmimekmjmkgaaDoorMG
import Derived.Test.YtldmimekmjmkgaaDoorME
import Derived.Deep.RegionHeld3
import Derived.Test.YtldmimekmjmkgaaDoorLaidE
import Derived.Carry
import Derived.ChangeMaps5
namespace Go.Proofs.YtldmimekmjmkgaaDoor
open Go.RowKit Go.Sort Go.Maps Go.WideMaps

section
variable {w : World} {ops : Array Oper} {o : Oper} {a : Act} {K : Act → World → Prop} {Q : Exit → Act → World → Prop} {E : Prop}
theorem sr_right {r : Bool} {v : Value} (hw : Region.wanted o (yielded ops a.tmps) = true) (p : Operand) (ho : o.op = .call { callee := .value (.func 16), args := #[p], argTypes := #[24] })
    (hp : a.eval p = v) (hC : Calls Tryd.prog 16 #[v] w fun e' w' => e' = .returned (.bool r) ∧ Below w.heap.size w w')
    (h : ∀ w', Below w.heap.size w w' → K (a.put o.dst (.bool r)) w') : if Region.wanted o (yielded ops a.tmps) = true then Oper.wp Tryd.prog o a w K Q else E := by
  rw [if_pos hw]
  have hrun : (execOp a.eval o).run Tryd.prog w = .ok (.enter 16 #[v]) w := by
    have hf : a.eval (.func 16) = .func (.func 16) #[] #[] := rfl
    obtain ⟨c, hc⟩ : ∃ c, Tryd.f16.body = some c := Option.isSome_iff_exists.1 (by kernel_rfl)
    have hne : ¬ Tryd.f16.name = "runtime.NumGoroutine" := of_decide_eq_false (by kernel_rfl)
    simp [execOp, ho, resolve, invoke, hp, hf, Deferred.ofValue, callFunc, hne, hc]
  unfold Oper.wp
  rw [hrun, Oper.upon_enter]
  refine hC.mono fun e w'' hh => ?_
  obtain ⟨rfl, h1⟩ := hh
  exact h w'' h1
theorem sr_rright {r : Bool} {v : Value} (hw : Region.wanted o (yielded ops a.tmps) = true) (p : Operand) (ho : o.op = .call { callee := .value (.func 17), args := #[p], argTypes := #[30] })
    (hp : a.eval p = v) (hC : Calls Tryd.prog 17 #[v] w fun e' w' => e' = .returned (.bool r) ∧ Below w.heap.size w w')
    (h : ∀ w', Below w.heap.size w w' → K (a.put o.dst (.bool r)) w') : if Region.wanted o (yielded ops a.tmps) = true then Oper.wp Tryd.prog o a w K Q else E := by
  rw [if_pos hw]
  have hrun : (execOp a.eval o).run Tryd.prog w = .ok (.enter 17 #[v]) w := by
    have hf : a.eval (.func 17) = .func (.func 17) #[] #[] := rfl
    obtain ⟨c, hc⟩ : ∃ c, Tryd.f17.body = some c := Option.isSome_iff_exists.1 (by kernel_rfl)
    have hne : ¬ Tryd.f17.name = "runtime.NumGoroutine" := of_decide_eq_false (by kernel_rfl)
    simp [execOp, ho, resolve, invoke, hp, hf, Deferred.ofValue, callFunc, hne, hc]
  unfold Oper.wp
  rw [hrun, Oper.upon_enter]
  refine hC.mono fun e w'' hh => ?_
  obtain ⟨rfl, h1⟩ := hh
  exact h w'' h1
theorem sr_same {r : Bool} {v u : Value} (hw : Region.wanted o (yielded ops a.tmps) = true) (p q : Operand) (ho : o.op = .call { callee := .value (.func 18), args := #[p, q], argTypes := #[25, 25] })
    (hp : a.eval p = v) (hq : a.eval q = u) (hC : Calls Tryd.prog 18 #[v, u] w fun e' w' => e' = .returned (.bool r) ∧ Below w.heap.size w w')
    (h : ∀ w', Below w.heap.size w w' → K (a.put o.dst (.bool r)) w') : if Region.wanted o (yielded ops a.tmps) = true then Oper.wp Tryd.prog o a w K Q else E := by
  rw [if_pos hw]
  have hrun : (execOp a.eval o).run Tryd.prog w = .ok (.enter 18 #[v, u]) w := by
    have hf : a.eval (.func 18) = .func (.func 18) #[] #[] := rfl
    obtain ⟨c, hc⟩ : ∃ c, Tryd.f18.body = some c := Option.isSome_iff_exists.1 (by kernel_rfl)
    have hne : ¬ Tryd.f18.name = "runtime.NumGoroutine" := of_decide_eq_false (by kernel_rfl)
    simp [execOp, ho, resolve, invoke, hp, hq, hf, Deferred.ofValue, callFunc, hne, hc]
  unfold Oper.wp
  rw [hrun, Oper.upon_enter]
  refine hC.mono fun e w'' hh => ?_
  obtain ⟨rfl, h1⟩ := hh
  exact h w'' h1
theorem sr_sameE {r : Bool} {v u : Value} (hw : Region.wanted o (yielded ops a.tmps) = true) (p q : Operand) (ho : o.op = .call { callee := .value (.func 21), args := #[p, q], argTypes := #[24, 30] })
    (hp : a.eval p = v) (hq : a.eval q = u) (hC : Calls Tryd.prog 21 #[v, u] w fun e' w' => e' = .returned (.bool r) ∧ Below w.heap.size w w')
    (h : ∀ w', Below w.heap.size w w' → K (a.put o.dst (.bool r)) w') : if Region.wanted o (yielded ops a.tmps) = true then Oper.wp Tryd.prog o a w K Q else E := by
  rw [if_pos hw]
  have hrun : (execOp a.eval o).run Tryd.prog w = .ok (.enter 21 #[v, u]) w := by
    have hf : a.eval (.func 21) = .func (.func 21) #[] #[] := rfl
    obtain ⟨c, hc⟩ : ∃ c, Tryd.f21.body = some c := Option.isSome_iff_exists.1 (by kernel_rfl)
    have hne : ¬ Tryd.f21.name = "runtime.NumGoroutine" := of_decide_eq_false (by kernel_rfl)
    simp [execOp, ho, resolve, invoke, hp, hq, hf, Deferred.ofValue, callFunc, hne, hc]
  unfold Oper.wp
  rw [hrun, Oper.upon_enter]
  refine hC.mono fun e w'' hh => ?_
  obtain ⟨rfl, h1⟩ := hh
  exact h w'' h1
theorem sr_has {r : Bool} {v u : Value} (hw : Region.wanted o (yielded ops a.tmps) = true) (p q : Operand) (ho : o.op = .call { callee := .value (.func 24), args := #[p, q], argTypes := #[24, 25] })
    (hp : a.eval p = v) (hq : a.eval q = u) (hC : Calls Tryd.prog 24 #[v, u] w fun e' w' => e' = .returned (.bool r) ∧ Below w.heap.size w w')
    (h : ∀ w', Below w.heap.size w w' → K (a.put o.dst (.bool r)) w') : if Region.wanted o (yielded ops a.tmps) = true then Oper.wp Tryd.prog o a w K Q else E := by
  rw [if_pos hw]
  have hrun : (execOp a.eval o).run Tryd.prog w = .ok (.enter 24 #[v, u]) w := by
    have hf : a.eval (.func 24) = .func (.func 24) #[] #[] := rfl
    obtain ⟨c, hc⟩ : ∃ c, Tryd.f24.body = some c := Option.isSome_iff_exists.1 (by kernel_rfl)
    have hne : ¬ Tryd.f24.name = "runtime.NumGoroutine" := of_decide_eq_false (by kernel_rfl)
    simp [execOp, ho, resolve, invoke, hp, hq, hf, Deferred.ofValue, callFunc, hne, hc]
  unfold Oper.wp
  rw [hrun, Oper.upon_enter]
  refine hC.mono fun e w'' hh => ?_
  obtain ⟨rfl, h1⟩ := hh
  exact h w'' h1
theorem sr_rhas {r : Bool} {v u : Value} (hw : Region.wanted o (yielded ops a.tmps) = true) (p q : Operand) (ho : o.op = .call { callee := .value (.func 25), args := #[p, q], argTypes := #[30, 25] })
    (hp : a.eval p = v) (hq : a.eval q = u) (hC : Calls Tryd.prog 25 #[v, u] w fun e' w' => e' = .returned (.bool r) ∧ Below w.heap.size w w')
    (h : ∀ w', Below w.heap.size w w' → K (a.put o.dst (.bool r)) w') : if Region.wanted o (yielded ops a.tmps) = true then Oper.wp Tryd.prog o a w K Q else E := by
  rw [if_pos hw]
  have hrun : (execOp a.eval o).run Tryd.prog w = .ok (.enter 25 #[v, u]) w := by
    have hf : a.eval (.func 25) = .func (.func 25) #[] #[] := rfl
    obtain ⟨c, hc⟩ : ∃ c, Tryd.f25.body = some c := Option.isSome_iff_exists.1 (by kernel_rfl)
    have hne : ¬ Tryd.f25.name = "runtime.NumGoroutine" := of_decide_eq_false (by kernel_rfl)
    simp [execOp, ho, resolve, invoke, hp, hq, hf, Deferred.ofValue, callFunc, hne, hc]
  unfold Oper.wp
  rw [hrun, Oper.upon_enter]
  refine hC.mono fun e w'' hh => ?_
  obtain ⟨rfl, h1⟩ := hh
  exact h w'' h1
theorem sr_names {L : List ByteArray} {v : Value} (hw : Region.wanted o (yielded ops a.tmps) = true) (p : Operand) (ho : o.op = .call { callee := .value (.func 19), args := #[p], argTypes := #[24] })
    (hp : a.eval p = v) (hC : Calls Tryd.prog 19 #[v] w fun e' w' => ∃ x, e' = .returned x ∧ Strs w' (Under w'.heap.size) x L ∧ Below w.heap.size w w')
    (h : ∀ (x : Value) (w' : World), Strs w' (Under w'.heap.size) x L → Below w.heap.size w w' → K (a.put o.dst x) w') : if Region.wanted o (yielded ops a.tmps) = true then Oper.wp Tryd.prog o a w K Q else E := by
  rw [if_pos hw]
  have hrun : (execOp a.eval o).run Tryd.prog w = .ok (.enter 19 #[v]) w := by
    have hf : a.eval (.func 19) = .func (.func 19) #[] #[] := rfl
    obtain ⟨c, hc⟩ : ∃ c, Tryd.f19.body = some c := Option.isSome_iff_exists.1 (by kernel_rfl)
    have hne : ¬ Tryd.f19.name = "runtime.NumGoroutine" := of_decide_eq_false (by kernel_rfl)
    simp [execOp, ho, resolve, invoke, hp, hf, Deferred.ofValue, callFunc, hne, hc]
  unfold Oper.wp
  rw [hrun, Oper.upon_enter]
  refine hC.mono fun e w'' hh => ?_
  obtain ⟨x, rfl, h1, h2⟩ := hh
  exact h x w'' h1 h2
theorem sr_rnames {L : List ByteArray} {v : Value} (hw : Region.wanted o (yielded ops a.tmps) = true) (p : Operand) (ho : o.op = .call { callee := .value (.func 20), args := #[p], argTypes := #[30] })
    (hp : a.eval p = v) (hC : Calls Tryd.prog 20 #[v] w fun e' w' => ∃ x, e' = .returned x ∧ Strs w' (Under w'.heap.size) x L ∧ Below w.heap.size w w')
    (h : ∀ (x : Value) (w' : World), Strs w' (Under w'.heap.size) x L → Below w.heap.size w w' → K (a.put o.dst x) w') : if Region.wanted o (yielded ops a.tmps) = true then Oper.wp Tryd.prog o a w K Q else E := by
  rw [if_pos hw]
  have hrun : (execOp a.eval o).run Tryd.prog w = .ok (.enter 20 #[v]) w := by
    have hf : a.eval (.func 20) = .func (.func 20) #[] #[] := rfl
    obtain ⟨c, hc⟩ : ∃ c, Tryd.f20.body = some c := Option.isSome_iff_exists.1 (by kernel_rfl)
    have hne : ¬ Tryd.f20.name = "runtime.NumGoroutine" := of_decide_eq_false (by kernel_rfl)
    simp [execOp, ho, resolve, invoke, hp, hf, Deferred.ofValue, callFunc, hne, hc]
  unfold Oper.wp
  rw [hrun, Oper.upon_enter]
  refine hC.mono fun e w'' hh => ?_
  obtain ⟨x, rfl, h1, h2⟩ := hh
  exact h x w'' h1 h2
end
/-- The names of an expression, each once, in order. -/
def canonN (e : Ex) : List ByteArray := bytesL (Lib.compact ((namesB e).mergeSort fun x y => decide (x ≤ y)))
theorem canon_ok (e : Ex) : NamesOk e (canonN e) := by
  obtain ⟨hm, hp⟩ := sorted_names (namesB e)
  have hmem : ∀ s : ByteArray, s.data.toList ∈ namesB e ↔ s ∈ namesE e := fun s => by
    unfold namesB
    rw [List.mem_map]
    constructor
    · rintro ⟨t, ht, he⟩; rwa [← bytesE_of he]
    · exact fun h => ⟨s, h, rfl⟩
  refine ⟨fun s => ?_, ?_⟩
  · rw [← hmem, ← hm]
    unfold canonN bytesL
    rw [List.mem_map]
    constructor
    · rintro ⟨t, ht, rfl⟩; exact ht
    · exact fun h => ⟨_, h, rfl⟩
  · unfold canonN bytesL
    rw [List.pairwise_map]
    exact hp
theorem canon_of {e : Ex} {L : List ByteArray} (h1 : ∀ s, s ∈ L ↔ s ∈ namesE e) (h2 : Ord L) : L = canonN e :=
  ord_same h2 (canon_ok e).2 fun s => (h1 s).trans ((canon_ok e).1 s).symm
/-- What is held: both boxes, the row, and what was told so far. -/
structure RdAt (w0 : World) (e : Ex) (A : Option Addr) (k c ge : Nat) (A' : Option Addr) (k' c' gk : Nat) (vw : Value) (word : List ByteArray) (v1 : Value) (L1 : List ByteArray) (v2 : Value) (L2 : List ByteArray)
    (a1 : Option Addr) (n1 c1 : Nat) (l1 : List Ex) (a2 : Option Addr) (n2 c2 : Nat) (l2 : List Ex) (W : World) : Prop where
  pack : Pack w0 W [⟨ge, e, A, k, c⟩] [(vw, word)]
  kb : W.heap[gk]? = some (.cells #[.int .u8 (e.op : Int), .string e.name, .slice A' k' c'] 30)
  kx : Exs W (Under W.heap.size) (.slice A' k' c') e.kids
  r1 : Strs W (Under W.heap.size) v1 L1
  r2 : Strs W (Under W.heap.size) v2 L2
  x1 : Exs W (Under W.heap.size) (.slice a1 n1 c1) l1
  x2 : Exs W (Under W.heap.size) (.slice a2 n2 c2) l2
section
variable {w0 W W' : World} {e : Ex} {A A' a1 a2 : Option Addr} {k c k' c' ge gk n1 c1 n2 c2 : Nat} {vw v1 v2 : Value} {word L1 L2 : List ByteArray} {l1 l2 : List Ex}
theorem strs_next {W W' : World} {v : Value} {l : List ByteArray} (h : Strs W (Under W.heap.size) v l) (hb : Below W.heap.size W W') : Strs W' (Under W'.heap.size) v l := h.keep (fun _ hb' => Nat.lt_of_lt_of_le hb' hb.size) fun b hb' => hb.block b hb'
theorem exs_next {W W' : World} {v : Value} {l : List Ex} (h : Exs W (Under W.heap.size) v l) (hb : Below W.heap.size W W') : Exs W' (Under W'.heap.size) v l := h.keep (fun _ hb' => Nat.lt_of_lt_of_le hb' hb.size) fun b hb' => hb.block b hb'
theorem RdAt.next (h : RdAt w0 e A k c ge A' k' c' gk vw word v1 L1 v2 L2 a1 n1 c1 l1 a2 n2 c2 l2 W) (hb : Below W.heap.size W W') : RdAt w0 e A k c ge A' k' c' gk vw word v1 L1 v2 L2 a1 n1 c1 l1 a2 n2 c2 l2 W' :=
  ⟨h.pack.next hb, (hb.block _ (Array.getElem?_eq_some_iff.1 h.kb).1).trans h.kb, exs_next h.kx hb, strs_next h.r1 hb, strs_next h.r2 hb, exs_next h.x1 hb, exs_next h.x2 hb⟩
theorem RdAt.row1 (h : RdAt w0 e A k c ge A' k' c' gk vw word v1 L1 v2 L2 a1 n1 c1 l1 a2 n2 c2 l2 W') {v : Value} {L : List ByteArray} (hr : Strs W' (Under W'.heap.size) v L) : RdAt w0 e A k c ge A' k' c' gk vw word v L v2 L2 a1 n1 c1 l1 a2 n2 c2 l2 W' := ⟨h.pack, h.kb, h.kx, hr, h.r2, h.x1, h.x2⟩
theorem RdAt.row2 (h : RdAt w0 e A k c ge A' k' c' gk vw word v1 L1 v2 L2 a1 n1 c1 l1 a2 n2 c2 l2 W') {v : Value} {L : List ByteArray} (hr : Strs W' (Under W'.heap.size) v L) : RdAt w0 e A k c ge A' k' c' gk vw word v1 L1 v L a1 n1 c1 l1 a2 n2 c2 l2 W' := ⟨h.pack, h.kb, h.kx, h.r1, hr, h.x1, h.x2⟩
theorem RdAt.ex1 (h : RdAt w0 e A k c ge A' k' c' gk vw word v1 L1 v2 L2 a1 n1 c1 l1 a2 n2 c2 l2 W') {B : Nat} {a : Option Addr} {n d : Nat} {l : List Ex} (hr : Exs W' (From B W'.heap.size) (.slice a n d) l) : RdAt w0 e A k c ge A' k' c' gk vw word v1 L1 v2 L2 a n d l a2 n2 c2 l2 W' := ⟨h.pack, h.kb, h.kx, h.r1, h.r2, hr.keep (fun _ hb => hb.2) fun _ _ => rfl, h.x2⟩
theorem RdAt.ex2 (h : RdAt w0 e A k c ge A' k' c' gk vw word v1 L1 v2 L2 a1 n1 c1 l1 a2 n2 c2 l2 W') {B : Nat} {a : Option Addr} {n d : Nat} {l : List Ex} (hr : Exs W' (From B W'.heap.size) (.slice a n d) l) : RdAt w0 e A k c ge A' k' c' gk vw word v1 L1 v2 L2 a1 n1 c1 l1 a n d l W' := ⟨h.pack, h.kb, h.kx, h.r1, h.r2, h.x1, hr.keep (fun _ hb => hb.2) fun _ _ => rfl⟩
theorem RdAt.cells (h : RdAt w0 e A k c ge A' k' c' gk vw word v1 L1 v2 L2 a1 n1 c1 l1 a2 n2 c2 l2 W) : (W.cell? ⟨ge, 0, none⟩ = some (.int .u8 (e.op : Int)) ∧ W.cell? ⟨ge, 1, none⟩ = some (.string e.name) ∧ W.cell? ⟨ge, 2, none⟩ = some (.slice A k c)) ∧ W.cell? ⟨gk, 0, none⟩ = some (.int .u8 (e.op : Int)) ∧ W.cell? ⟨gk, 1, none⟩ = some (.string e.name) ∧ W.cell? ⟨gk, 2, none⟩ = some (.slice A' k' c') :=
  ⟨h.pack.cells (.head _), three_cells h.kb⟩
theorem RdAt.q1 (h : RdAt w0 e A k c ge A' k' c' gk vw word v1 L1 v2 L2 a1 n1 c1 l1 a2 n2 c2 l2 W) (hf : e.fits) {r : Bool} (hr : rightE okN e = r) : Calls Tryd.prog 16 #[.agg #[.int .u8 (e.op : Int), .string e.name, .slice A k c]] W fun e' w' => e' = .returned (.bool r) ∧ Below W.heap.size W w' := by
  subst hr
  exact right_pack (x := ⟨ge, e, A, k, c⟩) h.pack (.head _) hf
theorem RdAt.q2 (h : RdAt w0 e A k c ge A' k' c' gk vw word v1 L1 v2 L2 a1 n1 c1 l1 a2 n2 c2 l2 W) (hf : e.fits) (hz : sizeE e ≤ 1100000) {r : Bool} (hr : rightE okN e = r) : Calls Tryd.prog 17 #[.agg #[.int .u8 (e.op : Int), .string e.name, .slice A' k' c']] W fun e' w' => e' = .returned (.bool r) ∧ Below W.heap.size W w' := by
  subst hr
  exact rright_any e A' k' c' W.heap.size W hf hz h.kx (Nat.le_refl _)
theorem RdAt.q3 (h : RdAt w0 e A k c ge A' k' c' gk vw word v1 L1 v2 L2 a1 n1 c1 l1 a2 n2 c2 l2 W) (hn : (namesE e).length ≤ 1050000) : Calls Tryd.prog 19 #[.agg #[.int .u8 (e.op : Int), .string e.name, .slice A k c]] W fun e' w' => ∃ x, e' = .returned x ∧ Strs w' (Under w'.heap.size) x (canonN e) ∧ Below W.heap.size W w' := by
  refine (names_any e A k c W (h.pack.ex _ (.head _)).kids (by omega)).mono ?_
  rintro x w' ⟨v, L, rfl, h1, h2, h3⟩
  rw [← canon_of h3.1 h3.2]
  exact ⟨v, rfl, h1.strs, h2⟩
theorem RdAt.q4 (h : RdAt w0 e A k c ge A' k' c' gk vw word v1 L1 v2 L2 a1 n1 c1 l1 a2 n2 c2 l2 W) (hn : (namesE e).length ≤ 1050000) : Calls Tryd.prog 20 #[.agg #[.int .u8 (e.op : Int), .string e.name, .slice A' k' c']] W fun e' w' => ∃ x, e' = .returned x ∧ Strs w' (Under w'.heap.size) x (canonN e) ∧ Below W.heap.size W w' := by
  refine (rnames_walk e A' k' c' W.heap.size W h.kx (Nat.le_refl _) hn).mono ?_
  rintro x w' ⟨v, L, rfl, h1, h2, h3⟩
  rw [← canon_of h2.mem h2.ord]
  exact ⟨v, rfl, h1, h3⟩
theorem RdAt.q5 {L : List ByteArray} (h : RdAt w0 e A k c ge A' k' c' gk vw word v1 L v2 L a1 n1 c1 l1 a2 n2 c2 l2 W) : Calls Tryd.prog 18 #[v1, v2] W fun e' w' => e' = .returned (.bool true) ∧ Below W.heap.size W w' := same_rows v1 v2 L W h.r1 h.r2
theorem RdAt.q6 (h : RdAt w0 e A k c ge A' k' c' gk vw word v1 L1 v2 L2 a1 n1 c1 l1 a2 n2 c2 l2 W) (hz : sizeE e ≤ 2000000) (f t : ByteArray) : Calls Tryd.prog 22 #[.agg #[.int .u8 (e.op : Int), .string e.name, .slice A k c], .string f, .string t] W (EPost W (renE f t e)) := ren_walkU e f t A k c W.heap.size W hz (h.pack.ex _ (.head _)).kids (Nat.le_refl _)
theorem RdAt.q7 (h : RdAt w0 e A k c ge A' k' c' gk vw word v1 L1 v2 L2 a1 n1 c1 l1 a2 n2 c2 l2 W) (hz : sizeE e ≤ 2000000) (f t : ByteArray) : Calls Tryd.prog 23 #[.agg #[.int .u8 (e.op : Int), .string e.name, .slice A' k' c'], .string f, .string t] W (EPost W (renE f t e)) := rren_walk e f t A' k' c' W.heap.size W hz h.kx (Nat.le_refl _)
theorem RdAt.q8 {y : Ex} (h : RdAt w0 e A k c ge A' k' c' gk vw word v1 L1 v2 L2 a1 n1 c1 y.kids a2 n2 c2 y.kids W) : Calls Tryd.prog 21 #[.agg #[.int .u8 (y.op : Int), .string y.name, .slice a1 n1 c1], .agg #[.int .u8 (y.op : Int), .string y.name, .slice a2 n2 c2]] W fun e' w' => e' = .returned (.bool true) ∧ Below W.heap.size W w' := same_walk y a1 a2 n1 c1 n2 c2 W.heap.size W h.x1 h.x2 (Nat.le_refl _)
theorem RdAt.q9 (h : RdAt w0 e A k c ge A' k' c' gk vw word v1 L1 v2 L2 a1 n1 c1 l1 a2 n2 c2 l2 W) (hf : e.fits) (hs : ∀ s ∈ word, s.size ≤ maxLen) {r : Bool} (hr : r = true ↔ rightE okN e = true ∧ lang e word) : Calls Tryd.prog 24 #[.agg #[.int .u8 (e.op : Int), .string e.name, .slice A k c], vw] W fun e' w' => e' = .returned (.bool r) ∧ Below W.heap.size W w' :=
  has_fix (x := ⟨ge, e, A, k, c⟩) (y := (vw, word)) h.pack (.head _) hf (.head _) hs hr
theorem RdAt.q10 (h : RdAt w0 e A k c ge A' k' c' gk vw word v1 L1 v2 L2 a1 n1 c1 l1 a2 n2 c2 l2 W) (hf : e.fits) (hz : sizeE e ≤ 1100000) (hw : word.length ≤ 40) {r : Bool} (hr : r = true ↔ rightE okN e = true ∧ lang e word) : Calls Tryd.prog 25 #[.agg #[.int .u8 (e.op : Int), .string e.name, .slice A' k' c'], vw] W fun e' w' => e' = .returned (.bool r) ∧ Below W.heap.size W w' := by
  refine (rhas_any e A' k' c' W.heap.size vw word W hf hz h.kx (h.pack.strs _ (.head _)) (Nat.le_refl _) hw).mono ?_
  rintro x w' ⟨⟨q, rfl, hq⟩, hb⟩
  have : q = r := by rw [Bool.eq_iff_iff, hq, hr]
  exact ⟨by rw [this], hb⟩
end
end Go.Proofs.YtldmimekmjmkgaaDoor

namespace Go.Proofs.YtldmimekmjmkgaaDoor
open Go.RowKit Go.Sort Go.Maps Go.WideMaps

theorem strsNum {W : World} {S : Nat → Prop} {v : Value} {l : List ByteArray} (h : Strs W S v l) : ∃ A c, v = .slice A l.length c ∧ l.length ≤ c ∧ c ≤ maxLen := by
  obtain ⟨A, c, hv, h1, h2, _⟩ := h
  exact ⟨A, c, hv, h1, h2⟩
set_option maxRecDepth 100000 in
set_option maxHeartbeats 16000000 in
theorem exprReads_walk (e : Ex) (A : Option Addr) (k c : Nat) (f t : ByteArray) (va : Value) (a : List ByteArray) (w : World) (he : e.fits) (hl : Exs w (Under w.heap.size) (.slice A k c) e.kids) (hT : TabB w) (ha : Strs w (Under w.heap.size) va a)
    (has : ∀ s ∈ a, s.size ≤ maxLen) (hbulk : e.weigh ≤ 1048576) :
    Calls Tryd.prog 3 #[.agg #[.int .u8 e.op, .string e.name, .slice A k c], .string f, .string t, va] w fun x w' => x = .returned (.bool true) ∧ Below w.heap.size w w' := by
  have HP0 : Hid (Pack w w [] [(va, a)]) := Lib.hid ⟨Below.refl _ _, hT, fun _ h => (nomatch h), fun y hy => by
    rcases List.mem_cons.1 hy with rfl | hy
    · exact ha
    · cases hy⟩
  have HP1 : Hid (Pack w (w.alloc (.cells #[.int .u8 e.op, .string e.name, .slice A k c] 24)) [⟨w.heap.size, e, A, k, c⟩] [(va, a)]) := Lib.hid ((HP0.out.alloc _).add (Lies.new (Below.refl _ _) hl fun _ h => h))
  obtain ⟨Aa, ca, rfl, hca, hcma⟩ := strsNum ha
  generalize hNa : a.length = Na at *
  have HNa := Lib.hid hNa
  have HF := Lib.hid he
  have HAS := Lib.hid has
  have HZ1 : Hid (sizeE e ≤ 1100000) := Lib.hid (Nat.le_trans (size_weigh e) (Nat.le_trans hbulk (by decide)))
  have HZ2 : Hid (sizeE e ≤ 2000000) := Lib.hid (Nat.le_trans HZ1.out (by decide))
  have HNM : Hid ((namesE e).length ≤ 1050000) := Lib.hid (Nat.le_trans (names_weigh e) (Nat.le_trans hbulk (by decide)))
  clear hl hT ha he has HP0 hNa hbulk
  unfold maxLen at hcma
  go_enter Tryd.func3, Tryd.ntmps3
  go_wp2_with fail
  refine (shown6_any _ HP1.out.tab).mono ?_
  rintro x W1 ⟨rfl, hb1⟩
  have HP2 := Lib.hid (HP1.out.next hb1)
  clear hb1 HP1
  obtain ⟨d00, d01, d02⟩ := HP2.out.cells (.head _)
  go_wp2_with fail
  refine (light6_any e A k c 300 W1 HF.out (HP2.out.ex _ (.head _)).kids (by decide) (by decide)).mono ?_
  rintro x W2 ⟨⟨q, rfl, hq0, hq1⟩, hb2⟩
  have HP3 := Lib.hid (HP2.out.next hb2)
  clear d00 d01 d02 hb2 HP2
  obtain ⟨d00, d01, d02⟩ := HP3.out.cells (.head _)
  have l0 := cell_lt d00
  by_cases hq : q < 0
  · go_wp2
    go_ret
    exact ⟨rfl, HP3.out.below⟩
  by_cases hlen : 40 < Na
  · go_wp2
    go_ret
    exact ⟨rfl, HP3.out.below⟩
  have HWL : Hid (a.length ≤ 40) := Lib.hid (by rw [HNa.out]; omega)
  go_wp2_with fail
  refine (as_walkU e A k c W2.heap.size W2 HZ2.out (HP3.out.ex _ (.head _)).kids (Nat.le_refl _)).mono ?_
  rintro x W3 ⟨A', k', c', rfl, hk3, hb3⟩
  have HP4 : Hid (Pack w (W3.alloc (.cells #[.int .u8 (e.op : Int), .string e.name, .slice A' k' c'] 30)) [⟨w.heap.size, e, A, k, c⟩] [(.slice Aa Na ca, a)]) := Lib.hid ((HP3.out.next hb3).alloc _)
  have HK4 : Hid (Exs (W3.alloc (.cells #[.int .u8 (e.op : Int), .string e.name, .slice A' k' c'] 30)) (Under (W3.alloc (.cells #[.int .u8 (e.op : Int), .string e.name, .slice A' k' c'] 30)).heap.size) (.slice A' k' c') e.kids) := Lib.hid (hk3.keep (fun b hb => by have := hb.2; show b < _; simp; omega) fun b hb => Below.heap_alloc _ _ _ hb.2)
  have HB4 : Hid ((W3.alloc (.cells #[.int .u8 (e.op : Int), .string e.name, .slice A' k' c'] 30)).heap[W3.heap.size]? = some (.cells #[.int .u8 (e.op : Int), .string e.name, .slice A' k' c'] 30)) := Lib.hid (heap_new _ _)
  obtain ⟨gk, hgk⟩ : ∃ gk, W3.heap.size = gk := ⟨_, rfl⟩
  rw [hgk] at HB4
  clear d00 d01 d02 l0 hb3 HP3 hk3
  go_upto_region 5 with fail
  generalize W3.alloc (.cells #[.int .u8 (e.op : Int), .string e.name, .slice A' k' c'] 30) = W4 at *
  clear hgk
  have HSX : Hid (RdAt w e A k c w.heap.size A' k' c' gk (.slice Aa Na ca) a (.slice none 0 0) [] (.slice none 0 0) [] none 0 0 [] none 0 0 [] W4) := Lib.hid ⟨HP4.out, HB4.out, HK4.out, strs_no _ _, strs_no _ _, exs_nil _ _, exs_nil _ _⟩
  clear HP4 HK4 HB4
  obtain ⟨⟨d0, d1, d2⟩, m0, m1, m2⟩ := HSX.out.cells
  have hld := cell_lt d0
  go_wp2_with fail
  refine (print_any e A k c W4 HF.out (HSX.out.pack.ex _ (.head _)).kids).mono ?_
  rintro x W5 ⟨rfl, hb5⟩
  have HS5 := Lib.hid (HSX.out.next hb5)
  clear d0 d1 d2 m0 m1 m2 hld hb5 HSX
  obtain ⟨⟨d0, d1, d2⟩, m0, m1, m2⟩ := HS5.out.cells
  have hld := cell_lt d0
  simp only
  go_wp2_with fail
  refine (rprint_any e A' k' c' W5 HF.out HZ1.out HS5.out.kx).mono ?_
  rintro x W6 ⟨rfl, hb6⟩
  have HS6 := Lib.hid (HS5.out.next hb6)
  clear d0 d1 d2 m0 m1 m2 hld hb6 HS5
  generalize printE e = pe at *
  obtain ⟨ps, pf⟩ := pe
  simp only
  have HNG : Hid ((∃ (r : Bool), r = true ↔ rightE okN e = true ∧ lang e a)) := Lib.hid (bool_of _)
  obtain ⟨r, hr⟩ := HNG.out
  have HR := Lib.hid hr
  obtain ⟨re, hre⟩ : ∃ re, rightE okN e = re := ⟨_, rfl⟩
  have HRE := Lib.hid hre
  clear hr hre HNG
  have hse : (ps.toList == ps.toList) = true := by simp
  obtain ⟨⟨d0, d1, d2⟩, m0, m1, m2⟩ := HS6.out.cells
  have hld := cell_lt d0
  go_upto_region 7 with fail
  have HS := Lib.hid (HS6.out.next (below_drewX W6))
  have hs := HS.out.cells
  clear d0 d1 d2 m0 m1 m2 hld HS6
  go_region_held3 (fun w' => (w'.cell? ⟨w.heap.size, 0, none⟩ = some (.int .u8 (e.op : Int)) ∧ w'.cell? ⟨w.heap.size, 1, none⟩ = some (.string e.name) ∧ w'.cell? ⟨w.heap.size, 2, none⟩ = some (.slice A k c)) ∧ w'.cell? ⟨gk, 0, none⟩ = some (.int .u8 (e.op : Int)) ∧ w'.cell? ⟨gk, 1, none⟩ = some (.string e.name) ∧ w'.cell? ⟨gk, 2, none⟩ = some (.slice A' k' c')) (exact hs) ((
        first
          | ((with_reducible refine sr_right (r := re) (v := .agg #[.int .u8 (e.op : Int), .string e.name, .slice A k c]) (by kernel_rfl) (.tmp 41) rfl rfl (HS.out.q1 HF.out HRE.out) ?_); intro w9 hb9; have HS := Lib.hid (HS.out.next hb9); have hs := HS.out.cells; clear hb9)
          | ((with_reducible refine sr_rright (r := re) (v := .agg #[.int .u8 (e.op : Int), .string e.name, .slice A' k' c']) (by kernel_rfl) (.tmp 43) rfl rfl (HS.out.q2 HF.out HZ1.out HRE.out) ?_); intro w9 hb9; have HS := Lib.hid (HS.out.next hb9); have hs := HS.out.cells; clear hb9)
          | ((with_reducible refine sr_names (L := canonN e) (v := .agg #[.int .u8 (e.op : Int), .string e.name, .slice A k c]) (by kernel_rfl) (.tmp 57) rfl rfl (HS.out.q3 HNM.out) ?_); intro x9 w9 hr9 hb9; have HS := Lib.hid ((HS.out.next hb9).row1 hr9); have hs := HS.out.cells; clear hr9 hb9)
          | ((with_reducible refine sr_rnames (L := canonN e) (v := .agg #[.int .u8 (e.op : Int), .string e.name, .slice A' k' c']) (by kernel_rfl) (.tmp 59) rfl rfl (HS.out.q4 HNM.out) ?_); intro y9 w9 hr9 hb9; have HS := Lib.hid ((HS.out.next hb9).row2 hr9); have hs := HS.out.cells; clear hr9 hb9)
          | ((with_reducible refine sr_same (r := true) (v := x9) (u := y9) (by kernel_rfl) (.tmp 58) (.tmp 60) rfl rfl rfl HS.out.q5 ?_); intro w9 hb9; have HS := Lib.hid (HS.out.next hb9); have hs := HS.out.cells; clear hb9)
          | ((with_reducible refine step_ren (v := .agg #[.int .u8 (e.op : Int), .string e.name, .slice A k c]) (f := f) (t := t) (x := renE f t e) (by kernel_rfl) (.tmp 64) (.tmp 65) (.tmp 66) rfl rfl rfl rfl (HS.out.q6 HZ2.out f t) ?_); intro A9 n9 c9 w9 hk9 hb9; have HS := Lib.hid ((HS.out.next hb9).ex1 hk9); have hs := HS.out.cells; clear hk9 hb9)
          | ((with_reducible refine step_rren (v := .agg #[.int .u8 (e.op : Int), .string e.name, .slice A' k' c']) (f := f) (t := t) (x := renE f t e) (by kernel_rfl) (.tmp 68) (.tmp 69) (.tmp 70) rfl rfl rfl rfl (HS.out.q7 HZ2.out f t) ?_); intro A8 n8 c8 w9 hk9 hb9; have HS := Lib.hid ((HS.out.next hb9).ex2 hk9); have hs := HS.out.cells; clear hk9 hb9)
          | ((with_reducible refine sr_sameE (r := true) (v := .agg #[.int .u8 ((renE f t e).op : Int), .string (renE f t e).name, .slice A9 n9 c9]) (u := .agg #[.int .u8 ((renE f t e).op : Int), .string (renE f t e).name, .slice A8 n8 c8]) (by kernel_rfl) (.tmp 67) (.tmp 71) rfl rfl rfl HS.out.q8 ?_); intro w9 hb9; have HS := Lib.hid (HS.out.next hb9); have hs := HS.out.cells; clear hb9)
          | ((with_reducible refine sr_has (r := r) (v := .agg #[.int .u8 (e.op : Int), .string e.name, .slice A k c]) (u := .slice Aa Na ca) (by kernel_rfl) (.tmp 75) (.tmp 76) rfl rfl rfl (HS.out.q9 HF.out HAS.out HR.out) ?_); intro w9 hb9; have HS := Lib.hid (HS.out.next hb9); have hs := HS.out.cells; clear hb9)
          | ((with_reducible refine sr_rhas (r := r) (v := .agg #[.int .u8 (e.op : Int), .string e.name, .slice A' k' c']) (u := .slice Aa Na ca) (by kernel_rfl) (.tmp 78) (.tmp 79) rfl rfl rfl (HS.out.q10 HF.out HZ1.out HWL.out HR.out) ?_); intro w9 hb9; have HS := Lib.hid (HS.out.next hb9); have hs := HS.out.cells; clear hb9)))
  all_goals
    go_wp2
    go_ret
    exact ⟨ret_bool (by simp), HS.out.pack.below⟩
end Go.Proofs.YtldmimekmjmkgaaDoor

namespace Go.Proofs.YtldmimekmjmkgaaDoor
open Go.ChangeShapes Go.WideShapes Go.ChangeAt Go.RowKit Go.Lib Go.ChangeMaps

set_option maxRecDepth 100000 in
theorem exprReadsU_laid (os : Os) (args : Array Value) : laidMet Tryd.prog Rows.exprReadsUptoRow.laid ((laidWorld os).forCall (fun _ _ => 0) ⟨#[], args, []⟩).memory :=
  (LaidIn.of_run (l := [("math/bits.deBruijn32tab", Rows.laid_math_bits_deBruijn32tab)]) [0] 8 (by kernel_rfl) (by kernel_rfl) (by kernel_rfl) (by kernel_rfl)).met

set_option maxRecDepth 100000 in
theorem exprReadsU_contract (H : Type) (enc : TypeId × Value → H) (W : World) (base : Nat) (args : Array Value) (ds gs : List (DataW H)) (before : List MemPlace) (vt : List TypeId)
    (hval : ∀ (j : Nat) t v, Tryd.f3.params[j]? = some t → args[j]? = some v → Value.okWide Tryd.prog W .any base t v)
    (hW : DataW.Whole enc Tryd.prog Tryd.f3.params.toList Rows.exprReadsSpec.vars false W args.toList ds gs before) (hk : Rows.uptoSmall H (ds ++ gs) = true) (hwt : (DataW.weightsEach Tryd.prog (Tryd.f3.params.toList ++ vt) (ds ++ gs)).all (· ≤ reachBytes) = true) (hL : TabB W) :
    Calls Tryd.prog 3 args W fun e W' => ∃ v, e = .returned v ∧ Rows.exprReadsSpec.post enc Tryd.prog Tryd.f3 false true false false W args v W' := by
  have hW' := hW
  have hlt : ∀ p ∈ before, p.block < W.heap.size := fun p hp => hW.lt p hp
  obtain ⟨p, q, hA0, hV, rfl, hfz, hnd⟩ := hW
  have hA : DataW.TrodAll enc Tryd.prog W 0 (fun _ => true) true Tryd.f3.params.toList args.toList ds p := hA0
  rw [Tryd.params3] at hA hval hwt
  obtain ⟨v0, v1, v2, v3, d0, d1, d2, d3, p0, p1, p2, p3, hargs, rfl, rfl, h0, h1, h2, h3⟩ := trodAll_four hA
  obtain rfl : args = #[v0, v1, v2, v3] := by cases args; simp_all
  obtain ⟨rfl, rfl⟩ := trodVars_none hV
  have h0' := h0
  obtain ⟨fuel0, hf0⟩ := h0
  obtain ⟨cs0, rfl, hcs0⟩ := okWide_struct Tryd.underlying24 (hval 0 24 v0 rfl rfl)
  rw [exprE_cells] at hcs0
  obtain ⟨e0, vk0, hce0, hE0, hB0, hF0⟩ := ex_of fuel0 cs0.toList _ (by simpa using hcs0) (by simpa [Value.cells] using hf0)
  obtain ⟨A0, c0, rfl, _⟩ := id hE0
  obtain rfl : cs0 = #[.int .u8 e0.op, .string e0.name, .slice A0 e0.kids.length c0] := Array.ext' (by rw [hce0])
  obtain ⟨s1, rfl, rfl, rfl, hS1⟩ := open_string Tryd.underlying9 (hval 1 9 v1 rfl rfl) h1
  have hM1 : s1.size ≤ 140737488351232 := by have := weights_each 1 hwt rfl rfl s1.data.toList.length (by simp [DataW.weights]); rw [← Lib.size_eq] at this; exact this
  obtain ⟨s2, rfl, rfl, rfl, hS2⟩ := open_string Tryd.underlying9 (hval 2 9 v2 rfl rfl) h2
  have hM2 : s2.size ≤ 140737488351232 := by have := weights_each 2 hwt rfl rfl s2.data.toList.length (by simp [DataW.weights]); rw [← Lib.size_eq] at this; exact this
  obtain ⟨A3, len3, cap3, rfl⟩ := okWide_slice Tryd.underlying25 (hval 3 25 v3 rfl rfl)
  have h3' := h3
  obtain ⟨fuel3, hf3⟩ := h3
  have hf3' : DataW.trod enc Tryd.prog W 0 (fun _ => true) true fuel3 25 [.slice A3 len3 cap3] = some (d3, p3) := by simpa [Value.cells] using hf3
  obtain ⟨l3, hR3, hB3, hZ3⟩ := strsE_of hf3'
  have hN3 := strs_len hf3' hR3 (weights_each 3 hwt rfl rfl)
  have hbk := of_decide_eq_true hk
  simp only [List.append_nil, Rows.uptoBulkAll, Rows.uptoBulk] at hbk
  refine (exprReads_walk e0 A0 _ c0 s1 s2 _ l3 W hF0 hE0 hL hR3 hZ3 (by have h2 := hB0; simp only at h2; omega)).mono fun e W' ⟨he, hb⟩ => ?_
  subst he
  have e1 : Rows.exprReadsSpec.fn H ([d0, .lit (.string s1.data.toList), .lit (.string s2.data.toList), d3] ++ []) = { results := [.lit (.bool true)], args := [d0, .lit (.string s1.data.toList), .lit (.string s2.data.toList), d3] } := rfl
  refine ⟨_, rfl, _, _, _, [], p0 ++ p3, [], by simpa using hW', ?_, ?_, ?_, hb.frame _, fun h => by cases h⟩
  · rw [e1]; exact trodAll_mk1 (shut_bool Tryd.underlying4 _)
  · rw [e1]
    have t2 := trodAll_mk4 (Below.trod laidOut (by kernel_rfl) (of_decide_eq_true (by kernel_rfl)) h0' hb (fun x hx => hlt x (by simp [hx]))) (shut_string Tryd.underlying9 hS1) (shut_string Tryd.underlying9 hS2) (Below.trod laidOut (by kernel_rfl) (of_decide_eq_true (by kernel_rfl)) h3' hb (fun x hx => hlt x (by simp [hx])))
    simpa using t2
  · rw [e1]; rfl

theorem exprReadsU_reads (os : Os) {H : Type} (enc : TypeId × Value → H) : ∃ places, DataW.whole enc Tryd.prog ((laidWorld os).forCall (fun _ _ => 0) ⟨#[], #[.agg #[.int .u8 0, .string ⟨#[]⟩, .slice none 0 0], .string ⟨#[]⟩, .string ⟨#[]⟩, .slice none 0 0], []⟩).memory Tryd.f3.params.toList Rows.exprReadsSpec.vars false #[Value.agg #[.int .u8 0, .string ⟨#[]⟩, .slice none 0 0], .string ⟨#[]⟩, .string ⟨#[]⟩, .slice none 0 0].toList 8 = some ([.agg [.lit (.int .u8 0), .lit (.string []), .nil], .lit (.string []), .lit (.string []), .nil], [], places) :=
  ⟨[], by kernel_rfl⟩

set_option maxRecDepth 100000 in
theorem exprReadsU_lifted (os : Os) (started : os.Started) (H : Type) (enc : TypeId × Value → H) (F : Stop.Interp) :
    ReturnsInHanded {} Tryd.checked os 3 .any ((Rows.OpenSpec.upto Rows.exprReadsSpec).preRow enc Tryd.prog Tryd.f3 Rows.exprReadsUptoRow.domain false Rows.exprReadsUptoRow.laid) (((Rows.OpenSpec.upto Rows.exprReadsSpec).at F).post enc Tryd.prog Tryd.f3 false true false false) := by
  obtain ⟨places, hx⟩ := exprReadsU_reads os enc
  refine returnsInHanded_of_row (C := Tryd.checked) (s := Rows.OpenSpec.upto Rows.exprReadsSpec) own started (by kernel_rfl) Tryd.func3
    (witness_row_at (enc := enc) (C := Tryd.checked) false (laidWorld os) #[.agg #[.int .u8 0, .string ⟨#[]⟩, .slice none 0 0], .string ⟨#[]⟩, .string ⟨#[]⟩, .slice none 0 0] rfl (by kernel_rfl) (by kernel_rfl) (by kernel_rfl)
      (OpenSpec.preRow_of_cond 8 hx (by kernel_rfl) (fun k hk => by cases hk; kernel_rfl) (by kernel_rfl) (exprReadsU_laid os _))) ?_
  intro W base args ds gs before hval hW _ hcd hwt hL _ _
  exact exprReadsU_contract H enc W base args ds gs before _ hval hW (hcd _ rfl) hwt (tabB_of hL)

theorem exprReadsU_said : Rows.ExprReadsUptoSaid :=
  OpenClaim.holds_of_cond 3 Tryd.f3 rfl rfl rfl rfl rfl rfl rfl ⟨rfl, rfl, rfl, rfl, rfl⟩ rfl rfl rfl rfl rfl (by kernel_rfl) Tryd.func3 (by kernel_rfl)
    (of_decide_eq_true (by kernel_rfl)) (by unfold Func.isWrapper; first | (rw [if_pos (by decide +kernel)]; kernel_rfl) | (rw [if_neg (by decide +kernel)]; exact ⟨rfl, rfl⟩))
    (fun os started H enc _ F => by rw [OpenClaim.pre_eq_preRow]; exact exprReadsU_lifted os started H enc F)

theorem exprReadsU_plain (f : FuncId) (fn : Func) (hf : Tryd.pinned.checked.prog.funcNamed "diptych/diptychlaw6.ExprReads" = some f) (hfn : Tryd.pinned.checked.prog.funcs[f]? = some fn) :
    false = Tryd.pinned.checked.prog.looks [] ∧ ∀ (j : Nat) t, fn.params[j]? = some t → Tryd.pinned.checked.prog.wantsStandIn t = false := by
  obtain rfl : f = 3 := Option.some.inj ((show Tryd.prog.funcNamed "diptych/diptychlaw6.ExprReads" = some 3 by kernel_rfl).symm.trans hf) |>.symm
  obtain rfl : fn = Tryd.f3 := (Option.some.inj (Tryd.func3.symm.trans hfn)).symm
  refine ⟨by kernel_rfl, fun j t ht => ?_⟩
  rw [Tryd.params3] at ht
  have h0 := Array.mem_of_getElem? ht
  simp only [List.mem_toArray, List.mem_cons, List.not_mem_nil, or_false] at h0
  have h : t = 24 ∨ t = 25 ∨ t = 9 := by
    rcases h0 with h0 | h0 | h0 | h0
    · exact (.inl h0)
    · exact (.inr (.inr h0))
    · exact (.inr (.inr h0))
    · exact (.inr (.inl h0))
  rcases h with rfl | rfl | rfl
  · exact (show Tryd.prog.wantsStandIn 24 = false by kernel_rfl)
  · exact (show Tryd.prog.wantsStandIn 25 = false by kernel_rfl)
  · exact (show Tryd.prog.wantsStandIn 9 = false by kernel_rfl)

theorem exprReadsU_card : Rows.ExprReadsUptoCardSaid :=
  Claim7.holds_tied_plain_at .later [] _ _ _ _ exprReadsU_said (fun _ h => by cases h) (by kernel_rfl) (fun _ h => by cases h) exprReadsUpto_row_tie rfl ⟨rfl, rfl⟩ (by kernel_rfl) rfl exprReadsU_plain (by kernel_rfl)
end Go.Proofs.YtldmimekmjmkgaaDoor
