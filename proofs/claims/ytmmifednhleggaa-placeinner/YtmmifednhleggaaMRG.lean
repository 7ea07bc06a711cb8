/-
  Rows of nodes that a call joins: what is kept, what is behind a place, and the node with its kids joined anew.
  A region whose last operation waits for all the others: the others are walked as a region of their own, and the last one is carried out behind them (no program is named here).
  What the document's With answers: a step down.
-/
import Derived.Test.YtmmifednhleggaaMRE
import Derived.Test.YtmmifednhleggaaRgA
import Derived.Test.YtmmifednhleggaaRgB
import Derived.Deep.RegionHeldLaw
import Derived.Test.YtmmifednhleggaaShelf
namespace Go.Proofs.Ytmmifednhleggaa
open Go.RowKit Go.Sort

theorem own_keep {w0 w w' : World} {base : Nat} {S : Nat → Prop} {v : Value} {l : List Tree} (h : Own w base S v l) (hS : ∀ b, S b → b < w0.heap.size) (hB : Below w0.heap.size w0 w) (hb : Below w.heap.size w w') : Own w' base S v l := by
  obtain ⟨xs, ho, hc⟩ := h
  exact ⟨xs, row_hold ho fun g hg => hb.block g (row_ty ho hg).2.1, hc.keep (fun _ h => h) fun b hb' => hb.block b (Nat.lt_of_lt_of_le (hS b hb') hB.size)⟩
theorem own_slice {w : World} {base : Nat} {S : Nat → Prop} {v : Value} {l : List Tree} (h : Own w base S v l) : ∃ A n c, v = .slice A n c := by
  obtain ⟨A, c, e, _⟩ := h.form
  exact ⟨A, _, c, e⟩
theorem Kids.dropped {w : World} {S : Nat → Prop} {b o n c : Nat} {l : List Tree} (h : Kids w S (.slice (some ⟨b, o, none⟩) n c) l) {k : Nat} (hk : k ≤ l.length) : Kids w S (.slice (some ⟨b, o + k * 5, none⟩) (n - k) (c - k)) (l.drop k) := by
  obtain ⟨A', c', hv, h1, h2, h3⟩ := h
  injection hv with hA hn hc
  subst hc
  refine ⟨_, c - k, by rw [List.length_drop, hn], by rw [List.length_drop]; omega, by omega, ?_⟩
  rcases h3 with rfl | ⟨b', o', e, hb, hr⟩
  · exact .inl (by simp)
  · rw [← hA] at e
    simp only [Option.some.injEq, Addr.mk.injEq, and_true] at e
    obtain ⟨rfl, rfl⟩ := e
    refine .inr ⟨b, o + k * 5, rfl, hb, rowAt_of _ _ _ fun i t hi => ?_⟩
    have := rowAt_get l b o hr (k + i) t (by rwa [List.getElem?_drop] at hi)
    rw [show o + k * 5 + i * 5 = o + (k + i) * 5 by omega]; exact this
theorem Node.three {w : World} {S : Nat → Prop} {k t : ByteArray} {vm va vk : Value} {u : Tree} (h : Node w S (.agg #[.string k, .string t, vm, va, vk]) u) : Strs w S vm u.marks ∧ Pairs w S va u.attrs := by
  obtain ⟨vm', va', vk', he, h1, h2, _⟩ := h
  injection he with he
  have h4 : k = u.kind ∧ t = u.text ∧ vm = vm' ∧ va = va' ∧ vk = vk' := by simpa using he
  obtain ⟨_, _, rfl, rfl, _⟩ := h4
  exact ⟨h1, h2⟩
/-- A row, when another block is turned. -/
theorem own_set {w : World} {base g o : Nat} {S : Nat → Prop} {v u : Value} {l : List Tree} (h : Own w base S v l) (hg : g < base) (hS : ∀ b, S b → b ≠ g) : Own (w.setCell ⟨g, o, none⟩ u) base S v l := by
  obtain ⟨xs, ho, hc⟩ := h
  exact ⟨xs, row_hold ho fun q hq => Below.heap_setCell _ _ _ _ (by have := (row_ty ho hq).1; show q ≠ g; omega), hc.keep (fun _ h => h) fun b hb => Below.heap_setCell _ _ _ _ (show b ≠ g from hS b hb)⟩
theorem below_new (w : World) (o : Obj) : Below w.heap.size w (w.alloc o) := (Below.refl _ _).alloc (Nat.le_refl _) _

/-- The node with its kids joined anew. -/
theorem with_node {S : Nat → Prop} {w WE : World} {hi : Nat} {t k' : Tree} {j : Nat} {A1 A2 A3 A4 : Option Addr} {n1 c1 n2 c2 c3 n4 c4 : Nat} {v0 v1 v2 v3 v4 : Value} (hS : ∀ b, S b → b < w.heap.size) (hz : w.heap.size + 3 ≤ hi) (hh : hi ≤ WE.heap.size) (hn : Node w S (.agg #[.string t.kind, .string t.text, .slice A1 n1 c1, .slice A2 n2 c2, .slice A3 t.kids.length c3]) t) (hb : Below w.heap.size w WE)
    (ho : Own WE hi (NewR S (w.heap.size + 3) hi) (.slice A4 n4 c4) (t.kids.take j ++ [k'] ++ t.kids.drop (j + 1))) (hs : t.kids.set j k' = t.kids.take j ++ [k'] ++ t.kids.drop (j + 1)) :
    n4 = (setKid t j k').kids.length ∧ Node (put5z WE (w.heap.size + 2) v0 v1 v2 v3 v4) (NewR S w.heap.size (put5z WE (w.heap.size + 2) v0 v1 v2 v3 v4).heap.size) (.agg #[.string (setKid t j k').kind, .string (setKid t j k').text, .slice A1 n1 c1, .slice A2 n2 c2, .slice A4 (setKid t j k').kids.length c4]) (setKid t j k') := by
  have hk : (setKid t j k').kids = t.kids.take j ++ [k'] ++ t.kids.drop (j + 1) := hs
  obtain ⟨A', c', e, _⟩ := ho.form
  injection e with _ hl _
  obtain ⟨h1, h2⟩ := hn.three
  have hsz := put5z_size (w := WE) (g := w.heap.size + 2) (v0 := v0) (v1 := v1) (v2 := v2) (v3 := v3) (v4 := v4)
  have hold : ∀ b, S b → (put5z WE (w.heap.size + 2) v0 v1 v2 v3 v4).heap[b]? = w.heap[b]? := fun b hb' => (put5z_other (by have := hS b hb'; omega)).trans (hb.block b (hS b hb'))
  obtain ⟨xs, hr, _⟩ := id ho
  have hkk : Kids WE (NewR S (w.heap.size + 3) WE.heap.size) (.slice A4 n4 c4) (t.kids.take j ++ [k'] ++ t.kids.drop (j + 1)) := by
    have hbig : ∀ b, NewR S (w.heap.size + 3) hi b → NewR S (w.heap.size + 3) WE.heap.size b := fun b h => h.imp id fun h => ⟨h.1, Nat.lt_of_lt_of_le h.2 hh⟩
    exact ho.kids hbig fun g hg => .inr ⟨by have := (row_ty hr hg).1; omega, (row_ty hr hg).2.1⟩
  refine ⟨by rw [hk]; exact hl, _, _, _, rfl, h1.keep (fun b h => .inl h) hold, h2.keep (fun b h => .inl h) hold, ?_⟩
  rw [← hk, hl, ← hk] at hkk
  refine hkk.keep (fun b h => h.imp id fun h => ⟨by have := h.1; omega, by rw [hsz]; exact h.2⟩) fun b h => put5z_other ?_
  rcases h with h | h
  · have := hS b h; omega
  · have := h.1; omega

end Go.Proofs.Ytmmifednhleggaa

namespace Go.Proofs.Ytmmifednhleggaa
open Go.RowKit

/-- The post of the others: where they end well, the last one is carried out. -/
def LastPost (P : Program) (ops : Array Oper) (n : Nat) (Q : Exit → Act → World → Prop) : Exit → Act → World → Prop
  | .normal, a, w => wpOp P ops Q n (Q .normal) a w
  | e, a, w => Q e a w

/-- No guards, and every edge points back. -/
def backward (l : List Oper) : Bool := (List.range l.length).all fun i => match l[i]? with
  | some o => o.guard.isNone && o.after.all fun e => decide (e.on < i)
  | none => true
/-- What number n waits for, one behind the other. -/
def waits (md : Region.Mode) (l : List Oper) : Nat → List Nat → List Nat
  | 0, s => s
  | f + 1, s => waits md l f (s ++ s.flatMap fun i => match l[i]? with
    | some o => (o.after.toList.filter fun e => Region.binds md e).map (·.on)
    | none => [])

variable {P : Program} {md : Region.Mode} {Q : Exit → Act → World → Prop}

theorem backward_spec {l : List Oper} (h : backward l = true) {i : Nat} {o : Oper} (ho : l[i]? = some o) : o.guard = none ∧ ∀ e ∈ o.after, e.on < i := by
  have hi := (List.getElem?_eq_some_iff.1 ho).1
  have h1 := (List.all_eq_true.1 h) i (List.mem_range.2 hi)
  rw [ho] at h1
  simp only [Bool.and_eq_true] at h1
  refine ⟨by simpa using h1.1, fun e he => ?_⟩
  have := Array.all_eq_true_iff_forall_mem.1 h1.2 e he
  simpa using this

def Closed (md : Region.Mode) (l : List Oper) (listed : Array Bool) : Prop := ∀ (i : Nat) o, l[i]? = some o → listed.getD i false = true → ∀ e ∈ o.after, Region.binds md e = true → listed.getD e.on false = true

theorem waits_listed {l : List Oper} {listed : Array Bool} (hc : Closed md l listed) : ∀ (f : Nat) (s : List Nat), (∀ j ∈ s, listed.getD j false = true) → ∀ j ∈ waits md l f s, listed.getD j false = true
  | 0, s, h, j, hj => h j hj
  | f + 1, s, h, j, hj => by
    refine waits_listed hc f _ (fun x hx => ?_) j hj
    rcases List.mem_append.1 hx with hx | hx
    · exact h x hx
    · obtain ⟨i, hi, hx⟩ := List.mem_flatMap.1 hx
      cases ho : l[i]? with
      | none => rw [ho] at hx; cases hx
      | some o =>
        rw [ho] at hx
        obtain ⟨e, he, rfl⟩ := List.mem_map.1 hx
        have he2 := List.mem_filter.1 he
        exact hc i o ho (h i hi) e (by simpa using he2.1) he2.2

/-- Where something is not listed, something may come up. -/
theorem ready_some {ops : Array Oper} {listed : Array Bool} (hb : backward ops.toList = true) (hz : listed.size = ops.size) : ∀ j, j < ops.size → listed.getD j true = false → Region.ready md ops listed ≠ [] := by
  intro j
  induction j using Nat.strongRecOn with
  | ind j ih =>
    intro hj hl
    have ho : ops[j]? = some ops[j] := Array.getElem?_eq_getElem hj
    by_cases ha : ∀ e ∈ ops[j].after, Region.binds md e = true → listed.getD e.on false = true
    · have : j ∈ Region.ready md ops listed := mem_ready.2 ⟨hl, _, ho, ha⟩
      intro h0; rw [h0] at this; cases this
    · simp only [Classical.not_forall] at ha
      obtain ⟨e, he, hbi, hn⟩ := ha
      have hlt := (backward_spec hb (i := j) (o := ops[j]) (by simp)).2 e he
      refine ih e.on hlt (by omega) ?_
      have hlt2 : e.on < listed.size := by omega
      simp only [Array.getD_eq_getD_getElem?, Array.getElem?_eq_getElem hlt2, Option.getD_some] at hn ⊢
      simpa using hn

theorem push_lt (L : Array Bool) {j : Nat} (h : j < L.size) (d : Bool) : (L.push false).getD j d = L.getD j d := by
  simp only [Array.getD_eq_getD_getElem?, Array.getElem?_push_lt h, Array.getElem?_eq_getElem h]
theorem push_at (L : Array Bool) (d : Bool) : (L.push false).getD L.size d = false := by
  simp [Array.getD_eq_getD_getElem?]
theorem push_set (L : Array Bool) {i : Nat} (h : i < L.size) : (L.push false).setIfInBounds i true = (L.setIfInBounds i true).push false := by
  apply Array.ext'
  simp [h]

theorem ready_last {xs : List Oper} {ok : Oper} (hb : backward (xs ++ [ok]) = true) {L : Array Bool} (hz : L.size = xs.length) {i : Nat} (hi : i < xs.length) :
    i ∈ Region.ready md (xs ++ [ok]).toArray (L.push false) ↔ i ∈ Region.ready md xs.toArray L := by
  have ho : (xs ++ [ok])[i]? = xs[i]? := List.getElem?_append_left hi
  rw [mem_ready, mem_ready]
  simp only [List.getElem?_toArray, ho]
  rw [push_lt L (by omega)]
  refine and_congr Iff.rfl ⟨fun ⟨o, h1, h2⟩ => ⟨o, h1, fun e he hbi => ?_⟩, fun ⟨o, h1, h2⟩ => ⟨o, h1, fun e he hbi => ?_⟩⟩
  · have := (backward_spec hb (ho.trans h1)).2 e he
    have h3 := h2 e he hbi
    rwa [push_lt L (by omega)] at h3
  · have := (backward_spec hb (ho.trans h1)).2 e he
    rw [push_lt L (by omega)]
    exact h2 e he hbi

theorem upon_last {ops : Array Oper} {n : Nat} {o : Oper} {a : Act} {K K' : Act → World → Prop} (hK : ∀ a w, K' a w → K a w) (r : Result Next) (h : o.upon P a K' (LastPost P ops n Q) r) : o.upon P a K Q r := by
  cases r with
  | ok x w' =>
    cases x <;> simp only [Oper.upon] at h ⊢ <;>
      first
        | exact hK _ _ h
        | exact Calls.mono h (fun e w'' he => by
            cases e with
            | returned v => exact hK _ _ he
            | panicked c => exact he
            | outgrown => exact he)
        | exact Rows.mono h (fun _ _ he => hK _ _ he)
        | exact h
  | halt x w' => cases x <;> simp only [Oper.upon] at h ⊢ <;> exact h

theorem wpOp_last {xs : List Oper} {ok : Oper} (hb : backward (xs ++ [ok]) = true) {i : Nat} (hi : i < xs.length) {a : Act} {w : World} {n : Nat} {K K' : Act → World → Prop} (hK : ∀ a w, K' a w → K a w)
    (h : wpOp P xs.toArray (LastPost P (xs ++ [ok]).toArray n Q) i K' a w) : wpOp P (xs ++ [ok]).toArray Q i K a w := by
  have ho : (xs ++ [ok])[i]? = xs[i]? := List.getElem?_append_left hi
  have hx : xs[i]? = some xs[i] := List.getElem?_eq_getElem hi
  have hg := (backward_spec hb (ho.trans hx)).1
  have hwt : ∀ y, Region.wanted xs[i] y = true := fun y => by simp [Region.wanted, hg]
  unfold wpOp at *
  simp only [List.getElem?_toArray, ho, hx, hwt, if_true] at h ⊢
  exact h.imp (fun h => upon_last hK _ h) fun ⟨h1, a', w', h2⟩ => ⟨h1, a', w', h2⟩

theorem wpAny_last {xs : List Oper} {ok : Oper} {f : Nat} (hb : backward (xs ++ [ok]) = true)
    (hw : ((List.range xs.length).all fun j => (waits md (xs ++ [ok]) f ((ok.after.toList.filter fun e => Region.binds md e).map (·.on))).contains j) = true) :
    ∀ (fuel : Nat) (L : Array Bool) (a : Act) (w : World), L.size = xs.length → Closed md (xs ++ [ok]) (L.push false) →
      wpAny P md xs.toArray (LastPost P (xs ++ [ok]).toArray xs.length Q) fuel L a w → wpAny P md (xs ++ [ok]).toArray Q (fuel + 1) (L.push false) a w := by
  have hn : (xs ++ [ok])[xs.length]? = some ok := by simp
  -- where the last one may come up, all the others are listed
  have hall : ∀ L : Array Bool, L.size = xs.length → Closed md (xs ++ [ok]) (L.push false) → xs.length ∈ Region.ready md (xs ++ [ok]).toArray (L.push false) → ∀ j, j < xs.length → L.getD j false = true := fun L hz hc hr j hj => by
    obtain ⟨_, o, ho, he⟩ := mem_ready.1 hr
    rw [List.getElem?_toArray, hn] at ho
    injection ho with ho
    subst ho
    have h1 := (List.all_eq_true.1 hw) j (List.mem_range.2 hj)
    have h2 := waits_listed hc f ((ok.after.toList.filter fun e => Region.binds md e).map (·.on)) (fun x hx => by
      obtain ⟨e, h3, rfl⟩ := List.mem_map.1 hx
      have h4 := List.mem_filter.1 h3
      exact he e (by simpa using h4.1) h4.2) j (by simpa using h1)
    rwa [push_lt L (by omega)] at h2
  have hnone : ∀ L : Array Bool, L.size = xs.length → (∀ j, j < xs.length → L.getD j false = true) → Region.ready md xs.toArray L = [] := fun L hz h => by
    refine List.eq_nil_iff_forall_not_mem.2 fun j hj => ?_
    obtain ⟨h1, o, ho, _⟩ := mem_ready.1 hj
    have hj' : j < xs.length := by
      rw [List.getElem?_toArray] at ho
      exact (List.getElem?_eq_some_iff.1 ho).1
    have h2 := h j hj'
    have hlt : j < L.size := by omega
    simp only [Array.getD_eq_getD_getElem?, Array.getElem?_eq_getElem hlt, Option.getD_some] at h1 h2
    rw [h1] at h2; cases h2
  have hsome : ∀ L : Array Bool, L.size = xs.length → Region.ready md (xs ++ [ok]).toArray (L.push false) ≠ [] := fun L hz =>
    ready_some (by simpa using hb) (by simp [hz]) xs.length (by simp) (by rw [← hz]; exact push_at L true)
  have hlast : ∀ (fuel : Nat) (L : Array Bool) (a : Act) (w : World), L.size = xs.length → Closed md (xs ++ [ok]) (L.push false) → xs.length ∈ Region.ready md (xs ++ [ok]).toArray (L.push false) →
      (Region.ready md xs.toArray L = [] → LastPost P (xs ++ [ok]).toArray xs.length Q .normal a w) → wpOp P (xs ++ [ok]).toArray Q xs.length (wpAny P md (xs ++ [ok]).toArray Q fuel ((L.push false).setIfInBounds xs.length true)) a w := fun fuel L a w hz hc hr h => by
    have h1 := hall L hz hc hr
    refine wpOp_mono (fun a' w' hq => wpAny_done ?_ hq fuel) (h (hnone L hz h1))
    refine List.eq_nil_iff_forall_not_mem.2 fun j hj => ?_
    obtain ⟨h2, o, ho, _⟩ := mem_ready.1 hj
    have hj' : j < xs.length + 1 := by
      rw [List.getElem?_toArray] at ho
      simpa using (List.getElem?_eq_some_iff.1 ho).1
    by_cases hjn : j = xs.length
    · subst hjn
      simp [hz] at h2
    · have hj2 : j < xs.length := by omega
      have h3 := h1 j hj2
      rw [getD_set_ne true (Ne.symm hjn), push_lt L (by omega)] at h2
      have hlt : j < L.size := by omega
      simp only [Array.getD_eq_getD_getElem?, Array.getElem?_eq_getElem hlt, Option.getD_some] at h2 h3
      rw [h2] at h3; cases h3
  intro fuel
  induction fuel with
  | zero =>
    intro L a w hz hc h
    refine ⟨fun h0 => absurd h0 (hsome L hz), fun i hi => ?_⟩
    by_cases hin : i < xs.length
    · have := (ready_last hb hz hin).1 hi
      rw [h.1] at this; cases this
    · have hi2 : i < xs.length + 1 := by
        obtain ⟨_, o, ho, _⟩ := mem_ready.1 hi
        rw [List.getElem?_toArray] at ho
        simpa using (List.getElem?_eq_some_iff.1 ho).1
      obtain rfl : i = xs.length := by omega
      exact hlast 0 L a w hz hc hi fun _ => h.2
  | succ fuel ih =>
    intro L a w hz hc h
    refine ⟨fun h0 => absurd h0 (hsome L hz), fun i hi => ?_⟩
    by_cases hin : i < xs.length
    · have h1 := h.2 i ((ready_last hb hz hin).1 hi)
      rw [push_set L (by omega)]
      refine wpOp_last hb hin (fun a' w' h2 => ih _ a' w' (by simpa using hz) ?_ h2) h1
      rw [← push_set L (by omega)]
      intro k o ho hk e he hbi
      by_cases hki : i = k
      · subst hki
        obtain ⟨_, o', ho', hall'⟩ := mem_ready.1 hi
        rw [List.getElem?_toArray, ho] at ho'
        injection ho' with ho'
        subst ho'
        exact getD_set_true (hall' e he hbi)
      · rw [getD_set_ne false hki] at hk
        exact getD_set_true (hc k o ho hk e he hbi)
    · have hi2 : i < xs.length + 1 := by
        obtain ⟨_, o, ho, _⟩ := mem_ready.1 hi
        rw [List.getElem?_toArray] at ho
        simpa using (List.getElem?_eq_some_iff.1 ho).1
      obtain rfl : i = xs.length := by omega
      exact hlast (fuel + 1) L a w hz hc hi fun h0 => h.1 h0

/-- The region: the others under S, then the last one. -/
theorem wp_region_last {id : Nat} {ops : List Oper} {xs : List Oper} {ok : Oper} {S : World → Prop} {a : Act} {w : World} (f : Nat) (he : ops = xs ++ [ok]) (hm : P.follows .mixedOrders = true) (hb : backward (xs ++ [ok]) = true)
    (hw : ((List.range xs.length).all fun j => (waits .any (xs ++ [ok]) f ((ok.after.toList.filter fun e => Region.binds .any e).map (·.on))).contains j) = true) (hS : S w.drew)
    (h : S w.drew → wpAnyH P .any xs.toArray (LastPost P (xs ++ [ok]).toArray xs.length Q) S xs.length (Array.replicate xs.length false) a w.drew) : (Code.region id ops.toArray true).wp P Q a w := by
  subst he
  refine wp_region_any hm ?_
  have h1 := wpAny_last (Q := Q) hb hw xs.length (Array.replicate xs.length false) a w.drew (by simp) (fun i o ho hl => by
    exfalso
    have hi : i < xs.length + 1 := by simpa using (List.getElem?_eq_some_iff.1 ho).1
    by_cases hin : i < xs.length
    · rw [push_lt _ (by simpa using hin)] at hl
      simp [hin] at hl
    · obtain rfl : i = xs.length := by omega
      have := push_at (Array.replicate xs.length false) false
      rw [Array.size_replicate] at this
      rw [this] at hl; cases hl) (wpAny_of_held _ _ _ _ (h hS))
  have h2 : (Array.replicate xs.length false).push false = Array.replicate (xs ++ [ok]).toArray.size false := by
    apply Array.ext'
    simp [List.replicate_succ']
  rw [h2] at h1
  simpa using h1
theorem last_step {ops : Array Oper} {n : Nat} {o : Oper} {a : Act} {w : World} (ho : ops[n]? = some o) (hg : o.guard = none) (h : o.wp P a w (Q .normal) Q) : LastPost P ops n Q .normal a w := by
  show wpOp P ops Q n (Q .normal) a w
  unfold wpOp
  rw [ho]
  simp only [show Region.wanted o (yielded ops a.tmps) = true by simp [Region.wanted, hg], if_true]
  exact .inl h
end Go.Proofs.Ytmmifednhleggaa

namespace Go.Proofs.Ytmmifednhleggaa
open Go.RowKit Go.Sort
set_option maxHeartbeats 20000000 in
set_option maxRecDepth 100000 in
attribute [local go_sem ↓] Go.wp_at_zero Go.wp_at_succ in
theorem rwith_cons (m : Tree) (x : Int) (q : List Int) (ih : RWithSaid m q) : RWithSaid m (x :: q) := by
  intro S t v vp vm w hS h hm hp hpr hw
  have IH := Lib.hid ih
  clear ih
  have HP := Lib.hid hp
  have HS := Lib.hid hS
  have HPR := Lib.hid hpr
  have HN := Lib.hid h
  have HM := Lib.hid hm
  obtain ⟨A1, n1, c1, A2, n2, c2, A3, c3, rfl⟩ := h.forms
  obtain ⟨M1, i1, j1, M2, i2, j2, M3, j3, rfl⟩ := hm.forms
  obtain ⟨Ap, cp, rfl, hpc⟩ := hp.form
  have hpm := hp.len.2.2
  unfold maxLen at hpm
  clear hp hpr h hm hS
  go_enter Try.func18, Try.ntmps18
  go_wp2_with fail
  generalize hW1 : ((w.alloc (.cells #[.string t.kind, .string t.text, .slice A1 n1 c1, .slice A2 n2 c2, .slice A3 t.kids.length c3] 31)).alloc (.cells #[.string m.kind, .string m.text, .slice M1 i1 j1, .slice M2 i2 j2, .slice M3 m.kids.length j3] 31)).alloc (.cells #[.string ⟨#[]⟩, .string ⟨#[]⟩, .slice none 0 0, .slice none 0 0, .slice none 0 0] 31) = W1
  have HB0 : Hid (Below w.heap.size w W1) := Lib.hid (by subst hW1; exact (((Below.refl _ _).alloc (Nat.le_refl _) _).alloc (by simp) _).alloc (by simp; omega) _)
  have HC1 : Hid (W1.heap[w.heap.size]? = some (.cells #[.string t.kind, .string t.text, .slice A1 n1 c1, .slice A2 n2 c2, .slice A3 t.kids.length c3] 31) ∧ W1.heap[w.heap.size + 1]? = some (.cells #[.string m.kind, .string m.text, .slice M1 i1 j1, .slice M2 i2 j2, .slice M3 m.kids.length j3] 31) ∧ W1.heap[w.heap.size + 2]? = some (.cells #[.string ⟨#[]⟩, .string ⟨#[]⟩, .slice none 0 0, .slice none 0 0, .slice none 0 0] 31) ∧ W1.heap.size = w.heap.size + 3) := Lib.hid (by
    subst hW1; exact ⟨heap_old _ _ _ (heap_old _ _ _ (heap_new _ _)), heap_old _ _ _ (heap_new' _ _ (by simp)), heap_new' _ _ (by simp), by simp⟩)
  clear hW1
  have HPK : Hid (∀ W, Below w.heap.size w W → Ints W (Under W.heap.size) (.slice Ap (x :: q).length cp) (x :: q)) := Lib.hid fun W hW => HP.out.keep (fun b hb => Nat.lt_of_lt_of_le hb hW.size) (fun b hb => hW.block b hb)
  refine (rinner_any _ _ t (x :: q) W1 (HN.out.keep (fun b hb => Nat.lt_of_lt_of_le (HS.out b hb) HB0.out.size) (fun b hb => HB0.out.block b (HS.out b hb))) (HPK.out W1 HB0.out) HPR.out hw).mono ?_
  rintro e w2 ⟨B1, m1, d1, B2, m2, d2, B3, d3, u, nn, rfl, hnu, hfo, hb2⟩
  have hz1 := HC1.out.2.2.2
  have hz2 := hb2.size
  have HB2 := Lib.hid (belowNext HB0.out hb2)
  generalize hob : (Obj.cells #[.string u.kind, .string u.text, .slice B1 m1 d1, .slice B2 m2 d2, .slice B3 u.kids.length d3] 31) = ob
  have hb3 : Below w2.heap.size w2 (w2.alloc ob) := (Below.refl _ _).alloc (Nat.le_refl _) _
  have HN3 := Lib.hid ((hb3.block w.heap.size (by omega)).trans ((hb2.block w.heap.size (by omega)).trans HC1.out.1))
  have HM3 := Lib.hid ((hb3.block (w.heap.size + 1) (by omega)).trans ((hb2.block (w.heap.size + 1) (by omega)).trans HC1.out.2.1))
  have HR3 := Lib.hid ((hb3.block (w.heap.size + 2) (by omega)).trans ((hb2.block (w.heap.size + 2) (by omega)).trans HC1.out.2.2.1))
  have HB3 := Lib.hid (belowNext HB2.out hb3)
  have HZ3 : Hid (w.heap.size + 3 ≤ (w2.alloc ob).heap.size) := Lib.hid (by have := hb3.size; omega)
  have f0 := frozen_of_row _ _ 0 _ _ HR3.out
  have f1 := frozen_of_row _ _ 1 _ _ HR3.out
  have f2 := frozen_of_row _ _ 2 _ _ HR3.out
  have f3 := frozen_of_row _ _ 3 _ _ HR3.out
  have f4 := frozen_of_row _ _ 4 _ _ HR3.out
  obtain ⟨a0, a1, a2, a3, a4⟩ := cells5 HR3.out
  subst hob
  clear hb2 hnu HC1 hb3 hz1 hz2
  rcases hfo with ⟨hf, rfl⟩ | ⟨hf, rfl, hu0⟩
  rotate_left
  · have HE := Lib.hid hf
    clear hf hu0
    go_wp2
    obtain ⟨q0, q1, q2, q3, q4⟩ := cells5 (put5z_block (v0 := .string ⟨#[]⟩) (v1 := .string ⟨#[]⟩) (v2 := .slice none 0 0) (v3 := .slice none 0 0) (v4 := .slice none 0 0) HR3.out)
    have HBE := Lib.hid (put5z_below (g := w.heap.size + 2) (v0 := .string ⟨#[]⟩) (v1 := .string ⟨#[]⟩) (v2 := .slice none 0 0) (v3 := .slice none 0 0) (v4 := .slice none 0 0) (by omega) HB3.out)
    unfold put5z at q0 q1 q2 q3 q4
    refine bodyPost_ret (v := .tuple #[.agg #[.string ⟨#[]⟩, .string ⟨#[]⟩, .slice none 0 0, .slice none 0 0, .slice none 0 0], .int .i64 9]) (by simp [results, Try.results18, go_sem, q0, q1, q2, q3, q4]) rfl ?_
    exact ⟨none, 0, 0, none, 0, 0, none, 0, .mk ⟨#[]⟩ ⟨#[]⟩ [] [] [], 9, rfl, ⟨_, _, _, rfl, strs_nil, pairs_nil, kids_nil⟩, .inr ⟨HE.out, rfl, rfl⟩, HBE.out⟩
  · have HE := Lib.hid hf
    clear f0 f1 f2 f3 f4 a0 a1 a2 a3 a4
    have hgo := (followB_some hf).1
    rw [goB] at hgo
    obtain ⟨y, hky, hgy⟩ : ∃ y, kidAt t x = some y ∧ goB y q = some u := by
      cases hq : kidAt t x with
      | none => rw [hq] at hgo; cases hgo
      | some y => rw [hq] at hgo; exact ⟨y, rfl, hgo⟩
    have HFY : Hid (followB y q ≠ none) := Lib.hid (by rw [followB_of hgy (followB_some hf).2]; simp)
    obtain ⟨hty, hx0, hju⟩ := kidAt_some hky
    obtain ⟨j, rfl⟩ : ∃ j : Nat, x = (j : Int) := ⟨x.toNat, by omega⟩
    rw [Int.toNat_natCast] at hju
    have hj : j < t.kids.length := (List.getElem?_eq_some_iff.1 hju).1
    have hwk := weigh_kidAt hju
    have HWS : Hid (withB t ((j : Int) :: q) m = setKid t j (withB y q m)) := Lib.hid (by simp [withB, hju])
    have HSET : Hid (t.kids.set j (withB y q m) = t.kids.take j ++ [withB y q m] ++ t.kids.drop (j + 1)) := Lib.hid (by rw [List.set_eq_take_append_cons_drop, if_pos hj]; simp)
    have hl2 : t.kids.length ≤ 1000000 := by have := length_le_weigh t.kids; have := kids_weigh t; omega
    obtain ⟨bp, op, rfl, hup, hcx⟩ := HP.out.get (k := 0) (x := (j : Int)) rfl
    obtain ⟨by', oy, E1, l1, e1, E2, l2, e2, E3, e3, rfl, huy, r0, r1, r2, r3, r4, hny⟩ := HN.out.kidsOf.kid hju
    have hd3 := HN.out.kidsOf.len.2.1
    have HPC : Hid (∀ W, Below w.heap.size w W → W.cell? ⟨bp, op, none⟩ = some (.int .i64 (j : Int))) := Lib.hid fun W hW => (hW.cell (p := ⟨bp, op, none⟩) hup).trans hcx
    have HYC : Hid (∀ W, Below w.heap.size w W → W.cell? ⟨by', oy + j * 5, none⟩ = some (.string y.kind) ∧ W.cell? ⟨by', oy + j * 5 + 1, none⟩ = some (.string y.text) ∧ W.cell? ⟨by', oy + j * 5 + 2, none⟩ = some (.slice E1 l1 e1) ∧ W.cell? ⟨by', oy + j * 5 + 3, none⟩ = some (.slice E2 l2 e2) ∧ W.cell? ⟨by', oy + j * 5 + 4, none⟩ = some (.slice E3 y.kids.length e3)) := Lib.hid fun W hW =>
      ⟨(hW.cell (p := ⟨by', oy + j * 5, none⟩) (HS.out _ huy)).trans r0, (hW.cell (p := ⟨by', oy + j * 5 + 1, none⟩) (HS.out _ huy)).trans r1, (hW.cell (p := ⟨by', oy + j * 5 + 2, none⟩) (HS.out _ huy)).trans r2, (hW.cell (p := ⟨by', oy + j * 5 + 3, none⟩) (HS.out _ huy)).trans r3, (hW.cell (p := ⟨by', oy + j * 5 + 4, none⟩) (HS.out _ huy)).trans r4⟩
    have HNY := Lib.hid hny
    have hbpne : Hid (bp ≠ w.heap.size) := Lib.hid (Nat.ne_of_lt hup)
    clear hf hgo hky hgy hty hx0 hju hcx hup huy r0 r1 r2 r3 r4 hny
    go_upto_region 6 with fail
    generalize hW3 : w2.alloc (.cells #[.string u.kind, .string u.text, .slice B1 m1 d1, .slice B2 m2 d2, .slice B3 u.kids.length d3] 31) = W3 at *
    have HZW := Lib.hid hW3
    clear hW3 HZW
    have hz3 := HZ3.out
    have HCALL : Hid (∀ W o' d, (q = [] ∨ o' = op + 1) → d = cp - 1 → Below w.heap.size w W → Calls Try.prog 18 #[.agg #[.string y.kind, .string y.text, .slice E1 l1 e1, .slice E2 l2 e2, .slice E3 y.kids.length e3], .slice (some ⟨bp, o', none⟩) q.length d, .agg #[.string m.kind, .string m.text, .slice M1 i1 j1, .slice M2 i2 j2, .slice M3 m.kids.length j3]] W (RWithPost S W y m q)) := Lib.hid fun W o' d ho hd hW => by
      subst hd
      exact IH.out S y _ _ _ W (fun b hb => Nat.lt_of_lt_of_le (HS.out b hb) hW.size) (HNY.out.keep (fun _ h => h) (fun b hb => hW.block b (HS.out b hb))) (HM.out.keep (fun _ h => h) (fun b hb => hW.block b (HS.out b hb))) ((HPK.out W hW).tail o' ho) (fun z hz => HPR.out z (List.mem_cons_of_mem _ hz)) (by omega)
    have HA3 : Hid (Below W3.heap.size W3 (W3.alloc ZNodeR).drew) := Lib.hid (((Below.refl _ _).alloc (Nat.le_refl _) _).drew)
    have D0 : Hid (Below w.heap.size w W3.drew) := Lib.hid HB3.out.drew
    have D1 : Hid (Below w.heap.size w (W3.alloc ZNodeR).drew) := Lib.hid (belowNext HB3.out HA3.out)
    have S1 : Hid (((W3.alloc ZNodeR).drew).heap[W3.heap.size]? = some ZNodeR) := Lib.hid (show (W3.alloc ZNodeR).heap[W3.heap.size]? = _ from heap_new _ _)
    have K1 : Hid (W3.heap.size < ((W3.alloc ZNodeR).drew).heap.size) := Lib.hid (show W3.heap.size < (W3.alloc ZNodeR).heap.size by simp)
    have R0 : Hid (W3.drew.heap[w.heap.size + 2]? = some ZNodeR) := Lib.hid HR3.out
    have L2 : Hid (w.heap.size + 2 < W3.drew.heap.size) := Lib.hid (show w.heap.size + 2 < W3.heap.size by omega)
    have T0 : Hid (W3.drew.heap[w.heap.size]? = some (.cells #[.string t.kind, .string t.text, .slice A1 n1 c1, .slice A2 n2 c2, .slice (some ⟨by', oy, none⟩) t.kids.length c3] 31)) := Lib.hid HN3.out
    have LT0 : Hid (w.heap.size < W3.drew.heap.size) := Lib.hid (show w.heap.size < W3.heap.size by omega)
    have T1 : Hid (((W3.alloc ZNodeR).drew).heap[w.heap.size]? = some (.cells #[.string t.kind, .string t.text, .slice A1 n1 c1, .slice A2 n2 c2, .slice (some ⟨by', oy, none⟩) t.kids.length c3] 31)) := Lib.hid ((HA3.out.block _ (by omega)).trans HN3.out)
    have LT1 : Hid (w.heap.size < ((W3.alloc ZNodeR).drew).heap.size) := Lib.hid (Nat.lt_trans (by omega) K1.out)
    have R1 : Hid (((W3.alloc ZNodeR).drew).heap[w.heap.size + 2]? = some ZNodeR) := Lib.hid ((HA3.out.block _ (by omega)).trans HR3.out)
    have L3 : Hid (w.heap.size + 2 < ((W3.alloc ZNodeR).drew).heap.size) := Lib.hid (Nat.lt_trans (by omega) K1.out)
    obtain ⟨_, _, _, _, t4⟩ := cells5 HN3.out
    obtain ⟨_, _, _, _, t4'⟩ := cells5 ((HA3.out.block _ (by omega)).trans HN3.out)
    obtain ⟨y0, y1, y2, y3, y4⟩ := cells5 HM3.out
    obtain ⟨y0', y1', y2', y3', y4'⟩ := cells5 ((HA3.out.block _ (by omega)).trans HM3.out)
    have z0 := HPC.out W3 HB3.out
    have z0' := HPC.out _ D1.out
    obtain ⟨s0, s1, s2, s3, s4⟩ := HYC.out W3 HB3.out
    obtain ⟨s0', s1', s2', s3', s4'⟩ := HYC.out _ D1.out
    have HPCL := Lib.hid hpc
    have AL : Hid (∀ (W : World) ob, Below W.heap.size W (W.alloc ob)) := Lib.hid fun W ob => (Below.refl _ _).alloc (Nat.le_refl _) _
    have i9 : (1 : Int) ≤ (q.length : Int) + 1 := by omega
    clear hpc
    clear hwk
    go_cut [10, 11] (fun s10 _ wx => RWithMid S w (.cells #[.string t.kind, .string t.text, .slice A1 n1 c1, .slice A2 n2 c2, .slice (some ⟨by', oy, none⟩) t.kids.length c3] 31) (withB y q m) s10 wx)
    case first =>
      by_cases hc1 : cp = 1
      · subst hc1
        have HQ : Hid (q = []) := Lib.hid (by simpa using HPCL.out)
        go_region_law (first
          | ((with_reducible refine step_rwith (v := .agg #[.string y.kind, .string y.text, .slice E1 l1 e1, .slice E2 l2 e2, .slice E3 y.kids.length e3]) (vm := .agg #[.string m.kind, .string m.text, .slice M1 i1 j1, .slice M2 i2 j2, .slice M3 m.kids.length j3]) (y := y) (m := m) (q := q) (vp := .slice (some ⟨bp, op, none⟩) q.length 0) (w := W3.drew) rfl (.tmp 33) (.tmp 35) (.tmp 36) rfl rfl rfl rfl (HCALL.out _ _ _ (.inl HQ.out) rfl D0.out) HFY.out ?_); intro F1 k1 g1 F2 k2 g2 F3 g3 w6 hn6 hb6; have HN6 := Lib.hid hn6; have HB6 := Lib.hid (belowNext D0.out hb6); have HR6 := Lib.hid ((hb6.block _ L2.out).trans R0.out); have HT6 := Lib.hid ((hb6.block _ LT0.out).trans T0.out); have HZ6 : Hid (w.heap.size + 3 ≤ w6.heap.size) := Lib.hid (Nat.le_trans HZ3.out hb6.size); clear hn6 hb6)
          | ((with_reducible refine step_rwith (v := .agg #[.string y.kind, .string y.text, .slice E1 l1 e1, .slice E2 l2 e2, .slice E3 y.kids.length e3]) (vm := .agg #[.string m.kind, .string m.text, .slice M1 i1 j1, .slice M2 i2 j2, .slice M3 m.kids.length j3]) (y := y) (m := m) (q := q) (vp := .slice (some ⟨bp, op, none⟩) q.length 0) (w := (W3.alloc ZNodeR).drew) rfl (.tmp 33) (.tmp 35) (.tmp 36) rfl rfl rfl rfl (HCALL.out _ _ _ (.inl HQ.out) rfl D1.out) HFY.out ?_); intro F1 k1 g1 F2 k2 g2 F3 g3 w6 hn6 hb6; have HN6 := Lib.hid hn6; have HB6 := Lib.hid (belowNext D1.out hb6); have HR6 := Lib.hid ((hb6.block _ L3.out).trans R1.out); have HT6 := Lib.hid ((hb6.block _ LT1.out).trans T1.out); have HS6 := Lib.hid ((hb6.block _ K1.out).trans S1.out); obtain ⟨c0, c1, c2', c3', c4⟩ := cells5 HS6.out; have b0 := frozen_of_row _ _ 0 _ _ HS6.out; have b1 := frozen_of_row _ _ 1 _ _ HS6.out; have b2 := frozen_of_row _ _ 2 _ _ HS6.out; have b3 := frozen_of_row _ _ 3 _ _ HS6.out; have b4 := frozen_of_row _ _ 4 _ _ HS6.out; clear hn6 hb6))
        all_goals
          go_wp2_with fail
          go_meet
          first
            | with_reducible exact mid_new HS.out HZ3.out HZ6.out HB6.out HN6.out HR6.out HT6.out
            | with_reducible exact mid_put HS.out HZ3.out HB6.out HS6.out HN6.out HR6.out HT6.out
      · have hc2 : 1 < cp := by have := HPCL.out; simp at this; omega
        go_region_law (first
          | ((with_reducible refine step_rwith (v := .agg #[.string y.kind, .string y.text, .slice E1 l1 e1, .slice E2 l2 e2, .slice E3 y.kids.length e3]) (vm := .agg #[.string m.kind, .string m.text, .slice M1 i1 j1, .slice M2 i2 j2, .slice M3 m.kids.length j3]) (y := y) (m := m) (q := q) (vp := .slice (some ⟨bp, op + 1, none⟩) q.length (cp - 1)) (w := W3.drew) rfl (.tmp 33) (.tmp 35) (.tmp 36) rfl rfl rfl rfl (HCALL.out _ _ _ (.inr rfl) rfl D0.out) HFY.out ?_); intro F1 k1 g1 F2 k2 g2 F3 g3 w6 hn6 hb6; have HN6 := Lib.hid hn6; have HB6 := Lib.hid (belowNext D0.out hb6); have HR6 := Lib.hid ((hb6.block _ L2.out).trans R0.out); have HT6 := Lib.hid ((hb6.block _ LT0.out).trans T0.out); have HZ6 : Hid (w.heap.size + 3 ≤ w6.heap.size) := Lib.hid (Nat.le_trans HZ3.out hb6.size); clear hn6 hb6)
          | ((with_reducible refine step_rwith (v := .agg #[.string y.kind, .string y.text, .slice E1 l1 e1, .slice E2 l2 e2, .slice E3 y.kids.length e3]) (vm := .agg #[.string m.kind, .string m.text, .slice M1 i1 j1, .slice M2 i2 j2, .slice M3 m.kids.length j3]) (y := y) (m := m) (q := q) (vp := .slice (some ⟨bp, op + 1, none⟩) q.length (cp - 1)) (w := (W3.alloc ZNodeR).drew) rfl (.tmp 33) (.tmp 35) (.tmp 36) rfl rfl rfl rfl (HCALL.out _ _ _ (.inr rfl) rfl D1.out) HFY.out ?_); intro F1 k1 g1 F2 k2 g2 F3 g3 w6 hn6 hb6; have HN6 := Lib.hid hn6; have HB6 := Lib.hid (belowNext D1.out hb6); have HR6 := Lib.hid ((hb6.block _ L3.out).trans R1.out); have HT6 := Lib.hid ((hb6.block _ LT1.out).trans T1.out); have HS6 := Lib.hid ((hb6.block _ K1.out).trans S1.out); obtain ⟨c0, c1, c2', c3', c4⟩ := cells5 HS6.out; have b0 := frozen_of_row _ _ 0 _ _ HS6.out; have b1 := frozen_of_row _ _ 1 _ _ HS6.out; have b2 := frozen_of_row _ _ 2 _ _ HS6.out; have b3 := frozen_of_row _ _ 3 _ _ HS6.out; have b4 := frozen_of_row _ _ 4 _ _ HS6.out; clear hn6 hb6))
        all_goals
          go_wp2_with fail
          go_meet
          first
            | with_reducible exact mid_new HS.out HZ3.out HZ6.out HB6.out HN6.out HR6.out HT6.out
            | with_reducible exact mid_put HS.out HZ3.out HB6.out HS6.out HN6.out HR6.out HT6.out
    case rest =>
      obtain ⟨G, F1, k1, g1, F2, k2, g2, F3, g3, rfl, hbc, hzg, hgc, hnc, hrc, htc⟩ := hcut
      generalize withB y q m = k' at *
      have HBC := Lib.hid hbc
      have hgl := heap_lt' hgc
      have htl := heap_lt' htc
      have hzc : w.heap.size + 3 ≤ wc.heap.size := by omega
      have HGC := Lib.hid hgc
      have HRC := Lib.hid hrc
      have HTC := Lib.hid htc
      have HNC := Lib.hid hnc
      clear t4 t4' y0 y1 y2 y3 y4 y0' y1' y2' y3' y4' z0 z0' s0 s1 s2 s3 s4 s0' s1' s2' s3' s4' HCALL HA3 D0 D1 S1 K1 R0 L2 R1 L3 T0 LT0 T1 LT1 AL HN3 HM3 HR3 HB3 HZ3 hz3 i9 HYC HNY hbc hgc hrc htc hnc HPCL
      have hjn : (j : Int) ≤ (c3 : Int) := by omega
      have hSS : ∀ b, NewR S (w.heap.size + 3) wc.heap.size b → b < wc.heap.size := fun b hb => hb.elim (fun h => Nat.lt_of_lt_of_le (HS.out b h) (by omega)) fun h => h.2
      have HSS := Lib.hid hSS
      have HKC : Hid (∀ W', Below wc.heap.size wc W' → Kids W' (NewR S (w.heap.size + 3) wc.heap.size) (.slice (some ⟨by', oy, none⟩) t.kids.length c3) t.kids) := Lib.hid fun W' hW => HN.out.kidsOf.keep (fun b hb => .inl hb) (fun b hb => (hW.block b (Nat.lt_of_lt_of_le (HS.out b hb) (by omega))).trans (HBC.out.block b (HS.out b hb)))
      have HK1 : Hid (∀ W', Below wc.heap.size wc W' → Src W' (NewR S (w.heap.size + 3) wc.heap.size) (.slice (some ⟨by', oy, none⟩) j c3) (t.kids.take j)) := Lib.hid fun W' hW => ((HKC.out W' hW).upto (Nat.le_of_lt hj)).src
      have HNK : Hid (∀ W', Below wc.heap.size wc W' → Node W' (NewR S (w.heap.size + 3) wc.heap.size) (.agg #[.string k'.kind, .string k'.text, .slice F1 k1 g1, .slice F2 k2 g2, .slice F3 k'.kids.length g3]) k') := Lib.hid fun W' hW => HNC.out.keep (fun _ h => h) (fun b hb => hW.block b (HSS.out b hb))
      have HLI : Hid (∀ (W' : World) (g : Nat), Below wc.heap.size wc W' → W'.heap[g]? = some (.cells #[.string k'.kind, .string k'.text, .slice F1 k1 g1, .slice F2 k2 g2, .slice F3 k'.kids.length g3] 31) → Src W' (NewR S (w.heap.size + 3) wc.heap.size) (.slice (some ⟨g, 0, none⟩) 1 1) [k']) := Lib.hid fun W' g hW hg => by
        obtain ⟨vm, va, vk, e, hm, ha, hk⟩ := HNK.out W' hW
        obtain ⟨l0, l1, l2, l3, l4⟩ := cells5 hg
        have e' : (.slice F1 k1 g1 : Value) = vm ∧ (.slice F2 k2 g2 : Value) = va ∧ (.slice F3 k'.kids.length g3 : Value) = vk := by
          injection e with e; simpa using e
        obtain ⟨rfl, rfl, rfl⟩ := e'
        exact src_one hm ha hk l0 l1 l2 l3 l4
      have HPP := Lib.hid (HPC.out wc HBC.out)
      have B0 : Hid (Below wc.heap.size wc ((wc.alloc (.cells #[] 31)).drew)) := Lib.hid (((Below.refl _ _).alloc (Nat.le_refl _) _).drew)
      have B1 : Hid (Below wc.heap.size wc ((wc.alloc (.cells #[.string k'.kind, .string k'.text, .slice F1 k1 g1, .slice F2 k2 g2, .slice F3 k'.kids.length g3] 31)).drew)) := Lib.hid (((Below.refl _ _).alloc (Nat.le_refl _) _).drew)
      have B01 : Hid (Below wc.heap.size wc (((wc.alloc (.cells #[] 31)).alloc (.cells #[.string k'.kind, .string k'.text, .slice F1 k1 g1, .slice F2 k2 g2, .slice F3 k'.kids.length g3] 31)).drew)) := Lib.hid ((((Below.refl _ _).alloc (Nat.le_refl _) _).alloc (by simp) _).drew)
      have B10 : Hid (Below wc.heap.size wc (((wc.alloc (.cells #[.string k'.kind, .string k'.text, .slice F1 k1 g1, .slice F2 k2 g2, .slice F3 k'.kids.length g3] 31)).alloc (.cells #[] 31)).drew)) := Lib.hid ((((Below.refl _ _).alloc (Nat.le_refl _) _).alloc (by simp) _).drew)
      have F0 : Hid (Own ((wc.alloc (.cells #[] 31)).drew) wc.heap.size (NewR S (w.heap.size + 3) wc.heap.size) (.slice (some ⟨wc.heap.size, 0, none⟩) 0 0) []) := Lib.hid (own_empty (heap_new wc _) (Nat.le_refl _))
      have F01 : Hid (Own (((wc.alloc (.cells #[] 31)).alloc (.cells #[.string k'.kind, .string k'.text, .slice F1 k1 g1, .slice F2 k2 g2, .slice F3 k'.kids.length g3] 31)).drew) wc.heap.size (NewR S (w.heap.size + 3) wc.heap.size) (.slice (some ⟨wc.heap.size, 0, none⟩) 0 0) []) := Lib.hid (own_empty (heap_old _ _ _ (heap_new wc _)) (Nat.le_refl _))
      have F10 : Hid (Own (((wc.alloc (.cells #[.string k'.kind, .string k'.text, .slice F1 k1 g1, .slice F2 k2 g2, .slice F3 k'.kids.length g3] 31)).alloc (.cells #[] 31)).drew) wc.heap.size (NewR S (w.heap.size + 3) wc.heap.size) (.slice (some ⟨wc.heap.size + 1, 0, none⟩) 0 0) []) := Lib.hid (own_empty (heap_new' (wc.alloc (.cells #[.string k'.kind, .string k'.text, .slice F1 k1 g1, .slice F2 k2 g2, .slice F3 k'.kids.length g3] 31)) _ (by simp)) (Nat.le_succ _))
      have G01 : Hid ((((wc.alloc (.cells #[] 31)).alloc (.cells #[.string k'.kind, .string k'.text, .slice F1 k1 g1, .slice F2 k2 g2, .slice F3 k'.kids.length g3] 31)).drew).heap[wc.heap.size + 1]? = some (.cells #[.string k'.kind, .string k'.text, .slice F1 k1 g1, .slice F2 k2 g2, .slice F3 k'.kids.length g3] 31)) := Lib.hid (heap_new' (wc.alloc (.cells #[] 31)) _ (by simp))
      have G10 : Hid ((((wc.alloc (.cells #[.string k'.kind, .string k'.text, .slice F1 k1 g1, .slice F2 k2 g2, .slice F3 k'.kids.length g3] 31)).alloc (.cells #[] 31)).drew).heap[wc.heap.size]? = some (.cells #[.string k'.kind, .string k'.text, .slice F1 k1 g1, .slice F2 k2 g2, .slice F3 k'.kids.length g3] 31)) := Lib.hid (heap_old _ _ _ (heap_new wc _))
      have HSE : Hid (∀ (W' : World) (e : Nat), wc.heap.size ≤ e → Below wc.heap.size wc W' → ∀ b, NewR S (w.heap.size + 3) wc.heap.size b → b < W'.heap.size ∧ some b ≠ (Value.slice (some ⟨e, 0, none⟩) 0 0).ownBlock) := Lib.hid fun W' e he hW b hb => ⟨Nat.lt_of_lt_of_le (HSS.out b hb) hW.size, fun h => by have := HSS.out b hb; simp [Value.ownBlock] at h; omega⟩
      have HSO : Hid (∀ (W' : World) (v : Value) (l : List Tree), Own W' wc.heap.size (NewR S (w.heap.size + 3) wc.heap.size) v l → Below wc.heap.size wc W' → ∀ b, NewR S (w.heap.size + 3) wc.heap.size b → b < W'.heap.size ∧ some b ≠ v.ownBlock) := Lib.hid fun W' v l ho hW b hb => ⟨Nat.lt_of_lt_of_le (HSS.out b hb) hW.size, fun h => by obtain ⟨xs, hr, _⟩ := ho; have h1 := (row_ty hr h.symm).1; have := HSS.out b hb; omega⟩
      have HGB : Hid (∀ (W' W'' : World) (v : Value) (l : List Tree), Own W' wc.heap.size (NewR S (w.heap.size + 3) wc.heap.size) v l → Below wc.heap.size wc W' → W'.grownBy W'' v.ownBlock → Below wc.heap.size wc W'') := Lib.hid fun W' W'' v l ho hW hg => by obtain ⟨xs, hr, _⟩ := ho; exact hW.trans ((Below.refl _ _).grown hg hW.size fun q hq => (row_ty hr hq).1)
      have N1 : Hid (([] : List Tree).length + (t.kids.take j).length ≤ 1000000) := Lib.hid (by simp only [List.length_nil, List.length_take]; omega)
      have N2 : Hid ((t.kids.take j).length + [k'].length ≤ 1000000) := Lib.hid (by simp only [List.length_cons, List.length_nil, List.length_take]; omega)
      have N3 : Hid ((t.kids.take j ++ [k']).length + (t.kids.drop (j + 1)).length ≤ 1000000) := Lib.hid (by simp only [List.length_append, List.length_cons, List.length_nil, List.length_take, List.length_drop]; omega)
      have hbpl := cell_lt HPP.out
      have HSP : Hid (∀ W', Below wc.heap.size wc W' → (fun w' => w'.cell? ⟨bp, op, none⟩ = some (.int .i64 (j : Int)) ∧ w'.cell? ⟨G, 0, none⟩ = some (.string k'.kind) ∧ w'.cell? ⟨G, 1, none⟩ = some (.string k'.text) ∧ w'.cell? ⟨G, 2, none⟩ = some (.slice F1 k1 g1) ∧ w'.cell? ⟨G, 3, none⟩ = some (.slice F2 k2 g2) ∧ w'.cell? ⟨G, 4, none⟩ = some (.slice F3 k'.kids.length g3) ∧ w'.cell? ⟨w.heap.size, 4, none⟩ = some (.slice (some ⟨by', oy, none⟩) t.kids.length c3)) W') := Lib.hid fun W' hW => by
        obtain ⟨p0, p1, p2, p3, p4⟩ := cells5 ((hW.block G hgl).trans HGC.out)
        obtain ⟨_, _, _, _, p9⟩ := cells5 ((hW.block _ htl).trans HTC.out)
        exact ⟨cell_kept HPP.out hW, p0, p1, p2, p3, p4, p9⟩
      have i10 : (j : Int) + 1 ≤ (t.kids.length : Int) := by omega
      have i11 : (0 : Int) ≤ (j : Int) + 1 := by omega
      have i16 : ¬ ((t.kids.length : Int) < (j : Int) + 1) := by omega
      have i17 : ¬ ((j : Int) + 1 < 0) := by omega
      have hwr : IntKind.i64.wrap ((j : Int) + 1) = (j : Int) + 1 := by simp [IntKind.wrap, IntKind.bits, IntKind.signed]; omega
      by_cases hjc : j + 1 = c3
      · subst hjc
        have i14 : (j : Int) ≤ (j : Int) + 1 := by omega
        have HK2 : Hid (∀ W', Below wc.heap.size wc W' → Src W' (NewR S (w.heap.size + 3) wc.heap.size) (.slice (some ⟨by', oy, none⟩) 0 0) (t.kids.drop (j + 1))) := Lib.hid fun W' hW => (kids_end (by omega)).src
        go_upto_region 7 with fail
        refine wp_region_last (xs := [{ dst := some 40, op := Op.buildSlice 29 0 #[], type := 29, pos := "ref.go:115", after := #[], guard := none }, { dst := some 41, op := Op.fieldAddr 31 (Operand.tmp 3) 4, type := 0, pos := "ref.go:115", after := #[], guard := none }, { dst := some 42, op := Op.load 29 (Operand.tmp 41), type := 29, pos := "ref.go:115", after := #[{ on := 1, ground := Ground.data }], guard := none }, { dst := some 43, op := Op.move (Operand.tmp 1), type := 23, pos := "ref.go:115", after := #[], guard := none }, { dst := some 44, op := Op.indexAddr 23 (Operand.tmp 43) (Operand.const (Value.int IntKind.i64 0)), type := 0, pos := "ref.go:115", after := #[{ on := 3, ground := Ground.data }], guard := none }, { dst := some 45, op := Op.load 3 (Operand.tmp 44), type := 3, pos := "ref.go:115", after := #[{ on := 4, ground := Ground.data }], guard := none }, { dst := some 46, op := Op.slice 29 (Operand.tmp 42) none (some (Operand.tmp 45)) none, type := 29, pos := "ref.go:115", after := #[{ on := 2, ground := Ground.data }, { on := 5, ground := Ground.data }], guard := none }, { dst := some 47, op := Op.call { callee := Callee.builtin Builtin.append, args := #[Operand.tmp 40, Operand.tmp 46], argTypes := #[29, 29] }, type := 29, pos := "ref.go:115", after := #[{ on := 0, ground := Ground.data }, { on := 6, ground := Ground.data }], guard := none }, { dst := some 48, op := Op.load 31 (Operand.tmp 10), type := 31, pos := "ref.go:115", after := #[], guard := none }, { dst := some 49, op := Op.buildSlice 29 1 #[(0, Operand.tmp 48)], type := 29, pos := "ref.go:115", after := #[{ on := 8, ground := Ground.data }], guard := none }, { dst := some 50, op := Op.call { callee := Callee.builtin Builtin.append, args := #[Operand.tmp 47, Operand.tmp 49], argTypes := #[29, 29] }, type := 29, pos := "ref.go:115", after := #[{ on := 7, ground := Ground.data }, { on := 9, ground := Ground.data }, { on := 7, ground := Ground.chain }], guard := none }, { dst := some 51, op := Op.fieldAddr 31 (Operand.tmp 3) 4, type := 0, pos := "ref.go:115", after := #[], guard := none }, { dst := some 52, op := Op.load 29 (Operand.tmp 51), type := 29, pos := "ref.go:115", after := #[{ on := 11, ground := Ground.data }], guard := none }, { dst := some 53, op := Op.move (Operand.tmp 1), type := 23, pos := "ref.go:115", after := #[], guard := none }, { dst := some 54, op := Op.indexAddr 23 (Operand.tmp 53) (Operand.const (Value.int IntKind.i64 0)), type := 0, pos := "ref.go:115", after := #[{ on := 13, ground := Ground.data }], guard := none }, { dst := some 55, op := Op.load 3 (Operand.tmp 54), type := 3, pos := "ref.go:115", after := #[{ on := 14, ground := Ground.data }], guard := none }, { dst := some 56, op := Op.binOp BinOp.add 3 (Operand.tmp 55) (Operand.const (Value.int IntKind.i64 1)) 3, type := 3, pos := "ref.go:115", after := #[{ on := 15, ground := Ground.data }], guard := none }, { dst := some 57, op := Op.slice 29 (Operand.tmp 52) (some (Operand.tmp 56)) none none, type := 29, pos := "ref.go:115", after := #[{ on := 12, ground := Ground.data }, { on := 16, ground := Ground.data }], guard := none }, { dst := some 58, op := Op.call { callee := Callee.builtin Builtin.append, args := #[Operand.tmp 50, Operand.tmp 57], argTypes := #[29, 29] }, type := 29, pos := "ref.go:115", after := #[{ on := 10, ground := Ground.data }, { on := 17, ground := Ground.data }, { on := 10, ground := Ground.chain }], guard := none }, { dst := some 59, op := Op.fieldAddr 31 (Operand.tmp 3) 4, type := 0, pos := "ref.go:115", after := #[{ on := 0, ground := Ground.phase }, { on := 1, ground := Ground.phase }, { on := 2, ground := Ground.phase }, { on := 3, ground := Ground.phase }, { on := 4, ground := Ground.phase }, { on := 5, ground := Ground.phase }, { on := 6, ground := Ground.phase }, { on := 7, ground := Ground.phase }, { on := 8, ground := Ground.phase }, { on := 9, ground := Ground.phase }, { on := 10, ground := Ground.phase }, { on := 11, ground := Ground.phase }, { on := 12, ground := Ground.phase }, { on := 13, ground := Ground.phase }, { on := 14, ground := Ground.phase }, { on := 15, ground := Ground.phase }, { on := 16, ground := Ground.phase }, { on := 17, ground := Ground.phase }, { on := 18, ground := Ground.phase }], guard := none }]) (ok := { dst := none, op := Op.store 29 (Operand.tmp 59) (Operand.tmp 58), type := 0, pos := "ref.go:115", after := #[{ on := 19, ground := Ground.data }, { on := 18, ground := Ground.data }, { on := 18, ground := Ground.chain }, { on := 0, ground := Ground.phase }, { on := 1, ground := Ground.phase }, { on := 2, ground := Ground.phase }, { on := 3, ground := Ground.phase }, { on := 4, ground := Ground.phase }, { on := 5, ground := Ground.phase }, { on := 6, ground := Ground.phase }, { on := 7, ground := Ground.phase }, { on := 8, ground := Ground.phase }, { on := 9, ground := Ground.phase }, { on := 10, ground := Ground.phase }, { on := 11, ground := Ground.phase }, { on := 12, ground := Ground.phase }, { on := 13, ground := Ground.phase }, { on := 14, ground := Ground.phase }, { on := 15, ground := Ground.phase }, { on := 16, ground := Ground.phase }, { on := 17, ground := Ground.phase }, { on := 18, ground := Ground.phase }], guard := none }) (S := (fun w' => w'.cell? ⟨bp, op, none⟩ = some (.int .i64 (j : Int)) ∧ w'.cell? ⟨G, 0, none⟩ = some (.string k'.kind) ∧ w'.cell? ⟨G, 1, none⟩ = some (.string k'.text) ∧ w'.cell? ⟨G, 2, none⟩ = some (.slice F1 k1 g1) ∧ w'.cell? ⟨G, 3, none⟩ = some (.slice F2 k2 g2) ∧ w'.cell? ⟨G, 4, none⟩ = some (.slice F3 k'.kids.length g3) ∧ w'.cell? ⟨w.heap.size, 4, none⟩ = some (.slice (some ⟨by', oy, none⟩) t.kids.length (j + 1)))) 2 rfl (by kernel_rfl) (by kernel_rfl) (by kernel_rfl) (HSP.out _ ((Below.refl _ _).drew)) (fun hHeld => ?_)
        refine wpAnyH_take (i := 1) (oi := { dst := some 41, op := Op.fieldAddr 31 (Operand.tmp 3) 4, type := 0, pos := "ref.go:115", after := #[], guard := none }) (v := ?_) rfl (by kernel_rfl) (by kernel_rfl) (by kernel_rfl) (fun _ _ _ h => h) (Or.inl ⟨by rfl, ?_⟩) hHeld ?_
        rotate_left
        · intro wz hSw
          try dsimp only at hSw
          go_simp
          all_goals with_reducible rfl
        try simp only [Act.put, List.setIfInBounds_toArray, List.set_cons_zero, List.set_cons_succ]
        refine wpAnyH_take (i := 2) (oi := { dst := some 42, op := Op.load 29 (Operand.tmp 41), type := 29, pos := "ref.go:115", after := #[{ on := 1, ground := Ground.data }], guard := none }) (v := ?_) rfl (by kernel_rfl) (by kernel_rfl) (by kernel_rfl) (fun _ _ _ h => h) (Or.inl ⟨by rfl, ?_⟩) hHeld ?_
        rotate_left
        · intro wz hSw
          try dsimp only at hSw
          go_simp
          all_goals with_reducible rfl
        try simp only [Act.put, List.setIfInBounds_toArray, List.set_cons_zero, List.set_cons_succ]
        refine wpAnyH_take (i := 3) (oi := { dst := some 43, op := Op.move (Operand.tmp 1), type := 23, pos := "ref.go:115", after := #[], guard := none }) (v := ?_) rfl (by kernel_rfl) (by kernel_rfl) (by kernel_rfl) (fun _ _ _ h => h) (Or.inl ⟨by rfl, ?_⟩) hHeld ?_
        rotate_left
        · intro wz hSw
          try dsimp only at hSw
          go_simp
          all_goals with_reducible rfl
        try simp only [Act.put, List.setIfInBounds_toArray, List.set_cons_zero, List.set_cons_succ]
        refine wpAnyH_take (i := 4) (oi := { dst := some 44, op := Op.indexAddr 23 (Operand.tmp 43) (Operand.const (Value.int IntKind.i64 0)), type := 0, pos := "ref.go:115", after := #[{ on := 3, ground := Ground.data }], guard := none }) (v := ?_) rfl (by kernel_rfl) (by kernel_rfl) (by kernel_rfl) (fun _ _ _ h => h) (Or.inl ⟨by rfl, ?_⟩) hHeld ?_
        rotate_left
        · intro wz hSw
          try dsimp only at hSw
          go_simp
          all_goals with_reducible rfl
        try simp only [Act.put, List.setIfInBounds_toArray, List.set_cons_zero, List.set_cons_succ]
        refine wpAnyH_take (i := 5) (oi := { dst := some 45, op := Op.load 3 (Operand.tmp 44), type := 3, pos := "ref.go:115", after := #[{ on := 4, ground := Ground.data }], guard := none }) (v := ?_) rfl (by kernel_rfl) (by kernel_rfl) (by kernel_rfl) (fun _ _ _ h => h) (Or.inl ⟨by rfl, ?_⟩) hHeld ?_
        rotate_left
        · intro wz hSw
          try dsimp only at hSw
          go_simp
          all_goals with_reducible rfl
        try simp only [Act.put, List.setIfInBounds_toArray, List.set_cons_zero, List.set_cons_succ]
        refine wpAnyH_take (i := 6) (oi := { dst := some 46, op := Op.slice 29 (Operand.tmp 42) none (some (Operand.tmp 45)) none, type := 29, pos := "ref.go:115", after := #[{ on := 2, ground := Ground.data }, { on := 5, ground := Ground.data }], guard := none }) (v := ?_) rfl (by kernel_rfl) (by kernel_rfl) (by kernel_rfl) (fun _ _ _ h => h) (Or.inl ⟨by rfl, ?_⟩) hHeld ?_
        rotate_left
        · intro wz hSw
          try dsimp only at hSw
          go_simp
          all_goals with_reducible rfl
        try simp only [Act.put, List.setIfInBounds_toArray, List.set_cons_zero, List.set_cons_succ]
        refine wpAnyH_take (i := 8) (oi := { dst := some 48, op := Op.load 31 (Operand.tmp 10), type := 31, pos := "ref.go:115", after := #[], guard := none }) (v := ?_) rfl (by kernel_rfl) (by kernel_rfl) (by kernel_rfl) (fun _ _ _ h => h) (Or.inl ⟨by rfl, ?_⟩) hHeld ?_
        rotate_left
        · intro wz hSw
          try dsimp only at hSw
          go_simp
          all_goals with_reducible rfl
        try simp only [Act.put, List.setIfInBounds_toArray, List.set_cons_zero, List.set_cons_succ]
        refine wpAnyH_take (i := 11) (oi := { dst := some 51, op := Op.fieldAddr 31 (Operand.tmp 3) 4, type := 0, pos := "ref.go:115", after := #[], guard := none }) (v := ?_) rfl (by kernel_rfl) (by kernel_rfl) (by kernel_rfl) (fun _ _ _ h => h) (Or.inl ⟨by rfl, ?_⟩) hHeld ?_
        rotate_left
        · intro wz hSw
          try dsimp only at hSw
          go_simp
          all_goals with_reducible rfl
        try simp only [Act.put, List.setIfInBounds_toArray, List.set_cons_zero, List.set_cons_succ]
        refine wpAnyH_take (i := 12) (oi := { dst := some 52, op := Op.load 29 (Operand.tmp 51), type := 29, pos := "ref.go:115", after := #[{ on := 11, ground := Ground.data }], guard := none }) (v := ?_) rfl (by kernel_rfl) (by kernel_rfl) (by kernel_rfl) (fun _ _ _ h => h) (Or.inl ⟨by rfl, ?_⟩) hHeld ?_
        rotate_left
        · intro wz hSw
          try dsimp only at hSw
          go_simp
          all_goals with_reducible rfl
        try simp only [Act.put, List.setIfInBounds_toArray, List.set_cons_zero, List.set_cons_succ]
        refine wpAnyH_take (i := 13) (oi := { dst := some 53, op := Op.move (Operand.tmp 1), type := 23, pos := "ref.go:115", after := #[], guard := none }) (v := ?_) rfl (by kernel_rfl) (by kernel_rfl) (by kernel_rfl) (fun _ _ _ h => h) (Or.inl ⟨by rfl, ?_⟩) hHeld ?_
        rotate_left
        · intro wz hSw
          try dsimp only at hSw
          go_simp
          all_goals with_reducible rfl
        try simp only [Act.put, List.setIfInBounds_toArray, List.set_cons_zero, List.set_cons_succ]
        refine wpAnyH_take (i := 14) (oi := { dst := some 54, op := Op.indexAddr 23 (Operand.tmp 53) (Operand.const (Value.int IntKind.i64 0)), type := 0, pos := "ref.go:115", after := #[{ on := 13, ground := Ground.data }], guard := none }) (v := ?_) rfl (by kernel_rfl) (by kernel_rfl) (by kernel_rfl) (fun _ _ _ h => h) (Or.inl ⟨by rfl, ?_⟩) hHeld ?_
        rotate_left
        · intro wz hSw
          try dsimp only at hSw
          go_simp
          all_goals with_reducible rfl
        try simp only [Act.put, List.setIfInBounds_toArray, List.set_cons_zero, List.set_cons_succ]
        refine wpAnyH_take (i := 15) (oi := { dst := some 55, op := Op.load 3 (Operand.tmp 54), type := 3, pos := "ref.go:115", after := #[{ on := 14, ground := Ground.data }], guard := none }) (v := ?_) rfl (by kernel_rfl) (by kernel_rfl) (by kernel_rfl) (fun _ _ _ h => h) (Or.inl ⟨by rfl, ?_⟩) hHeld ?_
        rotate_left
        · intro wz hSw
          try dsimp only at hSw
          go_simp
          all_goals with_reducible rfl
        try simp only [Act.put, List.setIfInBounds_toArray, List.set_cons_zero, List.set_cons_succ]
        refine wpAnyH_take (i := 16) (oi := { dst := some 56, op := Op.binOp BinOp.add 3 (Operand.tmp 55) (Operand.const (Value.int IntKind.i64 1)) 3, type := 3, pos := "ref.go:115", after := #[{ on := 15, ground := Ground.data }], guard := none }) (v := ?_) rfl (by kernel_rfl) (by kernel_rfl) (by kernel_rfl) (fun _ _ _ h => h) (Or.inl ⟨by rfl, ?_⟩) hHeld ?_
        rotate_left
        · intro wz hSw
          try dsimp only at hSw
          go_simp
          all_goals with_reducible rfl
        try simp only [Act.put, List.setIfInBounds_toArray, List.set_cons_zero, List.set_cons_succ]
        refine wpAnyH_take (i := 17) (oi := { dst := some 57, op := Op.slice 29 (Operand.tmp 52) (some (Operand.tmp 56)) none none, type := 29, pos := "ref.go:115", after := #[{ on := 12, ground := Ground.data }, { on := 16, ground := Ground.data }], guard := none }) (v := ?_) rfl (by kernel_rfl) (by kernel_rfl) (by kernel_rfl) (fun _ _ _ h => h) (Or.inl ⟨by rfl, ?_⟩) hHeld ?_
        rotate_left
        · intro wz hSw
          try dsimp only at hSw
          go_simp
          all_goals with_reducible rfl
        try simp only [Act.put, List.setIfInBounds_toArray, List.set_cons_zero, List.set_cons_succ]
        refine wpAnyH_ready (rs := [0, 9]) (by kernel_rfl) (by simp) ?_
        refine AllReadyH.cons (o := { dst := some 40, op := Op.buildSlice 29 0 #[], type := 29, pos := "ref.go:115", after := #[], guard := none }) rfl (fun K hK => ?_) ?_
        · go_simp
          clear hHeld
          refine hK.out _ _ (HSP.out _ B0.out) (fun hHeld => ?_)
          clear hK K
          refine wpAnyH_ready (rs := [7, 9]) (by kernel_rfl) (by simp) ?_
          refine AllReadyH.cons (o := { dst := some 47, op := Op.call { callee := Callee.builtin Builtin.append, args := #[Operand.tmp 40, Operand.tmp 46], argTypes := #[29, 29] }, type := 29, pos := "ref.go:115", after := #[{ on := 0, ground := Ground.data }, { on := 6, ground := Ground.data }], guard := none }) rfl (fun K hK => ?_) ?_
          · refine step_append_nodes (w := (wc.alloc (.cells #[] 31)).drew) rfl (.tmp 40) (.tmp 46) rfl wc.heap.size (NewR S (w.heap.size + 3) wc.heap.size) (.slice (some ⟨wc.heap.size, 0, none⟩) 0 0) (.slice (some ⟨by', oy, none⟩) j (j + 1)) [] (t.kids.take j) rfl rfl F0.out (HK1.out _ B0.out) (HSE.out _ _ (by omega) B0.out) N1.out B0.out.size ?_
            intro v2 w2 ho2 hg2 _
            have HO2 : Hid (Own w2 wc.heap.size (NewR S (w.heap.size + 3) wc.heap.size) v2 (t.kids.take j)) := Lib.hid ho2
            have HB2 := Lib.hid (HGB.out _ _ _ _ F0.out B0.out hg2)
            have HB50 : Hid (Below wc.heap.size wc (w2.alloc (.cells #[.string k'.kind, .string k'.text, .slice F1 k1 g1, .slice F2 k2 g2, .slice F3 k'.kids.length g3] 31))) := Lib.hid (HB2.out.alloc HB2.out.size _)
            have HO50 : Hid (Own (w2.alloc (.cells #[.string k'.kind, .string k'.text, .slice F1 k1 g1, .slice F2 k2 g2, .slice F3 k'.kids.length g3] 31)) wc.heap.size (NewR S (w.heap.size + 3) wc.heap.size) v2 (t.kids.take j)) := Lib.hid (own_keep HO2.out HSS.out HB2.out (below_new _ _))
            have HS50 : Hid (Src (w2.alloc (.cells #[.string k'.kind, .string k'.text, .slice F1 k1 g1, .slice F2 k2 g2, .slice F3 k'.kids.length g3] 31)) (NewR S (w.heap.size + 3) wc.heap.size) (.slice (some ⟨w2.heap.size, 0, none⟩) 1 1) [k']) := Lib.hid (HLI.out _ _ HB50.out (heap_new w2 _))
            clear ho2 hg2
            clear hHeld
            refine hK.out _ _ (HSP.out _ HB2.out) (fun hHeld => ?_)
            clear hK K
            refine wpAnyH_ready (rs := [9]) (by kernel_rfl) (by simp) ?_
            refine AllReadyH.cons (o := { dst := some 49, op := Op.buildSlice 29 1 #[(0, Operand.tmp 48)], type := 29, pos := "ref.go:115", after := #[{ on := 8, ground := Ground.data }], guard := none }) rfl (fun K hK => ?_) AllReadyH.nil
            go_simp
            clear hHeld
            refine hK.out _ _ (HSP.out _ HB50.out) (fun hHeld => ?_)
            clear hK K
            refine wpAnyH_ready (rs := [10]) (by kernel_rfl) (by simp) ?_
            refine AllReadyH.cons (o := { dst := some 50, op := Op.call { callee := Callee.builtin Builtin.append, args := #[Operand.tmp 47, Operand.tmp 49], argTypes := #[29, 29] }, type := 29, pos := "ref.go:115", after := #[{ on := 7, ground := Ground.data }, { on := 9, ground := Ground.data }, { on := 7, ground := Ground.chain }], guard := none }) rfl (fun K hK => ?_) AllReadyH.nil
            refine step_append_nodes rfl (.tmp 47) (.tmp 49) rfl wc.heap.size (NewR S (w.heap.size + 3) wc.heap.size) v2 _ (t.kids.take j) [k'] rfl rfl HO50.out HS50.out (HSO.out _ _ _ HO50.out HB50.out) N2.out HB50.out.size ?_
            intro v3 w3 ho3 hg3 _
            have HO3 := Lib.hid ho3
            have HB3' := Lib.hid (HGB.out _ _ _ _ HO50.out HB50.out hg3)
            clear ho3 hg3
            clear hHeld
            refine hK.out _ _ (HSP.out _ HB3'.out) (fun hHeld => ?_)
            clear hK K
            refine wpAnyH_ready (rs := [18]) (by kernel_rfl) (by simp) ?_
            refine AllReadyH.cons (o := { dst := some 58, op := Op.call { callee := Callee.builtin Builtin.append, args := #[Operand.tmp 50, Operand.tmp 57], argTypes := #[29, 29] }, type := 29, pos := "ref.go:115", after := #[{ on := 10, ground := Ground.data }, { on := 17, ground := Ground.data }, { on := 10, ground := Ground.chain }], guard := none }) rfl (fun K hK => ?_) AllReadyH.nil
            refine step_append_nodes rfl (.tmp 50) (.tmp 57) rfl wc.heap.size (NewR S (w.heap.size + 3) wc.heap.size) v3 _ (t.kids.take j ++ [k']) (t.kids.drop (j + 1)) rfl rfl HO3.out (HK2.out _ HB3'.out) (HSO.out _ _ _ HO3.out HB3'.out) N3.out HB3'.out.size ?_
            intro v4 w4 ho4 hg4 _
            obtain ⟨A4, n4, c4, hv4⟩ := own_slice ho4
            subst hv4
            have HO4 := Lib.hid ho4
            have HB4 := Lib.hid (HGB.out _ _ _ _ HO3.out HB3'.out hg4)
            have xf := frozen_of_row _ _ 4 _ _ ((HB4.out.block _ htl).trans HTC.out)
            clear ho4 hg4
            clear hHeld
            refine hK.out _ _ (HSP.out _ HB4.out) (fun hHeld => ?_)
            clear hK K
            refine wpAnyH_take (i := 19) (oi := { dst := some 59, op := Op.fieldAddr 31 (Operand.tmp 3) 4, type := 0, pos := "ref.go:115", after := #[{ on := 0, ground := Ground.phase }, { on := 1, ground := Ground.phase }, { on := 2, ground := Ground.phase }, { on := 3, ground := Ground.phase }, { on := 4, ground := Ground.phase }, { on := 5, ground := Ground.phase }, { on := 6, ground := Ground.phase }, { on := 7, ground := Ground.phase }, { on := 8, ground := Ground.phase }, { on := 9, ground := Ground.phase }, { on := 10, ground := Ground.phase }, { on := 11, ground := Ground.phase }, { on := 12, ground := Ground.phase }, { on := 13, ground := Ground.phase }, { on := 14, ground := Ground.phase }, { on := 15, ground := Ground.phase }, { on := 16, ground := Ground.phase }, { on := 17, ground := Ground.phase }, { on := 18, ground := Ground.phase }], guard := none }) (v := ?_) rfl (by kernel_rfl) (by kernel_rfl) (by kernel_rfl) (fun _ _ _ h => h) (Or.inl ⟨by rfl, ?_⟩) hHeld ?_
            rotate_left
            · intro wz hSw
              try dsimp only at hSw
              go_simp
              all_goals with_reducible rfl
            try simp only [Act.put, List.setIfInBounds_toArray, List.set_cons_zero, List.set_cons_succ]
            clear hHeld
            refine wpAnyH_done (by kernel_rfl) ?_ _
            refine last_step (o := { dst := none, op := Op.store 29 (Operand.tmp 59) (Operand.tmp 58), type := 0, pos := "ref.go:115", after := #[{ on := 19, ground := Ground.data }, { on := 18, ground := Ground.data }, { on := 18, ground := Ground.chain }, { on := 0, ground := Ground.phase }, { on := 1, ground := Ground.phase }, { on := 2, ground := Ground.phase }, { on := 3, ground := Ground.phase }, { on := 4, ground := Ground.phase }, { on := 5, ground := Ground.phase }, { on := 6, ground := Ground.phase }, { on := 7, ground := Ground.phase }, { on := 8, ground := Ground.phase }, { on := 9, ground := Ground.phase }, { on := 10, ground := Ground.phase }, { on := 11, ground := Ground.phase }, { on := 12, ground := Ground.phase }, { on := 13, ground := Ground.phase }, { on := 14, ground := Ground.phase }, { on := 15, ground := Ground.phase }, { on := 16, ground := Ground.phase }, { on := 17, ground := Ground.phase }, { on := 18, ground := Ground.phase }], guard := none }) rfl rfl ?_
            have x4 := (cells5 ((HB4.out.block _ htl).trans HTC.out)).2.2.2.2
            go_simp
            clear x4
            have HT8 : Hid ((w4.setCell ⟨w.heap.size, 4, none⟩ (.slice A4 n4 c4)).heap[w.heap.size]? = some (.cells #[.string t.kind, .string t.text, .slice A1 n1 c1, .slice A2 n2 c2, .slice A4 n4 c4] 31)) := Lib.hid (heap_setCell_same w4 w.heap.size 4 _ _ _ ((HB4.out.block _ htl).trans HTC.out))
            have HR8 : Hid ((w4.setCell ⟨w.heap.size, 4, none⟩ (.slice A4 n4 c4)).heap[w.heap.size + 2]? = some ZNodeR) := Lib.hid ((Below.heap_setCell _ _ _ _ (show w.heap.size + 2 ≠ w.heap.size by omega)).trans ((HB4.out.block _ (heap_lt' HRC.out)).trans HRC.out))
            have HB8 : Hid (Below w.heap.size w (w4.setCell ⟨w.heap.size, 4, none⟩ (.slice A4 n4 c4))) := Lib.hid (set_below (Nat.le_refl _) (HBC.out.trans (HB4.out.mono HBC.out.size)))
            have HO8 : Hid (Own (w4.setCell ⟨w.heap.size, 4, none⟩ (.slice A4 n4 c4)) wc.heap.size (NewR S (w.heap.size + 3) wc.heap.size) (.slice A4 n4 c4) (t.kids.take j ++ [k'] ++ t.kids.drop (j + 1))) := Lib.hid (own_set HO4.out (by omega) fun b hb => hb.elim (fun h => by have := HS.out b h; omega) fun h => by have := h.1; omega)
            have HZ8 : Hid (wc.heap.size ≤ (w4.setCell ⟨w.heap.size, 4, none⟩ (.slice A4 n4 c4)).heap.size) := Lib.hid (by have := HB4.out.size; simpa [World.setCell] using this)
            clear HO4 HO3 HO2 HO50 HS50 HB4 HB3' HB2 HB50 xf
            generalize (w4.setCell ⟨w.heap.size, 4, none⟩ (.slice A4 n4 c4)) = WE at *
            obtain ⟨y0, y1, y2, y3, y4⟩ := cells5 HT8.out
            have hr8 := HR8.out
            have f0 := frozen_of_row _ _ 0 _ _ hr8
            have f1 := frozen_of_row _ _ 1 _ _ hr8
            have f2 := frozen_of_row _ _ 2 _ _ hr8
            have f3 := frozen_of_row _ _ 3 _ _ hr8
            have f4 := frozen_of_row _ _ 4 _ _ hr8
            obtain ⟨a0, a1, a2, a3, a4⟩ := cells5 hr8
            clear hr8
            go_wp2
            obtain ⟨q0, q1, q2, q3, q4⟩ := cells5 (put5z_block (v0 := .string t.kind) (v1 := .string t.text) (v2 := .slice A1 n1 c1) (v3 := .slice A2 n2 c2) (v4 := .slice A4 n4 c4) HR8.out)
            have HBE := Lib.hid (put5z_below (g := w.heap.size + 2) (v0 := .string t.kind) (v1 := .string t.text) (v2 := .slice A1 n1 c1) (v3 := .slice A2 n2 c2) (v4 := .slice A4 n4 c4) (by omega) HB8.out)
            have HNE := Lib.hid (with_node (t := t) (k' := k') (j := j) (v0 := .string t.kind) (v1 := .string t.text) (v2 := .slice A1 n1 c1) (v3 := .slice A2 n2 c2) (v4 := .slice A4 n4 c4) HS.out hzc HZ8.out HN.out HB8.out HO8.out HSET.out)
            unfold put5z at q0 q1 q2 q3 q4
            obtain ⟨rfl, hne⟩ := HNE.out
            refine bodyPost_ret (v := .tuple #[.agg #[.string t.kind, .string t.text, .slice A1 n1 c1, .slice A2 n2 c2, .slice A4 (setKid t j k').kids.length c4], .int .i64 0]) (by simp [results, Try.results18, go_sem, q0, q1, q2, q3, q4]) rfl ?_
            exact ⟨A1, n1, c1, A2, n2, c2, A4, c4, setKid t j k', 0, rfl, hne, .inl ⟨by rw [HE.out]; simp, rfl, HWS.out.symm⟩, HBE.out⟩
          · refine AllReadyH.cons (o := { dst := some 49, op := Op.buildSlice 29 1 #[(0, Operand.tmp 48)], type := 29, pos := "ref.go:115", after := #[{ on := 8, ground := Ground.data }], guard := none }) rfl (fun K hK => ?_) AllReadyH.nil
            go_simp
            clear hHeld
            refine hK.out _ _ (HSP.out _ B01.out) (fun hHeld => ?_)
            clear hK K
            refine wpAnyH_ready (rs := [7]) (by kernel_rfl) (by simp) ?_
            refine AllReadyH.cons (o := { dst := some 47, op := Op.call { callee := Callee.builtin Builtin.append, args := #[Operand.tmp 40, Operand.tmp 46], argTypes := #[29, 29] }, type := 29, pos := "ref.go:115", after := #[{ on := 0, ground := Ground.data }, { on := 6, ground := Ground.data }], guard := none }) rfl (fun K hK => ?_) AllReadyH.nil
            refine step_append_nodes (w := ((wc.alloc (.cells #[] 31)).alloc (.cells #[.string k'.kind, .string k'.text, .slice F1 k1 g1, .slice F2 k2 g2, .slice F3 k'.kids.length g3] 31)).drew) rfl (.tmp 40) (.tmp 46) rfl wc.heap.size (NewR S (w.heap.size + 3) wc.heap.size) (.slice (some ⟨wc.heap.size, 0, none⟩) 0 0) (.slice (some ⟨by', oy, none⟩) j (j + 1)) [] (t.kids.take j) rfl rfl F01.out (HK1.out _ B01.out) (HSE.out _ _ (by omega) B01.out) N1.out B01.out.size ?_
            intro v2 w2 ho2 hg2 _
            have HO2 : Hid (Own w2 wc.heap.size (NewR S (w.heap.size + 3) wc.heap.size) v2 (t.kids.take j)) := Lib.hid ho2
            have HB2 := Lib.hid (HGB.out _ _ _ _ F01.out B01.out hg2)
            have HB50 := HB2
            have HO50 := HO2
            have HS50 : Hid (Src w2 (NewR S (w.heap.size + 3) wc.heap.size) (.slice (some ⟨wc.heap.size + 1, 0, none⟩) 1 1) [k']) := Lib.hid (HLI.out _ _ HB2.out ((hg2.block _ (heap_lt' G01.out) (by simp [Value.ownBlock])).trans G01.out))
            clear ho2 hg2
            clear hHeld
            refine hK.out _ _ (HSP.out _ HB2.out) (fun hHeld => ?_)
            clear hK K
            refine wpAnyH_ready (rs := [10]) (by kernel_rfl) (by simp) ?_
            refine AllReadyH.cons (o := { dst := some 50, op := Op.call { callee := Callee.builtin Builtin.append, args := #[Operand.tmp 47, Operand.tmp 49], argTypes := #[29, 29] }, type := 29, pos := "ref.go:115", after := #[{ on := 7, ground := Ground.data }, { on := 9, ground := Ground.data }, { on := 7, ground := Ground.chain }], guard := none }) rfl (fun K hK => ?_) AllReadyH.nil
            refine step_append_nodes rfl (.tmp 47) (.tmp 49) rfl wc.heap.size (NewR S (w.heap.size + 3) wc.heap.size) v2 _ (t.kids.take j) [k'] rfl rfl HO50.out HS50.out (HSO.out _ _ _ HO50.out HB50.out) N2.out HB50.out.size ?_
            intro v3 w3 ho3 hg3 _
            have HO3 := Lib.hid ho3
            have HB3' := Lib.hid (HGB.out _ _ _ _ HO50.out HB50.out hg3)
            clear ho3 hg3
            clear hHeld
            refine hK.out _ _ (HSP.out _ HB3'.out) (fun hHeld => ?_)
            clear hK K
            refine wpAnyH_ready (rs := [18]) (by kernel_rfl) (by simp) ?_
            refine AllReadyH.cons (o := { dst := some 58, op := Op.call { callee := Callee.builtin Builtin.append, args := #[Operand.tmp 50, Operand.tmp 57], argTypes := #[29, 29] }, type := 29, pos := "ref.go:115", after := #[{ on := 10, ground := Ground.data }, { on := 17, ground := Ground.data }, { on := 10, ground := Ground.chain }], guard := none }) rfl (fun K hK => ?_) AllReadyH.nil
            refine step_append_nodes rfl (.tmp 50) (.tmp 57) rfl wc.heap.size (NewR S (w.heap.size + 3) wc.heap.size) v3 _ (t.kids.take j ++ [k']) (t.kids.drop (j + 1)) rfl rfl HO3.out (HK2.out _ HB3'.out) (HSO.out _ _ _ HO3.out HB3'.out) N3.out HB3'.out.size ?_
            intro v4 w4 ho4 hg4 _
            obtain ⟨A4, n4, c4, hv4⟩ := own_slice ho4
            subst hv4
            have HO4 := Lib.hid ho4
            have HB4 := Lib.hid (HGB.out _ _ _ _ HO3.out HB3'.out hg4)
            have xf := frozen_of_row _ _ 4 _ _ ((HB4.out.block _ htl).trans HTC.out)
            clear ho4 hg4
            clear hHeld
            refine hK.out _ _ (HSP.out _ HB4.out) (fun hHeld => ?_)
            clear hK K
            refine wpAnyH_take (i := 19) (oi := { dst := some 59, op := Op.fieldAddr 31 (Operand.tmp 3) 4, type := 0, pos := "ref.go:115", after := #[{ on := 0, ground := Ground.phase }, { on := 1, ground := Ground.phase }, { on := 2, ground := Ground.phase }, { on := 3, ground := Ground.phase }, { on := 4, ground := Ground.phase }, { on := 5, ground := Ground.phase }, { on := 6, ground := Ground.phase }, { on := 7, ground := Ground.phase }, { on := 8, ground := Ground.phase }, { on := 9, ground := Ground.phase }, { on := 10, ground := Ground.phase }, { on := 11, ground := Ground.phase }, { on := 12, ground := Ground.phase }, { on := 13, ground := Ground.phase }, { on := 14, ground := Ground.phase }, { on := 15, ground := Ground.phase }, { on := 16, ground := Ground.phase }, { on := 17, ground := Ground.phase }, { on := 18, ground := Ground.phase }], guard := none }) (v := ?_) rfl (by kernel_rfl) (by kernel_rfl) (by kernel_rfl) (fun _ _ _ h => h) (Or.inl ⟨by rfl, ?_⟩) hHeld ?_
            rotate_left
            · intro wz hSw
              try dsimp only at hSw
              go_simp
              all_goals with_reducible rfl
            try simp only [Act.put, List.setIfInBounds_toArray, List.set_cons_zero, List.set_cons_succ]
            clear hHeld
            refine wpAnyH_done (by kernel_rfl) ?_ _
            refine last_step (o := { dst := none, op := Op.store 29 (Operand.tmp 59) (Operand.tmp 58), type := 0, pos := "ref.go:115", after := #[{ on := 19, ground := Ground.data }, { on := 18, ground := Ground.data }, { on := 18, ground := Ground.chain }, { on := 0, ground := Ground.phase }, { on := 1, ground := Ground.phase }, { on := 2, ground := Ground.phase }, { on := 3, ground := Ground.phase }, { on := 4, ground := Ground.phase }, { on := 5, ground := Ground.phase }, { on := 6, ground := Ground.phase }, { on := 7, ground := Ground.phase }, { on := 8, ground := Ground.phase }, { on := 9, ground := Ground.phase }, { on := 10, ground := Ground.phase }, { on := 11, ground := Ground.phase }, { on := 12, ground := Ground.phase }, { on := 13, ground := Ground.phase }, { on := 14, ground := Ground.phase }, { on := 15, ground := Ground.phase }, { on := 16, ground := Ground.phase }, { on := 17, ground := Ground.phase }, { on := 18, ground := Ground.phase }], guard := none }) rfl rfl ?_
            have x4 := (cells5 ((HB4.out.block _ htl).trans HTC.out)).2.2.2.2
            go_simp
            clear x4
            have HT8 : Hid ((w4.setCell ⟨w.heap.size, 4, none⟩ (.slice A4 n4 c4)).heap[w.heap.size]? = some (.cells #[.string t.kind, .string t.text, .slice A1 n1 c1, .slice A2 n2 c2, .slice A4 n4 c4] 31)) := Lib.hid (heap_setCell_same w4 w.heap.size 4 _ _ _ ((HB4.out.block _ htl).trans HTC.out))
            have HR8 : Hid ((w4.setCell ⟨w.heap.size, 4, none⟩ (.slice A4 n4 c4)).heap[w.heap.size + 2]? = some ZNodeR) := Lib.hid ((Below.heap_setCell _ _ _ _ (show w.heap.size + 2 ≠ w.heap.size by omega)).trans ((HB4.out.block _ (heap_lt' HRC.out)).trans HRC.out))
            have HB8 : Hid (Below w.heap.size w (w4.setCell ⟨w.heap.size, 4, none⟩ (.slice A4 n4 c4))) := Lib.hid (set_below (Nat.le_refl _) (HBC.out.trans (HB4.out.mono HBC.out.size)))
            have HO8 : Hid (Own (w4.setCell ⟨w.heap.size, 4, none⟩ (.slice A4 n4 c4)) wc.heap.size (NewR S (w.heap.size + 3) wc.heap.size) (.slice A4 n4 c4) (t.kids.take j ++ [k'] ++ t.kids.drop (j + 1))) := Lib.hid (own_set HO4.out (by omega) fun b hb => hb.elim (fun h => by have := HS.out b h; omega) fun h => by have := h.1; omega)
            have HZ8 : Hid (wc.heap.size ≤ (w4.setCell ⟨w.heap.size, 4, none⟩ (.slice A4 n4 c4)).heap.size) := Lib.hid (by have := HB4.out.size; simpa [World.setCell] using this)
            clear HO4 HO3 HO2 HO50 HS50 HB4 HB3' HB2 HB50 xf
            generalize (w4.setCell ⟨w.heap.size, 4, none⟩ (.slice A4 n4 c4)) = WE at *
            obtain ⟨y0, y1, y2, y3, y4⟩ := cells5 HT8.out
            have hr8 := HR8.out
            have f0 := frozen_of_row _ _ 0 _ _ hr8
            have f1 := frozen_of_row _ _ 1 _ _ hr8
            have f2 := frozen_of_row _ _ 2 _ _ hr8
            have f3 := frozen_of_row _ _ 3 _ _ hr8
            have f4 := frozen_of_row _ _ 4 _ _ hr8
            obtain ⟨a0, a1, a2, a3, a4⟩ := cells5 hr8
            clear hr8
            go_wp2
            obtain ⟨q0, q1, q2, q3, q4⟩ := cells5 (put5z_block (v0 := .string t.kind) (v1 := .string t.text) (v2 := .slice A1 n1 c1) (v3 := .slice A2 n2 c2) (v4 := .slice A4 n4 c4) HR8.out)
            have HBE := Lib.hid (put5z_below (g := w.heap.size + 2) (v0 := .string t.kind) (v1 := .string t.text) (v2 := .slice A1 n1 c1) (v3 := .slice A2 n2 c2) (v4 := .slice A4 n4 c4) (by omega) HB8.out)
            have HNE := Lib.hid (with_node (t := t) (k' := k') (j := j) (v0 := .string t.kind) (v1 := .string t.text) (v2 := .slice A1 n1 c1) (v3 := .slice A2 n2 c2) (v4 := .slice A4 n4 c4) HS.out hzc HZ8.out HN.out HB8.out HO8.out HSET.out)
            unfold put5z at q0 q1 q2 q3 q4
            obtain ⟨rfl, hne⟩ := HNE.out
            refine bodyPost_ret (v := .tuple #[.agg #[.string t.kind, .string t.text, .slice A1 n1 c1, .slice A2 n2 c2, .slice A4 (setKid t j k').kids.length c4], .int .i64 0]) (by simp [results, Try.results18, go_sem, q0, q1, q2, q3, q4]) rfl ?_
            exact ⟨A1, n1, c1, A2, n2, c2, A4, c4, setKid t j k', 0, rfl, hne, .inl ⟨by rw [HE.out]; simp, rfl, HWS.out.symm⟩, HBE.out⟩
        · refine AllReadyH.cons (o := { dst := some 49, op := Op.buildSlice 29 1 #[(0, Operand.tmp 48)], type := 29, pos := "ref.go:115", after := #[{ on := 8, ground := Ground.data }], guard := none }) rfl (fun K hK => ?_) AllReadyH.nil
          go_simp
          clear hHeld
          refine hK.out _ _ (HSP.out _ B1.out) (fun hHeld => ?_)
          clear hK K
          refine wpAnyH_ready (rs := [0]) (by kernel_rfl) (by simp) ?_
          refine AllReadyH.cons (o := { dst := some 40, op := Op.buildSlice 29 0 #[], type := 29, pos := "ref.go:115", after := #[], guard := none }) rfl (fun K hK => ?_) AllReadyH.nil
          go_simp
          clear hHeld
          refine hK.out _ _ (HSP.out _ B10.out) (fun hHeld => ?_)
          clear hK K
          refine wpAnyH_ready (rs := [7]) (by kernel_rfl) (by simp) ?_
          refine AllReadyH.cons (o := { dst := some 47, op := Op.call { callee := Callee.builtin Builtin.append, args := #[Operand.tmp 40, Operand.tmp 46], argTypes := #[29, 29] }, type := 29, pos := "ref.go:115", after := #[{ on := 0, ground := Ground.data }, { on := 6, ground := Ground.data }], guard := none }) rfl (fun K hK => ?_) AllReadyH.nil
          refine step_append_nodes (w := ((wc.alloc (.cells #[.string k'.kind, .string k'.text, .slice F1 k1 g1, .slice F2 k2 g2, .slice F3 k'.kids.length g3] 31)).alloc (.cells #[] 31)).drew) rfl (.tmp 40) (.tmp 46) rfl wc.heap.size (NewR S (w.heap.size + 3) wc.heap.size) (.slice (some ⟨wc.heap.size + 1, 0, none⟩) 0 0) (.slice (some ⟨by', oy, none⟩) j (j + 1)) [] (t.kids.take j) rfl rfl F10.out (HK1.out _ B10.out) (HSE.out _ _ (by omega) B10.out) N1.out B10.out.size ?_
          intro v2 w2 ho2 hg2 _
          have HO2 : Hid (Own w2 wc.heap.size (NewR S (w.heap.size + 3) wc.heap.size) v2 (t.kids.take j)) := Lib.hid ho2
          have HB2 := Lib.hid (HGB.out _ _ _ _ F10.out B10.out hg2)
          have HB50 := HB2
          have HO50 := HO2
          have HS50 : Hid (Src w2 (NewR S (w.heap.size + 3) wc.heap.size) (.slice (some ⟨wc.heap.size, 0, none⟩) 1 1) [k']) := Lib.hid (HLI.out _ _ HB2.out ((hg2.block _ (heap_lt' G10.out) (by simp [Value.ownBlock])).trans G10.out))
          clear ho2 hg2
          clear hHeld
          refine hK.out _ _ (HSP.out _ HB2.out) (fun hHeld => ?_)
          clear hK K
          refine wpAnyH_ready (rs := [10]) (by kernel_rfl) (by simp) ?_
          refine AllReadyH.cons (o := { dst := some 50, op := Op.call { callee := Callee.builtin Builtin.append, args := #[Operand.tmp 47, Operand.tmp 49], argTypes := #[29, 29] }, type := 29, pos := "ref.go:115", after := #[{ on := 7, ground := Ground.data }, { on := 9, ground := Ground.data }, { on := 7, ground := Ground.chain }], guard := none }) rfl (fun K hK => ?_) AllReadyH.nil
          refine step_append_nodes rfl (.tmp 47) (.tmp 49) rfl wc.heap.size (NewR S (w.heap.size + 3) wc.heap.size) v2 _ (t.kids.take j) [k'] rfl rfl HO50.out HS50.out (HSO.out _ _ _ HO50.out HB50.out) N2.out HB50.out.size ?_
          intro v3 w3 ho3 hg3 _
          have HO3 := Lib.hid ho3
          have HB3' := Lib.hid (HGB.out _ _ _ _ HO50.out HB50.out hg3)
          clear ho3 hg3
          clear hHeld
          refine hK.out _ _ (HSP.out _ HB3'.out) (fun hHeld => ?_)
          clear hK K
          refine wpAnyH_ready (rs := [18]) (by kernel_rfl) (by simp) ?_
          refine AllReadyH.cons (o := { dst := some 58, op := Op.call { callee := Callee.builtin Builtin.append, args := #[Operand.tmp 50, Operand.tmp 57], argTypes := #[29, 29] }, type := 29, pos := "ref.go:115", after := #[{ on := 10, ground := Ground.data }, { on := 17, ground := Ground.data }, { on := 10, ground := Ground.chain }], guard := none }) rfl (fun K hK => ?_) AllReadyH.nil
          refine step_append_nodes rfl (.tmp 50) (.tmp 57) rfl wc.heap.size (NewR S (w.heap.size + 3) wc.heap.size) v3 _ (t.kids.take j ++ [k']) (t.kids.drop (j + 1)) rfl rfl HO3.out (HK2.out _ HB3'.out) (HSO.out _ _ _ HO3.out HB3'.out) N3.out HB3'.out.size ?_
          intro v4 w4 ho4 hg4 _
          obtain ⟨A4, n4, c4, hv4⟩ := own_slice ho4
          subst hv4
          have HO4 := Lib.hid ho4
          have HB4 := Lib.hid (HGB.out _ _ _ _ HO3.out HB3'.out hg4)
          have xf := frozen_of_row _ _ 4 _ _ ((HB4.out.block _ htl).trans HTC.out)
          clear ho4 hg4
          clear hHeld
          refine hK.out _ _ (HSP.out _ HB4.out) (fun hHeld => ?_)
          clear hK K
          refine wpAnyH_take (i := 19) (oi := { dst := some 59, op := Op.fieldAddr 31 (Operand.tmp 3) 4, type := 0, pos := "ref.go:115", after := #[{ on := 0, ground := Ground.phase }, { on := 1, ground := Ground.phase }, { on := 2, ground := Ground.phase }, { on := 3, ground := Ground.phase }, { on := 4, ground := Ground.phase }, { on := 5, ground := Ground.phase }, { on := 6, ground := Ground.phase }, { on := 7, ground := Ground.phase }, { on := 8, ground := Ground.phase }, { on := 9, ground := Ground.phase }, { on := 10, ground := Ground.phase }, { on := 11, ground := Ground.phase }, { on := 12, ground := Ground.phase }, { on := 13, ground := Ground.phase }, { on := 14, ground := Ground.phase }, { on := 15, ground := Ground.phase }, { on := 16, ground := Ground.phase }, { on := 17, ground := Ground.phase }, { on := 18, ground := Ground.phase }], guard := none }) (v := ?_) rfl (by kernel_rfl) (by kernel_rfl) (by kernel_rfl) (fun _ _ _ h => h) (Or.inl ⟨by rfl, ?_⟩) hHeld ?_
          rotate_left
          · intro wz hSw
            try dsimp only at hSw
            go_simp
            all_goals with_reducible rfl
          try simp only [Act.put, List.setIfInBounds_toArray, List.set_cons_zero, List.set_cons_succ]
          clear hHeld
          refine wpAnyH_done (by kernel_rfl) ?_ _
          refine last_step (o := { dst := none, op := Op.store 29 (Operand.tmp 59) (Operand.tmp 58), type := 0, pos := "ref.go:115", after := #[{ on := 19, ground := Ground.data }, { on := 18, ground := Ground.data }, { on := 18, ground := Ground.chain }, { on := 0, ground := Ground.phase }, { on := 1, ground := Ground.phase }, { on := 2, ground := Ground.phase }, { on := 3, ground := Ground.phase }, { on := 4, ground := Ground.phase }, { on := 5, ground := Ground.phase }, { on := 6, ground := Ground.phase }, { on := 7, ground := Ground.phase }, { on := 8, ground := Ground.phase }, { on := 9, ground := Ground.phase }, { on := 10, ground := Ground.phase }, { on := 11, ground := Ground.phase }, { on := 12, ground := Ground.phase }, { on := 13, ground := Ground.phase }, { on := 14, ground := Ground.phase }, { on := 15, ground := Ground.phase }, { on := 16, ground := Ground.phase }, { on := 17, ground := Ground.phase }, { on := 18, ground := Ground.phase }], guard := none }) rfl rfl ?_
          have x4 := (cells5 ((HB4.out.block _ htl).trans HTC.out)).2.2.2.2
          go_simp
          clear x4
          have HT8 : Hid ((w4.setCell ⟨w.heap.size, 4, none⟩ (.slice A4 n4 c4)).heap[w.heap.size]? = some (.cells #[.string t.kind, .string t.text, .slice A1 n1 c1, .slice A2 n2 c2, .slice A4 n4 c4] 31)) := Lib.hid (heap_setCell_same w4 w.heap.size 4 _ _ _ ((HB4.out.block _ htl).trans HTC.out))
          have HR8 : Hid ((w4.setCell ⟨w.heap.size, 4, none⟩ (.slice A4 n4 c4)).heap[w.heap.size + 2]? = some ZNodeR) := Lib.hid ((Below.heap_setCell _ _ _ _ (show w.heap.size + 2 ≠ w.heap.size by omega)).trans ((HB4.out.block _ (heap_lt' HRC.out)).trans HRC.out))
          have HB8 : Hid (Below w.heap.size w (w4.setCell ⟨w.heap.size, 4, none⟩ (.slice A4 n4 c4))) := Lib.hid (set_below (Nat.le_refl _) (HBC.out.trans (HB4.out.mono HBC.out.size)))
          have HO8 : Hid (Own (w4.setCell ⟨w.heap.size, 4, none⟩ (.slice A4 n4 c4)) wc.heap.size (NewR S (w.heap.size + 3) wc.heap.size) (.slice A4 n4 c4) (t.kids.take j ++ [k'] ++ t.kids.drop (j + 1))) := Lib.hid (own_set HO4.out (by omega) fun b hb => hb.elim (fun h => by have := HS.out b h; omega) fun h => by have := h.1; omega)
          have HZ8 : Hid (wc.heap.size ≤ (w4.setCell ⟨w.heap.size, 4, none⟩ (.slice A4 n4 c4)).heap.size) := Lib.hid (by have := HB4.out.size; simpa [World.setCell] using this)
          clear HO4 HO3 HO2 HO50 HS50 HB4 HB3' HB2 HB50 xf
          generalize (w4.setCell ⟨w.heap.size, 4, none⟩ (.slice A4 n4 c4)) = WE at *
          obtain ⟨y0, y1, y2, y3, y4⟩ := cells5 HT8.out
          have hr8 := HR8.out
          have f0 := frozen_of_row _ _ 0 _ _ hr8
          have f1 := frozen_of_row _ _ 1 _ _ hr8
          have f2 := frozen_of_row _ _ 2 _ _ hr8
          have f3 := frozen_of_row _ _ 3 _ _ hr8
          have f4 := frozen_of_row _ _ 4 _ _ hr8
          obtain ⟨a0, a1, a2, a3, a4⟩ := cells5 hr8
          clear hr8
          go_wp2
          obtain ⟨q0, q1, q2, q3, q4⟩ := cells5 (put5z_block (v0 := .string t.kind) (v1 := .string t.text) (v2 := .slice A1 n1 c1) (v3 := .slice A2 n2 c2) (v4 := .slice A4 n4 c4) HR8.out)
          have HBE := Lib.hid (put5z_below (g := w.heap.size + 2) (v0 := .string t.kind) (v1 := .string t.text) (v2 := .slice A1 n1 c1) (v3 := .slice A2 n2 c2) (v4 := .slice A4 n4 c4) (by omega) HB8.out)
          have HNE := Lib.hid (with_node (t := t) (k' := k') (j := j) (v0 := .string t.kind) (v1 := .string t.text) (v2 := .slice A1 n1 c1) (v3 := .slice A2 n2 c2) (v4 := .slice A4 n4 c4) HS.out hzc HZ8.out HN.out HB8.out HO8.out HSET.out)
          unfold put5z at q0 q1 q2 q3 q4
          obtain ⟨rfl, hne⟩ := HNE.out
          refine bodyPost_ret (v := .tuple #[.agg #[.string t.kind, .string t.text, .slice A1 n1 c1, .slice A2 n2 c2, .slice A4 (setKid t j k').kids.length c4], .int .i64 0]) (by simp [results, Try.results18, go_sem, q0, q1, q2, q3, q4]) rfl ?_
          exact ⟨A1, n1, c1, A2, n2, c2, A4, c4, setKid t j k', 0, rfl, hne, .inl ⟨by rw [HE.out]; simp, rfl, HWS.out.symm⟩, HBE.out⟩
      · have hjc2 : ¬ c3 = j + 1 := fun e => hjc e.symm
        have HK2 : Hid (∀ W', Below wc.heap.size wc W' → Src W' (NewR S (w.heap.size + 3) wc.heap.size) (.slice (some ⟨by', oy + (j + 1) * 5, none⟩) (t.kids.length - (j + 1)) (c3 - (j + 1))) (t.kids.drop (j + 1))) := Lib.hid fun W' hW => ((HKC.out W' hW).dropped hj).src
        go_upto_region 7 with fail
        refine wp_region_last (xs := [{ dst := some 40, op := Op.buildSlice 29 0 #[], type := 29, pos := "ref.go:115", after := #[], guard := none }, { dst := some 41, op := Op.fieldAddr 31 (Operand.tmp 3) 4, type := 0, pos := "ref.go:115", after := #[], guard := none }, { dst := some 42, op := Op.load 29 (Operand.tmp 41), type := 29, pos := "ref.go:115", after := #[{ on := 1, ground := Ground.data }], guard := none }, { dst := some 43, op := Op.move (Operand.tmp 1), type := 23, pos := "ref.go:115", after := #[], guard := none }, { dst := some 44, op := Op.indexAddr 23 (Operand.tmp 43) (Operand.const (Value.int IntKind.i64 0)), type := 0, pos := "ref.go:115", after := #[{ on := 3, ground := Ground.data }], guard := none }, { dst := some 45, op := Op.load 3 (Operand.tmp 44), type := 3, pos := "ref.go:115", after := #[{ on := 4, ground := Ground.data }], guard := none }, { dst := some 46, op := Op.slice 29 (Operand.tmp 42) none (some (Operand.tmp 45)) none, type := 29, pos := "ref.go:115", after := #[{ on := 2, ground := Ground.data }, { on := 5, ground := Ground.data }], guard := none }, { dst := some 47, op := Op.call { callee := Callee.builtin Builtin.append, args := #[Operand.tmp 40, Operand.tmp 46], argTypes := #[29, 29] }, type := 29, pos := "ref.go:115", after := #[{ on := 0, ground := Ground.data }, { on := 6, ground := Ground.data }], guard := none }, { dst := some 48, op := Op.load 31 (Operand.tmp 10), type := 31, pos := "ref.go:115", after := #[], guard := none }, { dst := some 49, op := Op.buildSlice 29 1 #[(0, Operand.tmp 48)], type := 29, pos := "ref.go:115", after := #[{ on := 8, ground := Ground.data }], guard := none }, { dst := some 50, op := Op.call { callee := Callee.builtin Builtin.append, args := #[Operand.tmp 47, Operand.tmp 49], argTypes := #[29, 29] }, type := 29, pos := "ref.go:115", after := #[{ on := 7, ground := Ground.data }, { on := 9, ground := Ground.data }, { on := 7, ground := Ground.chain }], guard := none }, { dst := some 51, op := Op.fieldAddr 31 (Operand.tmp 3) 4, type := 0, pos := "ref.go:115", after := #[], guard := none }, { dst := some 52, op := Op.load 29 (Operand.tmp 51), type := 29, pos := "ref.go:115", after := #[{ on := 11, ground := Ground.data }], guard := none }, { dst := some 53, op := Op.move (Operand.tmp 1), type := 23, pos := "ref.go:115", after := #[], guard := none }, { dst := some 54, op := Op.indexAddr 23 (Operand.tmp 53) (Operand.const (Value.int IntKind.i64 0)), type := 0, pos := "ref.go:115", after := #[{ on := 13, ground := Ground.data }], guard := none }, { dst := some 55, op := Op.load 3 (Operand.tmp 54), type := 3, pos := "ref.go:115", after := #[{ on := 14, ground := Ground.data }], guard := none }, { dst := some 56, op := Op.binOp BinOp.add 3 (Operand.tmp 55) (Operand.const (Value.int IntKind.i64 1)) 3, type := 3, pos := "ref.go:115", after := #[{ on := 15, ground := Ground.data }], guard := none }, { dst := some 57, op := Op.slice 29 (Operand.tmp 52) (some (Operand.tmp 56)) none none, type := 29, pos := "ref.go:115", after := #[{ on := 12, ground := Ground.data }, { on := 16, ground := Ground.data }], guard := none }, { dst := some 58, op := Op.call { callee := Callee.builtin Builtin.append, args := #[Operand.tmp 50, Operand.tmp 57], argTypes := #[29, 29] }, type := 29, pos := "ref.go:115", after := #[{ on := 10, ground := Ground.data }, { on := 17, ground := Ground.data }, { on := 10, ground := Ground.chain }], guard := none }, { dst := some 59, op := Op.fieldAddr 31 (Operand.tmp 3) 4, type := 0, pos := "ref.go:115", after := #[{ on := 0, ground := Ground.phase }, { on := 1, ground := Ground.phase }, { on := 2, ground := Ground.phase }, { on := 3, ground := Ground.phase }, { on := 4, ground := Ground.phase }, { on := 5, ground := Ground.phase }, { on := 6, ground := Ground.phase }, { on := 7, ground := Ground.phase }, { on := 8, ground := Ground.phase }, { on := 9, ground := Ground.phase }, { on := 10, ground := Ground.phase }, { on := 11, ground := Ground.phase }, { on := 12, ground := Ground.phase }, { on := 13, ground := Ground.phase }, { on := 14, ground := Ground.phase }, { on := 15, ground := Ground.phase }, { on := 16, ground := Ground.phase }, { on := 17, ground := Ground.phase }, { on := 18, ground := Ground.phase }], guard := none }]) (ok := { dst := none, op := Op.store 29 (Operand.tmp 59) (Operand.tmp 58), type := 0, pos := "ref.go:115", after := #[{ on := 19, ground := Ground.data }, { on := 18, ground := Ground.data }, { on := 18, ground := Ground.chain }, { on := 0, ground := Ground.phase }, { on := 1, ground := Ground.phase }, { on := 2, ground := Ground.phase }, { on := 3, ground := Ground.phase }, { on := 4, ground := Ground.phase }, { on := 5, ground := Ground.phase }, { on := 6, ground := Ground.phase }, { on := 7, ground := Ground.phase }, { on := 8, ground := Ground.phase }, { on := 9, ground := Ground.phase }, { on := 10, ground := Ground.phase }, { on := 11, ground := Ground.phase }, { on := 12, ground := Ground.phase }, { on := 13, ground := Ground.phase }, { on := 14, ground := Ground.phase }, { on := 15, ground := Ground.phase }, { on := 16, ground := Ground.phase }, { on := 17, ground := Ground.phase }, { on := 18, ground := Ground.phase }], guard := none }) (S := (fun w' => w'.cell? ⟨bp, op, none⟩ = some (.int .i64 (j : Int)) ∧ w'.cell? ⟨G, 0, none⟩ = some (.string k'.kind) ∧ w'.cell? ⟨G, 1, none⟩ = some (.string k'.text) ∧ w'.cell? ⟨G, 2, none⟩ = some (.slice F1 k1 g1) ∧ w'.cell? ⟨G, 3, none⟩ = some (.slice F2 k2 g2) ∧ w'.cell? ⟨G, 4, none⟩ = some (.slice F3 k'.kids.length g3) ∧ w'.cell? ⟨w.heap.size, 4, none⟩ = some (.slice (some ⟨by', oy, none⟩) t.kids.length c3))) 2 rfl (by kernel_rfl) (by kernel_rfl) (by kernel_rfl) (HSP.out _ ((Below.refl _ _).drew)) (fun hHeld => ?_)
        refine wpAnyH_take (i := 1) (oi := { dst := some 41, op := Op.fieldAddr 31 (Operand.tmp 3) 4, type := 0, pos := "ref.go:115", after := #[], guard := none }) (v := ?_) rfl (by kernel_rfl) (by kernel_rfl) (by kernel_rfl) (fun _ _ _ h => h) (Or.inl ⟨by rfl, ?_⟩) hHeld ?_
        rotate_left
        · intro wz hSw
          try dsimp only at hSw
          go_simp
          all_goals with_reducible rfl
        try simp only [Act.put, List.setIfInBounds_toArray, List.set_cons_zero, List.set_cons_succ]
        refine wpAnyH_take (i := 2) (oi := { dst := some 42, op := Op.load 29 (Operand.tmp 41), type := 29, pos := "ref.go:115", after := #[{ on := 1, ground := Ground.data }], guard := none }) (v := ?_) rfl (by kernel_rfl) (by kernel_rfl) (by kernel_rfl) (fun _ _ _ h => h) (Or.inl ⟨by rfl, ?_⟩) hHeld ?_
        rotate_left
        · intro wz hSw
          try dsimp only at hSw
          go_simp
          all_goals with_reducible rfl
        try simp only [Act.put, List.setIfInBounds_toArray, List.set_cons_zero, List.set_cons_succ]
        refine wpAnyH_take (i := 3) (oi := { dst := some 43, op := Op.move (Operand.tmp 1), type := 23, pos := "ref.go:115", after := #[], guard := none }) (v := ?_) rfl (by kernel_rfl) (by kernel_rfl) (by kernel_rfl) (fun _ _ _ h => h) (Or.inl ⟨by rfl, ?_⟩) hHeld ?_
        rotate_left
        · intro wz hSw
          try dsimp only at hSw
          go_simp
          all_goals with_reducible rfl
        try simp only [Act.put, List.setIfInBounds_toArray, List.set_cons_zero, List.set_cons_succ]
        refine wpAnyH_take (i := 4) (oi := { dst := some 44, op := Op.indexAddr 23 (Operand.tmp 43) (Operand.const (Value.int IntKind.i64 0)), type := 0, pos := "ref.go:115", after := #[{ on := 3, ground := Ground.data }], guard := none }) (v := ?_) rfl (by kernel_rfl) (by kernel_rfl) (by kernel_rfl) (fun _ _ _ h => h) (Or.inl ⟨by rfl, ?_⟩) hHeld ?_
        rotate_left
        · intro wz hSw
          try dsimp only at hSw
          go_simp
          all_goals with_reducible rfl
        try simp only [Act.put, List.setIfInBounds_toArray, List.set_cons_zero, List.set_cons_succ]
        refine wpAnyH_take (i := 5) (oi := { dst := some 45, op := Op.load 3 (Operand.tmp 44), type := 3, pos := "ref.go:115", after := #[{ on := 4, ground := Ground.data }], guard := none }) (v := ?_) rfl (by kernel_rfl) (by kernel_rfl) (by kernel_rfl) (fun _ _ _ h => h) (Or.inl ⟨by rfl, ?_⟩) hHeld ?_
        rotate_left
        · intro wz hSw
          try dsimp only at hSw
          go_simp
          all_goals with_reducible rfl
        try simp only [Act.put, List.setIfInBounds_toArray, List.set_cons_zero, List.set_cons_succ]
        refine wpAnyH_take (i := 6) (oi := { dst := some 46, op := Op.slice 29 (Operand.tmp 42) none (some (Operand.tmp 45)) none, type := 29, pos := "ref.go:115", after := #[{ on := 2, ground := Ground.data }, { on := 5, ground := Ground.data }], guard := none }) (v := ?_) rfl (by kernel_rfl) (by kernel_rfl) (by kernel_rfl) (fun _ _ _ h => h) (Or.inl ⟨by rfl, ?_⟩) hHeld ?_
        rotate_left
        · intro wz hSw
          try dsimp only at hSw
          go_simp
          all_goals with_reducible rfl
        try simp only [Act.put, List.setIfInBounds_toArray, List.set_cons_zero, List.set_cons_succ]
        refine wpAnyH_take (i := 8) (oi := { dst := some 48, op := Op.load 31 (Operand.tmp 10), type := 31, pos := "ref.go:115", after := #[], guard := none }) (v := ?_) rfl (by kernel_rfl) (by kernel_rfl) (by kernel_rfl) (fun _ _ _ h => h) (Or.inl ⟨by rfl, ?_⟩) hHeld ?_
        rotate_left
        · intro wz hSw
          try dsimp only at hSw
          go_simp
          all_goals with_reducible rfl
        try simp only [Act.put, List.setIfInBounds_toArray, List.set_cons_zero, List.set_cons_succ]
        refine wpAnyH_take (i := 11) (oi := { dst := some 51, op := Op.fieldAddr 31 (Operand.tmp 3) 4, type := 0, pos := "ref.go:115", after := #[], guard := none }) (v := ?_) rfl (by kernel_rfl) (by kernel_rfl) (by kernel_rfl) (fun _ _ _ h => h) (Or.inl ⟨by rfl, ?_⟩) hHeld ?_
        rotate_left
        · intro wz hSw
          try dsimp only at hSw
          go_simp
          all_goals with_reducible rfl
        try simp only [Act.put, List.setIfInBounds_toArray, List.set_cons_zero, List.set_cons_succ]
        refine wpAnyH_take (i := 12) (oi := { dst := some 52, op := Op.load 29 (Operand.tmp 51), type := 29, pos := "ref.go:115", after := #[{ on := 11, ground := Ground.data }], guard := none }) (v := ?_) rfl (by kernel_rfl) (by kernel_rfl) (by kernel_rfl) (fun _ _ _ h => h) (Or.inl ⟨by rfl, ?_⟩) hHeld ?_
        rotate_left
        · intro wz hSw
          try dsimp only at hSw
          go_simp
          all_goals with_reducible rfl
        try simp only [Act.put, List.setIfInBounds_toArray, List.set_cons_zero, List.set_cons_succ]
        refine wpAnyH_take (i := 13) (oi := { dst := some 53, op := Op.move (Operand.tmp 1), type := 23, pos := "ref.go:115", after := #[], guard := none }) (v := ?_) rfl (by kernel_rfl) (by kernel_rfl) (by kernel_rfl) (fun _ _ _ h => h) (Or.inl ⟨by rfl, ?_⟩) hHeld ?_
        rotate_left
        · intro wz hSw
          try dsimp only at hSw
          go_simp
          all_goals with_reducible rfl
        try simp only [Act.put, List.setIfInBounds_toArray, List.set_cons_zero, List.set_cons_succ]
        refine wpAnyH_take (i := 14) (oi := { dst := some 54, op := Op.indexAddr 23 (Operand.tmp 53) (Operand.const (Value.int IntKind.i64 0)), type := 0, pos := "ref.go:115", after := #[{ on := 13, ground := Ground.data }], guard := none }) (v := ?_) rfl (by kernel_rfl) (by kernel_rfl) (by kernel_rfl) (fun _ _ _ h => h) (Or.inl ⟨by rfl, ?_⟩) hHeld ?_
        rotate_left
        · intro wz hSw
          try dsimp only at hSw
          go_simp
          all_goals with_reducible rfl
        try simp only [Act.put, List.setIfInBounds_toArray, List.set_cons_zero, List.set_cons_succ]
        refine wpAnyH_take (i := 15) (oi := { dst := some 55, op := Op.load 3 (Operand.tmp 54), type := 3, pos := "ref.go:115", after := #[{ on := 14, ground := Ground.data }], guard := none }) (v := ?_) rfl (by kernel_rfl) (by kernel_rfl) (by kernel_rfl) (fun _ _ _ h => h) (Or.inl ⟨by rfl, ?_⟩) hHeld ?_
        rotate_left
        · intro wz hSw
          try dsimp only at hSw
          go_simp
          all_goals with_reducible rfl
        try simp only [Act.put, List.setIfInBounds_toArray, List.set_cons_zero, List.set_cons_succ]
        refine wpAnyH_take (i := 16) (oi := { dst := some 56, op := Op.binOp BinOp.add 3 (Operand.tmp 55) (Operand.const (Value.int IntKind.i64 1)) 3, type := 3, pos := "ref.go:115", after := #[{ on := 15, ground := Ground.data }], guard := none }) (v := ?_) rfl (by kernel_rfl) (by kernel_rfl) (by kernel_rfl) (fun _ _ _ h => h) (Or.inl ⟨by rfl, ?_⟩) hHeld ?_
        rotate_left
        · intro wz hSw
          try dsimp only at hSw
          go_simp
          all_goals with_reducible rfl
        try simp only [Act.put, List.setIfInBounds_toArray, List.set_cons_zero, List.set_cons_succ]
        refine wpAnyH_take (i := 17) (oi := { dst := some 57, op := Op.slice 29 (Operand.tmp 52) (some (Operand.tmp 56)) none none, type := 29, pos := "ref.go:115", after := #[{ on := 12, ground := Ground.data }, { on := 16, ground := Ground.data }], guard := none }) (v := ?_) rfl (by kernel_rfl) (by kernel_rfl) (by kernel_rfl) (fun _ _ _ h => h) (Or.inl ⟨by rfl, ?_⟩) hHeld ?_
        rotate_left
        · intro wz hSw
          try dsimp only at hSw
          go_simp
          all_goals with_reducible rfl
        try simp only [Act.put, List.setIfInBounds_toArray, List.set_cons_zero, List.set_cons_succ]
        refine wpAnyH_ready (rs := [0, 9]) (by kernel_rfl) (by simp) ?_
        refine AllReadyH.cons (o := { dst := some 40, op := Op.buildSlice 29 0 #[], type := 29, pos := "ref.go:115", after := #[], guard := none }) rfl (fun K hK => ?_) ?_
        · go_simp
          clear hHeld
          refine hK.out _ _ (HSP.out _ B0.out) (fun hHeld => ?_)
          clear hK K
          refine wpAnyH_ready (rs := [7, 9]) (by kernel_rfl) (by simp) ?_
          refine AllReadyH.cons (o := { dst := some 47, op := Op.call { callee := Callee.builtin Builtin.append, args := #[Operand.tmp 40, Operand.tmp 46], argTypes := #[29, 29] }, type := 29, pos := "ref.go:115", after := #[{ on := 0, ground := Ground.data }, { on := 6, ground := Ground.data }], guard := none }) rfl (fun K hK => ?_) ?_
          · refine step_append_nodes (w := (wc.alloc (.cells #[] 31)).drew) rfl (.tmp 40) (.tmp 46) rfl wc.heap.size (NewR S (w.heap.size + 3) wc.heap.size) (.slice (some ⟨wc.heap.size, 0, none⟩) 0 0) (.slice (some ⟨by', oy, none⟩) j c3) [] (t.kids.take j) rfl rfl F0.out (HK1.out _ B0.out) (HSE.out _ _ (by omega) B0.out) N1.out B0.out.size ?_
            intro v2 w2 ho2 hg2 _
            have HO2 : Hid (Own w2 wc.heap.size (NewR S (w.heap.size + 3) wc.heap.size) v2 (t.kids.take j)) := Lib.hid ho2
            have HB2 := Lib.hid (HGB.out _ _ _ _ F0.out B0.out hg2)
            have HB50 : Hid (Below wc.heap.size wc (w2.alloc (.cells #[.string k'.kind, .string k'.text, .slice F1 k1 g1, .slice F2 k2 g2, .slice F3 k'.kids.length g3] 31))) := Lib.hid (HB2.out.alloc HB2.out.size _)
            have HO50 : Hid (Own (w2.alloc (.cells #[.string k'.kind, .string k'.text, .slice F1 k1 g1, .slice F2 k2 g2, .slice F3 k'.kids.length g3] 31)) wc.heap.size (NewR S (w.heap.size + 3) wc.heap.size) v2 (t.kids.take j)) := Lib.hid (own_keep HO2.out HSS.out HB2.out (below_new _ _))
            have HS50 : Hid (Src (w2.alloc (.cells #[.string k'.kind, .string k'.text, .slice F1 k1 g1, .slice F2 k2 g2, .slice F3 k'.kids.length g3] 31)) (NewR S (w.heap.size + 3) wc.heap.size) (.slice (some ⟨w2.heap.size, 0, none⟩) 1 1) [k']) := Lib.hid (HLI.out _ _ HB50.out (heap_new w2 _))
            clear ho2 hg2
            clear hHeld
            refine hK.out _ _ (HSP.out _ HB2.out) (fun hHeld => ?_)
            clear hK K
            refine wpAnyH_ready (rs := [9]) (by kernel_rfl) (by simp) ?_
            refine AllReadyH.cons (o := { dst := some 49, op := Op.buildSlice 29 1 #[(0, Operand.tmp 48)], type := 29, pos := "ref.go:115", after := #[{ on := 8, ground := Ground.data }], guard := none }) rfl (fun K hK => ?_) AllReadyH.nil
            go_simp
            clear hHeld
            refine hK.out _ _ (HSP.out _ HB50.out) (fun hHeld => ?_)
            clear hK K
            refine wpAnyH_ready (rs := [10]) (by kernel_rfl) (by simp) ?_
            refine AllReadyH.cons (o := { dst := some 50, op := Op.call { callee := Callee.builtin Builtin.append, args := #[Operand.tmp 47, Operand.tmp 49], argTypes := #[29, 29] }, type := 29, pos := "ref.go:115", after := #[{ on := 7, ground := Ground.data }, { on := 9, ground := Ground.data }, { on := 7, ground := Ground.chain }], guard := none }) rfl (fun K hK => ?_) AllReadyH.nil
            refine step_append_nodes rfl (.tmp 47) (.tmp 49) rfl wc.heap.size (NewR S (w.heap.size + 3) wc.heap.size) v2 _ (t.kids.take j) [k'] rfl rfl HO50.out HS50.out (HSO.out _ _ _ HO50.out HB50.out) N2.out HB50.out.size ?_
            intro v3 w3 ho3 hg3 _
            have HO3 := Lib.hid ho3
            have HB3' := Lib.hid (HGB.out _ _ _ _ HO50.out HB50.out hg3)
            clear ho3 hg3
            clear hHeld
            refine hK.out _ _ (HSP.out _ HB3'.out) (fun hHeld => ?_)
            clear hK K
            refine wpAnyH_ready (rs := [18]) (by kernel_rfl) (by simp) ?_
            refine AllReadyH.cons (o := { dst := some 58, op := Op.call { callee := Callee.builtin Builtin.append, args := #[Operand.tmp 50, Operand.tmp 57], argTypes := #[29, 29] }, type := 29, pos := "ref.go:115", after := #[{ on := 10, ground := Ground.data }, { on := 17, ground := Ground.data }, { on := 10, ground := Ground.chain }], guard := none }) rfl (fun K hK => ?_) AllReadyH.nil
            refine step_append_nodes rfl (.tmp 50) (.tmp 57) rfl wc.heap.size (NewR S (w.heap.size + 3) wc.heap.size) v3 _ (t.kids.take j ++ [k']) (t.kids.drop (j + 1)) rfl rfl HO3.out (HK2.out _ HB3'.out) (HSO.out _ _ _ HO3.out HB3'.out) N3.out HB3'.out.size ?_
            intro v4 w4 ho4 hg4 _
            obtain ⟨A4, n4, c4, hv4⟩ := own_slice ho4
            subst hv4
            have HO4 := Lib.hid ho4
            have HB4 := Lib.hid (HGB.out _ _ _ _ HO3.out HB3'.out hg4)
            have xf := frozen_of_row _ _ 4 _ _ ((HB4.out.block _ htl).trans HTC.out)
            clear ho4 hg4
            clear hHeld
            refine hK.out _ _ (HSP.out _ HB4.out) (fun hHeld => ?_)
            clear hK K
            refine wpAnyH_take (i := 19) (oi := { dst := some 59, op := Op.fieldAddr 31 (Operand.tmp 3) 4, type := 0, pos := "ref.go:115", after := #[{ on := 0, ground := Ground.phase }, { on := 1, ground := Ground.phase }, { on := 2, ground := Ground.phase }, { on := 3, ground := Ground.phase }, { on := 4, ground := Ground.phase }, { on := 5, ground := Ground.phase }, { on := 6, ground := Ground.phase }, { on := 7, ground := Ground.phase }, { on := 8, ground := Ground.phase }, { on := 9, ground := Ground.phase }, { on := 10, ground := Ground.phase }, { on := 11, ground := Ground.phase }, { on := 12, ground := Ground.phase }, { on := 13, ground := Ground.phase }, { on := 14, ground := Ground.phase }, { on := 15, ground := Ground.phase }, { on := 16, ground := Ground.phase }, { on := 17, ground := Ground.phase }, { on := 18, ground := Ground.phase }], guard := none }) (v := ?_) rfl (by kernel_rfl) (by kernel_rfl) (by kernel_rfl) (fun _ _ _ h => h) (Or.inl ⟨by rfl, ?_⟩) hHeld ?_
            rotate_left
            · intro wz hSw
              try dsimp only at hSw
              go_simp
              all_goals with_reducible rfl
            try simp only [Act.put, List.setIfInBounds_toArray, List.set_cons_zero, List.set_cons_succ]
            clear hHeld
            refine wpAnyH_done (by kernel_rfl) ?_ _
            refine last_step (o := { dst := none, op := Op.store 29 (Operand.tmp 59) (Operand.tmp 58), type := 0, pos := "ref.go:115", after := #[{ on := 19, ground := Ground.data }, { on := 18, ground := Ground.data }, { on := 18, ground := Ground.chain }, { on := 0, ground := Ground.phase }, { on := 1, ground := Ground.phase }, { on := 2, ground := Ground.phase }, { on := 3, ground := Ground.phase }, { on := 4, ground := Ground.phase }, { on := 5, ground := Ground.phase }, { on := 6, ground := Ground.phase }, { on := 7, ground := Ground.phase }, { on := 8, ground := Ground.phase }, { on := 9, ground := Ground.phase }, { on := 10, ground := Ground.phase }, { on := 11, ground := Ground.phase }, { on := 12, ground := Ground.phase }, { on := 13, ground := Ground.phase }, { on := 14, ground := Ground.phase }, { on := 15, ground := Ground.phase }, { on := 16, ground := Ground.phase }, { on := 17, ground := Ground.phase }, { on := 18, ground := Ground.phase }], guard := none }) rfl rfl ?_
            have x4 := (cells5 ((HB4.out.block _ htl).trans HTC.out)).2.2.2.2
            go_simp
            clear x4
            have HT8 : Hid ((w4.setCell ⟨w.heap.size, 4, none⟩ (.slice A4 n4 c4)).heap[w.heap.size]? = some (.cells #[.string t.kind, .string t.text, .slice A1 n1 c1, .slice A2 n2 c2, .slice A4 n4 c4] 31)) := Lib.hid (heap_setCell_same w4 w.heap.size 4 _ _ _ ((HB4.out.block _ htl).trans HTC.out))
            have HR8 : Hid ((w4.setCell ⟨w.heap.size, 4, none⟩ (.slice A4 n4 c4)).heap[w.heap.size + 2]? = some ZNodeR) := Lib.hid ((Below.heap_setCell _ _ _ _ (show w.heap.size + 2 ≠ w.heap.size by omega)).trans ((HB4.out.block _ (heap_lt' HRC.out)).trans HRC.out))
            have HB8 : Hid (Below w.heap.size w (w4.setCell ⟨w.heap.size, 4, none⟩ (.slice A4 n4 c4))) := Lib.hid (set_below (Nat.le_refl _) (HBC.out.trans (HB4.out.mono HBC.out.size)))
            have HO8 : Hid (Own (w4.setCell ⟨w.heap.size, 4, none⟩ (.slice A4 n4 c4)) wc.heap.size (NewR S (w.heap.size + 3) wc.heap.size) (.slice A4 n4 c4) (t.kids.take j ++ [k'] ++ t.kids.drop (j + 1))) := Lib.hid (own_set HO4.out (by omega) fun b hb => hb.elim (fun h => by have := HS.out b h; omega) fun h => by have := h.1; omega)
            have HZ8 : Hid (wc.heap.size ≤ (w4.setCell ⟨w.heap.size, 4, none⟩ (.slice A4 n4 c4)).heap.size) := Lib.hid (by have := HB4.out.size; simpa [World.setCell] using this)
            clear HO4 HO3 HO2 HO50 HS50 HB4 HB3' HB2 HB50 xf
            generalize (w4.setCell ⟨w.heap.size, 4, none⟩ (.slice A4 n4 c4)) = WE at *
            obtain ⟨y0, y1, y2, y3, y4⟩ := cells5 HT8.out
            have hr8 := HR8.out
            have f0 := frozen_of_row _ _ 0 _ _ hr8
            have f1 := frozen_of_row _ _ 1 _ _ hr8
            have f2 := frozen_of_row _ _ 2 _ _ hr8
            have f3 := frozen_of_row _ _ 3 _ _ hr8
            have f4 := frozen_of_row _ _ 4 _ _ hr8
            obtain ⟨a0, a1, a2, a3, a4⟩ := cells5 hr8
            clear hr8
            go_wp2
            obtain ⟨q0, q1, q2, q3, q4⟩ := cells5 (put5z_block (v0 := .string t.kind) (v1 := .string t.text) (v2 := .slice A1 n1 c1) (v3 := .slice A2 n2 c2) (v4 := .slice A4 n4 c4) HR8.out)
            have HBE := Lib.hid (put5z_below (g := w.heap.size + 2) (v0 := .string t.kind) (v1 := .string t.text) (v2 := .slice A1 n1 c1) (v3 := .slice A2 n2 c2) (v4 := .slice A4 n4 c4) (by omega) HB8.out)
            have HNE := Lib.hid (with_node (t := t) (k' := k') (j := j) (v0 := .string t.kind) (v1 := .string t.text) (v2 := .slice A1 n1 c1) (v3 := .slice A2 n2 c2) (v4 := .slice A4 n4 c4) HS.out hzc HZ8.out HN.out HB8.out HO8.out HSET.out)
            unfold put5z at q0 q1 q2 q3 q4
            obtain ⟨rfl, hne⟩ := HNE.out
            refine bodyPost_ret (v := .tuple #[.agg #[.string t.kind, .string t.text, .slice A1 n1 c1, .slice A2 n2 c2, .slice A4 (setKid t j k').kids.length c4], .int .i64 0]) (by simp [results, Try.results18, go_sem, q0, q1, q2, q3, q4]) rfl ?_
            exact ⟨A1, n1, c1, A2, n2, c2, A4, c4, setKid t j k', 0, rfl, hne, .inl ⟨by rw [HE.out]; simp, rfl, HWS.out.symm⟩, HBE.out⟩
          · refine AllReadyH.cons (o := { dst := some 49, op := Op.buildSlice 29 1 #[(0, Operand.tmp 48)], type := 29, pos := "ref.go:115", after := #[{ on := 8, ground := Ground.data }], guard := none }) rfl (fun K hK => ?_) AllReadyH.nil
            go_simp
            clear hHeld
            refine hK.out _ _ (HSP.out _ B01.out) (fun hHeld => ?_)
            clear hK K
            refine wpAnyH_ready (rs := [7]) (by kernel_rfl) (by simp) ?_
            refine AllReadyH.cons (o := { dst := some 47, op := Op.call { callee := Callee.builtin Builtin.append, args := #[Operand.tmp 40, Operand.tmp 46], argTypes := #[29, 29] }, type := 29, pos := "ref.go:115", after := #[{ on := 0, ground := Ground.data }, { on := 6, ground := Ground.data }], guard := none }) rfl (fun K hK => ?_) AllReadyH.nil
            refine step_append_nodes (w := ((wc.alloc (.cells #[] 31)).alloc (.cells #[.string k'.kind, .string k'.text, .slice F1 k1 g1, .slice F2 k2 g2, .slice F3 k'.kids.length g3] 31)).drew) rfl (.tmp 40) (.tmp 46) rfl wc.heap.size (NewR S (w.heap.size + 3) wc.heap.size) (.slice (some ⟨wc.heap.size, 0, none⟩) 0 0) (.slice (some ⟨by', oy, none⟩) j c3) [] (t.kids.take j) rfl rfl F01.out (HK1.out _ B01.out) (HSE.out _ _ (by omega) B01.out) N1.out B01.out.size ?_
            intro v2 w2 ho2 hg2 _
            have HO2 : Hid (Own w2 wc.heap.size (NewR S (w.heap.size + 3) wc.heap.size) v2 (t.kids.take j)) := Lib.hid ho2
            have HB2 := Lib.hid (HGB.out _ _ _ _ F01.out B01.out hg2)
            have HB50 := HB2
            have HO50 := HO2
            have HS50 : Hid (Src w2 (NewR S (w.heap.size + 3) wc.heap.size) (.slice (some ⟨wc.heap.size + 1, 0, none⟩) 1 1) [k']) := Lib.hid (HLI.out _ _ HB2.out ((hg2.block _ (heap_lt' G01.out) (by simp [Value.ownBlock])).trans G01.out))
            clear ho2 hg2
            clear hHeld
            refine hK.out _ _ (HSP.out _ HB2.out) (fun hHeld => ?_)
            clear hK K
            refine wpAnyH_ready (rs := [10]) (by kernel_rfl) (by simp) ?_
            refine AllReadyH.cons (o := { dst := some 50, op := Op.call { callee := Callee.builtin Builtin.append, args := #[Operand.tmp 47, Operand.tmp 49], argTypes := #[29, 29] }, type := 29, pos := "ref.go:115", after := #[{ on := 7, ground := Ground.data }, { on := 9, ground := Ground.data }, { on := 7, ground := Ground.chain }], guard := none }) rfl (fun K hK => ?_) AllReadyH.nil
            refine step_append_nodes rfl (.tmp 47) (.tmp 49) rfl wc.heap.size (NewR S (w.heap.size + 3) wc.heap.size) v2 _ (t.kids.take j) [k'] rfl rfl HO50.out HS50.out (HSO.out _ _ _ HO50.out HB50.out) N2.out HB50.out.size ?_
            intro v3 w3 ho3 hg3 _
            have HO3 := Lib.hid ho3
            have HB3' := Lib.hid (HGB.out _ _ _ _ HO50.out HB50.out hg3)
            clear ho3 hg3
            clear hHeld
            refine hK.out _ _ (HSP.out _ HB3'.out) (fun hHeld => ?_)
            clear hK K
            refine wpAnyH_ready (rs := [18]) (by kernel_rfl) (by simp) ?_
            refine AllReadyH.cons (o := { dst := some 58, op := Op.call { callee := Callee.builtin Builtin.append, args := #[Operand.tmp 50, Operand.tmp 57], argTypes := #[29, 29] }, type := 29, pos := "ref.go:115", after := #[{ on := 10, ground := Ground.data }, { on := 17, ground := Ground.data }, { on := 10, ground := Ground.chain }], guard := none }) rfl (fun K hK => ?_) AllReadyH.nil
            refine step_append_nodes rfl (.tmp 50) (.tmp 57) rfl wc.heap.size (NewR S (w.heap.size + 3) wc.heap.size) v3 _ (t.kids.take j ++ [k']) (t.kids.drop (j + 1)) rfl rfl HO3.out (HK2.out _ HB3'.out) (HSO.out _ _ _ HO3.out HB3'.out) N3.out HB3'.out.size ?_
            intro v4 w4 ho4 hg4 _
            obtain ⟨A4, n4, c4, hv4⟩ := own_slice ho4
            subst hv4
            have HO4 := Lib.hid ho4
            have HB4 := Lib.hid (HGB.out _ _ _ _ HO3.out HB3'.out hg4)
            have xf := frozen_of_row _ _ 4 _ _ ((HB4.out.block _ htl).trans HTC.out)
            clear ho4 hg4
            clear hHeld
            refine hK.out _ _ (HSP.out _ HB4.out) (fun hHeld => ?_)
            clear hK K
            refine wpAnyH_take (i := 19) (oi := { dst := some 59, op := Op.fieldAddr 31 (Operand.tmp 3) 4, type := 0, pos := "ref.go:115", after := #[{ on := 0, ground := Ground.phase }, { on := 1, ground := Ground.phase }, { on := 2, ground := Ground.phase }, { on := 3, ground := Ground.phase }, { on := 4, ground := Ground.phase }, { on := 5, ground := Ground.phase }, { on := 6, ground := Ground.phase }, { on := 7, ground := Ground.phase }, { on := 8, ground := Ground.phase }, { on := 9, ground := Ground.phase }, { on := 10, ground := Ground.phase }, { on := 11, ground := Ground.phase }, { on := 12, ground := Ground.phase }, { on := 13, ground := Ground.phase }, { on := 14, ground := Ground.phase }, { on := 15, ground := Ground.phase }, { on := 16, ground := Ground.phase }, { on := 17, ground := Ground.phase }, { on := 18, ground := Ground.phase }], guard := none }) (v := ?_) rfl (by kernel_rfl) (by kernel_rfl) (by kernel_rfl) (fun _ _ _ h => h) (Or.inl ⟨by rfl, ?_⟩) hHeld ?_
            rotate_left
            · intro wz hSw
              try dsimp only at hSw
              go_simp
              all_goals with_reducible rfl
            try simp only [Act.put, List.setIfInBounds_toArray, List.set_cons_zero, List.set_cons_succ]
            clear hHeld
            refine wpAnyH_done (by kernel_rfl) ?_ _
            refine last_step (o := { dst := none, op := Op.store 29 (Operand.tmp 59) (Operand.tmp 58), type := 0, pos := "ref.go:115", after := #[{ on := 19, ground := Ground.data }, { on := 18, ground := Ground.data }, { on := 18, ground := Ground.chain }, { on := 0, ground := Ground.phase }, { on := 1, ground := Ground.phase }, { on := 2, ground := Ground.phase }, { on := 3, ground := Ground.phase }, { on := 4, ground := Ground.phase }, { on := 5, ground := Ground.phase }, { on := 6, ground := Ground.phase }, { on := 7, ground := Ground.phase }, { on := 8, ground := Ground.phase }, { on := 9, ground := Ground.phase }, { on := 10, ground := Ground.phase }, { on := 11, ground := Ground.phase }, { on := 12, ground := Ground.phase }, { on := 13, ground := Ground.phase }, { on := 14, ground := Ground.phase }, { on := 15, ground := Ground.phase }, { on := 16, ground := Ground.phase }, { on := 17, ground := Ground.phase }, { on := 18, ground := Ground.phase }], guard := none }) rfl rfl ?_
            have x4 := (cells5 ((HB4.out.block _ htl).trans HTC.out)).2.2.2.2
            go_simp
            clear x4
            have HT8 : Hid ((w4.setCell ⟨w.heap.size, 4, none⟩ (.slice A4 n4 c4)).heap[w.heap.size]? = some (.cells #[.string t.kind, .string t.text, .slice A1 n1 c1, .slice A2 n2 c2, .slice A4 n4 c4] 31)) := Lib.hid (heap_setCell_same w4 w.heap.size 4 _ _ _ ((HB4.out.block _ htl).trans HTC.out))
            have HR8 : Hid ((w4.setCell ⟨w.heap.size, 4, none⟩ (.slice A4 n4 c4)).heap[w.heap.size + 2]? = some ZNodeR) := Lib.hid ((Below.heap_setCell _ _ _ _ (show w.heap.size + 2 ≠ w.heap.size by omega)).trans ((HB4.out.block _ (heap_lt' HRC.out)).trans HRC.out))
            have HB8 : Hid (Below w.heap.size w (w4.setCell ⟨w.heap.size, 4, none⟩ (.slice A4 n4 c4))) := Lib.hid (set_below (Nat.le_refl _) (HBC.out.trans (HB4.out.mono HBC.out.size)))
            have HO8 : Hid (Own (w4.setCell ⟨w.heap.size, 4, none⟩ (.slice A4 n4 c4)) wc.heap.size (NewR S (w.heap.size + 3) wc.heap.size) (.slice A4 n4 c4) (t.kids.take j ++ [k'] ++ t.kids.drop (j + 1))) := Lib.hid (own_set HO4.out (by omega) fun b hb => hb.elim (fun h => by have := HS.out b h; omega) fun h => by have := h.1; omega)
            have HZ8 : Hid (wc.heap.size ≤ (w4.setCell ⟨w.heap.size, 4, none⟩ (.slice A4 n4 c4)).heap.size) := Lib.hid (by have := HB4.out.size; simpa [World.setCell] using this)
            clear HO4 HO3 HO2 HO50 HS50 HB4 HB3' HB2 HB50 xf
            generalize (w4.setCell ⟨w.heap.size, 4, none⟩ (.slice A4 n4 c4)) = WE at *
            obtain ⟨y0, y1, y2, y3, y4⟩ := cells5 HT8.out
            have hr8 := HR8.out
            have f0 := frozen_of_row _ _ 0 _ _ hr8
            have f1 := frozen_of_row _ _ 1 _ _ hr8
            have f2 := frozen_of_row _ _ 2 _ _ hr8
            have f3 := frozen_of_row _ _ 3 _ _ hr8
            have f4 := frozen_of_row _ _ 4 _ _ hr8
            obtain ⟨a0, a1, a2, a3, a4⟩ := cells5 hr8
            clear hr8
            go_wp2
            obtain ⟨q0, q1, q2, q3, q4⟩ := cells5 (put5z_block (v0 := .string t.kind) (v1 := .string t.text) (v2 := .slice A1 n1 c1) (v3 := .slice A2 n2 c2) (v4 := .slice A4 n4 c4) HR8.out)
            have HBE := Lib.hid (put5z_below (g := w.heap.size + 2) (v0 := .string t.kind) (v1 := .string t.text) (v2 := .slice A1 n1 c1) (v3 := .slice A2 n2 c2) (v4 := .slice A4 n4 c4) (by omega) HB8.out)
            have HNE := Lib.hid (with_node (t := t) (k' := k') (j := j) (v0 := .string t.kind) (v1 := .string t.text) (v2 := .slice A1 n1 c1) (v3 := .slice A2 n2 c2) (v4 := .slice A4 n4 c4) HS.out hzc HZ8.out HN.out HB8.out HO8.out HSET.out)
            unfold put5z at q0 q1 q2 q3 q4
            obtain ⟨rfl, hne⟩ := HNE.out
            refine bodyPost_ret (v := .tuple #[.agg #[.string t.kind, .string t.text, .slice A1 n1 c1, .slice A2 n2 c2, .slice A4 (setKid t j k').kids.length c4], .int .i64 0]) (by simp [results, Try.results18, go_sem, q0, q1, q2, q3, q4]) rfl ?_
            exact ⟨A1, n1, c1, A2, n2, c2, A4, c4, setKid t j k', 0, rfl, hne, .inl ⟨by rw [HE.out]; simp, rfl, HWS.out.symm⟩, HBE.out⟩
        · refine AllReadyH.cons (o := { dst := some 49, op := Op.buildSlice 29 1 #[(0, Operand.tmp 48)], type := 29, pos := "ref.go:115", after := #[{ on := 8, ground := Ground.data }], guard := none }) rfl (fun K hK => ?_) AllReadyH.nil
          go_simp
          clear hHeld
          refine hK.out _ _ (HSP.out _ B1.out) (fun hHeld => ?_)
          clear hK K
          refine wpAnyH_ready (rs := [0]) (by kernel_rfl) (by simp) ?_
          refine AllReadyH.cons (o := { dst := some 40, op := Op.buildSlice 29 0 #[], type := 29, pos := "ref.go:115", after := #[], guard := none }) rfl (fun K hK => ?_) AllReadyH.nil
          go_simp
          clear hHeld
          refine hK.out _ _ (HSP.out _ B10.out) (fun hHeld => ?_)
          clear hK K
          refine wpAnyH_ready (rs := [7]) (by kernel_rfl) (by simp) ?_
          refine AllReadyH.cons (o := { dst := some 47, op := Op.call { callee := Callee.builtin Builtin.append, args := #[Operand.tmp 40, Operand.tmp 46], argTypes := #[29, 29] }, type := 29, pos := "ref.go:115", after := #[{ on := 0, ground := Ground.data }, { on := 6, ground := Ground.data }], guard := none }) rfl (fun K hK => ?_) AllReadyH.nil
          refine step_append_nodes (w := ((wc.alloc (.cells #[.string k'.kind, .string k'.text, .slice F1 k1 g1, .slice F2 k2 g2, .slice F3 k'.kids.length g3] 31)).alloc (.cells #[] 31)).drew) rfl (.tmp 40) (.tmp 46) rfl wc.heap.size (NewR S (w.heap.size + 3) wc.heap.size) (.slice (some ⟨wc.heap.size + 1, 0, none⟩) 0 0) (.slice (some ⟨by', oy, none⟩) j c3) [] (t.kids.take j) rfl rfl F10.out (HK1.out _ B10.out) (HSE.out _ _ (by omega) B10.out) N1.out B10.out.size ?_
          intro v2 w2 ho2 hg2 _
          have HO2 : Hid (Own w2 wc.heap.size (NewR S (w.heap.size + 3) wc.heap.size) v2 (t.kids.take j)) := Lib.hid ho2
          have HB2 := Lib.hid (HGB.out _ _ _ _ F10.out B10.out hg2)
          have HB50 := HB2
          have HO50 := HO2
          have HS50 : Hid (Src w2 (NewR S (w.heap.size + 3) wc.heap.size) (.slice (some ⟨wc.heap.size, 0, none⟩) 1 1) [k']) := Lib.hid (HLI.out _ _ HB2.out ((hg2.block _ (heap_lt' G10.out) (by simp [Value.ownBlock])).trans G10.out))
          clear ho2 hg2
          clear hHeld
          refine hK.out _ _ (HSP.out _ HB2.out) (fun hHeld => ?_)
          clear hK K
          refine wpAnyH_ready (rs := [10]) (by kernel_rfl) (by simp) ?_
          refine AllReadyH.cons (o := { dst := some 50, op := Op.call { callee := Callee.builtin Builtin.append, args := #[Operand.tmp 47, Operand.tmp 49], argTypes := #[29, 29] }, type := 29, pos := "ref.go:115", after := #[{ on := 7, ground := Ground.data }, { on := 9, ground := Ground.data }, { on := 7, ground := Ground.chain }], guard := none }) rfl (fun K hK => ?_) AllReadyH.nil
          refine step_append_nodes rfl (.tmp 47) (.tmp 49) rfl wc.heap.size (NewR S (w.heap.size + 3) wc.heap.size) v2 _ (t.kids.take j) [k'] rfl rfl HO50.out HS50.out (HSO.out _ _ _ HO50.out HB50.out) N2.out HB50.out.size ?_
          intro v3 w3 ho3 hg3 _
          have HO3 := Lib.hid ho3
          have HB3' := Lib.hid (HGB.out _ _ _ _ HO50.out HB50.out hg3)
          clear ho3 hg3
          clear hHeld
          refine hK.out _ _ (HSP.out _ HB3'.out) (fun hHeld => ?_)
          clear hK K
          refine wpAnyH_ready (rs := [18]) (by kernel_rfl) (by simp) ?_
          refine AllReadyH.cons (o := { dst := some 58, op := Op.call { callee := Callee.builtin Builtin.append, args := #[Operand.tmp 50, Operand.tmp 57], argTypes := #[29, 29] }, type := 29, pos := "ref.go:115", after := #[{ on := 10, ground := Ground.data }, { on := 17, ground := Ground.data }, { on := 10, ground := Ground.chain }], guard := none }) rfl (fun K hK => ?_) AllReadyH.nil
          refine step_append_nodes rfl (.tmp 50) (.tmp 57) rfl wc.heap.size (NewR S (w.heap.size + 3) wc.heap.size) v3 _ (t.kids.take j ++ [k']) (t.kids.drop (j + 1)) rfl rfl HO3.out (HK2.out _ HB3'.out) (HSO.out _ _ _ HO3.out HB3'.out) N3.out HB3'.out.size ?_
          intro v4 w4 ho4 hg4 _
          obtain ⟨A4, n4, c4, hv4⟩ := own_slice ho4
          subst hv4
          have HO4 := Lib.hid ho4
          have HB4 := Lib.hid (HGB.out _ _ _ _ HO3.out HB3'.out hg4)
          have xf := frozen_of_row _ _ 4 _ _ ((HB4.out.block _ htl).trans HTC.out)
          clear ho4 hg4
          clear hHeld
          refine hK.out _ _ (HSP.out _ HB4.out) (fun hHeld => ?_)
          clear hK K
          refine wpAnyH_take (i := 19) (oi := { dst := some 59, op := Op.fieldAddr 31 (Operand.tmp 3) 4, type := 0, pos := "ref.go:115", after := #[{ on := 0, ground := Ground.phase }, { on := 1, ground := Ground.phase }, { on := 2, ground := Ground.phase }, { on := 3, ground := Ground.phase }, { on := 4, ground := Ground.phase }, { on := 5, ground := Ground.phase }, { on := 6, ground := Ground.phase }, { on := 7, ground := Ground.phase }, { on := 8, ground := Ground.phase }, { on := 9, ground := Ground.phase }, { on := 10, ground := Ground.phase }, { on := 11, ground := Ground.phase }, { on := 12, ground := Ground.phase }, { on := 13, ground := Ground.phase }, { on := 14, ground := Ground.phase }, { on := 15, ground := Ground.phase }, { on := 16, ground := Ground.phase }, { on := 17, ground := Ground.phase }, { on := 18, ground := Ground.phase }], guard := none }) (v := ?_) rfl (by kernel_rfl) (by kernel_rfl) (by kernel_rfl) (fun _ _ _ h => h) (Or.inl ⟨by rfl, ?_⟩) hHeld ?_
          rotate_left
          · intro wz hSw
            try dsimp only at hSw
            go_simp
            all_goals with_reducible rfl
          try simp only [Act.put, List.setIfInBounds_toArray, List.set_cons_zero, List.set_cons_succ]
          clear hHeld
          refine wpAnyH_done (by kernel_rfl) ?_ _
          refine last_step (o := { dst := none, op := Op.store 29 (Operand.tmp 59) (Operand.tmp 58), type := 0, pos := "ref.go:115", after := #[{ on := 19, ground := Ground.data }, { on := 18, ground := Ground.data }, { on := 18, ground := Ground.chain }, { on := 0, ground := Ground.phase }, { on := 1, ground := Ground.phase }, { on := 2, ground := Ground.phase }, { on := 3, ground := Ground.phase }, { on := 4, ground := Ground.phase }, { on := 5, ground := Ground.phase }, { on := 6, ground := Ground.phase }, { on := 7, ground := Ground.phase }, { on := 8, ground := Ground.phase }, { on := 9, ground := Ground.phase }, { on := 10, ground := Ground.phase }, { on := 11, ground := Ground.phase }, { on := 12, ground := Ground.phase }, { on := 13, ground := Ground.phase }, { on := 14, ground := Ground.phase }, { on := 15, ground := Ground.phase }, { on := 16, ground := Ground.phase }, { on := 17, ground := Ground.phase }, { on := 18, ground := Ground.phase }], guard := none }) rfl rfl ?_
          have x4 := (cells5 ((HB4.out.block _ htl).trans HTC.out)).2.2.2.2
          go_simp
          clear x4
          have HT8 : Hid ((w4.setCell ⟨w.heap.size, 4, none⟩ (.slice A4 n4 c4)).heap[w.heap.size]? = some (.cells #[.string t.kind, .string t.text, .slice A1 n1 c1, .slice A2 n2 c2, .slice A4 n4 c4] 31)) := Lib.hid (heap_setCell_same w4 w.heap.size 4 _ _ _ ((HB4.out.block _ htl).trans HTC.out))
          have HR8 : Hid ((w4.setCell ⟨w.heap.size, 4, none⟩ (.slice A4 n4 c4)).heap[w.heap.size + 2]? = some ZNodeR) := Lib.hid ((Below.heap_setCell _ _ _ _ (show w.heap.size + 2 ≠ w.heap.size by omega)).trans ((HB4.out.block _ (heap_lt' HRC.out)).trans HRC.out))
          have HB8 : Hid (Below w.heap.size w (w4.setCell ⟨w.heap.size, 4, none⟩ (.slice A4 n4 c4))) := Lib.hid (set_below (Nat.le_refl _) (HBC.out.trans (HB4.out.mono HBC.out.size)))
          have HO8 : Hid (Own (w4.setCell ⟨w.heap.size, 4, none⟩ (.slice A4 n4 c4)) wc.heap.size (NewR S (w.heap.size + 3) wc.heap.size) (.slice A4 n4 c4) (t.kids.take j ++ [k'] ++ t.kids.drop (j + 1))) := Lib.hid (own_set HO4.out (by omega) fun b hb => hb.elim (fun h => by have := HS.out b h; omega) fun h => by have := h.1; omega)
          have HZ8 : Hid (wc.heap.size ≤ (w4.setCell ⟨w.heap.size, 4, none⟩ (.slice A4 n4 c4)).heap.size) := Lib.hid (by have := HB4.out.size; simpa [World.setCell] using this)
          clear HO4 HO3 HO2 HO50 HS50 HB4 HB3' HB2 HB50 xf
          generalize (w4.setCell ⟨w.heap.size, 4, none⟩ (.slice A4 n4 c4)) = WE at *
          obtain ⟨y0, y1, y2, y3, y4⟩ := cells5 HT8.out
          have hr8 := HR8.out
          have f0 := frozen_of_row _ _ 0 _ _ hr8
          have f1 := frozen_of_row _ _ 1 _ _ hr8
          have f2 := frozen_of_row _ _ 2 _ _ hr8
          have f3 := frozen_of_row _ _ 3 _ _ hr8
          have f4 := frozen_of_row _ _ 4 _ _ hr8
          obtain ⟨a0, a1, a2, a3, a4⟩ := cells5 hr8
          clear hr8
          go_wp2
          obtain ⟨q0, q1, q2, q3, q4⟩ := cells5 (put5z_block (v0 := .string t.kind) (v1 := .string t.text) (v2 := .slice A1 n1 c1) (v3 := .slice A2 n2 c2) (v4 := .slice A4 n4 c4) HR8.out)
          have HBE := Lib.hid (put5z_below (g := w.heap.size + 2) (v0 := .string t.kind) (v1 := .string t.text) (v2 := .slice A1 n1 c1) (v3 := .slice A2 n2 c2) (v4 := .slice A4 n4 c4) (by omega) HB8.out)
          have HNE := Lib.hid (with_node (t := t) (k' := k') (j := j) (v0 := .string t.kind) (v1 := .string t.text) (v2 := .slice A1 n1 c1) (v3 := .slice A2 n2 c2) (v4 := .slice A4 n4 c4) HS.out hzc HZ8.out HN.out HB8.out HO8.out HSET.out)
          unfold put5z at q0 q1 q2 q3 q4
          obtain ⟨rfl, hne⟩ := HNE.out
          refine bodyPost_ret (v := .tuple #[.agg #[.string t.kind, .string t.text, .slice A1 n1 c1, .slice A2 n2 c2, .slice A4 (setKid t j k').kids.length c4], .int .i64 0]) (by simp [results, Try.results18, go_sem, q0, q1, q2, q3, q4]) rfl ?_
          exact ⟨A1, n1, c1, A2, n2, c2, A4, c4, setKid t j k', 0, rfl, hne, .inl ⟨by rw [HE.out]; simp, rfl, HWS.out.symm⟩, HBE.out⟩

theorem rwith_any (m : Tree) : ∀ p : List Int, RWithSaid m p
  | [] => rwith_nil m
  | x :: q => rwith_cons m x q (rwith_any m q)
end Go.Proofs.Ytmmifednhleggaa
