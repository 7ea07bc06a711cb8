/-
  A tree with another node where a path leads, as plain data, and in memory that is parted.
-/
import Derived.Test.YtamoklceekeheaaDoorPlA
import Derived.Test.YtamoklceekeheaaDoorPar
import Derived.Test.YtamoklceekeheaaDoorW8
namespace Go.Proofs.YtamoklceekeheaaDoor
open Go.RowKit Go.Sort

def setKid (t : Tree) (i : Nat) (y : Tree) : Tree := .mk t.kind t.text t.marks t.attrs (t.kids.set i y)
def withB : Tree → List Int → Tree → Tree
  | _, [], m => m
  | t, i :: p, m => match t.kids[i.toNat]? with
    | none => t
    | some u => setKid t i.toNat (withB u p m)
theorem withB_snoc : ∀ (q : List Int) (t u y m : Tree) (x : Int), goB t q = some u → u.kids[x.toNat]? = some y → withB t (q ++ [x]) m = withB t q (setKid u x.toNat m)
  | [], t, u, y, m, x, h, hy => by
    simp only [goB, Option.some.injEq] at h; subst h
    simp [withB, hy]
  | i :: q, t, u, y, m, x, h, hy => by
    rw [goB] at h
    cases hk : kidAt t i with
    | none => rw [hk] at h; cases h
    | some v =>
      rw [hk] at h
      have hv := (kidAt_some hk).2.2
      simp only [List.cons_append, withB, hv]
      rw [withB_snoc q v u y m x h hy]

/-- Where the walk is in the copy: at five cells whose node has blocks of its own; a node put there stands in the tree. -/
structure WithAt (w : World) (lo ga : Nat) (t : Tree) (q : List Int) (u : Tree) (g o a b : Nat) (v : Value) : Prop where
  gone : goB t q = some u
  node : NodeP w u a b v
  row : ∃ cur, w.heap[g]? = some (.cells cur 28) ∧ Five cur o v
  bounds : lo ≤ a ∧ b ≤ ga ∧ lo ≤ g ∧ g ≤ ga ∧ ¬ From a b g
  put : ∀ (W : World) (S' : Nat → Prop) (y : Tree), (∀ d, From lo ga d → S' d) → (∀ d, From lo (ga + 1) d → ¬ From a b d → d ≠ g → W.heap[d]? = w.heap[d]?) → (∀ j, ¬ (o ≤ j ∧ j < o + 5) → W.cell? ⟨g, j, none⟩ = w.cell? ⟨g, j, none⟩) →
    NodeAt W S' y g o → NodeAt W S' (withB t q y) ga 0

theorem NodeP.le {w : World} {t : Tree} {lo hi : Nat} {v : Value} (h : NodeP w t lo hi v) : lo ≤ hi := by
  obtain ⟨_, _, _, _, _, _, _, z, h1, h2, _⟩ := (nodeP_iff t lo hi v).1 h
  exact Nat.le_trans h1 h2

theorem WithAt.start {w : World} {lo ga : Nat} {t : Tree} {v : Value} {cur : Array Value} (hn : NodeP w t lo ga v) (hc : w.heap[ga]? = some (.cells cur 28)) (hf : Five cur 0 v) : WithAt w lo ga t [] t ga 0 lo ga v :=
  ⟨rfl, hn, ⟨cur, hc, hf⟩, ⟨Nat.le_refl _, Nat.le_refl _, hn.le, Nat.le_refl _, fun h => Nat.lt_irrefl _ h.2⟩, fun _ _ _ _ _ _ h => h⟩

theorem WithAt.next {w : World} {lo ga : Nat} {t : Tree} {q : List Int} {u : Tree} {g o a b : Nat} {v : Value} (h : WithAt w lo ga t q u g o a b v) {j : Nat} {x : Tree} (hT : isTxt u.kind = false) (hx : u.kids[j]? = some x) :
    ∃ g2 c vm va a' b' v', v = .agg #[.string u.kind, .string u.text, vm, va, .slice (some ⟨g2, 0, none⟩) u.kids.length c] ∧ u.kids.length ≤ c ∧ WithAt w lo ga t (q ++ [(j : Int)]) x g2 (j * 5) a' b' v' := by
  obtain ⟨hgo, hnd, hrow, ⟨h1, h2, h3, h4, h5⟩, hput⟩ := h
  obtain ⟨vm, va, A, c, rfl, hc, hcm, z, hz1, hz2, hm, ha, hl⟩ := (nodeP_iff u a b v).1 hnd
  rcases hl with hl | ⟨g2, cur2, rfl, hg1, hg2, hh, hsz, hr⟩
  · rw [hl] at hx; simp at hx
  obtain ⟨a', b', v', ha1, hab, hb1, hn', hf', key⟩ := RowP.get u.kids (g2 + 1) b cur2 0 j x hr hx
  refine ⟨g2, c, vm, va, a', b', v', rfl, hc, ?_, hn', ⟨cur2, hh, by simpa using hf'⟩, ⟨by omega, by omega, by omega, by omega, fun hf => by have := hf.1; omega⟩, ?_⟩
  · rw [goB_app, hgo]
    simp only [Option.bind_some, goB]
    rw [kidAt_of hT (by omega) (by rw [Int.toNat_natCast]; exact hx)]
  · intro W S' y hS hk hj hy
    rw [withB_snoc q t u x y (j : Int) hgo (by rw [Int.toNat_natCast]; exact hx), Int.toNat_natCast]
    have hgg : g ≠ g2 := fun e => h5 (by subst e; exact ⟨by omega, hg2⟩)
    have hgn : ¬ From a' b' g := fun hf => h5 ⟨by have := hf.1; omega, by have := hf.2; omega⟩
    have hgs : W.heap[g]? = w.heap[g]? := hk g ⟨h3, by omega⟩ hgn hgg
    refine hput W S' (setKid u j y) hS (fun d hd hn _ => hk d hd (fun hf => hn ⟨by have := hf.1; omega, by have := hf.2; omega⟩) (fun e => hn (by subst e; exact ⟨by omega, hg2⟩))) (fun j' _ => World.cell?_of_block (a := ⟨g, j', none⟩) hgs) ?_
    obtain ⟨cur, hcur, hfive⟩ := hrow
    have hold : ∀ d, From a z d → W.heap[d]? = w.heap[d]? := fun d hd => hk d ⟨by have := hd.1; omega, by have := hd.2; omega⟩ (fun hf => by have := hf.1; have := hd.2; omega) (by have := hd.2; omega)
    have hfrm : ∀ d, From a z d → S' d := fun d hd => hS d ⟨by have := hd.1; omega, by have := hd.2; omega⟩
    refine nodeAt_five (hgs.trans hcur) hfive ⟨vm, va, _, rfl, hm.keep hfrm hold, ha.keep hfrm hold, ?_⟩
    refine ⟨_, c, by simp [setKid, Tree.kids], by simp [setKid, Tree.kids]; exact hc, hcm, .inr ⟨g2, 0, rfl, hS g2 ⟨by omega, by omega⟩, ?_⟩⟩
    exact key S' W g2 (g2 + 1) (Nat.le_refl _) (by omega) (fun d hd => hS d ⟨by have := hd.1; omega, by have := hd.2; omega⟩) (fun d hd hn hne => hk d ⟨by have := hd.1; omega, by have := hd.2; omega⟩ hn hne) hh (fun j' hj' => hj j' (by omega)) y (by simpa using hy)

/-- Five cells put in the midst of a block. -/
def put5o (w : World) (g o : Nat) (v0 v1 v2 v3 v4 : Value) : World := ((((w.setCell ⟨g, o, none⟩ v0).setCell ⟨g, o + 1, none⟩ v1).setCell ⟨g, o + 2, none⟩ v2).setCell ⟨g, o + 3, none⟩ v3).setCell ⟨g, o + 4, none⟩ v4
theorem put5o_other {w : World} {g o b : Nat} {v0 v1 v2 v3 v4 : Value} (h : b ≠ g) : (put5o w g o v0 v1 v2 v3 v4).heap[b]? = w.heap[b]? := by
  unfold put5o
  rw [Below.heap_setCell _ _ _ _ h, Below.heap_setCell _ _ _ _ h, Below.heap_setCell _ _ _ _ h, Below.heap_setCell _ _ _ _ h, Below.heap_setCell _ _ _ _ h]
theorem put5o_size {w : World} {g o : Nat} {v0 v1 v2 v3 v4 : Value} : (put5o w g o v0 v1 v2 v3 v4).heap.size = w.heap.size := by
  have e : ∀ (W : World) (o : Nat) (u : Value), (W.setCell ⟨g, o, none⟩ u).heap.size = W.heap.size := fun W o u => by simp [World.setCell]
  unfold put5o; rw [e, e, e, e, e]
theorem put5o_below {B : Nat} {a w : World} {g o : Nat} {v0 v1 v2 v3 v4 : Value} (hg : B ≤ g) (h : Below B a w) : Below B a (put5o w g o v0 v1 v2 v3 v4) :=
  have e : ∀ (W : World) (i : Nat) (u : Value), Below B a W → Below B a (W.setCell ⟨g, i, none⟩ u) := fun W i u hW => hW.trans ⟨rfl, rfl, rfl, by simp [World.setCell], fun b hb => Below.heap_setCell _ _ _ _ (show b ≠ g by omega)⟩
  e _ _ _ (e _ _ _ (e _ _ _ (e _ _ _ (e _ _ _ h))))
theorem put5o_off {w : World} {g o j : Nat} {v0 v1 v2 v3 v4 : Value} (h : ¬ (o ≤ j ∧ j < o + 5)) : (put5o w g o v0 v1 v2 v3 v4).cell? ⟨g, j, none⟩ = w.cell? ⟨g, j, none⟩ := by
  have e : ∀ (W : World) (i : Nat) (u : Value), i ≠ j → (W.setCell ⟨g, i, none⟩ u).cell? ⟨g, j, none⟩ = W.cell? ⟨g, j, none⟩ := fun W i u hi => World.cell?_setCell_other W _ _ _ (fun e => hi (congrArg Addr.off e))
  unfold put5o
  rw [e _ _ _ (by omega), e _ _ _ (by omega), e _ _ _ (by omega), e _ _ _ (by omega), e _ _ _ (by omega)]
theorem put5o_five {w : World} {g o : Nat} {v0 v1 v2 v3 v4 : Value} {cur : Array Value} {T : TypeId} (hc : w.heap[g]? = some (.cells cur T)) (hs : o + 5 ≤ cur.size) : ∃ cur', (put5o w g o v0 v1 v2 v3 v4).heap[g]? = some (.cells cur' T) ∧ Five cur' o (.agg #[v0, v1, v2, v3, v4]) := by
  have hset : ∀ (W : World) (i : Nat) (c : Array Value) (u : Value), W.heap[g]? = some (.cells c T) → (W.setCell ⟨g, i, none⟩ u).heap[g]? = some (.cells (c.setIfInBounds i u) T) := fun W i c u h => by simp [World.setCell, Array.getElem?_modify, h]
  refine ⟨_, hset _ _ _ _ (hset _ _ _ _ (hset _ _ _ _ (hset _ _ _ _ (hset _ _ _ _ hc)))), _, _, _, _, _, rfl, ?_, ?_, ?_, ?_, ?_⟩
  all_goals
    simp only [Array.getElem?_setIfInBounds, Array.size_setIfInBounds]
    simp
    try omega
theorem WithAt.done {w w5 : World} {lo ga : Nat} {t : Tree} {q : List Int} {u m : Tree} {g o a b : Nat} {v vm va vk : Value} {S' : Nat → Prop} (h : WithAt w lo ga t q u g o a b v) (hb : Below w.heap.size w w5) (hga : ga < w.heap.size)
    (hn : Node w5 (From w.heap.size w5.heap.size) (.agg #[.string m.kind, .string m.text, vm, va, vk]) m) (hS : ∀ d, From lo ga d → S' d) (hS2 : ∀ d, From w.heap.size w5.heap.size d → S' d) :
    NodeAt (put5o w5 g o (.string m.kind) (.string m.text) vm va vk) S' (withB t q m) ga 0 := by
  obtain ⟨h1, h2, h3, h4, h5⟩ := h.bounds
  obtain ⟨cur, hc, v0, v1, v2, v3, v4, rfl, f0, f1, f2, f3, f4⟩ := h.row
  have hsz : o + 5 ≤ cur.size := by have := (Array.getElem?_eq_some_iff.1 f4).1; omega
  have hc5 := (hb.block g (by omega)).trans hc
  obtain ⟨cur', hc', hf'⟩ := put5o_five (v0 := .string m.kind) (v1 := .string m.text) (v2 := vm) (v3 := va) (v4 := vk) hc5 hsz
  refine h.put _ S' m hS (fun d hd _ hne => (put5o_other hne).trans (hb.block d (by have := hd.2; omega))) (fun j hj => (put5o_off hj).trans (hb.cell (p := ⟨g, j, none⟩) (show g < w.heap.size by omega))) ?_
  exact nodeAt_five hc' hf' (hn.keep hS2 (fun d hd => put5o_other (by have := hd.1; omega)))
theorem WithAt.cells {w : World} {lo ga : Nat} {t : Tree} {q : List Int} {u : Tree} {g o a b : Nat} {v0 v1 v2 v3 v4 : Value} (h : WithAt w lo ga t q u g o a b (.agg #[v0, v1, v2, v3, v4])) :
    w.cell? ⟨g, o, none⟩ = some v0 ∧ w.cell? ⟨g, o + 1, none⟩ = some v1 ∧ w.cell? ⟨g, o + 2, none⟩ = some v2 ∧ w.cell? ⟨g, o + 3, none⟩ = some v3 ∧ w.cell? ⟨g, o + 4, none⟩ = some v4 := by
  obtain ⟨cur, hc, u0, u1, u2, u3, u4, he, f0, f1, f2, f3, f4⟩ := h.row
  injection he with he
  have h4 : v0 = u0 ∧ v1 = u1 ∧ v2 = u2 ∧ v3 = u3 ∧ v4 = u4 := by simpa using he
  obtain ⟨rfl, rfl, rfl, rfl, rfl⟩ := h4
  exact ⟨by simpa [World.cell?, hc] using f0, by simpa [World.cell?, hc] using f1, by simpa [World.cell?, hc] using f2, by simpa [World.cell?, hc] using f3, by simpa [World.cell?, hc] using f4⟩
end Go.Proofs.YtamoklceekeheaaDoor
