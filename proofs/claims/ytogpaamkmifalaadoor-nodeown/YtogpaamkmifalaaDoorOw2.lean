/-
  NodeOwn: what a round leaves, as memory.
-/
import Derived.Test.YtogpaamkmifalaaDoorOw1
namespace Go.Proofs.YtogpaamkmifalaaDoor
open Go.RowKit Go.Sort

def YK : ByteArray := ⟨#[121]⟩
def XK : ByteArray := ⟨#[120]⟩
def QK : ByteArray := ⟨#[63]⟩
def ZK : ByteArray := ⟨#[122]⟩
/-- The copy behind i rounds: what was written, and what is as it was. -/
def OwnRel (w8 : World) (ks : List Tree) (lo hi g gc : Nat) (root : Array Value) (i : Nat) (wr : World) : Prop :=
  Below lo w8 wr ∧ wr.heap.size = w8.heap.size ∧ wr.heap[gc]? = some (.cells root 28) ∧ ∃ cur lo' ys, wr.heap[g]? = some (.cells cur 28) ∧ ks.length * 5 ≤ cur.size ∧ g < lo' ∧ lo' ≤ hi ∧ RowP wr (ks.drop i) lo' hi cur (i * 5) ∧
    ys.length = i ∧ RowAt wr (From (g + 1) lo') ys g 0 ∧ (∀ y ∈ ys, y.kind = YK) ∧ weighAll ys ≤ 2 * weighAll (ks.take i)
/-- Alike but for kind and text. -/
def LikeT (x y : Tree) : Prop := y.marks = x.marks ∧ y.attrs = x.attrs ∧ y.kids = x.kids ∧ y.kind.size + y.text.size ≤ x.kind.size + x.text.size + 2
def LikeL (l l' : List Tree) : Prop := l'.length = l.length ∧ ∀ (i : Nat) (y : Tree), l'[i]? = some y → ∃ x : Tree, l[i]? = some x ∧ LikeT x y
theorem LikeL.refl (l : List Tree) : LikeL l l := ⟨rfl, fun i y h => ⟨y, h, rfl, rfl, rfl, by omega⟩⟩
theorem LikeL.twice {l l' : List Tree} (h : LikeL l l') : Twice weigh l l' := ⟨h.1, fun i y hy => by
  obtain ⟨x, hx, h1, h2, h3, h4⟩ := h.2 i y hy
  refine ⟨x, hx, ?_⟩
  obtain ⟨k, t, m, a, c⟩ := x
  obtain ⟨k', t', m', a', c'⟩ := y
  simp only [Tree.marks, Tree.attrs, Tree.kids, Tree.kind, Tree.text] at *
  subst h1 h2 h3
  simp only [weigh]; omega⟩
def LikeP (l l' : List (ByteArray × ByteArray)) : Prop := l'.length = l.length ∧ ∀ (i : Nat) (p : ByteArray × ByteArray), l'[i]? = some p → ∃ x : ByteArray × ByteArray, l[i]? = some x ∧ p.1 = x.1 ∧ p.2.size ≤ x.2.size + 1
theorem LikeP.refl (l : List (ByteArray × ByteArray)) : LikeP l l := ⟨rfl, fun i p h => ⟨p, h, rfl, by omega⟩⟩
theorem LikeP.twice {l l' : List (ByteArray × ByteArray)} (h : LikeP l l') : Twice (fun p => p.1.size + p.2.size + 1) l l' := ⟨h.1, fun i p hp => by
  obtain ⟨x, hx, h1, h2⟩ := h.2 i p hp
  exact ⟨x, hx, by simp only [h1]; omega⟩⟩
/-- The kids' kids, in part written. -/
def Kid2 (w8 wr : World) (x : Tree) (lo z mid : Nat) (A : Option Addr) (l2 : List Tree) (wj : World) : Prop :=
  Below lo w8 wj ∧ wj.heap.size = w8.heap.size ∧ (∀ b, ¬ From z mid b → wj.heap[b]? = wr.heap[b]?) ∧ LikeL x.kids l2 ∧
    (x.kids = [] ∨ ∃ g2 cur2, A = some ⟨g2, 0, none⟩ ∧ z ≤ g2 ∧ g2 < mid ∧ wj.heap[g2]? = some (.cells cur2 28) ∧ RowAt wj (From (g2 + 1) mid) l2 g2 0)
def Mark3 (w8 w2 : World) (x : Tree) (lo lo' z : Nat) (vm : Value) (m2 : List ByteArray) (wj : World) : Prop :=
  Below lo w8 wj ∧ wj.heap.size = w8.heap.size ∧ (∀ b, ¬ From lo' z b → wj.heap[b]? = w2.heap[b]?) ∧ (x.marks = [] → ∀ b : Nat, wj.heap[b]? = w2.heap[b]?) ∧ Twice (fun s => s.size + 1) x.marks m2 ∧ StrsP wj (From lo' z) vm m2
def Attr4 (w8 w3 : World) (x : Tree) (lo lo' z : Nat) (va : Value) (a2 : List (ByteArray × ByteArray)) (wj : World) : Prop :=
  Below lo w8 wj ∧ wj.heap.size = w8.heap.size ∧ (∀ b, ¬ From lo' z b → wj.heap[b]? = w3.heap[b]?) ∧ (x.attrs = [] → ∀ b : Nat, wj.heap[b]? = w3.heap[b]?) ∧ LikeP x.attrs a2 ∧ PairsP wj (From lo' z) va a2

theorem set_belowO {B : Nat} {a w : World} {g o : Nat} {u : Value} (hg : B ≤ g) (h : Below B a w) : Below B a (w.setCell ⟨g, o, none⟩ u) :=
  h.trans ⟨rfl, rfl, rfl, by simp [World.setCell], fun b hb => Below.heap_setCell _ _ _ _ (show b ≠ g by omega)⟩
theorem setSize {w : World} {g o : Nat} {v : Value} : (w.setCell ⟨g, o, none⟩ v).heap.size = w.heap.size := by simp [World.setCell]
theorem strs_nil_of {w w' : World} {S S' : Nat → Prop} {v : Value} (h : Strs w S v []) : Strs w' S' v [] := by
  obtain ⟨A, c, rfl, hc, hm, _⟩ := h
  exact ⟨A, c, rfl, hc, hm, .inl rfl⟩
/-- One text, and one kind, written. -/
theorem kid2_step {w8 wr wj : World} {x y : Tree} {lo z mid g2 j : Nat} {l2 : List Tree} {cur2 : Array Value} (hb : Below lo w8 wj) (hsz : wj.heap.size = w8.heap.size) (hk : ∀ b, ¬ From z mid b → wj.heap[b]? = wr.heap[b]?) (ht : LikeL x.kids l2)
    (hz : z ≤ g2) (hm : g2 < mid) (hlo : lo ≤ z) (hg : wj.heap[g2]? = some (.cells cur2 28)) (hr : RowAt wj (From (g2 + 1) mid) l2 g2 0) (hy : l2[j]? = some y) :
    Kid2 w8 wr x lo z mid (some ⟨g2, 0, none⟩) ((l2.set j (textT y QK)).set j (kindT (textT y QK) XK)) ((wj.setCell ⟨g2, j * 5 + 1, none⟩ (.string QK)).setCell ⟨g2, j * 5, none⟩ (.string XK)) := by
  have hjl := (List.getElem?_eq_some_iff.1 hy).1
  have hS : ∀ b, From (g2 + 1) mid b → b ≠ g2 := fun b hb => by have := hb.1; omega
  have r1 := row_text QK hr hy hS
  have hy2 : (l2.set j (textT y QK))[j]? = some (textT y QK) := by rw [List.getElem?_set_self hjl]
  have r2 := row_kind XK r1 hy2 hS
  rw [Nat.zero_add] at r1 r2
  obtain ⟨x', hx', hw⟩ := ht.2 j y hy
  have hq : QK.size = 1 := by decide
  have hxk : XK.size = 1 := by decide
  refine ⟨set_belowO (by omega) (set_belowO (by omega) hb), by rw [setSize, setSize]; exact hsz, fun b hb' => ?_, ?_, .inr ⟨g2, _, rfl, hz, hm, heap_setCell_same _ _ _ _ _ _ (heap_setCell_same _ _ _ _ _ _ hg), r2⟩⟩
  · have hne : b ≠ g2 := fun e => hb' ⟨by omega, by omega⟩
    rw [set_blocks hne, set_blocks hne]; exact hk b hb'
  · refine ⟨by rw [List.length_set, List.length_set]; exact ht.1, fun i t hi => ?_⟩
    by_cases hij : j = i
    · subst hij
      rw [List.getElem?_set_self (by rw [List.length_set]; exact hjl)] at hi
      rw [← Option.some.inj hi]
      obtain ⟨h1, h2, h3, h4⟩ := hw
      exact ⟨x', hx', h1, h2, h3, by simp only [kindT, textT, Tree.kind, Tree.text, hq, hxk]; omega⟩
    · rw [List.getElem?_set_ne hij, List.getElem?_set_ne hij] at hi
      exact ht.2 i t hi
theorem mark3_step {w8 w2 wj : World} {x : Tree} {lo lo' z bm om nm cm j : Nat} {m2 : List ByteArray} {s0 : ByteArray} (h : Mark3 w8 w2 x lo lo' z (.slice (some ⟨bm, om, none⟩) nm cm) m2 wj) (hlo : lo ≤ lo') (hs : m2[j]? = some s0) (hne : x.marks ≠ []) (hbm : From lo' z bm) :
    Mark3 w8 w2 x lo lo' z (.slice (some ⟨bm, om, none⟩) nm cm) (m2.set j ZK) (wj.setCell ⟨bm, om + j, none⟩ (.string ZK)) := by
  obtain ⟨h1, h2, h3, h4, h5, h6, h7⟩ := h
  obtain ⟨x', hx', _⟩ := h5.2 j s0 hs
  have hz : ZK.size = 1 := by decide
  refine ⟨set_belowO (by have := hbm.1; omega) h1, by rw [setSize]; exact h2, fun b hb => (set_blocks (fun e => hb (by rw [e]; exact hbm))).trans (h3 b hb), fun e => absurd e hne, h5.set hx' (by simp only [hz]; omega), strs_set ZK h6 hs, ?_⟩
  rcases h7 with h7 | ⟨b, o, n, c, cs, T, hv, hh⟩
  · rw [h7] at hs; simp at hs
  · injection hv with hv _ _
    injection hv with hv
    injection hv with e1 e2
    subst e1 e2
    exact .inr ⟨bm, om, nm, cm, _, T, rfl, heap_setCell_same _ _ _ _ _ _ hh⟩
theorem attr4_step {w8 w3 wj : World} {x : Tree} {lo lo' z bm om nm cm j : Nat} {a2 : List (ByteArray × ByteArray)} {s0 : ByteArray × ByteArray} (h : Attr4 w8 w3 x lo lo' z (.slice (some ⟨bm, om, none⟩) nm cm) a2 wj) (hlo : lo ≤ lo') (hs : a2[j]? = some s0) (hne : x.attrs ≠ []) (hbm : From lo' z bm) : Attr4 w8 w3 x lo lo' z (.slice (some ⟨bm, om, none⟩) nm cm) (a2.set j (s0.1, QK)) (wj.setCell ⟨bm, om + j * 2 + 1, none⟩ (.string QK)) := by
  obtain ⟨h1, h2, h3, h4, h5, h6, h7⟩ := h
  obtain ⟨x', hx', hn, _⟩ := h5.2 j s0 hs
  have hz : QK.size = 1 := by decide
  refine ⟨set_belowO (by have := hbm.1; omega) h1, by rw [setSize]; exact h2, fun b hb => (set_blocks (fun e => hb (by rw [e]; exact hbm))).trans (h3 b hb), fun e => absurd e hne, ⟨by rw [List.length_set]; exact h5.1, fun i p hp => ?_⟩, pairs_set QK h6 hs, ?_⟩
  · by_cases hij : j = i
    · subst hij
      rw [List.getElem?_set_self (List.getElem?_eq_some_iff.1 hs).1] at hp
      rw [← Option.some.inj hp]
      exact ⟨x', hx', hn, by simp only [hz]; omega⟩
    · rw [List.getElem?_set_ne hij] at hp
      exact h5.2 i p hp
  rcases h7 with h7 | ⟨b, o, n, c, cs, T, hv, hh⟩
  · rw [h7] at hs; simp at hs
  · injection hv with hv _ _
    injection hv with hv
    injection hv with e1 e2
    subst e1 e2
    exact .inr ⟨bm, om, nm, cm, _, T, rfl, heap_setCell_same _ _ _ _ _ _ hh⟩
/-- A round more. -/
theorem own_step {w8 wr W : World} {ks : List Tree} {lo hi g gc i lo' mid : Nat} {root cur : Array Value} {ys : List Tree} {x y : Tree} {v : Value} (hb : Below lo w8 W) (hsz : W.heap.size = w8.heap.size) (hgc : W.heap[gc]? = some (.cells root 28)) (hcur : ks.length * 5 ≤ cur.size) (hgl : g < lo') (hm2 : mid ≤ hi) (hm1 : lo' ≤ mid)
    (hx : ks[i]? = some x) (hrow : RowP wr (ks.drop (i + 1)) mid hi cur (i * 5 + 5)) (hyl : ys.length = i) (hys : RowAt wr (From (g + 1) lo') ys g 0) (hyk : ∀ y ∈ ys, y.kind = YK) (hyw : weighAll ys ≤ 2 * weighAll (ks.take i))
    (hg : W.heap[g]? = some (.cells (cur.setIfInBounds (i * 5) v) 28)) (hg0 : wr.heap[g]? = some (.cells cur 28)) (hblk : ∀ b, ¬ From lo' mid b → b ≠ g → W.heap[b]? = wr.heap[b]?) (hy : NodeAt W (From lo' mid) y g (i * 5)) (hk : y.kind = YK) (hw : weigh y ≤ 2 * weigh x) :
    OwnRel w8 ks lo hi g gc root (i + 1) W := by
  have htk : ks.take (i + 1) = ks.take i ++ [x] := by rw [List.take_add_one, hx]; rfl
  have hcell : ∀ j, j ≠ i * 5 → W.cell? ⟨g, j, none⟩ = wr.cell? ⟨g, j, none⟩ := fun j hj => by
    simp only [World.cell?, hg, hg0]
    simp only [Array.getElem?_setIfInBounds_ne (show i * 5 ≠ j by omega)]
  refine ⟨hb, hsz, hgc, _, mid, ys ++ [y], hg, by rw [Array.size_setIfInBounds]; exact hcur, by omega, hm2, ?_, by rw [List.length_append, hyl]; rfl, ?_, ?_, ?_⟩
  · rw [show (i + 1) * 5 = i * 5 + 5 by omega]
    exact RowP.cur _ _ _ cur _ _ (fun j h1 _ => Array.getElem?_setIfInBounds_ne (by omega)) (RowP.keep _ _ _ _ _ _ (Nat.le_refl _) (fun b hb => hblk b (fun h => by have := h.2; have := hb.1; omega) (by have := hb.1; omega)) hrow)
  · refine rowAt_of _ g 0 fun k t hkt => ?_
    rw [Nat.zero_add]
    by_cases hki : k < i
    · rw [List.getElem?_append_left (by omega)] at hkt
      have h1 := rowAt_get ys g 0 hys k t hkt
      rw [Nat.zero_add] at h1
      exact nodeAt_cellsKeep (fun b hb => ⟨hb.1, by have := hb.2; omega⟩) (fun b hb => hblk b (fun h => by have := h.1; have := hb.2; omega) (by have := hb.1; omega)) (fun j h1 h2 => hcell j (by omega)) h1
    · rw [List.getElem?_append_right (by omega), hyl] at hkt
      have hk0 : k = i := by
        rcases Nat.lt_or_ge (k - i) 1 with h | h
        · omega
        · rw [List.getElem?_eq_none (by simpa using h)] at hkt; cases hkt
      subst hk0
      simp at hkt; subst hkt
      exact nodeAt_cellsKeep (fun b hb => ⟨by have := hb.1; omega, hb.2⟩) (fun _ _ => rfl) (fun _ _ _ => rfl) hy
  · intro t ht
    rcases List.mem_append.1 ht with e | e
    · exact hyk t e
    · rw [List.mem_singleton.1 e]; exact hk
  · rw [htk, weighAll_append, weighAll_append]; simp only [weighAll]; omega
/-- What is the case when a round begins. -/
theorem own_begin {w8 wr : World} {ks : List Tree} {lo hi g gc i : Nat} {root : Array Value} {x : Tree} (h : OwnRel w8 ks lo hi g gc root i wr) (hx : ks[i]? = some x) :
    ∃ cur lo' ys mid vm va A c z, Below lo w8 wr ∧ wr.heap.size = w8.heap.size ∧ wr.heap[gc]? = some (.cells root 28) ∧ wr.heap[g]? = some (.cells cur 28) ∧ ks.length * 5 ≤ cur.size ∧ g < lo' ∧ lo' ≤ mid ∧ mid ≤ hi ∧ RowP wr (ks.drop (i + 1)) mid hi cur (i * 5 + 5) ∧ ys.length = i ∧ RowAt wr (From (g + 1) lo') ys g 0 ∧ (∀ y ∈ ys, y.kind = YK) ∧ weighAll ys ≤ 2 * weighAll (ks.take i) ∧
      Five cur (i * 5) (.agg #[.string x.kind, .string x.text, vm, va, .slice A x.kids.length c]) ∧ lo' ≤ z ∧ z ≤ mid ∧ StrsP wr (From lo' z) vm x.marks ∧ PairsP wr (From lo' z) va x.attrs ∧ x.kids.length ≤ c ∧ c ≤ maxLen ∧
      (x.kids = [] ∨ ∃ g2 cur2, A = some ⟨g2, 0, none⟩ ∧ z ≤ g2 ∧ g2 < mid ∧ wr.heap[g2]? = some (.cells cur2 28) ∧ RowAt wr (From (g2 + 1) mid) x.kids g2 0) := by
  obtain ⟨h1, h2, h3, cur, lo', ys, h4, h5, h6, h7, h8, h9, h10, h11, h12⟩ := h
  have hd : ks.drop i = x :: ks.drop (i + 1) := by
    obtain ⟨hl, he⟩ := List.getElem?_eq_some_iff.1 hx
    rw [← he, List.getElem_cons_drop]
  rw [hd, RowP] at h8
  obtain ⟨mid, v, m1, m2, hn, hf, hr⟩ := h8
  obtain ⟨vm, va, A, c, rfl, hc, hcm, z, z1, z2, hs, hp, hk⟩ := (nodeP_iff x lo' mid v).1 hn
  refine ⟨cur, lo', ys, mid, vm, va, A, c, z, h1, h2, h3, h4, h5, h6, m1, m2, hr, h9, h10, h11, h12, hf, z1, z2, hs, hp, hc, hcm, ?_⟩
  rcases hk with hk | ⟨g2, cur2, rfl, g1, g2', hh, hsz, hrp⟩
  · exact .inl hk
  · exact .inr ⟨g2, cur2, rfl, g1, g2', hh, RowP.row _ _ _ _ cur2 0 g2 (Nat.le_refl _) hh hrp⟩
end Go.Proofs.YtogpaamkmifalaaDoor
