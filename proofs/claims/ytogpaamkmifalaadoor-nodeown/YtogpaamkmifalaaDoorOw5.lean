/-
  NodeOwn: a round as a whole.
-/
import Derived.Test.YtogpaamkmifalaaDoorOw2
import Derived.Test.YtogpaamkmifalaaDoorRightA
namespace Go.Proofs.YtogpaamkmifalaaDoor
open Go.RowKit Go.Sort

theorem ow_formed : ∀ {l : List Tree} {p : Option Tree}, rowB p l = true → ∀ x ∈ l, formedB x = true
  | [], _, _, x, hx => by cases hx
  | y :: l, p, h, x, hx => by
    simp only [rowB, Bool.and_eq_true] at h
    rcases List.mem_cons.1 hx with e | e
    · rw [e]; exact h.2.1
    · exact ow_formed h.2.2 x e
theorem ow_lenL : ∀ l : List ByteArray, l.length ≤ weighL l
  | [] => by simp
  | x :: l => by have := ow_lenL l; simp only [weighL, List.map_cons, List.sum_cons, List.length_cons] at *; omega
theorem ow_lenP : ∀ l : List (ByteArray × ByteArray), l.length ≤ weighP l
  | [] => by simp
  | x :: l => by have := ow_lenP l; simp only [weighP, List.map_cons, List.sum_cons, List.length_cons] at *; omega
theorem ow_lens (x : Tree) (h : weigh x ≤ 1000000) : x.kids.length ≤ 1000000 ∧ x.marks.length ≤ 1000000 ∧ x.attrs.length ≤ 1000000 := by
  obtain ⟨k, t, m, a, l⟩ := x
  have h1 := length_le_weigh l
  have h2 := ow_lenL m
  have h3 := ow_lenP a
  simp only [weigh, Tree.kids, Tree.marks, Tree.attrs] at *; omega
theorem ow_marks {x : Tree} (h : formedB x = true) (ha : x.attrs ≠ []) : x.marks = [] := by
  cases hk : isTxt x.kind with
  | true =>
    rw [formed_text hk] at h
    exact absurd (List.eq_nil_of_length_eq_zero (textB_parts h).2.2.2.1) ha
  | false =>
    obtain ⟨k, t, m, a, l⟩ := x
    simp only [Tree.kind, Tree.marks] at *
    rw [formedB, if_neg (by simp [hk])] at h
    simp only [headB, Bool.and_eq_true, Tree.marks] at h
    exact List.eq_nil_of_length_eq_zero (of_decide_eq_true h.1.2.2.1)
theorem pairs_nil_of {w w' : World} {S S' : Nat → Prop} {v : Value} (h : Pairs w S v []) : Pairs w' S' v [] := by
  obtain ⟨A, c, rfl, hc, hm, _⟩ := h
  exact ⟨A, c, rfl, hc, hm, .inl rfl⟩
theorem strsP_get {w : World} {S : Nat → Prop} {A : Option Addr} {n c j : Nat} {l : List ByteArray} {s : ByteArray} (h : StrsP w S (.slice A n c) l) (hy : l[j]? = some s) : ∃ b o, A = some ⟨b, o, none⟩ ∧ S b ∧ w.cell? ⟨b, o + j, none⟩ = some (.string s) ∧ w.frozen? ⟨b, o + j, none⟩ = false := by
  obtain ⟨⟨A', c', hv, hc, hm, h1⟩, h2⟩ := h
  injection hv with hA _ _
  subst hA
  rcases h1 with h1 | ⟨b, o, rfl, hs, h1⟩
  · rw [h1] at hy; simp at hy
  · refine ⟨b, o, rfl, hs, h1 j s hy, ?_⟩
    rcases h2 with h2 | ⟨b', o', n', c'', cs, T, hv, hh⟩
    · rw [h2] at hy; simp at hy
    · injection hv with hv _ _
      injection hv with hv
      injection hv with e1 _
      subst e1
      exact frozen_of_row _ _ _ _ _ hh
theorem pairsP_get {w : World} {S : Nat → Prop} {A : Option Addr} {n c j : Nat} {l : List (ByteArray × ByteArray)} {s : ByteArray × ByteArray} (h : PairsP w S (.slice A n c) l) (hy : l[j]? = some s) : ∃ b o, A = some ⟨b, o, none⟩ ∧ S b ∧ w.cell? ⟨b, o + j * 2 + 1, none⟩ = some (.string s.2) ∧ w.frozen? ⟨b, o + j * 2 + 1, none⟩ = false := by
  obtain ⟨⟨A', c', hv, hc, hm, h1⟩, h2⟩ := h
  injection hv with hA _ _
  subst hA
  rcases h1 with h1 | ⟨b, o, rfl, hs, h1⟩
  · rw [h1] at hy; simp at hy
  · refine ⟨b, o, rfl, hs, (h1 j s hy).2, ?_⟩
    rcases h2 with h2 | ⟨b', o', n', c'', cs, T, hv, hh⟩
    · rw [h2] at hy; simp at hy
    · injection hv with hv _ _
      injection hv with hv
      injection hv with e1 _
      subst e1
      exact frozen_of_row _ _ _ _ _ hh
theorem ow_five {w : World} {g o : Nat} {cur : Array Value} {T : TypeId} {v0 v1 v2 v3 v4 : Value} (h : w.heap[g]? = some (.cells cur T)) (hf : Five cur o (.agg #[v0, v1, v2, v3, v4])) :
    w.cell? ⟨g, o, none⟩ = some v0 ∧ w.cell? ⟨g, o + 1, none⟩ = some v1 ∧ w.cell? ⟨g, o + 2, none⟩ = some v2 ∧ w.cell? ⟨g, o + 3, none⟩ = some v3 ∧ w.cell? ⟨g, o + 4, none⟩ = some v4 := by
  obtain ⟨u0, u1, u2, u3, u4, he, f0, f1, f2, f3, f4⟩ := hf
  injection he with he
  have h4 : v0 = u0 ∧ v1 = u1 ∧ v2 = u2 ∧ v3 = u3 ∧ v4 = u4 := by simpa using he
  obtain ⟨rfl, rfl, rfl, rfl, rfl⟩ := h4
  simp only [World.cell?, h]
  exact ⟨by simpa using f0, by simpa using f1, by simpa using f2, by simpa using f3, by simpa using f4⟩
theorem own_weigh {x : Tree} {m2 : List ByteArray} {a2 : List (ByteArray × ByteArray)} {l2 : List Tree} (h1 : Twice (fun s => s.size + 1) x.marks m2) (h2 : LikeP x.attrs a2) (h3 : LikeL x.kids l2) : weigh (.mk YK x.text m2 a2 l2) ≤ 2 * weigh x := by
  have e1 := twice_names _ _ h1
  have e2 := twice_pairs _ _ h2.twice
  have e3 := twice_all _ _ h3.twice
  have e4 : YK.size = 1 := by decide
  obtain ⟨k, t, m, a, l⟩ := x
  simp only [Tree.text, Tree.marks, Tree.attrs, Tree.kids] at *
  simp only [weigh, e4]; omega
theorem own_round {w8 wo wq ws wr : World} {ks : List Tree} {lo g gc i lo' mid z c0 : Nat} {root cur : Array Value} {ys l2 : List Tree} {x : Tree} {vm va : Value} {A : Option Addr} {m2 : List ByteArray} {a2 : List (ByteArray × ByteArray)}
    (hcur : ks.length * 5 ≤ cur.size) (hgl : g < lo') (hm1 : lo' ≤ mid) (hm2 : mid ≤ gc) (hlo : lo ≤ g ∧ g < gc) (hx : ks[i]? = some x) (hxf : formedB x = true)
    (hrow : RowP wo (ks.drop (i + 1)) mid gc cur (i * 5 + 5)) (hyl : ys.length = i) (hys : RowAt wo (From (g + 1) lo') ys g 0) (hyk : ∀ y ∈ ys, y.kind = YK) (hyw : weighAll ys ≤ 2 * weighAll (ks.take i)) (hg0 : wo.heap[g]? = some (.cells cur 28))
    (hf : Five cur (i * 5) (.agg #[.string x.kind, .string x.text, vm, va, .slice A x.kids.length c0])) (hz : lo' ≤ z ∧ z ≤ mid) (hcc : x.kids.length ≤ c0 ∧ c0 ≤ maxLen) (hk2 : Kid2 w8 wo x lo z mid A l2 wq) (hm3 : Mark3 w8 wq x lo lo' z vm m2 ws) (ha4 : Attr4 w8 ws x lo lo' z va a2 wr)
    (hgr : wr.heap[g]? = some (.cells cur 28)) (hgc : wr.heap[gc]? = some (.cells root 28)) :
    OwnRel w8 ks lo gc g gc root (i + 1) (wr.setCell ⟨g, i * 5, none⟩ (.string YK)) := by
  obtain ⟨k1, k2, k3, k4, k5⟩ := hk2
  obtain ⟨m1, m2', m3, m4, m5, m6⟩ := hm3
  obtain ⟨a1, a2', a3, a4, a5, a6⟩ := ha4
  obtain ⟨e0, e1, e2, e3, e4⟩ := ow_five hgr hf
  have hup : ∀ b, z ≤ b → (wr.setCell ⟨g, i * 5, none⟩ (.string YK)).heap[b]? = wq.heap[b]? := fun b hb =>
    (set_blocks (show b ≠ g by omega)).trans ((a3 b (fun h => by have := h.2; omega)).trans (m3 b (fun h => by have := h.2; omega)))
  refine own_step (wr := wo) (v := .string YK) (y := .mk YK x.text m2 a2 l2) (set_belowO (by omega) a1) (by rw [setSize]; exact a2') ((set_blocks (by omega)).trans hgc) hcur hgl hm2 hm1 hx hrow hyl hys hyk hyw (heap_setCell_same _ _ _ _ _ _ hgr) hg0
    (fun b h1 h2 => (set_blocks h2).trans ((a3 b (fun h => h1 ⟨h.1, by have := h.2; omega⟩)).trans ((m3 b (fun h => h1 ⟨h.1, by have := h.2; omega⟩)).trans (k3 b (fun h => h1 ⟨by have := h.1; omega, h.2⟩))))) ?_ rfl (own_weigh m5 a5 k4)
  refine (nodeAt_iff _ g _).2 ⟨vm, va, .slice A x.kids.length c0, set_same e0, (set_other (by omega)).trans e1, (set_other (by omega)).trans e2, (set_other (by omega)).trans e3, (set_other (by omega)).trans e4, ?_, ?_, ?_⟩
  · show Strs _ _ vm m2
    by_cases hm : x.marks = []
    · have hm2' : m2 = [] := List.eq_nil_of_length_eq_zero (by rw [m5.1, hm]; rfl)
      subst hm2'
      exact strs_nil_of m6.1
    · have hat : x.attrs = [] := by
        cases hxa : x.attrs with
        | nil => rfl
        | cons p r => exact absurd (ow_marks hxf (by rw [hxa]; simp)) hm
      exact m6.1.keep (fun b hb => ⟨hb.1, by have := hb.2; omega⟩) (fun b hb => (set_blocks (by have := hb.1; omega)).trans (a4 hat b))
  · show Pairs _ _ va a2
    exact a6.1.keep (fun b hb => ⟨hb.1, by have := hb.2; omega⟩) (fun b hb => set_blocks (by have := hb.1; omega))
  · show Kids _ _ (.slice A x.kids.length c0) l2
    refine ⟨A, c0, by rw [k4.1], by rw [k4.1]; exact hcc.1, hcc.2, ?_⟩
    rcases k5 with h | ⟨g2, cur2, rfl, z1, z2, hh, hr⟩
    · exact .inl (List.eq_nil_of_length_eq_zero (by rw [k4.1, h]; rfl))
    · exact .inr ⟨g2, 0, rfl, ⟨by omega, z2⟩, rowAt_keep (fun b hb => ⟨by have := hb.1; omega, hb.2⟩) (fun b hb => hup b (by have := hb.1; omega)) l2 g2 0 (hup g2 z1) hr⟩
end Go.Proofs.YtogpaamkmifalaaDoor
