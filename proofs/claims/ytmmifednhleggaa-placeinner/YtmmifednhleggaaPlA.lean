/-
  Positions as plain data: paths, spots, and where they lead (no program is named here).
-/
import Derived.Test.YtmmifednhleggaaPure
namespace Go.Proofs.Ytmmifednhleggaa
open Go.RowKit

/-- A slice of whole numbers. -/
def Ints (w : World) (S : Nat → Prop) (v : Value) (l : List Int) : Prop :=
  ∃ A c, v = .slice A l.length c ∧ l.length ≤ c ∧ c ≤ maxLen ∧ (l = [] ∨ ∃ b o, A = some ⟨b, o, none⟩ ∧ S b ∧ ∀ i s, l[i]? = some s → w.cell? ⟨b, o + i, none⟩ = some (.int .i64 s))
theorem Ints.keep {w w' : World} {S S' : Nat → Prop} {v : Value} {l : List Int} (h : Ints w S v l) (hS : ∀ b, S b → S' b) (hk : ∀ b, S b → w'.heap[b]? = w.heap[b]?) : Ints w' S' v l := by
  obtain ⟨A, c, rfl, hc, hx, h⟩ := h
  refine ⟨A, c, rfl, hc, hx, ?_⟩
  rcases h with h | ⟨b, o, rfl, hb, h⟩
  · exact .inl h
  · exact .inr ⟨b, o, rfl, hS b hb, fun i s hi => (World.cell?_of_block (a := ⟨b, o + i, none⟩) (hk b hb)).trans (h i s hi)⟩
theorem Ints.form {w : World} {S : Nat → Prop} {v : Value} {l : List Int} (h : Ints w S v l) : ∃ A c, v = .slice A l.length c ∧ l.length ≤ c := by
  obtain ⟨A, c, rfl, hc, _⟩ := h; exact ⟨A, c, rfl, hc⟩
theorem Ints.get {w : World} {S : Nat → Prop} {A : Option Addr} {n c : Nat} {l : List Int} (h : Ints w S (.slice A n c) l) {k : Nat} {x : Int} (hk : l[k]? = some x) :
    ∃ b o, A = some ⟨b, o, none⟩ ∧ S b ∧ w.cell? ⟨b, o + k, none⟩ = some (.int .i64 x) := by
  obtain ⟨A', c', hv, _, _, h⟩ := h
  injection hv with hA _ _
  subst hA
  rcases h with h | ⟨b, o, rfl, hb, h⟩
  · subst h; simp at hk
  · exact ⟨b, o, rfl, hb, h k x hk⟩
theorem Ints.len {w : World} {S : Nat → Prop} {A : Option Addr} {n c : Nat} {l : List Int} (h : Ints w S (.slice A n c) l) : n = l.length ∧ l.length ≤ c ∧ c ≤ maxLen := by
  obtain ⟨A', c', hv, h1, h2, _⟩ := h
  injection hv with _ h3 h4
  subst h4
  exact ⟨h3, h1, h2⟩

/-- A spot: path, index, offset. -/
abbrev Spt := List Int × Nat × Nat
def kidAt (t : Tree) (i : Int) : Option Tree := if isTxt t.kind = true then none else if i < 0 then none else t.kids[i.toNat]?
def goB : Tree → List Int → Option Tree
  | t, [] => some t
  | t, i :: p => match kidAt t i with
    | none => none
    | some u => goB u p
def plainO (t : Tree) : Option Tree := if isTxt t.kind = true then none else some t
def followB (t : Tree) (p : List Int) : Option Tree := (goB t p).bind plainO
def startB : Tree → List Int → Nat
  | _, [] => 0
  | t, i :: p => match t.kids[i.toNat]? with
    | none => 0
    | some u => totalB (t.kids.take i.toNat) + 1 + startB u p
def thereAt (x : Option Tree) (o : Int) : Bool := match x with
  | some x => if isTxt x.kind = true then decide (0 ≤ o) && decide (o < (sizeB x : Int)) else o == 0
  | none => o == 0
def thereB (K : List Tree) (j o : Int) : Bool := !(decide (j < 0) || decide ((K.length : Int) < j)) && thereAt K[j.toNat]? o
def posB (t : Tree) (p : List Int) (j o : Int) : Option Int :=
  (followB t p).bind fun u => if thereB u.kids j o = true then some ((startB t p : Int) + (totalB (u.kids.take j.toNat) : Int) + o) else none

def deeper (i : Nat) (s : Spt) : Spt := ((i : Int) :: s.1, s.2)
mutual
def spotsT : Nat → Tree → List Spt
  | i, .mk k t _ _ l => if isTxt k = true then (List.range (Lib.runeCount t)).map (fun j => ([], i, j)) else ([], i, 0) :: (spotsB 0 l).map (deeper i)
def spotsB : Nat → List Tree → List Spt
  | i, [] => [([], i, 0)]
  | i, x :: l => spotsT i x ++ spotsB (i + 1) l
end
def resolveB (t : Tree) (pos : Int) : Option Spt := if isTxt t.kind = true then none else if pos < 0 then none else (spotsB 0 t.kids)[pos.toNat]?

theorem sizeB_text {x : Tree} (h : isTxt x.kind = true) : sizeB x = Lib.runeCount x.text := by
  obtain ⟨k, t, m, a, l⟩ := x; simp only [Tree.kind] at h; simp [sizeB, h, Tree.text]
theorem sizeB_node {x : Tree} (h : isTxt x.kind = false) : sizeB x = 2 + totalB x.kids := by
  obtain ⟨k, t, m, a, l⟩ := x; simp only [Tree.kind] at h; simp [sizeB, h, Tree.kids]
theorem spotsT_text {x : Tree} (i : Nat) (h : isTxt x.kind = true) : spotsT i x = (List.range (sizeB x)).map (fun j => ([], i, j)) := by
  rw [sizeB_text h]
  obtain ⟨k, t, m, a, l⟩ := x; simp only [Tree.kind] at h; simp [spotsT, h, Tree.text]
theorem spotsT_node {x : Tree} (i : Nat) (h : isTxt x.kind = false) : spotsT i x = ([], i, 0) :: (spotsB 0 x.kids).map (deeper i) := by
  obtain ⟨k, t, m, a, l⟩ := x; simp only [Tree.kind] at h; simp [spotsT, h, Tree.kids]
mutual
theorem spotsT_len : ∀ (i : Nat) (x : Tree), (spotsT i x).length = sizeB x
  | i, .mk k t m a l => by
    rw [spotsT, sizeB]
    split
    · simp
    · simp only [List.length_cons, List.length_map, spotsB_len 0 l]; omega
theorem spotsB_len : ∀ (i : Nat) (l : List Tree), (spotsB i l).length = totalB l + 1
  | i, [] => rfl
  | i, x :: l => by rw [spotsB, totalB, List.length_append, spotsT_len i x, spotsB_len (i + 1) l]; omega
end

/-! ### paths -/
theorem goB_app : ∀ (p q : List Int) (t : Tree), goB t (p ++ q) = (goB t p).bind fun u => goB u q
  | [], q, t => by simp [goB]
  | i :: p, q, t => by
    simp only [List.cons_append, goB]
    cases kidAt t i with
    | none => rfl
    | some u => exact goB_app p q u
theorem kidAt_some {t u : Tree} {i : Int} (h : kidAt t i = some u) : isTxt t.kind = false ∧ 0 ≤ i ∧ t.kids[i.toNat]? = some u := by
  unfold kidAt at h
  cases ht : isTxt t.kind with
  | true => simp [ht] at h
  | false =>
    simp only [ht, Bool.false_eq_true, if_false] at h
    by_cases hi : i < 0
    · simp [hi] at h
    · simp only [hi, if_false] at h; exact ⟨rfl, by omega, h⟩
theorem kidAt_of {t u : Tree} {i : Int} (ht : isTxt t.kind = false) (hi : 0 ≤ i) (h : t.kids[i.toNat]? = some u) : kidAt t i = some u := by
  unfold kidAt
  simp only [ht, Bool.false_eq_true, if_false]
  rw [if_neg (by omega)]; exact h
theorem followB_some {t u : Tree} {p : List Int} (h : followB t p = some u) : goB t p = some u ∧ isTxt u.kind = false := by
  unfold followB at h
  cases hg : goB t p with
  | none => rw [hg] at h; cases h
  | some v =>
    rw [hg] at h
    simp only [Option.bind_some, plainO] at h
    cases hv : isTxt v.kind with
    | true => simp [hv] at h
    | false => simp [hv] at h; subst h; exact ⟨rfl, hv⟩
theorem followB_of {t u : Tree} {p : List Int} (h : goB t p = some u) (hu : isTxt u.kind = false) : followB t p = some u := by
  unfold followB; rw [h]; simp [plainO, hu]
theorem weigh_kidAt {t u : Tree} {i : Nat} (h : t.kids[i]? = some u) : weigh u + weighAll (t.kids.take i) + 2 ≤ weigh t := by
  have h1 := kids_weigh t
  have h2 : t.kids = t.kids.take i ++ u :: t.kids.drop (i + 1) := by
    obtain ⟨hl, he⟩ := List.getElem?_eq_some_iff.1 h
    rw [← he, List.getElem_cons_drop, List.take_append_drop]
  rw [h2, weighAll_append] at h1
  simp only [weighAll] at h1
  omega
theorem goB_weigh : ∀ (p : List Int) (t u : Tree), goB t p = some u → weigh u ≤ weigh t
  | [], t, u, h => by simp only [goB, Option.some.injEq] at h; subst h; exact Nat.le_refl _
  | i :: p, t, u, h => by
    rw [goB] at h
    cases hk : kidAt t i with
    | none => rw [hk] at h; cases h
    | some v =>
      rw [hk] at h
      have h1 := goB_weigh p v u h
      have h2 := weigh_kidAt (kidAt_some hk).2.2
      omega
theorem startB_weigh : ∀ (p : List Int) (t : Tree), startB t p ≤ weigh t
  | [], t => by simp [startB]
  | i :: p, t => by
    rw [startB]
    cases hk : t.kids[i.toNat]? with
    | none => simp
    | some v =>
      have h1 := startB_weigh p v
      have h2 := weigh_kidAt hk
      have h3 := total_le_weigh (t.kids.take i.toNat)
      simp only
      omega
theorem startB_app : ∀ (p : List Int) (t u : Tree) (q : List Int), goB t p = some u → startB t (p ++ q) = startB t p + startB u q
  | [], t, u, q, h => by simp only [goB, Option.some.injEq] at h; subst h; simp [startB]
  | i :: p, t, u, q, h => by
    rw [goB] at h
    cases hk : kidAt t i with
    | none => rw [hk] at h; cases h
    | some v =>
      rw [hk] at h
      have h1 := startB_app p v u q h
      simp only [List.cons_append, startB, (kidAt_some hk).2.2]
      omega

/-! ### each spot leads somewhere -/
/-- What the k-th spot of a node is: where it leads, and that its position is k. -/
structure SpotOk (t : Tree) (k : Nat) (s : Spt) (u : Tree) : Prop where
  go : goB t s.1 = some u
  plain : isTxt u.kind = false
  le : s.2.1 ≤ u.kids.length
  there : thereAt u.kids[s.2.1]? s.2.2 = true
  pos : startB t s.1 + totalB (u.kids.take s.2.1) + s.2.2 = k
  fit : totalB (u.kids.take s.2.1) + s.2.2 ≤ totalB u.kids
theorem take_at {α : Type} {l : List α} {i : Nat} {x : α} (h : l[i]? = some x) : l.take (i + 1) = l.take i ++ [x] := by
  rw [List.take_add_one, h]; rfl
theorem total_take_le (l : List Tree) (i : Nat) : totalB (l.take i) ≤ totalB l := by
  have := totalB_append (l.take i) (l.drop i); rw [List.take_append_drop] at this; omega
theorem spots_from {t : Tree} (ht : isTxt t.kind = false) (ih : ∀ x, x ∈ t.kids → isTxt x.kind = false → ∀ k s, (spotsB 0 x.kids)[k]? = some s → ∃ u, SpotOk x k s u) :
    ∀ (l : List Tree) (i k : Nat) (s : Spt), t.kids.drop i = l → i ≤ t.kids.length → (spotsB i l)[k]? = some s → ∃ u, SpotOk t (totalB (t.kids.take i) + k) s u
  | [], i, k, s, hd, hi, h => by
    have hl : t.kids.length ≤ i := by rw [List.drop_eq_nil_iff] at hd; exact hd
    have he : i = t.kids.length := by omega
    subst he
    rw [spotsB] at h
    obtain ⟨rfl, rfl⟩ : k = 0 ∧ s = ([], t.kids.length, 0) := by
      cases k with
      | zero => simp at h; exact ⟨rfl, h.symm⟩
      | succ k => simp at h
    refine ⟨t, rfl, ht, Nat.le_refl _, ?_, by simp [startB], by simp⟩
    simp [thereAt]
  | x :: l, i, k, s, hd, hi, h => by
    have hx : t.kids[i]? = some x := by rw [← List.head?_drop, hd]; rfl
    have hil : i < t.kids.length := (List.getElem?_eq_some_iff.1 hx).1
    have hd' : t.kids.drop (i + 1) = l := by rw [← List.tail_drop, hd]; rfl
    have htk : totalB (t.kids.take (i + 1)) = totalB (t.kids.take i) + sizeB x := by rw [take_at hx, totalB_append]; simp [totalB]
    have htl := total_take_le t.kids (i + 1)
    rw [spotsB] at h
    by_cases hk : k < sizeB x
    · rw [List.getElem?_append_left (by rw [spotsT_len]; exact hk)] at h
      cases hT : isTxt x.kind with
      | true =>
        rw [spotsT_text i hT, List.getElem?_map, List.getElem?_range hk] at h
        simp only [Option.map_some, Option.some.injEq] at h
        subst h
        refine ⟨t, rfl, ht, by simpa using Nat.le_of_lt hil, ?_, by simp [startB], ?_⟩
        · rw [hx]; simp only [thereAt, hT, if_true]; simp; omega
        · simp only; omega
      | false =>
        rw [spotsT_node i hT] at h
        cases k with
        | zero =>
          simp at h
          subst h
          refine ⟨t, rfl, ht, by simpa using Nat.le_of_lt hil, ?_, by simp [startB], ?_⟩
          · rw [hx]; simp [thereAt, hT]
          · simp only; omega
        | succ k =>
          simp only [List.getElem?_cons_succ, List.getElem?_map] at h
          obtain ⟨s', hs', rfl⟩ := Option.map_eq_some_iff.1 h
          obtain ⟨u, hu⟩ := ih x (List.mem_of_getElem? hx) hT k s' hs'
          have hka : kidAt t (i : Int) = some x := kidAt_of ht (by omega) (by simpa using hx)
          refine ⟨u, by simp only [deeper, goB, hka]; exact hu.go, hu.plain, hu.le, hu.there, ?_, hu.fit⟩
          have := hu.pos
          simp only [deeper, startB, Int.toNat_natCast, hx]
          omega
    · rw [List.getElem?_append_right (by rw [spotsT_len]; omega), spotsT_len] at h
      obtain ⟨u, hu⟩ := spots_from ht ih l (i + 1) (k - sizeB x) s hd' (by omega) h
      refine ⟨u, hu.go, hu.plain, hu.le, hu.there, ?_, hu.fit⟩
      have := hu.pos
      omega
theorem spots_ok : ∀ (t : Tree), isTxt t.kind = false → ∀ (k : Nat) (s : Spt), (spotsB 0 t.kids)[k]? = some s → ∃ u, SpotOk t k s u := by
  intro t
  induction t using Tree.induct_one with
  | h kd tx m a l ih =>
    intro ht k s h
    have := spots_from ht (fun x hx => ih x hx) (Tree.mk kd tx m a l).kids 0 k s (by simp) (by simp) h
    simpa [totalB] using this
theorem SpotOk.follow {t u : Tree} {k : Nat} {s : Spt} (h : SpotOk t k s u) : followB t s.1 = some u := followB_of h.go h.plain
theorem SpotOk.is {t u : Tree} {k : Nat} {s : Spt} (h : SpotOk t k s u) : thereB u.kids s.2.1 s.2.2 = true := by
  have h1 := h.le
  have h2 := h.there
  unfold thereB
  rw [Int.toNat_natCast, h2, decide_eq_false (by omega), decide_eq_false (by omega)]; rfl
theorem SpotOk.back {t u : Tree} {k : Nat} {s : Spt} (h : SpotOk t k s u) : posB t s.1 s.2.1 s.2.2 = some (k : Int) := by
  unfold posB
  rw [h.follow]
  simp only [Option.bind_some, h.is, if_true, Int.toNat_natCast]
  have := h.pos
  congr 1
  omega

/-! ### the walk over all kids, down and up again -/
/-- A node that is open: which kid, of which row, and the slice that holds that row. -/
structure Frm where
  i : Nat
  K : List Tree
  v : Value
def pathOf (st : List Frm) : List Int := st.reverse.map fun f => (f.i : Int)
def pre (p : List Int) (s : Spt) : Spt := (p ++ s.1, s.2)
def restOf : List Frm → List Spt
  | [] => []
  | f :: st => (spotsB (f.i + 1) (f.K.drop (f.i + 1))).map (pre (pathOf st)) ++ restOf st
def remOf (st : List Frm) (K : List Tree) (i : Nat) : List Spt := (spotsB i (K.drop i)).map (pre (pathOf st)) ++ restOf st
theorem pathOf_cons (f : Frm) (st : List Frm) : pathOf (f :: st) = pathOf st ++ [(f.i : Int)] := by simp [pathOf]
theorem pathOf_len (st : List Frm) : (pathOf st).length = st.length := by simp [pathOf]
theorem drop_at' {α : Type} {l : List α} {i : Nat} {x : α} (h : l[i]? = some x) : l.drop i = x :: l.drop (i + 1) := by
  obtain ⟨hl, he⟩ := List.getElem?_eq_some_iff.1 h
  rw [← he, List.getElem_cons_drop]
theorem rem_text {st : List Frm} {K : List Tree} {i pos : Nat} {x : Tree} (h : K[i]? = some x) (ht : isTxt x.kind = true) (hp : pos < sizeB x) : (remOf st K i)[pos]? = some (pathOf st, i, pos) := by
  unfold remOf
  rw [drop_at' h, spotsB, List.map_append, List.append_assoc, List.getElem?_append_left (by rw [List.length_map, spotsT_len]; exact hp), spotsT_text i ht, List.getElem?_map, List.getElem?_map, List.getElem?_range hp]
  simp [pre]
theorem rem_skip {st : List Frm} {K : List Tree} {i pos : Nat} {x : Tree} (h : K[i]? = some x) (hp : sizeB x ≤ pos) : (remOf st K i)[pos]? = (remOf st K (i + 1))[pos - sizeB x]? := by
  unfold remOf
  rw [drop_at' h, spotsB, List.map_append, List.append_assoc, List.getElem?_append_right (by rw [List.length_map, spotsT_len]; exact hp), List.length_map, spotsT_len]
theorem rem_node {st : List Frm} {K : List Tree} {i : Nat} {x : Tree} (h : K[i]? = some x) (ht : isTxt x.kind = false) : (remOf st K i)[0]? = some (pathOf st, i, 0) := by
  unfold remOf
  rw [drop_at' h, spotsB, spotsT_node i ht]
  simp [pre]
theorem rem_push {st : List Frm} {K : List Tree} {i pos : Nat} {x : Tree} (v : Value) (h : K[i]? = some x) (ht : isTxt x.kind = false) : (remOf st K i)[pos + 1]? = (remOf (⟨i, K, v⟩ :: st) x.kids 0)[pos]? := by
  unfold remOf
  rw [drop_at' h, spotsB, spotsT_node i ht, restOf, pathOf_cons]
  simp only [List.cons_append, List.map_cons, List.getElem?_cons_succ, List.map_append, List.append_assoc, List.map_map, List.drop_zero]
  congr 3
  funext s
  simp [pre, deeper]
theorem rem_end (st : List Frm) (K : List Tree) : (remOf st K K.length)[0]? = some (pathOf st, K.length, 0) := by
  unfold remOf
  rw [List.drop_length, spotsB]; simp [pre]
theorem rem_last (K : List Tree) (pos : Nat) : (remOf [] K K.length)[pos + 1]? = none := by
  unfold remOf
  rw [List.drop_length, spotsB]; simp [restOf]
theorem rem_pop (f : Frm) (st : List Frm) (K : List Tree) (pos : Nat) : (remOf (f :: st) K K.length)[pos + 1]? = (remOf st f.K (f.i + 1))[pos]? := by
  unfold remOf
  rw [List.drop_length, spotsB, restOf]; simp
theorem rem_all (K : List Tree) : remOf [] K 0 = spotsB 0 K := by
  unfold remOf
  have : pre (pathOf []) = id := by funext s; simp [pre, pathOf]
  rw [this]; simp [restOf]
end Go.Proofs.Ytmmifednhleggaa
