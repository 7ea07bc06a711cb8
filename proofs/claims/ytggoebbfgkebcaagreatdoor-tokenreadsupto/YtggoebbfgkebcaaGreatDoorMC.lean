/-
  A text cut behind some of its code points: plain facts (no program is named here).
  Positions as plain data: paths, spots, and where they lead (no program is named here).
  Nodes split in two, as plain data (no program is named here).
  The kind of texts; slices of nothing.
  What the statements' own made and doc answer: nodes, by raw numbers.
  Nodes parted into code points, and joined again; parts joined and joined again: plain facts.
  Rows that are split, and joined again: plain facts (no program is named here).
  The tokens of rows that are joined (no program is named here but for the type of tokens).
  Rows that are right, of the same tokens, are the same (no program is named here but for the type of tokens).
-/
import Derived.Test.YtggoebbfgkebcaaGreatDoorMB
import Derived.Test.YtggoebbfgkebcaaGreatDoorPure
import Derived.Test.YtggoebbfgkebcaaGreatDoorTree
import Derived.Test.YtggoebbfgkebcaaGreatDoorMA
import Derived.Deep.CutBlock
namespace Go.Proofs.YtggoebbfgkebcaaGreatDoor
open Go.RowKit Go.Sort

/-- Where so many code points end. -/
def atB : Nat → List UInt8 → Nat
  | 0, _ => 0
  | n + 1, l => if l = [] then 0 else (Lib.decodeL l).2 + atB n (l.drop (Lib.decodeL l).2)
/-- How many bytes the next code point has. -/
def widthB (l : List UInt8) : Nat := if l = [] then 0 else (Lib.decodeL l).2
theorem atB_nil : ∀ n, atB n [] = 0
  | 0 => rfl
  | n + 1 => by simp [atB]
theorem atB_succ : ∀ (n : Nat) (l : List UInt8), atB (n + 1) l = atB n l + widthB (l.drop (atB n l))
  | 0, l => by simp [atB, widthB]
  | n + 1, l => by
    by_cases h : l = []
    · subst h; simp [atB, widthB]
    · rw [atB, if_neg h, atB_succ n, show atB (n + 1) l = (Lib.decodeL l).2 + atB n (l.drop (Lib.decodeL l).2) by rw [atB, if_neg h], List.drop_drop]
      omega
theorem atB_le : ∀ (n : Nat) (l : List UInt8), atB n l ≤ l.length
  | 0, l => by simp [atB]
  | n + 1, l => by
    rw [atB]
    split
    · omega
    · rename_i h
      have h1 := Lib.decodeL_le l h
      have h2 := atB_le n (l.drop (Lib.decodeL l).2)
      rw [List.length_drop] at h2; omega
theorem decodeN_own {n b0 b1 b2 b3 c1 c2 c3 : Nat} (h1 : 1 < (Lib.decodeN n b0 b1 b2 b3).2 → b1 = c1) (h2 : 2 < (Lib.decodeN n b0 b1 b2 b3).2 → b2 = c2) (h3 : 3 < (Lib.decodeN n b0 b1 b2 b3).2 → b3 = c3) (hv : ¬ ((Lib.decodeN n b0 b1 b2 b3).1 = 65533 ∧ (Lib.decodeN n b0 b1 b2 b3).2 = 1)) :
    Lib.decodeN (Lib.decodeN n b0 b1 b2 b3).2 b0 c1 c2 c3 = Lib.decodeN n b0 b1 b2 b3 := by
  rcases Lib.decodeN_shape n b0 b1 b2 b3 with ⟨c, e⟩ | ⟨d1, d2, d3, dv, e⟩ | ⟨d1, d2, d3, d4, dv, ds, e⟩ | ⟨d1, d2, d3, d4, d5, dv, dw, e⟩ | e
  · rw [e]; unfold Lib.decodeN; rw [if_pos c]
  · rw [e] at h1 ⊢; have := h1 (by simp); subst this
    unfold Lib.decodeN; rw [if_neg (by omega), if_pos ⟨by omega, by omega, by omega⟩, if_pos (by omega)]
  · rw [e] at h1 h2 ⊢; have := h1 (by simp); subst this; have := h2 (by simp); subst this
    unfold Lib.decodeN; rw [if_neg (by omega), if_neg (by omega), if_pos ⟨by omega, ⟨by omega, by omega⟩, by omega, by omega⟩, if_pos (by omega)]
  · rw [e] at h1 h2 h3 ⊢; have := h1 (by simp); subst this; have := h2 (by simp); subst this; have := h3 (by simp); subst this
    unfold Lib.decodeN; rw [if_neg (by omega), if_neg (by omega), if_neg (by omega), if_pos ⟨by omega, ⟨by omega, by omega⟩, ⟨by omega, by omega⟩, by omega, by omega⟩, if_pos (by omega)]
  · rw [e] at hv; exact absurd ⟨rfl, rfl⟩ hv
theorem getD_take (a : List UInt8) (i n : Nat) (h : i < n) : (a.take n).getD i 0 = a.getD i 0 := by
  simp [List.getD, h]
theorem decodeL_own (l : List UInt8) (h : l ≠ []) (hv : ¬ ((Lib.decodeL l).1 = 65533 ∧ (Lib.decodeL l).2 = 1)) : Lib.decodeL (l.take (Lib.decodeL l).2) = Lib.decodeL l := by
  have hw := Lib.decodeL_width l
  have hle := Lib.decodeL_le l h
  have hl : (l.take (Lib.decodeL l).2).length = (Lib.decodeL l).2 := by rw [List.length_take]; omega
  rw [Lib.decodeL_N (l.take (Lib.decodeL l).2), hl, getD_take l 0 _ (by omega)]
  rw [Lib.decodeL_N l] at hv hw ⊢
  exact decodeN_own (fun h => by rw [getD_take l 1 _ h]) (fun h => by rw [getD_take l 2 _ h]) (fun h => by rw [getD_take l 3 _ h]) hv
theorem one_valid (l : List UInt8) (h : l ≠ []) (hv : ¬ ((Lib.decodeL l).1 = 65533 ∧ (Lib.decodeL l).2 = 1)) : Lib.validD (l.take (Lib.decodeL l).2) = true ∧ Lib.runeCountL (l.take (Lib.decodeL l).2) = 1 := by
  have hw := Lib.decodeL_width l
  have hle := Lib.decodeL_le l h
  have hd := decodeL_own l h hv
  have hl : (l.take (Lib.decodeL l).2).length = (Lib.decodeL l).2 := by rw [List.length_take]; omega
  have hn : l.take (Lib.decodeL l).2 ≠ [] := fun e => by rw [e] at hl; simp at hl; omega
  have hdr : (l.take (Lib.decodeL l).2).drop (Lib.decodeL l).2 = [] := List.drop_eq_nil_iff.2 (by omega)
  constructor
  · rw [Lib.validD_step _ hn, hd, if_neg hv, hdr]; rfl
  · rw [rc_step _ hn, hd, hdr, rc_nil]
/-- A well formed text, cut. -/
theorem cut_valid : ∀ (n : Nat) (l : List UInt8), Lib.validD l = true → n ≤ Lib.runeCountL l → Lib.validD (l.take (atB n l)) = true ∧ Lib.validD (l.drop (atB n l)) = true ∧ Lib.runeCountL (l.take (atB n l)) = n ∧ Lib.runeCountL (l.drop (atB n l)) + n = Lib.runeCountL l
  | 0, l, h, _ => by simp [atB, h, Lib.validD_nil, rc_nil]
  | n + 1, l, h, hn => by
    by_cases hne : l = []
    · subst hne; rw [rc_nil] at hn; omega
    · have hv : ¬ ((Lib.decodeL l).1 = 65533 ∧ (Lib.decodeL l).2 = 1) := fun hh => by rw [Lib.validD_step l hne, if_pos hh] at h; cases h
      have h1 : Lib.validD (l.drop (Lib.decodeL l).2) = true := by rw [Lib.validD_step l hne, if_neg hv] at h; exact h
      have h2 := rc_step l hne
      obtain ⟨i1, i2, i3, i4⟩ := cut_valid n (l.drop (Lib.decodeL l).2) h1 (by omega)
      obtain ⟨o1, o2⟩ := one_valid l hne hv
      rw [atB, if_neg hne]
      have ht : l.take ((Lib.decodeL l).2 + atB n (l.drop (Lib.decodeL l).2)) = l.take (Lib.decodeL l).2 ++ (l.drop (Lib.decodeL l).2).take (atB n (l.drop (Lib.decodeL l).2)) := List.take_add
      rw [ht, ← List.drop_drop]
      refine ⟨validD_app _ _ _ (Nat.le_refl _) o1 i1, i2, ?_, by omega⟩
      rw [rc_app _ _ _ (Nat.le_refl _) o1, o2, i3]; omega
end Go.Proofs.YtggoebbfgkebcaaGreatDoor

namespace Go.Proofs.YtggoebbfgkebcaaGreatDoor
open Go.RowKit

/-- A slice of whole numbers. -/
def Ints (w : World) (S : Nat → Prop) (v : Value) (l : List Int) : Prop :=
  ∃ A c, v = .slice A l.length c ∧ l.length ≤ c ∧ c ≤ maxLen ∧ (l = [] ∨ ∃ b o, A = some ⟨b, o, none⟩ ∧ S b ∧ ∀ i s, l[i]? = some s → w.cell? ⟨b, o + i, none⟩ = some (.int .i64 s))
theorem Ints.keep {w w' : World} {S S' : Nat → Prop} {v : Value} {l : List Int} (h : Ints w S v l) (hS : ∀ b, S b → S' b) (hk : ∀ b, S b → w'.heap[b]? = w.heap[b]?) : Ints w' S' v l := by
  obtain ⟨A, c, rfl, hc, hx, h⟩ := h
  refine ⟨A, c, rfl, hc, hx, ?_⟩
  rcases h with h | ⟨b, o, rfl, hb, h⟩
  · exact .inl h
  · exact .inr ⟨b, o, rfl, hS b hb, fun i s hi => (World.cell?_of_block (a := ⟨b, o + i, none⟩) (hk b hb)).trans (h i s hi)⟩
theorem Ints.form {w : World} {S : Nat → Prop} {v : Value} {l : List Int} (h : Ints w S v l) : ∃ A c, v = .slice A l.length c ∧ l.length ≤ c := by
  obtain ⟨A, c, rfl, hc, _⟩ := h; exact ⟨A, c, rfl, hc⟩
theorem Ints.get {w : World} {S : Nat → Prop} {A : Option Addr} {n c : Nat} {l : List Int} (h : Ints w S (.slice A n c) l) {k : Nat} {x : Int} (hk : l[k]? = some x) :
    ∃ b o, A = some ⟨b, o, none⟩ ∧ S b ∧ w.cell? ⟨b, o + k, none⟩ = some (.int .i64 x) := by
  obtain ⟨A', c', hv, _, _, h⟩ := h
  injection hv with hA _ _
  subst hA
  rcases h with h | ⟨b, o, rfl, hb, h⟩
  · subst h; simp at hk
  · exact ⟨b, o, rfl, hb, h k x hk⟩
theorem Ints.len {w : World} {S : Nat → Prop} {A : Option Addr} {n c : Nat} {l : List Int} (h : Ints w S (.slice A n c) l) : n = l.length ∧ l.length ≤ c ∧ c ≤ maxLen := by
  obtain ⟨A', c', hv, h1, h2, _⟩ := h
  injection hv with _ h3 h4
  subst h4
  exact ⟨h3, h1, h2⟩

/-- A spot: path, index, offset. -/
abbrev Spt := List Int × Nat × Nat
def kidAt (t : Tree) (i : Int) : Option Tree := if isTxt t.kind = true then none else if i < 0 then none else t.kids[i.toNat]?
def goB : Tree → List Int → Option Tree
  | t, [] => some t
  | t, i :: p => match kidAt t i with
    | none => none
    | some u => goB u p
def plainO (t : Tree) : Option Tree := if isTxt t.kind = true then none else some t
def followB (t : Tree) (p : List Int) : Option Tree := (goB t p).bind plainO
def startB : Tree → List Int → Nat
  | _, [] => 0
  | t, i :: p => match t.kids[i.toNat]? with
    | none => 0
    | some u => totalB (t.kids.take i.toNat) + 1 + startB u p
def thereAt (x : Option Tree) (o : Int) : Bool := match x with
  | some x => if isTxt x.kind = true then decide (0 ≤ o) && decide (o < (sizeB x : Int)) else o == 0
  | none => o == 0
def thereB (K : List Tree) (j o : Int) : Bool := !(decide (j < 0) || decide ((K.length : Int) < j)) && thereAt K[j.toNat]? o
def posB (t : Tree) (p : List Int) (j o : Int) : Option Int :=
  (followB t p).bind fun u => if thereB u.kids j o = true then some ((startB t p : Int) + (totalB (u.kids.take j.toNat) : Int) + o) else none

def deeper (i : Nat) (s : Spt) : Spt := ((i : Int) :: s.1, s.2)
mutual
def spotsT : Nat → Tree → List Spt
  | i, .mk k t _ _ l => if isTxt k = true then (List.range (Lib.runeCount t)).map (fun j => ([], i, j)) else ([], i, 0) :: (spotsB 0 l).map (deeper i)
def spotsB : Nat → List Tree → List Spt
  | i, [] => [([], i, 0)]
  | i, x :: l => spotsT i x ++ spotsB (i + 1) l
end
def resolveB (t : Tree) (pos : Int) : Option Spt := if isTxt t.kind = true then none else if pos < 0 then none else (spotsB 0 t.kids)[pos.toNat]?

theorem sizeB_text {x : Tree} (h : isTxt x.kind = true) : sizeB x = Lib.runeCount x.text := by
  obtain ⟨k, t, m, a, l⟩ := x; simp only [Tree.kind] at h; simp [sizeB, h, Tree.text]
theorem sizeB_node {x : Tree} (h : isTxt x.kind = false) : sizeB x = 2 + totalB x.kids := by
  obtain ⟨k, t, m, a, l⟩ := x; simp only [Tree.kind] at h; simp [sizeB, h, Tree.kids]
theorem spotsT_text {x : Tree} (i : Nat) (h : isTxt x.kind = true) : spotsT i x = (List.range (sizeB x)).map (fun j => ([], i, j)) := by
  rw [sizeB_text h]
  obtain ⟨k, t, m, a, l⟩ := x; simp only [Tree.kind] at h; simp [spotsT, h, Tree.text]
theorem spotsT_node {x : Tree} (i : Nat) (h : isTxt x.kind = false) : spotsT i x = ([], i, 0) :: (spotsB 0 x.kids).map (deeper i) := by
  obtain ⟨k, t, m, a, l⟩ := x; simp only [Tree.kind] at h; simp [spotsT, h, Tree.kids]
mutual
theorem spotsT_len : ∀ (i : Nat) (x : Tree), (spotsT i x).length = sizeB x
  | i, .mk k t m a l => by
    rw [spotsT, sizeB]
    split
    · simp
    · simp only [List.length_cons, List.length_map, spotsB_len 0 l]; omega
theorem spotsB_len : ∀ (i : Nat) (l : List Tree), (spotsB i l).length = totalB l + 1
  | i, [] => rfl
  | i, x :: l => by rw [spotsB, totalB, List.length_append, spotsT_len i x, spotsB_len (i + 1) l]; omega
end

/-! ### paths -/
theorem goB_app : ∀ (p q : List Int) (t : Tree), goB t (p ++ q) = (goB t p).bind fun u => goB u q
  | [], q, t => by simp [goB]
  | i :: p, q, t => by
    simp only [List.cons_append, goB]
    cases kidAt t i with
    | none => rfl
    | some u => exact goB_app p q u
theorem kidAt_some {t u : Tree} {i : Int} (h : kidAt t i = some u) : isTxt t.kind = false ∧ 0 ≤ i ∧ t.kids[i.toNat]? = some u := by
  unfold kidAt at h
  cases ht : isTxt t.kind with
  | true => simp [ht] at h
  | false =>
    simp only [ht, Bool.false_eq_true, if_false] at h
    by_cases hi : i < 0
    · simp [hi] at h
    · simp only [hi, if_false] at h; exact ⟨rfl, by omega, h⟩
theorem kidAt_of {t u : Tree} {i : Int} (ht : isTxt t.kind = false) (hi : 0 ≤ i) (h : t.kids[i.toNat]? = some u) : kidAt t i = some u := by
  unfold kidAt
  simp only [ht, Bool.false_eq_true, if_false]
  rw [if_neg (by omega)]; exact h
theorem followB_some {t u : Tree} {p : List Int} (h : followB t p = some u) : goB t p = some u ∧ isTxt u.kind = false := by
  unfold followB at h
  cases hg : goB t p with
  | none => rw [hg] at h; cases h
  | some v =>
    rw [hg] at h
    simp only [Option.bind_some, plainO] at h
    cases hv : isTxt v.kind with
    | true => simp [hv] at h
    | false => simp [hv] at h; subst h; exact ⟨rfl, hv⟩
theorem followB_of {t u : Tree} {p : List Int} (h : goB t p = some u) (hu : isTxt u.kind = false) : followB t p = some u := by
  unfold followB; rw [h]; simp [plainO, hu]
theorem weigh_kidAt {t u : Tree} {i : Nat} (h : t.kids[i]? = some u) : weigh u + weighAll (t.kids.take i) + 2 ≤ weigh t := by
  have h1 := kids_weigh t
  have h2 : t.kids = t.kids.take i ++ u :: t.kids.drop (i + 1) := by
    obtain ⟨hl, he⟩ := List.getElem?_eq_some_iff.1 h
    rw [← he, List.getElem_cons_drop, List.take_append_drop]
  rw [h2, weighAll_append] at h1
  simp only [weighAll] at h1
  omega
theorem goB_weigh : ∀ (p : List Int) (t u : Tree), goB t p = some u → weigh u ≤ weigh t
  | [], t, u, h => by simp only [goB, Option.some.injEq] at h; subst h; exact Nat.le_refl _
  | i :: p, t, u, h => by
    rw [goB] at h
    cases hk : kidAt t i with
    | none => rw [hk] at h; cases h
    | some v =>
      rw [hk] at h
      have h1 := goB_weigh p v u h
      have h2 := weigh_kidAt (kidAt_some hk).2.2
      omega
theorem startB_weigh : ∀ (p : List Int) (t : Tree), startB t p ≤ weigh t
  | [], t => by simp [startB]
  | i :: p, t => by
    rw [startB]
    cases hk : t.kids[i.toNat]? with
    | none => simp
    | some v =>
      have h1 := startB_weigh p v
      have h2 := weigh_kidAt hk
      have h3 := total_le_weigh (t.kids.take i.toNat)
      simp only
      omega
theorem startB_app : ∀ (p : List Int) (t u : Tree) (q : List Int), goB t p = some u → startB t (p ++ q) = startB t p + startB u q
  | [], t, u, q, h => by simp only [goB, Option.some.injEq] at h; subst h; simp [startB]
  | i :: p, t, u, q, h => by
    rw [goB] at h
    cases hk : kidAt t i with
    | none => rw [hk] at h; cases h
    | some v =>
      rw [hk] at h
      have h1 := startB_app p v u q h
      simp only [List.cons_append, startB, (kidAt_some hk).2.2]
      omega

/-! ### each spot leads somewhere -/
/-- What the k-th spot of a node is: where it leads, and that its position is k. -/
structure SpotOk (t : Tree) (k : Nat) (s : Spt) (u : Tree) : Prop where
  go : goB t s.1 = some u
  plain : isTxt u.kind = false
  le : s.2.1 ≤ u.kids.length
  there : thereAt u.kids[s.2.1]? s.2.2 = true
  pos : startB t s.1 + totalB (u.kids.take s.2.1) + s.2.2 = k
  fit : totalB (u.kids.take s.2.1) + s.2.2 ≤ totalB u.kids
theorem take_at {α : Type} {l : List α} {i : Nat} {x : α} (h : l[i]? = some x) : l.take (i + 1) = l.take i ++ [x] := by
  rw [List.take_add_one, h]; rfl
theorem total_take_le (l : List Tree) (i : Nat) : totalB (l.take i) ≤ totalB l := by
  have := totalB_append (l.take i) (l.drop i); rw [List.take_append_drop] at this; omega
theorem spots_from {t : Tree} (ht : isTxt t.kind = false) (ih : ∀ x, x ∈ t.kids → isTxt x.kind = false → ∀ k s, (spotsB 0 x.kids)[k]? = some s → ∃ u, SpotOk x k s u) :
    ∀ (l : List Tree) (i k : Nat) (s : Spt), t.kids.drop i = l → i ≤ t.kids.length → (spotsB i l)[k]? = some s → ∃ u, SpotOk t (totalB (t.kids.take i) + k) s u
  | [], i, k, s, hd, hi, h => by
    have hl : t.kids.length ≤ i := by rw [List.drop_eq_nil_iff] at hd; exact hd
    have he : i = t.kids.length := by omega
    subst he
    rw [spotsB] at h
    obtain ⟨rfl, rfl⟩ : k = 0 ∧ s = ([], t.kids.length, 0) := by
      cases k with
      | zero => simp at h; exact ⟨rfl, h.symm⟩
      | succ k => simp at h
    refine ⟨t, rfl, ht, Nat.le_refl _, ?_, by simp [startB], by simp⟩
    simp [thereAt]
  | x :: l, i, k, s, hd, hi, h => by
    have hx : t.kids[i]? = some x := by rw [← List.head?_drop, hd]; rfl
    have hil : i < t.kids.length := (List.getElem?_eq_some_iff.1 hx).1
    have hd' : t.kids.drop (i + 1) = l := by rw [← List.tail_drop, hd]; rfl
    have htk : totalB (t.kids.take (i + 1)) = totalB (t.kids.take i) + sizeB x := by rw [take_at hx, totalB_append]; simp [totalB]
    have htl := total_take_le t.kids (i + 1)
    rw [spotsB] at h
    by_cases hk : k < sizeB x
    · rw [List.getElem?_append_left (by rw [spotsT_len]; exact hk)] at h
      cases hT : isTxt x.kind with
      | true =>
        rw [spotsT_text i hT, List.getElem?_map, List.getElem?_range hk] at h
        simp only [Option.map_some, Option.some.injEq] at h
        subst h
        refine ⟨t, rfl, ht, by simpa using Nat.le_of_lt hil, ?_, by simp [startB], ?_⟩
        · rw [hx]; simp only [thereAt, hT, if_true]; simp; omega
        · simp only; omega
      | false =>
        rw [spotsT_node i hT] at h
        cases k with
        | zero =>
          simp at h
          subst h
          refine ⟨t, rfl, ht, by simpa using Nat.le_of_lt hil, ?_, by simp [startB], ?_⟩
          · rw [hx]; simp [thereAt, hT]
          · simp only; omega
        | succ k =>
          simp only [List.getElem?_cons_succ, List.getElem?_map] at h
          obtain ⟨s', hs', rfl⟩ := Option.map_eq_some_iff.1 h
          obtain ⟨u, hu⟩ := ih x (List.mem_of_getElem? hx) hT k s' hs'
          have hka : kidAt t (i : Int) = some x := kidAt_of ht (by omega) (by simpa using hx)
          refine ⟨u, by simp only [deeper, goB, hka]; exact hu.go, hu.plain, hu.le, hu.there, ?_, hu.fit⟩
          have := hu.pos
          simp only [deeper, startB, Int.toNat_natCast, hx]
          omega
    · rw [List.getElem?_append_right (by rw [spotsT_len]; omega), spotsT_len] at h
      obtain ⟨u, hu⟩ := spots_from ht ih l (i + 1) (k - sizeB x) s hd' (by omega) h
      refine ⟨u, hu.go, hu.plain, hu.le, hu.there, ?_, hu.fit⟩
      have := hu.pos
      omega
theorem spots_ok : ∀ (t : Tree), isTxt t.kind = false → ∀ (k : Nat) (s : Spt), (spotsB 0 t.kids)[k]? = some s → ∃ u, SpotOk t k s u := by
  intro t
  induction t using Tree.induct_one with
  | h kd tx m a l ih =>
    intro ht k s h
    have := spots_from ht (fun x hx => ih x hx) (Tree.mk kd tx m a l).kids 0 k s (by simp) (by simp) h
    simpa [totalB] using this
theorem SpotOk.follow {t u : Tree} {k : Nat} {s : Spt} (h : SpotOk t k s u) : followB t s.1 = some u := followB_of h.go h.plain
theorem SpotOk.is {t u : Tree} {k : Nat} {s : Spt} (h : SpotOk t k s u) : thereB u.kids s.2.1 s.2.2 = true := by
  have h1 := h.le
  have h2 := h.there
  unfold thereB
  rw [Int.toNat_natCast, h2, decide_eq_false (by omega), decide_eq_false (by omega)]; rfl
theorem SpotOk.back {t u : Tree} {k : Nat} {s : Spt} (h : SpotOk t k s u) : posB t s.1 s.2.1 s.2.2 = some (k : Int) := by
  unfold posB
  rw [h.follow]
  simp only [Option.bind_some, h.is, if_true, Int.toNat_natCast]
  have := h.pos
  congr 1
  omega

/-! ### the walk over all kids, down and up again -/
/-- A node that is open: which kid, of which row, and the slice that holds that row. -/
structure Frm where
  i : Nat
  K : List Tree
  v : Value
def pathOf (st : List Frm) : List Int := st.reverse.map fun f => (f.i : Int)
def pre (p : List Int) (s : Spt) : Spt := (p ++ s.1, s.2)
def restOf : List Frm → List Spt
  | [] => []
  | f :: st => (spotsB (f.i + 1) (f.K.drop (f.i + 1))).map (pre (pathOf st)) ++ restOf st
def remOf (st : List Frm) (K : List Tree) (i : Nat) : List Spt := (spotsB i (K.drop i)).map (pre (pathOf st)) ++ restOf st
theorem pathOf_cons (f : Frm) (st : List Frm) : pathOf (f :: st) = pathOf st ++ [(f.i : Int)] := by simp [pathOf]
theorem pathOf_len (st : List Frm) : (pathOf st).length = st.length := by simp [pathOf]
theorem drop_at' {α : Type} {l : List α} {i : Nat} {x : α} (h : l[i]? = some x) : l.drop i = x :: l.drop (i + 1) := by
  obtain ⟨hl, he⟩ := List.getElem?_eq_some_iff.1 h
  rw [← he, List.getElem_cons_drop]
theorem rem_text {st : List Frm} {K : List Tree} {i pos : Nat} {x : Tree} (h : K[i]? = some x) (ht : isTxt x.kind = true) (hp : pos < sizeB x) : (remOf st K i)[pos]? = some (pathOf st, i, pos) := by
  unfold remOf
  rw [drop_at' h, spotsB, List.map_append, List.append_assoc, List.getElem?_append_left (by rw [List.length_map, spotsT_len]; exact hp), spotsT_text i ht, List.getElem?_map, List.getElem?_map, List.getElem?_range hp]
  simp [pre]
theorem rem_skip {st : List Frm} {K : List Tree} {i pos : Nat} {x : Tree} (h : K[i]? = some x) (hp : sizeB x ≤ pos) : (remOf st K i)[pos]? = (remOf st K (i + 1))[pos - sizeB x]? := by
  unfold remOf
  rw [drop_at' h, spotsB, List.map_append, List.append_assoc, List.getElem?_append_right (by rw [List.length_map, spotsT_len]; exact hp), List.length_map, spotsT_len]
theorem rem_node {st : List Frm} {K : List Tree} {i : Nat} {x : Tree} (h : K[i]? = some x) (ht : isTxt x.kind = false) : (remOf st K i)[0]? = some (pathOf st, i, 0) := by
  unfold remOf
  rw [drop_at' h, spotsB, spotsT_node i ht]
  simp [pre]
theorem rem_push {st : List Frm} {K : List Tree} {i pos : Nat} {x : Tree} (v : Value) (h : K[i]? = some x) (ht : isTxt x.kind = false) : (remOf st K i)[pos + 1]? = (remOf (⟨i, K, v⟩ :: st) x.kids 0)[pos]? := by
  unfold remOf
  rw [drop_at' h, spotsB, spotsT_node i ht, restOf, pathOf_cons]
  simp only [List.cons_append, List.map_cons, List.getElem?_cons_succ, List.map_append, List.append_assoc, List.map_map, List.drop_zero]
  congr 3
  funext s
  simp [pre, deeper]
theorem rem_end (st : List Frm) (K : List Tree) : (remOf st K K.length)[0]? = some (pathOf st, K.length, 0) := by
  unfold remOf
  rw [List.drop_length, spotsB]; simp [pre]
theorem rem_last (K : List Tree) (pos : Nat) : (remOf [] K K.length)[pos + 1]? = none := by
  unfold remOf
  rw [List.drop_length, spotsB]; simp [restOf]
theorem rem_pop (f : Frm) (st : List Frm) (K : List Tree) (pos : Nat) : (remOf (f :: st) K K.length)[pos + 1]? = (remOf st f.K (f.i + 1))[pos]? := by
  unfold remOf
  rw [List.drop_length, spotsB, restOf]; simp
theorem rem_all (K : List Tree) : remOf [] K 0 = spotsB 0 K := by
  unfold remOf
  have : pre (pathOf []) = id := by funext s; simp [pre, pathOf]
  rw [this]; simp [restOf]
end Go.Proofs.YtggoebbfgkebcaaGreatDoor

namespace Go.Proofs.YtggoebbfgkebcaaGreatDoor
open Go.RowKit Go.Sort

def cutL (x : Tree) (n : Nat) : Tree := .mk x.kind (x.text.extract 0 (atB n x.text.data.toList)) x.marks x.attrs x.kids
def cutR (x : Tree) (n : Nat) : Tree := .mk x.kind (x.text.extract (atB n x.text.data.toList) x.text.size) x.marks x.attrs x.kids
def withKids (u : Tree) (k : List Tree) : Tree := .mk u.kind u.text u.marks u.attrs k
/-- What is wrong, what is ahead, what is behind. -/
abbrev Spl := Nat × List Tree × List Tree
def preB (a : List Tree) (r : Spl) : Spl := if r.1 = 0 then (0, a ++ r.2.1, r.2.2) else (r.1, [], [])
def splitB : List Tree → Nat → Spl
  | [], n => if n = 0 then (0, [], []) else (3, [], [])
  | x :: l, n => if sizeB x ≤ n then preB [x] (splitB l (n - sizeB x)) else if n = 0 then (0, [], x :: l) else if isTxt x.kind = true then (0, [cutL x n], cutR x n :: l) else (10, [], [])
theorem preB_pre (a b : List Tree) (r : Spl) : preB a (preB b r) = preB (a ++ b) r := by
  unfold preB
  by_cases h : r.1 = 0
  · simp [h]
  · simp [h]
theorem preB_nil (r : Spl) (h : r.1 ≠ 0 → r.2 = ([], [])) : preB [] r = r := by
  obtain ⟨c, a, b⟩ := r
  unfold preB
  by_cases hc : c = 0
  · subst hc; simp
  · have := h hc; simp only at this
    simp only [Prod.mk.injEq] at this
    obtain ⟨rfl, rfl⟩ := this
    simp [hc]
theorem splitB_err : ∀ (l : List Tree) (n : Nat), (splitB l n).1 ≠ 0 → (splitB l n).2 = ([], [])
  | [], n => by
    rw [splitB]; split <;> simp
  | x :: l, n => by
    rw [splitB]
    split
    · unfold preB
      split
      · intro h; simp at h
      · intro _; rfl
    · split
      · intro h; simp at h
      · split
        · intro h; simp at h
        · intro _; rfl
/-- One node more is ahead. -/
theorem split_step {l : List Tree} {n m i : Nat} {x : Tree} (h : splitB l n = preB (l.take i) (splitB (l.drop i) m)) (hx : l[i]? = some x) (hs : sizeB x ≤ m) : splitB l n = preB (l.take (i + 1)) (splitB (l.drop (i + 1)) (m - sizeB x)) := by
  obtain ⟨hl, he⟩ := List.getElem?_eq_some_iff.1 hx
  have hd : l.drop i = x :: l.drop (i + 1) := by rw [← he, List.getElem_cons_drop]
  have ht : l.take (i + 1) = l.take i ++ [x] := by rw [List.take_add_one, hx]; rfl
  rw [h, hd, splitB, if_pos hs, preB_pre, ht]
theorem split_here {l : List Tree} {n m i : Nat} {x : Tree} (h : splitB l n = preB (l.take i) (splitB (l.drop i) m)) (hx : l[i]? = some x) (hs : ¬ sizeB x ≤ m) :
    splitB l n = if m = 0 then (0, l.take i, l.drop i) else if isTxt x.kind = true then (0, l.take i ++ [cutL x m], cutR x m :: l.drop (i + 1)) else (10, [], []) := by
  obtain ⟨hl, he⟩ := List.getElem?_eq_some_iff.1 hx
  have hd : l.drop i = x :: l.drop (i + 1) := by rw [← he, List.getElem_cons_drop]
  rw [h, hd, splitB, if_neg hs]
  by_cases hm : m = 0
  · rw [if_pos hm, if_pos hm]; simp [preB]
  · rw [if_neg hm, if_neg hm]
    by_cases ht : isTxt x.kind = true
    · rw [if_pos ht, if_pos ht]; simp [preB]
    · rw [if_neg ht, if_neg ht]; simp [preB]
theorem split_end {l : List Tree} {n m : Nat} (h : splitB l n = preB (l.take l.length) (splitB (l.drop l.length) m)) : splitB l n = if m = 0 then (0, l, []) else (3, [], []) := by
  rw [h, List.drop_length, List.take_length, splitB]
  by_cases hm : m = 0
  · rw [if_pos hm, if_pos hm]; simp [preB]
  · rw [if_neg hm, if_neg hm]; simp [preB]
theorem cutL_weigh (x : Tree) (n : Nat) : weigh (cutL x n) ≤ weigh x := by
  obtain ⟨k, t, m, a, l⟩ := x
  have : (t.extract 0 (atB n t.data.toList)).size ≤ t.size := by rw [ByteArray.size_extract]; omega
  simp only [cutL, Tree.kind, Tree.text, Tree.marks, Tree.attrs, Tree.kids, weigh]; omega
theorem cutR_weigh (x : Tree) (n : Nat) : weigh (cutR x n) ≤ weigh x := by
  obtain ⟨k, t, m, a, l⟩ := x
  have : (t.extract (atB n t.data.toList) t.size).size ≤ t.size := by rw [ByteArray.size_extract]; omega
  simp only [cutR, Tree.kind, Tree.text, Tree.marks, Tree.attrs, Tree.kids, weigh]; omega
theorem splitB_weigh : ∀ (l : List Tree) (n : Nat), weighAll (splitB l n).2.1 ≤ weighAll l ∧ weighAll (splitB l n).2.2 ≤ weighAll l
  | [], n => by rw [splitB]; split <;> simp
  | x :: l, n => by
    have ih := splitB_weigh l (n - sizeB x)
    rw [splitB]
    split
    · unfold preB
      split
      · simp only [List.cons_append, List.nil_append, weighAll]; omega
      · simp [weighAll]
    · split
      · simp [weighAll]
      · split
        · have h1 := cutL_weigh x n
          have h2 := cutR_weigh x n
          simp only [weighAll]; omega
        · simp [weighAll]
end Go.Proofs.YtggoebbfgkebcaaGreatDoor

namespace Go.Proofs.YtggoebbfgkebcaaGreatDoor
open Go.RowKit

def TEXT : ByteArray := ⟨#[116, 101, 120, 116]⟩
theorem strs_nil {w : World} {S : Nat → Prop} : Strs w S (.slice none 0 0) [] := ⟨none, 0, rfl, Nat.le_refl _, by unfold maxLen; omega, .inl rfl⟩
theorem pairs_nil {w : World} {S : Nat → Prop} : Pairs w S (.slice none 0 0) [] := ⟨none, 0, rfl, Nat.le_refl _, by unfold maxLen; omega, .inl rfl⟩
theorem kids_nil {w : World} {S : Nat → Prop} : Kids w S (.slice none 0 0) [] := ⟨none, 0, rfl, Nat.le_refl _, by unfold maxLen; omega, .inl rfl⟩
end Go.Proofs.YtggoebbfgkebcaaGreatDoor

namespace Go.Proofs.YtggoebbfgkebcaaGreatDoor
open Go.RowKit Go.Sort

def textsL : List ByteArray := [⟨#[97]⟩, ⟨#[98, 99]⟩, ⟨#[195, 169]⟩, ⟨#[120, 32, 121]⟩, ⟨#[230, 151, 165, 230, 156, 172]⟩]
def kindsL : List ByteArray := [⟨#[112, 97, 114, 97]⟩, ⟨#[105, 116, 101, 109]⟩, ⟨#[108, 105, 115, 116]⟩, ⟨#[110, 111, 116, 101]⟩]
def ALIGN : ByteArray := ⟨#[97, 108, 105, 103, 110]⟩
def BB : ByteArray := ⟨#[98]⟩
def II : ByteArray := ⟨#[105]⟩

structure Cel where
  op : Int
  a : Int
  b : Int

def attrsOf (c : Cel) : List (ByteArray × ByteArray) := if pickN c.b 3 = 1 then [(ALIGN, textsL.getD (pickN (c.b.tdiv 3) 5).toNat ByteArray.empty)] else []
def marksOf (c : Cel) : List ByteArray := if pickN c.b 3 = 1 then [BB] else if pickN c.b 3 = 2 then [BB, II] else []
def kindOf (c : Cel) : ByteArray := kindsL.getD (pickN c.a 4).toNat ByteArray.empty
def textOf (c : Cel) : ByteArray := textsL.getD (pickN c.a 5).toNat ByteArray.empty
def manyOf (c : Cel) (n : Nat) : Nat := (pickN (c.b.tdiv 3) ((min n 6 : Nat) + 1)).toNat
def madeStep (out : List Tree) (c : Cel) : List Tree :=
  if pickN c.op 8 ≤ 3 then out ++ [.mk TEXT (textOf c) (marksOf c) [] []]
  else if pickN c.op 8 ≤ 6 then out.take (out.length - manyOf c out.length) ++ [.mk (kindOf c) ByteArray.empty [] (attrsOf c) (joinB (out.drop (out.length - manyOf c out.length)))]
  else out ++ [.mk (kindOf c) ByteArray.empty [] (attrsOf c) []]
def madeTo (l : List Cel) (k : Nat) : List Tree := (l.take k).foldl madeStep []
def madeB (l : List Cel) : List Tree := joinB (madeTo l 19)

/-- The statement's raw numbers, in memory. -/
def Cels (w : World) (S : Nat → Prop) (v : Value) (l : List Cel) : Prop :=
  ∃ A c, v = .slice A l.length c ∧ l.length ≤ c ∧ c ≤ maxLen ∧ (l = [] ∨ ∃ b o, A = some ⟨b, o, none⟩ ∧ S b ∧
    ∀ i x, l[i]? = some x → w.cell? ⟨b, o + i * 3, none⟩ = some (.int .i64 x.op) ∧ w.cell? ⟨b, o + i * 3 + 1, none⟩ = some (.int .i64 x.a) ∧ w.cell? ⟨b, o + i * 3 + 2, none⟩ = some (.int .i64 x.b)) ∧
    ∀ x ∈ l, (-9223372036854775808 ≤ x.op ∧ x.op ≤ 9223372036854775807) ∧ (-9223372036854775808 ≤ x.a ∧ x.a ≤ 9223372036854775807) ∧ (-9223372036854775808 ≤ x.b ∧ x.b ≤ 9223372036854775807)

theorem Cels.get {w : World} {S : Nat → Prop} {A : Option Addr} {n c : Nat} {l : List Cel} (h : Cels w S (.slice A n c) l) {k : Nat} (hk : k < l.length) :
    ∃ b o x, A = some ⟨b, o, none⟩ ∧ S b ∧ l[k]? = some x ∧ w.cell? ⟨b, o + k * 3, none⟩ = some (.int .i64 x.op) ∧ w.cell? ⟨b, o + k * 3 + 1, none⟩ = some (.int .i64 x.a) ∧ w.cell? ⟨b, o + k * 3 + 2, none⟩ = some (.int .i64 x.b) ∧
      (-9223372036854775808 ≤ x.op ∧ x.op ≤ 9223372036854775807) ∧ (-9223372036854775808 ≤ x.a ∧ x.a ≤ 9223372036854775807) ∧ (-9223372036854775808 ≤ x.b ∧ x.b ≤ 9223372036854775807) := by
  obtain ⟨A', c', hv, _, _, h, hr⟩ := h
  injection hv with hA _ _
  subst hA
  have hx : l[k]? = some l[k] := List.getElem?_eq_getElem hk
  rcases h with h | ⟨b, o, rfl, hb, h⟩
  · subst h; simp at hk
  · obtain ⟨h0, h1, h2⟩ := h k _ hx
    obtain ⟨r0, r1, r2⟩ := hr _ (List.mem_of_getElem? hx)
    exact ⟨b, o, l[k], rfl, hb, hx, h0, h1, h2, r0, r1, r2⟩

theorem textsL_size (n : Nat) : (textsL.getD n ByteArray.empty).size ≤ 6 := by
  match n with
  | 0 => decide
  | 1 => decide
  | 2 => decide
  | 3 => decide
  | 4 => decide
  | n + 5 => simp [textsL, List.getD]
theorem kindsL_size (n : Nat) : (kindsL.getD n ByteArray.empty).size ≤ 4 := by
  match n with
  | 0 => decide
  | 1 => decide
  | 2 => decide
  | 3 => decide
  | n + 4 => simp [kindsL, List.getD]
theorem marksOf_weigh (c : Cel) : weighL (marksOf c) ≤ 4 := by
  unfold marksOf; split
  · decide
  · split <;> decide
theorem attrsOf_weigh (c : Cel) : weighP (attrsOf c) ≤ 12 := by
  unfold attrsOf; split
  · have := textsL_size (pickN (c.b.tdiv 3) 5).toNat
    have h5 : ALIGN.size = 5 := by decide
    simp only [weighP, List.map_cons, List.map_nil, List.sum_cons, List.sum_nil, h5]; omega
  · decide
theorem madeStep_weigh (out : List Tree) (c : Cel) : weighAll (madeStep out c) ≤ weighAll out + 40 := by
  have h1 := textsL_size (pickN c.a 5).toNat
  have h2 := kindsL_size (pickN c.a 4).toNat
  have h3 := marksOf_weigh c
  have h4 := attrsOf_weigh c
  have h5 : TEXT.size = 4 := by decide
  have h6 : ByteArray.empty.size = 0 := by decide
  have h7 : weighL [] = 0 := by decide
  have h8 : weighP [] = 0 := by decide
  unfold madeStep
  split
  · rw [weighAll_append]; simp only [weighAll, weigh, textOf, h5, h8]; omega
  · split
    · have hj := joinB_weigh (out.drop (out.length - manyOf c out.length))
      have hs := weighAll_append (out.take (out.length - manyOf c out.length)) (out.drop (out.length - manyOf c out.length))
      rw [List.take_append_drop] at hs
      rw [weighAll_append]; simp only [weighAll, weigh, kindOf, h6, h7]; omega
    · rw [weighAll_append]; simp only [weighAll, weigh, kindOf, h6, h7]; omega
theorem madeTo_succ (l : List Cel) (k : Nat) (x : Cel) (h : l[k]? = some x) : madeTo l (k + 1) = madeStep (madeTo l k) x := by
  have hk : k < l.length := (List.getElem?_eq_some_iff.1 h).1
  have hx : l[k] = x := (List.getElem?_eq_some_iff.1 h).2
  unfold madeTo
  rw [List.take_succ_eq_append_getElem hk, List.foldl_append, hx]; rfl
theorem madeTo_weigh (l : List Cel) : ∀ k, weighAll (madeTo l k) ≤ 40 * k
  | 0 => by simp [madeTo, weighAll]
  | k + 1 => by
    have ih := madeTo_weigh l k
    rcases h : l[k]? with _ | x
    · have hk : l.length ≤ k := List.getElem?_eq_none_iff.1 h
      have : madeTo l (k + 1) = madeTo l k := by unfold madeTo; rw [List.take_of_length_le hk, List.take_of_length_le (by omega)]
      rw [this]; omega
    · rw [madeTo_succ l k x h]
      have := madeStep_weigh (madeTo l k) x
      omega
end Go.Proofs.YtggoebbfgkebcaaGreatDoor

namespace Go.Proofs.YtggoebbfgkebcaaGreatDoor
open Go.RowKit Go.Sort

/-! ### joined parts, joined -/
theorem isTxt_eq {k : ByteArray} (h : isTxt k = true) : k = TEXT := by
  unfold isTxt at h
  rw [beq_iff_eq, Lib.toList_data] at h
  exact ByteArray.ext (Array.ext' h)
theorem text_app_ne {a b : ByteArray} (h : b.toList.isEmpty = false) : (a ++ b).toList.isEmpty = false := by
  cases h2 : (a ++ b).toList.isEmpty with
  | false => rfl
  | true =>
    have h3 := empty_data.1 h2
    rw [ByteArray.data_append, Array.toList_append] at h3
    rw [empty_data.2 (List.append_eq_nil_iff.1 h3).2] at h
    cases h
theorem set_kind (x : Tree) (s : ByteArray) : (setText x s).kind = x.kind := rfl
theorem set_text (x : Tree) (s : ByteArray) : (setText x s).text = s := rfl
theorem set_marks (x : Tree) (s : ByteArray) : (setText x s).marks = x.marks := rfl
theorem set_set (x : Tree) (s t : ByteArray) : setText (setText x s) t = setText x t := rfl
theorem keepB_of {x : Tree} (h : ¬ (isTxt x.kind && x.text.toList.isEmpty) = true) : keepB x = true := by
  unfold keepB
  cases hb : (isTxt x.kind && x.text.toList.isEmpty) with
  | false => rfl
  | true => exact absurd hb h
theorem keepB_ne {x : Tree} (h : x.text.toList.isEmpty = false) : keepB x = true := by unfold keepB; rw [h, Bool.and_false]; rfl
theorem step_keeps (out : List Tree) (x : Tree) (h : ∀ z ∈ out, keepB z = true) : ∀ z ∈ joinStep out x, keepB z = true := by
  unfold joinStep
  intro z hz
  split at hz
  · exact h z hz
  · rename_i hx
    have hxk : keepB x = true := keepB_of hx
    split at hz
    · rename_i y hy
      split at hz
      · rename_i hj
        simp only [Bool.and_eq_true] at hj
        rcases List.mem_append.1 hz with hz | hz
        · exact h z (List.dropLast_subset _ hz)
        · simp only [List.mem_singleton] at hz
          subst hz
          have h1 := keepB_text hxk hj.1
          exact keepB_ne (by rw [set_text]; exact text_app_ne h1)
      · rcases List.mem_append.1 hz with hz | hz
        · exact h z hz
        · simp only [List.mem_singleton] at hz; subst hz; exact hxk
    · rcases List.mem_append.1 hz with hz | hz
      · exact h z hz
      · simp only [List.mem_singleton] at hz; subst hz; exact hxk
theorem fold_keeps : ∀ (l out : List Tree), (∀ z ∈ out, keepB z = true) → ∀ z ∈ l.foldl joinStep out, keepB z = true
  | [], _, h => h
  | x :: l, out, h => fold_keeps l _ (step_keeps out x h)
theorem joinB_keeps (l : List Tree) : ∀ z ∈ joinB l, keepB z = true := fold_keeps l [] (by simp)

theorem sameL_trans {a b c : List ByteArray} (h : sameL b c = true) : sameL a b = sameL a c := by rw [sameL_eq h]
theorem step_step (O : List Tree) (z x : Tree) (hz : keepB z = true) (hx : keepB x = true) (hkx : isTxt x.kind = true) (hj : joinsOn z x = true) :
    joinStep (joinStep O z) x = joinStep O (setText x (z.text ++ x.text)) := by
  have hj' := hj
  simp only [joinsOn, Bool.and_eq_true] at hj'
  obtain ⟨hkz, hm⟩ := hj'
  have ez := keepB_text hz hkz
  have ex := keepB_text hx hkx
  have es : (setText x (z.text ++ x.text)).text.toList.isEmpty = false := text_app_ne ex
  cases hO : O.getLast? with
  | none =>
    have : O = [] := List.getLast?_eq_none_iff.1 hO
    subst this
    rw [joinStep_first ez, joinStep_first es, joinStep_on (z := z) (by simp) hkx ex hj]; rfl
  | some y =>
    cases hy : joinsOn y z with
    | false =>
      have hy' : joinsOn y (setText x (z.text ++ x.text)) = false := by
        rw [← hy]; unfold joinsOn; rw [set_marks, sameL_trans hm]
      rw [joinStep_other hO ez hy, joinStep_other hO es hy', joinStep_on (z := z) (by simp) hkx ex hj]; simp
    | true =>
      have hy' : joinsOn y (setText x (z.text ++ x.text)) = true := by
        rw [← hy]; unfold joinsOn; rw [set_marks, sameL_trans hm]
      rw [joinStep_on hO hkz ez hy, joinStep_on (n := setText x (z.text ++ x.text)) hO hkx es hy', joinStep_on (z := setText z (y.text ++ z.text)) (by simp) hkx ex (by unfold joinsOn at hj ⊢; rw [set_kind, set_marks]; exact hj)]
      rw [set_text, set_set, set_text, ByteArray.append_assoc]; simp

theorem fold_join_snoc (J b : List Tree) (x : Tree) (ih : (joinB b).foldl joinStep J = b.foldl joinStep J) : (joinB (b ++ [x])).foldl joinStep J = (b ++ [x]).foldl joinStep J := by
  rw [joinB_snoc, List.foldl_append, ← ih]
  simp only [List.foldl_cons, List.foldl_nil]
  cases hx : keepB x with
  | false => rw [join_skip _ x hx, join_skip _ x hx]
  | true =>
    cases hk : isTxt x.kind with
    | false => rw [joinStep_plain hk, List.foldl_append]; rfl
    | true =>
      have ex := keepB_text hx hk
      cases hB : (joinB b).getLast? with
      | none =>
        have : joinB b = [] := List.getLast?_eq_none_iff.1 hB
        rw [this, joinStep_first ex]; rfl
      | some z =>
        cases hj : joinsOn z x with
        | false => rw [joinStep_other hB ex hj, List.foldl_append]; rfl
        | true =>
          have hz := joinB_keeps b z (List.mem_of_getLast? hB)
          have e := dropLast_getLast? hB
          rw [joinStep_on hB hk ex hj, List.foldl_append]
          conv => rhs; rw [e, List.foldl_append]
          simp only [List.foldl_cons, List.foldl_nil]
          exact (step_step _ z x hz hx hk hj).symm
theorem fold_join (J : List Tree) : ∀ (n : Nat) (b : List Tree), b.length = n → (joinB b).foldl joinStep J = b.foldl joinStep J
  | 0, b, h => by
    have : b = [] := List.eq_nil_of_length_eq_zero h
    subst this; rfl
  | n + 1, b, h => by
    have hne : b ≠ [] := fun e => by subst e; simp at h
    rw [← List.dropLast_concat_getLast hne]
    exact fold_join_snoc J _ _ (fold_join J n _ (by rw [List.length_dropLast]; omega))
theorem joinB_parts (a b : List Tree) : joinB (joinB a ++ joinB b) = joinB (a ++ b) := by
  have h1 := fold_join [] _ a rfl
  have h2 := fold_join (joinB a) _ b rfl
  unfold joinB at *
  rw [List.foldl_append, h1, h2, List.foldl_append]

/-! ### code points -/
theorem encZ_ne (r : Int) : encZ r ≠ [] := by
  rw [encZ_eq]
  unfold Utf8.encode
  dsimp only
  repeat' split
  all_goals simp
theorem encL_ne (r : Nat) : encL r ≠ [] := by rw [encL_eq]; exact encZ_ne _
theorem encL_le (r : Nat) : (encL r).length ≤ 4 := by
  rw [encL_eq, encZ_eq]
  have h := encode_size_le (r : Int)
  have h2 := Lib.size_eq (Utf8.encode (r : Int))
  omega
def pieceT (m : List ByteArray) (r : Nat) : Tree := .mk TEXT ⟨(encL r).toArray⟩ m [] []
def cutOne (x : Tree) : List Tree := if isTxt x.kind then (pts x.text.data.toList).map (pieceT x.marks) else [x]
def cutB (ks : List Tree) : List Tree := ks.flatMap cutOne
theorem cutB_snoc (ks : List Tree) (x : Tree) : cutB (ks ++ [x]) = cutB ks ++ cutOne x := by simp [cutB]
theorem isTxt_TEXT : isTxt TEXT = true := by decide +kernel
theorem piece_marks (m : List ByteArray) (r : Nat) : (pieceT m r).marks = m := rfl
theorem back_arr (a b : List UInt8) (t : ByteArray) (h : a ++ b = t.data.toList) : (⟨((⟨a.toArray⟩ : ByteArray).data.toList ++ b).toArray⟩ : ByteArray) = t := ByteArray.ext (Array.ext' (by simpa using h))
theorem piece_text (m : List ByteArray) (r : Nat) : (pieceT m r).text.toList.isEmpty = false := by
  cases h : (pieceT m r).text.toList.isEmpty with
  | false => rfl
  | true => exact absurd (empty_data.1 h) (by simpa [pieceT, Tree.text] using encL_ne r)
theorem cut_fold (J : List Tree) (m : List ByteArray) : ∀ (ps : List Nat) (t : ByteArray), (ps.map (pieceT m)).foldl joinStep (J ++ [.mk TEXT t m [] []]) = J ++ [.mk TEXT ⟨(t.data.toList ++ (ps.map encL).flatten).toArray⟩ m [] []]
  | [], t => by simp
  | r :: ps, t => by
    have hs : joinStep (J ++ [.mk TEXT t m [] []]) (pieceT m r) = J ++ [.mk TEXT (t ++ ⟨(encL r).toArray⟩) m [] []] := by
      have hon : joinsOn (.mk TEXT t m [] []) (pieceT m r) = true := by
        show (isTxt TEXT && sameL m m) = true
        rw [isTxt_TEXT, sameL_all rfl fun _ _ => by simp]; rfl
      have hst := joinStep_on (out := J ++ [Tree.mk TEXT t m [] []]) (n := pieceT m r) (z := Tree.mk TEXT t m [] []) (by simp) isTxt_TEXT (piece_text m r) hon
      rw [hst, List.dropLast_concat]
      rfl
    rw [List.map_cons, List.foldl_cons, hs, cut_fold J m ps]
    simp [ByteArray.data_append]

theorem text_form {x : Tree} (hk : isTxt x.kind = true) (hf : formedB x = true) : ∃ t m, x = .mk TEXT t m [] [] ∧ t.data.toList ≠ [] ∧ Lib.validD t.data.toList = true := by
  rw [formed_text hk] at hf
  obtain ⟨h1, h2, _, h4, h5⟩ := textB_parts hf
  obtain ⟨k, t, m, a, l⟩ := x
  simp only [Tree.kind, Tree.text, Tree.attrs, Tree.kids] at *
  exact ⟨t, m, by rw [isTxt_eq hk, List.eq_nil_of_length_eq_zero h4, List.eq_nil_of_length_eq_zero h5], h1, h2⟩
theorem cut_stays : ∀ (l out : List Tree), rowB out.getLast? l = true → (cutB l).foldl joinStep out = out ++ l
  | [], out, _ => by simp [cutB]
  | x :: l, out, h => by
    have h' := h
    simp only [rowB, Bool.and_eq_true, Bool.not_eq_true'] at h
    obtain ⟨ha, hf, hr⟩ := h
    have hc : cutB (x :: l) = cutOne x ++ cutB l := by simp [cutB]
    have hs : (cutOne x).foldl joinStep out = out ++ [x] := by
      cases hk : isTxt x.kind with
      | false => simp only [cutOne, hk, Bool.false_eq_true, if_false, List.foldl_cons, List.foldl_nil]; exact joinStep_plain hk
      | true =>
        obtain ⟨t, m, rfl, hne, hv⟩ := text_form hk hf
        have hb : backB t.data.toList = t.data.toList := back_valid _ _ (Nat.le_refl _) hv
        simp only [cutOne, hk, if_true, Tree.text, Tree.marks]
        unfold backB at hb
        rw [pts_step _ hne] at hb ⊢
        have h1 : joinStep out (pieceT m (Lib.decodeL t.data.toList).1) = out ++ [pieceT m (Lib.decodeL t.data.toList).1] := by
          cases hz : out.getLast? with
          | none =>
            have : out = [] := List.getLast?_eq_none_iff.1 hz
            subst this; exact joinStep_first (piece_text m _)
          | some z =>
            rw [hz] at ha
            simp only [alikeO, alikeB, hk, Bool.true_and] at ha
            have hj : joinsOn z (pieceT m (Lib.decodeL t.data.toList).1) = false := by unfold joinsOn; rw [piece_marks]; exact ha
            exact joinStep_other hz (piece_text m _) hj
        rw [List.map_cons, List.foldl_cons, h1]
        have h3 := cut_fold out m (pts (t.data.toList.drop (Lib.decodeL t.data.toList).2)) ⟨(encL (Lib.decodeL t.data.toList).1).toArray⟩
        have h4 : pieceT m (Lib.decodeL t.data.toList).1 = .mk TEXT ⟨(encL (Lib.decodeL t.data.toList).1).toArray⟩ m [] [] := by rw [pieceT]
        rw [h4, h3]
        rw [List.map_cons, List.flatten_cons] at hb
        rw [back_arr _ _ t hb]
    rw [hc, List.foldl_append, hs, cut_stays l _ (by simpa using hr), List.append_assoc]; rfl
theorem cutB_join (ks : List Tree) (h : rowB none ks = true) : joinB (cutB ks) = ks := by
  have := cut_stays ks [] (by simpa using h)
  simpa [joinB] using this

/-! ### how much -/
theorem pieces_weigh (m : List ByteArray) (ps : List Nat) : weighAll (ps.map (pieceT m)) ≤ ps.length * (weighL m + 10) := by
  induction ps with
  | nil => simp [weighAll]
  | cons r ps ih =>
    have h4 : TEXT.size = 4 := by decide +kernel
    have h5 := encL_le r
    have h6 : (⟨(encL r).toArray⟩ : ByteArray).size = (encL r).length := by simp [ByteArray.size]
    have h7 : weigh (pieceT m r) ≤ weighL m + 10 := by
      simp only [pieceT, weigh, weighP, weighAll, List.map_nil, List.sum_nil, h4, h6]; omega
    simp only [List.map_cons, weighAll, List.length_cons]
    rw [Nat.succ_mul]; omega
theorem pts_le (l : List UInt8) : (pts l).length ≤ l.length := by
  rw [pts_count]
  have := Lib.runeCount_le ⟨l.toArray⟩
  unfold Lib.runeCountL
  simpa [ByteArray.size] using this
theorem cutOne_weigh (x : Tree) : weighAll (cutOne x) ≤ weigh x * (weigh x + 10) := by
  unfold cutOne
  split
  · have h1 := pieces_weigh x.marks (pts x.text.data.toList)
    have h2 := pts_le x.text.data.toList
    have h3 := Lib.size_eq x.text
    have h4 : x.text.size ≤ weigh x := text_le_weigh x
    have h5 : weighL x.marks ≤ weigh x := by obtain ⟨k, t, m, a, l⟩ := x; simp only [weigh, Tree.marks]; omega
    exact Nat.le_trans h1 (Nat.mul_le_mul (by omega) (by omega))
  · simp only [weighAll, Nat.add_zero]
    have : weigh x * 1 ≤ weigh x * (weigh x + 10) := Nat.mul_le_mul_left _ (by omega)
    omega
theorem cutB_weigh (W : Nat) : ∀ ks : List Tree, weighAll ks ≤ W → weighAll (cutB ks) ≤ weighAll ks * (W + 10)
  | [], _ => by simp [cutB, weighAll]
  | x :: l, h => by
    have hc : cutB (x :: l) = cutOne x ++ cutB l := by simp [cutB]
    simp only [weighAll] at h ⊢
    have h1 := cutOne_weigh x
    have h2 := cutB_weigh W l (by omega)
    have h3 : weigh x * (weigh x + 10) ≤ weigh x * (W + 10) := Nat.mul_le_mul_left _ (by omega)
    rw [hc, weighAll_append, Nat.add_mul]; omega
theorem cutB_take (ks : List Tree) (i : Nat) (x : Tree) (h : ks.take (i + 1) = ks.take i ++ [x]) : cutB (ks.take (i + 1)) = cutB (ks.take i) ++ cutOne x := by rw [h, cutB_snoc]
theorem cutB_take_le (ks : List Tree) (i : Nat) : weighAll (cutB (ks.take i)) ≤ weighAll (cutB ks) := by
  have h : cutB ks = cutB (ks.take i) ++ cutB (ks.drop i) := by
    unfold cutB; rw [← List.flatMap_append, List.take_append_drop]
  rw [h, weighAll_append]; omega
end Go.Proofs.YtggoebbfgkebcaaGreatDoor

namespace Go.Proofs.YtggoebbfgkebcaaGreatDoor
open Go.RowKit Go.Sort

/-! ### where code points end -/
theorem atB_app : ∀ (k : Nat) (a b : List UInt8), a.length ≤ k → Lib.validD a = true → atB (Lib.runeCountL a) (a ++ b) = a.length
  | 0, a, b, hk, _ => by
    have : a = [] := List.eq_nil_of_length_eq_zero (by omega)
    subst this; simp [rc_nil, atB]
  | k + 1, a, b, hk, h => by
    by_cases hne : a = []
    · subst hne; simp [rc_nil, atB]
    · have hv : ¬ ((Lib.decodeL a).1 = 65533 ∧ (Lib.decodeL a).2 = 1) := fun hh => by rw [Lib.validD_step a hne, if_pos hh] at h; cases h
      have h1 : Lib.validD (a.drop (Lib.decodeL a).2) = true := by rw [Lib.validD_step a hne, if_neg hv] at h; exact h
      have hw := Lib.decodeL_width a
      have hle := Lib.decodeL_le a hne
      have hl : 0 < a.length := List.length_pos_iff.2 hne
      have ih := atB_app k (a.drop (Lib.decodeL a).2) b (by rw [List.length_drop]; omega) h1
      rw [rc_step a hne, Nat.add_comm, atB, if_neg (by simp [hne]), decodeL_app a b hne hv, List.drop_append_of_le_length hle, ih, List.length_drop]
      omega
theorem text_cut (a b : ByteArray) (h : Lib.validD a.data.toList = true) : atB (Lib.runeCount a) (a ++ b).data.toList = a.size := by
  rw [← Lib.runeCountL_eq, ByteArray.data_append, Array.toList_append, atB_app _ _ _ (Nat.le_refl _) h, Lib.size_eq]

/-! ### sizes -/
theorem rc_pos {l : List UInt8} (h : l ≠ []) : 0 < Lib.runeCountL l := by rw [rc_step l h]; omega
theorem size_pos {x : Tree} (h : formedB x = true) : 0 < sizeB x := by
  cases hk : isTxt x.kind with
  | false => rw [sizeB_node hk]; omega
  | true =>
    rw [formed_text hk] at h
    rw [sizeB_text hk, ← Lib.runeCountL_eq]
    exact rc_pos (textB_parts h).1
theorem row_tail {p : Option Tree} {x : Tree} {l : List Tree} (h : rowB p (x :: l) = true) : alikeO p x = false ∧ formedB x = true ∧ rowB (some x) l = true := by
  simpa [rowB] using h
theorem row_of {p : Option Tree} {x : Tree} {l : List Tree} (h1 : alikeO p x = false) (h2 : formedB x = true) (h3 : rowB (some x) l = true) : rowB p (x :: l) = true := by
  simp [rowB, h1, h2, h3]
theorem row_none {p : Option Tree} {l : List Tree} (h : rowB p l = true) : rowB none l = true := by
  cases l with
  | nil => simp [rowB]
  | cons x l => obtain ⟨_, h2, h3⟩ := row_tail h; exact row_of rfl h2 h3
theorem row_like {z y : Tree} {l : List Tree} (hk : z.kind = y.kind) (hm : z.marks = y.marks) (h : rowB (some y) l = true) : rowB (some z) l = true := by
  cases l with
  | nil => simp [rowB]
  | cons x l => obtain ⟨h1, h2, h3⟩ := row_tail h; exact row_of (by simpa [alikeO, alike_like hk hm] using h1) h2 h3
theorem rowFormed {p : Option Tree} {l : List Tree} (h : rowB p l = true) : ∀ x ∈ l, formedB x = true := by
  induction l generalizing p with
  | nil => intro x hx; cases hx
  | cons y l ih =>
    obtain ⟨_, h2, h3⟩ := row_tail h
    intro x hx
    rcases List.mem_cons.1 hx with e | e
    · rw [e]; exact h2
    · exact ih h3 x e

/-! ### a text, cut -/
structure Cuts2 (x : Tree) (n : Nat) : Prop where
  lf : formedB (cutL x n) = true
  rf : formedB (cutR x n) = true
  ls : sizeB (cutL x n) = n
  rs : sizeB (cutR x n) + n = sizeB x
  tx : (cutL x n).text ++ (cutR x n).text = x.text
theorem cutL_kind (x : Tree) (n : Nat) : (cutL x n).kind = x.kind := rfl
theorem cutR_kind (x : Tree) (n : Nat) : (cutR x n).kind = x.kind := rfl
theorem cutL_marks (x : Tree) (n : Nat) : (cutL x n).marks = x.marks := rfl
theorem cutR_marks (x : Tree) (n : Nat) : (cutR x n).marks = x.marks := rfl
theorem ext0 (s : ByteArray) (k : Nat) : (s.extract 0 k).data.toList = s.data.toList.take k := by
  simp [List.extract_eq_take_drop]
theorem ext1 (s : ByteArray) (k : Nat) : (s.extract k s.size).data.toList = s.data.toList.drop k := by
  simp only [ByteArray.data_extract, Array.toList_extract, List.extract_eq_take_drop]
  rw [List.take_of_length_le]
  rw [List.length_drop, Lib.size_eq]; omega
theorem cuts2 {x : Tree} {n : Nat} (hk : isTxt x.kind = true) (h : formedB x = true) (h0 : n ≠ 0) (hn : n < sizeB x) : Cuts2 x n := by
  have hf := h
  rw [formed_text hk] at hf
  obtain ⟨h1, h2, h3, h4, h5⟩ := textB_parts hf
  have hs := sizeB_text hk
  rw [← Lib.runeCountL_eq] at hs
  obtain ⟨c1, c2, c3, c4⟩ := cut_valid n x.text.data.toList h2 (by omega)
  have tl : (cutL x n).text.data.toList = x.text.data.toList.take (atB n x.text.data.toList) := ext0 _ _
  have tr : (cutR x n).text.data.toList = x.text.data.toList.drop (atB n x.text.data.toList) := ext1 _ _
  have sl : sizeB (cutL x n) = n := by rw [sizeB_text (x := cutL x n) hk, ← Lib.runeCountL_eq, tl, c3]
  have sr : sizeB (cutR x n) = Lib.runeCountL (x.text.data.toList.drop (atB n x.text.data.toList)) := by rw [sizeB_text (x := cutR x n) hk, ← Lib.runeCountL_eq, tr]
  refine ⟨?_, ?_, sl, by omega, ?_⟩
  · rw [formed_text (t := cutL x n) hk]
    refine textB_of ?_ (by rw [tl]; exact c1) h3 h4 h5
    intro e; rw [tl] at e; rw [e, rc_nil] at c3; omega
  · rw [formed_text (t := cutR x n) hk]
    refine textB_of ?_ (by rw [tr]; exact c2) h3 h4 h5
    intro e; rw [tr] at e; rw [e, rc_nil] at c4; omega
  · apply ByteArray.ext; apply Array.ext'
    rw [ByteArray.data_append, Array.toList_append, tl, tr, List.take_append_drop]
theorem set_cut {x : Tree} {n : Nat} (h : (cutL x n).text ++ (cutR x n).text = x.text) : setText (cutR x n) ((cutL x n).text ++ (cutR x n).text) = x := by
  rw [h]; obtain ⟨k, t, m, a, l⟩ := x; rfl

/-! ### split, and joined -/
theorem step_new {out : List Tree} {x : Tree} (ha : alikeO out.getLast? x = false) (hf : formedB x = true) : joinStep out x = out ++ [x] := by
  cases hk : isTxt x.kind with
  | false => exact joinStep_plain hk
  | true =>
    rw [formed_text hk] at hf
    have he : x.text.toList.isEmpty = false := by
      cases h : x.text.toList.isEmpty with
      | false => rfl
      | true => exact absurd (empty_data.1 h) (textB_parts hf).1
    cases hz : out.getLast? with
    | none =>
      have : out = [] := List.getLast?_eq_none_iff.1 hz
      subst this; exact joinStep_first he
    | some z =>
      rw [hz] at ha
      simp only [alikeO, alikeB, hk, Bool.true_and] at ha
      exact joinStep_other hz he ha
theorem text_ne {x : Tree} (hk : isTxt x.kind = true) (hf : formedB x = true) : x.text.toList.isEmpty = false := by
  rw [formed_text hk] at hf
  cases h : x.text.toList.isEmpty with
  | false => rfl
  | true => exact absurd (empty_data.1 h) (textB_parts hf).1
theorem step_old {out : List Tree} {z x : Tree} (hz : out.getLast? = some z) (ha : alikeB z x = true) (hf : formedB x = true) : joinStep out x = out.dropLast ++ [setText x (z.text ++ x.text)] := by
  simp only [alikeB, Bool.and_eq_true] at ha
  exact joinStep_on hz ha.2.1 (text_ne ha.2.1 hf) (by simp [joinsOn, ha.1, ha.2.2])

/-- What is split of a row that is right. -/
structure Parts (p : Option Tree) (K : List Tree) (n : Nat) (A C : List Tree) : Prop where
  ahead : rowB p A = true
  behind : rowB none C = true
  total : totalB A = n
  all : totalB A + totalB C = totalB K
  deepA : deepB A ≤ deepB K
  deepC : deepB C ≤ deepB K
  join : ∀ out : List Tree, out.getLast? = p → (A ++ C).foldl joinStep out = out ++ K
theorem depth_text {x : Tree} (h : isTxt x.kind = true) : depthB x = 0 := by obtain ⟨k, t, m, a, l⟩ := x; simp only [Tree.kind] at h; simp [depthB, h]
theorem parts_of : ∀ (K : List Tree) (p : Option Tree) (n : Nat) (A C : List Tree), rowB p K = true → splitB K n = (0, A, C) → Parts p K n A C
  | [], p, n, A, C, hr, h => by
    rw [splitB] at h
    split at h
    · rename_i h0
      simp only [Prod.mk.injEq, true_and] at h
      obtain ⟨rfl, rfl⟩ := h
      subst h0; exact ⟨by simp [rowB], by simp [rowB], rfl, rfl, Nat.le_refl _, Nat.le_refl _, fun out _ => by simp⟩
    · simp at h
  | x :: l, p, n, A, C, hr, h => by
    obtain ⟨ha, hf, hl⟩ := row_tail hr
    rw [splitB] at h
    split at h
    · rename_i hs
      unfold preB at h
      split at h
      · rename_i hc
        simp only [Prod.mk.injEq, true_and] at h
        obtain ⟨rfl, rfl⟩ := h
        have ih := parts_of l (some x) (n - sizeB x) (splitB l (n - sizeB x)).2.1 (splitB l (n - sizeB x)).2.2 hl (Prod.ext hc rfl)
        refine ⟨row_of ha hf ih.ahead, ih.behind, ?_, ?_, ?_, ?_, ?_⟩
        · have := ih.total; simp only [List.cons_append, List.nil_append, totalB]; omega
        · have := ih.all; simp only [List.cons_append, List.nil_append, totalB]; omega
        · have := ih.deepA; simp only [List.cons_append, List.nil_append, deepB]; omega
        · have := ih.deepC; simp only [deepB]; omega
        · intro out ho
          subst ho
          rw [List.cons_append, List.nil_append, List.cons_append, List.foldl_cons, step_new ha hf, ih.join _ (by simp), List.append_assoc]; rfl
      · rename_i hc
        simp only [Prod.mk.injEq] at h
        exact absurd h.1 hc
    · rename_i hs
      split at h
      · rename_i h0
        simp only [Prod.mk.injEq, true_and] at h
        obtain ⟨rfl, rfl⟩ := h
        refine ⟨by simp [rowB], row_none hr, by simp [totalB, h0], by simp [totalB], by simp [deepB], Nat.le_refl _, ?_⟩
        intro out ho
        subst ho
        rw [List.nil_append]; exact row_stays _ _ hr
      · rename_i h0
        split at h
        · rename_i hk
          simp only [Prod.mk.injEq, true_and] at h
          obtain ⟨rfl, rfl⟩ := h
          have hc := cuts2 hk hf h0 (by omega)
          refine ⟨row_of ?_ hc.lf (by simp [rowB]), row_of rfl hc.rf (row_like (y := x) rfl rfl hl), ?_, ?_, ?_, ?_, ?_⟩
          · rw [← ha]
            cases p with
            | none => rfl
            | some y => rfl
          · have := hc.ls; simp only [totalB]; omega
          · have := hc.rs; have := hc.ls; simp only [totalB]; omega
          · simp [deepB, depth_text (x := cutL x n) hk]
          · simp only [deepB, depth_text (x := cutR x n) hk, depth_text hk]; omega
          · intro out ho
            subst ho
            have h1 : joinStep out (cutL x n) = out ++ [cutL x n] := step_new (by
              rw [← ha]
              cases out.getLast? with
              | none => rfl
              | some y => rfl) hc.lf
            have h2 : joinStep (out ++ [cutL x n]) (cutR x n) = out ++ [x] := by
              rw [step_old (z := cutL x n) (by simp) (by simp [alikeB, cutL_kind, cutR_kind, cutL_marks, cutR_marks, hk, sameL_all rfl fun _ _ => by simp]) hc.rf, set_cut hc.tx]
              simp
            rw [List.cons_append, List.nil_append, List.foldl_cons, List.foldl_cons, h1, h2, row_stays l _ (by simpa using hl), List.append_assoc]; rfl
        · simp at h
theorem Parts.joins {K : List Tree} {n : Nat} {A C : List Tree} (h : Parts none K n A C) : joinB (A ++ C) = K := by
  have := h.join [] rfl
  simpa [joinB] using this

/-- How a split ends. -/
theorem split_code : ∀ (K : List Tree) (n : Nat), n ≤ totalB K → (splitB K n).1 = 0 ∨ (splitB K n).1 = 10
  | [], n, h => by
    simp only [totalB] at h
    left; rw [splitB, if_pos (by omega)]
  | x :: l, n, h => by
    simp only [totalB] at h
    rw [splitB]
    split
    · have ih := split_code l (n - sizeB x) (by omega)
      unfold preB
      split
      · exact .inl rfl
      · exact ih
    · split
      · exact .inl rfl
      · split
        · exact .inl rfl
        · exact .inr rfl

/-! ### joined, and split -/
theorem split_pre : ∀ (A R : List Tree) (n : Nat), splitB (A ++ R) (totalB A + n) = preB A (splitB R n)
  | [], R, n => by
    rw [List.nil_append, totalB, Nat.zero_add, preB_nil]
    exact splitB_err R n
  | x :: A, R, n => by
    rw [List.cons_append, splitB, totalB, if_pos (by omega), show sizeB x + totalB A + n - sizeB x = totalB A + n by omega, split_pre A R n, preB_pre]; rfl
theorem split_zero {C : List Tree} (h : rowB none C = true) : splitB C 0 = (0, [], C) := by
  cases C with
  | nil => rw [splitB]; rfl
  | cons c C =>
    have := size_pos (row_tail h).2.1
    rw [splitB, if_neg (by omega), if_pos rfl]
theorem join_two {A C : List Tree} (hA : rowB none A = true) : joinB (A ++ C) = C.foldl joinStep A := by
  have := joinB_stays A hA
  unfold joinB at *
  rw [List.foldl_append, this]
/-- Two rows that are right, joined: one behind the other, or both texts that meet as one. -/
theorem join_forms {A C : List Tree} (hA : rowB none A = true) (hC : rowB none C = true) :
    joinB (A ++ C) = A ++ C ∨ ∃ A0 C0 tz tc m, A = A0 ++ [.mk TEXT tz m [] []] ∧ C = .mk TEXT tc m [] [] :: C0 ∧ joinB (A ++ C) = A0 ++ .mk TEXT (tz ++ tc) m [] [] :: C0 ∧
      tz.data.toList ≠ [] ∧ tc.data.toList ≠ [] ∧ Lib.validD tz.data.toList = true := by
  rw [join_two hA]
  cases C with
  | nil => left; simp
  | cons c C =>
    obtain ⟨_, h2, h3⟩ := row_tail hC
    cases hl : alikeO A.getLast? c with
    | false => exact .inl (row_stays _ A (row_of hl h2 h3))
    | true =>
      right
      cases hz : A.getLast? with
      | none => rw [hz] at hl; cases hl
      | some z =>
        rw [hz] at hl
        simp only [alikeO] at hl
        have hl' := hl
        simp only [alikeB, Bool.and_eq_true] at hl'
        have hzf := rowFormed hA z (List.mem_of_getLast? hz)
        obtain ⟨tz, mz, rfl, z1, z2⟩ := text_form hl'.1 hzf
        obtain ⟨tc, mc, rfl, c1, c2⟩ := text_form hl'.2.1 h2
        have hm : mz = mc := sameL_eq hl'.2.2
        subst hm
        refine ⟨A.dropLast, C, tz, tc, mz, dropLast_getLast? hz, rfl, ?_, z1, c1, z2⟩
        have hr : rowB (A.dropLast ++ [setText (Tree.mk TEXT tc mz [] []) (tz ++ tc)]).getLast? C = true := by
          rw [List.getLast?_concat]; exact row_like (y := Tree.mk TEXT tc mz [] []) rfl rfl h3
        rw [List.foldl_cons, step_old hz hl h2]
        have := row_stays C _ hr
        rw [List.append_assoc] at this
        exact this
theorem split_join {A C : List Tree} (hA : rowB none A = true) (hC : rowB none C = true) : splitB (joinB (A ++ C)) (totalB A) = (0, A, C) := by
  rcases join_forms hA hC with h | ⟨A0, C0, tz, tc, m, rfl, rfl, h, z1, c1, z2⟩
  · rw [h]
    have := split_pre A C 0
    rw [Nat.add_zero, split_zero hC] at this
    rw [this]; simp [preB]
  · rw [h]
    have ht : totalB (A0 ++ [Tree.mk TEXT tz m [] []]) = totalB A0 + Lib.runeCount tz := by
      rw [totalB_append]; simp [totalB, sizeB, isTxt_TEXT]
    have hp : 0 < Lib.runeCount tz := by rw [← Lib.runeCountL_eq]; exact rc_pos z1
    have hq : 0 < Lib.runeCount tc := by rw [← Lib.runeCountL_eq]; exact rc_pos c1
    have hs : sizeB (Tree.mk TEXT (tz ++ tc) m [] []) = Lib.runeCount tz + Lib.runeCount tc := by
      rw [sizeB_text (x := Tree.mk TEXT (tz ++ tc) m [] []) isTxt_TEXT]; exact runeCount_app tz tc z2
    rw [ht, split_pre, splitB, if_neg (by omega), if_neg (by omega), if_pos (show isTxt (Tree.mk TEXT (tz ++ tc) m [] []).kind = true from isTxt_TEXT)]
    have hat : atB (Lib.runeCount tz) (tz ++ tc).data.toList = tz.size := text_cut tz tc z2
    have e1 : cutL (Tree.mk TEXT (tz ++ tc) m [] []) (Lib.runeCount tz) = Tree.mk TEXT tz m [] [] := by
      show Tree.mk TEXT ((tz ++ tc).extract 0 (atB (Lib.runeCount tz) (tz ++ tc).data.toList)) m [] [] = _
      rw [hat]
      congr 1
      apply ByteArray.ext; apply Array.ext'
      rw [ext0, ByteArray.data_append, Array.toList_append, List.take_append_of_le_length (by rw [Lib.size_eq]; exact Nat.le_refl _), List.take_of_length_le (by rw [Lib.size_eq]; exact Nat.le_refl _)]
    have e2 : cutR (Tree.mk TEXT (tz ++ tc) m [] []) (Lib.runeCount tz) = Tree.mk TEXT tc m [] [] := by
      show Tree.mk TEXT ((tz ++ tc).extract (atB (Lib.runeCount tz) (tz ++ tc).data.toList) (tz ++ tc).size) m [] [] = _
      rw [hat]
      congr 1
      apply ByteArray.ext; apply Array.ext'
      rw [ext1, ByteArray.data_append, Array.toList_append, List.drop_append_of_le_length (by rw [Lib.size_eq]; exact Nat.le_refl _), List.drop_of_length_le (by rw [Lib.size_eq]; exact Nat.le_refl _), List.nil_append]
    rw [e1, e2, preB, if_pos rfl]
theorem split_in {A D : List Tree} {n : Nat} (hA : rowB none A = true) (hD : rowB none D = true) (h : (splitB D n).1 ≠ 0) : (splitB (joinB (A ++ D)) (totalB A + n)).1 ≠ 0 := by
  have hpre : ∀ (a : List Tree) (r : Spl), r.1 ≠ 0 → (preB a r).1 ≠ 0 := fun a r hr => by unfold preB; rw [if_neg hr]; exact hr
  rcases join_forms hA hD with e | ⟨A0, C0, tz, tc, m, rfl, rfl, e, z1, c1, z2⟩
  · rw [e, split_pre]; exact hpre _ _ h
  · have ht : totalB (A0 ++ [Tree.mk TEXT tz m [] []]) = totalB A0 + Lib.runeCount tz := by
      rw [totalB_append]; simp [totalB, sizeB, isTxt_TEXT]
    have hs : sizeB (Tree.mk TEXT (tz ++ tc) m [] []) = Lib.runeCount tz + Lib.runeCount tc := by
      rw [sizeB_text (x := Tree.mk TEXT (tz ++ tc) m [] []) isTxt_TEXT]; exact runeCount_app tz tc z2
    have hc : sizeB (Tree.mk TEXT tc m [] []) = Lib.runeCount tc := sizeB_text (x := Tree.mk TEXT tc m [] []) isTxt_TEXT
    rw [e, ht, Nat.add_assoc, split_pre]
    refine hpre _ _ ?_
    rw [splitB] at h
    split at h
    · rename_i hn
      have h2 : (splitB C0 (n - sizeB (Tree.mk TEXT tc m [] []))).1 ≠ 0 := fun e => h (by unfold preB; rw [if_pos e])
      rw [splitB, if_pos (by omega), show Lib.runeCount tz + n - sizeB (Tree.mk TEXT (tz ++ tc) m [] []) = n - sizeB (Tree.mk TEXT tc m [] []) by omega]
      exact hpre _ _ h2
    · split at h
      · exact absurd rfl h
      · rw [if_pos (show isTxt (Tree.mk TEXT tc m [] []).kind = true from isTxt_TEXT)] at h; exact absurd rfl h
/-- Split at two places: the later first, or the earlier. -/
theorem split_three {K A D B C : List Tree} {a b : Nat} (hK : rowB none K = true) (h1 : splitB K a = (0, A, D)) (h2 : splitB K b = (0, B, C)) (hab : a ≤ b) :
    ∃ M, splitB D (b - a) = (0, M, C) ∧ splitB B a = (0, A, M) ∧ rowB none M = true ∧ joinB (A ++ M) = B ∧ joinB (M ++ C) = D ∧ totalB M = b - a ∧ deepB M ≤ deepB K := by
  have pA := parts_of K none a A D hK h1
  have pB := parts_of K none b B C hK h2
  have tA := pA.total
  have aA := pA.all
  have tB := pB.total
  have aB := pB.all
  have key : (splitB D (b - a)).1 = 0 := by
    rcases split_code D (b - a) (by omega) with h | h
    · exact h
    · exfalso
      have := split_in pA.ahead pA.behind (n := b - a) (by rw [h]; decide)
      rw [pA.joins, show totalB A + (b - a) = b by omega, h2] at this
      exact this rfl
  have pM := parts_of D none (b - a) (splitB D (b - a)).2.1 (splitB D (b - a)).2.2 pA.behind (Prod.ext key rfl)
  have hs : splitB D (b - a) = (0, (splitB D (b - a)).2.1, (splitB D (b - a)).2.2) := Prod.ext key rfl
  generalize (splitB D (b - a)).2.1 = M at *
  generalize (splitB D (b - a)).2.2 = C' at *
  have tM := pM.total
  have hfm : ∀ x ∈ A ++ M, formedB x = true := fun x hx => by
    rcases List.mem_append.1 hx with e | e
    · exact rowFormed pA.ahead x e
    · exact rowFormed pM.ahead x e
  have hJ : joinB (joinB (A ++ M) ++ C') = K := by
    have e1 := joinB_parts (A ++ M) C'
    rw [joinB_stays C' pM.behind] at e1
    have e2 := joinB_parts A (M ++ C')
    rw [joinB_stays A pA.ahead, pM.joins] at e2
    rw [e1, List.append_assoc, ← e2]; exact pA.joins
  have hS := split_join (joinB_row _ hfm) pM.behind
  rw [hJ, joinB_total _ hfm, totalB_append, show totalB A + totalB M = b by omega, h2] at hS
  simp only [Prod.mk.injEq, true_and] at hS
  obtain ⟨hB, rfl⟩ := hS
  refine ⟨M, hs, ?_, pM.ahead, hB.symm, pM.joins, tM, Nat.le_trans pM.deepA pA.deepC⟩
  have := split_join pA.ahead pM.ahead
  rw [← hB, tA] at this; exact this
theorem kids_row {t : Tree} (hT : isTxt t.kind = false) (hf : formedB t = true) : rowB none t.kids = true := by
  obtain ⟨k, x, ms, a, l⟩ := t
  simp only [Tree.kind, Tree.kids] at *
  rw [formedB, if_neg (by simp [hT]), Bool.and_eq_true] at hf
  exact hf.2
end Go.Proofs.YtggoebbfgkebcaaGreatDoor

namespace Go.Proofs.YtggoebbfgkebcaaGreatDoor
open Go.RowKit Go.Sort Go.Maps

theorem pts_app : ∀ (n : Nat) (a b : List UInt8), a.length ≤ n → Lib.validD a = true → pts (a ++ b) = pts a ++ pts b
  | 0, a, b, hn, _ => by
    have : a = [] := List.eq_nil_of_length_eq_zero (by omega)
    subst this; rw [List.nil_append, pts_nil, List.nil_append]
  | n + 1, a, b, hn, ha => by
    by_cases hne : a = []
    · subst hne; rw [List.nil_append, pts_nil, List.nil_append]
    · rw [Lib.validD_step a hne] at ha
      split at ha
      · cases ha
      · rename_i hv
        have hw := Lib.decodeL_width a
        have hle := Lib.decodeL_le a hne
        have hl : 0 < a.length := List.length_pos_iff.2 hne
        rw [pts_step (a ++ b) (by simp [hne]), pts_step a hne, decodeL_app a b hne hv, List.drop_append_of_le_length hle, pts_app n _ b (by rw [List.length_drop]; omega) ha, List.cons_append]
theorem head_like {x y : Tree} (hk : x.kind = y.kind) (hm : x.marks = y.marks) (ha : x.attrs = y.attrs) : headT x = headT y := by unfold headT headW; rw [hk, hm, ha]
theorem tok_cat (a b : ByteArray) (m : List ByteArray) (h : Lib.validD a.data.toList = true) : tokB (.mk TEXT (a ++ b) m [] []) = tokB (.mk TEXT a m [] []) ++ tokB (.mk TEXT b m [] []) := by
  rw [tokB_text (.mk TEXT (a ++ b) m [] []) isTxt_TEXT, tokB_text (.mk TEXT a m [] []) isTxt_TEXT, tokB_text (.mk TEXT b m [] []) isTxt_TEXT]
  have h1 : headT (.mk TEXT (a ++ b) m [] []) = headT (.mk TEXT a m [] []) := head_like rfl rfl rfl
  have h2 : headT (.mk TEXT b m [] []) = headT (.mk TEXT a m [] []) := head_like rfl rfl rfl
  rw [h1, h2, ← List.map_append]
  congr 1
  show pts (a ++ b).data.toList = _
  rw [ByteArray.data_append, Array.toList_append]
  exact pts_app _ _ _ (Nat.le_refl _) h
theorem toks_two {A C : List Tree} (hA : rowB none A = true) (hC : rowB none C = true) : toksB (joinB (A ++ C)) = toksB A ++ toksB C := by
  rcases join_forms hA hC with e | ⟨A0, C0, tz, tc, m, rfl, rfl, e, z1, c1, z2⟩
  · rw [e, toksB_append]
  · rw [e, toksB_append, toksB_append, toksB_one, toksB, toksB, tok_cat tz tc m z2, List.append_assoc, List.append_assoc]
end Go.Proofs.YtggoebbfgkebcaaGreatDoor

namespace Go.Proofs.YtggoebbfgkebcaaGreatDoor
open Go.RowKit Go.Sort Go.Maps

def Shut (r : List Tok) : Prop := ∀ x, r.head? = some x → x.kind = 99
theorem runs_eq {α : Type} (P : α → Prop) : ∀ (a b s s' : List α), (∀ x ∈ a, P x) → (∀ x ∈ b, P x) → (∀ x, s.head? = some x → ¬ P x) → (∀ x, s'.head? = some x → ¬ P x) → a ++ s = b ++ s' → a = b ∧ s = s'
  | [], [], s, s', _, _, _, _, h => ⟨rfl, by simpa using h⟩
  | [], y :: b, s, s', _, hb, hs, _, h => by
    exfalso
    rw [List.nil_append] at h
    exact hs y (by rw [h]; rfl) (hb y (by simp))
  | x :: a, [], s, s', ha, _, _, hs', h => by
    exfalso
    rw [List.nil_append] at h
    exact hs' x (by rw [← h]; rfl) (ha x (by simp))
  | x :: a, y :: b, s, s', ha, hb, hs, hs', h => by
    rw [List.cons_append, List.cons_append] at h
    injection h with h1 h2
    obtain ⟨e1, e2⟩ := runs_eq P a b s s' (fun z hz => ha z (by simp [hz])) (fun z hz => hb z (by simp [hz])) hs hs' h2
    exact ⟨by rw [h1, e1], e2⟩
theorem headT_eq {x y : Tree} (h : headT x = headT y) : headW x = headW y := by
  unfold headT at h
  have := congrArg (fun s : ByteArray => s.data.toList) h
  simpa using this
theorem head_marks {x y : Tree} (hx : isTxt x.kind = true) (hy : isTxt y.kind = true) (fx : formedB x = true) (fy : formedB y = true) (h : headT x = headT y) : x.marks = y.marks := by
  have h1 := headT_eq h
  rw [headW, if_pos hx, headW, if_pos hy] at h1
  rw [formed_text hx] at fx
  rw [formed_text hy] at fy
  exact (marks_inj x.marks y.marks [] [] (marks_names (textB_parts fx).2.2.1) (marks_names (textB_parts fy).2.2.1) (by intro c hc; cases hc) (by intro c hc; cases hc) (by simpa using h1)).1
theorem attrsW_head (a : List (ByteArray × ByteArray)) (r : List UInt8) : ∃ c s, attrsW a ++ 91 :: r = c :: s ∧ small c = false := by
  unfold attrsW
  split
  · exact ⟨91, r, rfl, by decide⟩
  · exact ⟨40, _, rfl, by decide⟩
theorem head_node {x y : Tree} (hx : isTxt x.kind = false) (hy : isTxt y.kind = false) (fx : formedB x = true) (fy : formedB y = true) (h : headT x = headT y) : x.kind = y.kind ∧ x.attrs = y.attrs ∧ x.text = y.text ∧ x.marks = y.marks := by
  have h1 := headT_eq h
  rw [headW, if_neg (by rw [hx]; decide), headW, if_neg (by rw [hy]; decide)] at h1
  obtain ⟨k, t, m, a, l⟩ := x
  obtain ⟨k', t', m', a', l'⟩ := y
  simp only [Tree.kind, Tree.text, Tree.marks, Tree.attrs] at *
  obtain ⟨p1, p2, p3, p4, _⟩ := node_parts hx fx
  obtain ⟨q1, q2, q3, q4, _⟩ := node_parts hy fy
  have h2 := congrArg (fun l => l ++ [(91 : UInt8)]) h1
  simp only [List.append_assoc] at h2
  obtain ⟨c, s, e1, e2⟩ := attrsW_head a []
  obtain ⟨c', s', e3, e4⟩ := attrsW_head a' []
  rw [e1, e3] at h2
  obtain ⟨i1, i2, i3⟩ := letters_inj k.data.toList k'.data.toList s s' c c' (name_small p1) (name_small q1) e2 e4 h2
  have e5 : attrsW a ++ 91 :: [] = attrsW a' ++ 91 :: [] := by rw [e1, e3, i2, i3]
  obtain ⟨j1, _⟩ := attrs_inj a a' [] [] (attrs_names p4) (attrs_names q4) e5
  exact ⟨bytes_of i1, j1, bytes_of (by rw [p2, q2]), by rw [p3, q3]⟩
theorem tok_text_kind {x : Tree} (hx : isTxt x.kind = true) : ∀ z ∈ tokB x, z.kind = 116 ∧ z.head = headT x := by
  intro z hz
  rw [tokB_text x hx] at hz
  obtain ⟨r, _, rfl⟩ := List.mem_map.1 hz
  exact ⟨rfl, rfl⟩
theorem tok_text_cons {x : Tree} (hx : isTxt x.kind = true) (fx : formedB x = true) : ∃ z s, tokB x = z :: s := by
  rw [formed_text hx] at fx
  rw [tokB_text x hx, pts_step _ (textB_parts fx).1]
  exact ⟨_, _, rfl⟩
/-- What a row of tokens begins with. -/
theorem toks_head {x : Tree} {l : List Tree} {r : List Tok} (fx : formedB x = true) : ∃ z, (toksB (x :: l) ++ r).head? = some z ∧ (isTxt x.kind = true → z.kind = 116 ∧ z.head = headT x) ∧ (isTxt x.kind = false → z = openT (headT x)) := by
  rw [toksB, List.append_assoc]
  cases hk : isTxt x.kind with
  | true =>
    obtain ⟨z, s, e⟩ := tok_text_cons hk fx
    rw [e]
    exact ⟨z, rfl, fun _ => tok_text_kind hk z (by rw [e]; simp), fun h => by cases h⟩
  | false =>
    rw [tokB_node x hk]
    exact ⟨_, rfl, fun h => (by cases h), fun _ => rfl⟩
theorem pts_back {a b : ByteArray} (ha : Lib.validD a.data.toList = true) (hb : Lib.validD b.data.toList = true) (h : (pts a.data.toList).map encL = (pts b.data.toList).map encL) : a = b := by
  have h1 := back_valid _ _ (Nat.le_refl _) ha
  have h2 := back_valid _ _ (Nat.le_refl _) hb
  unfold backB at h1 h2
  rw [h, h2] at h1
  exact bytes_of h1.symm
theorem signT_text (h : ByteArray) (r : Nat) : (signT h r).text = encB r := by
  unfold signT
  generalize encB r = s
  rfl
theorem signs_text (h h' : ByteArray) : ∀ (a b : List Nat), a.map (signT h) = b.map (signT h') → a.map encL = b.map encL
  | [], [], _ => rfl
  | [], y :: b, e => by simp at e
  | x :: a, [], e => by simp at e
  | x :: a, y :: b, e => by
    rw [List.map_cons, List.map_cons] at e
    obtain ⟨e1, e2⟩ := List.cons.inj e
    have e3 : encB x = encB y := by rw [← signT_text h x, e1, signT_text]
    have e4 : encL x = encL y := by
      rw [encL_eq, encL_eq, encZ_eq, encZ_eq, ← encB_eq, ← encB_eq, e3]
    rw [List.map_cons, List.map_cons, e4, signs_text h h' a b e2]
theorem toks_inj : ∀ (n : Nat) (l l' : List Tree) (r r' : List Tok), (toksB l).length ≤ n → rowB none l = true → rowB none l' = true → Shut r → Shut r' → toksB l ++ r = toksB l' ++ r' → l = l' ∧ r = r'
  | _, [], [], r, r', _, _, _, _, _, h => ⟨rfl, by simpa [toksB] using h⟩
  | _, [], y :: l', r, r', _, _, hl', hr, _, h => by
    exfalso
    obtain ⟨z, h1, h2, h3⟩ := toks_head (l := l') (r := r') (row_tail hl').2.1
    rw [← h, toksB, List.nil_append] at h1
    have := hr z h1
    cases hk : isTxt y.kind with
    | true => rw [(h2 hk).1] at this; cases this
    | false => rw [h3 hk] at this; cases this
  | _, x :: l, [], r, r', _, hl, _, _, hr', h => by
    exfalso
    obtain ⟨z, h1, h2, h3⟩ := toks_head (l := l) (r := r) (row_tail hl).2.1
    rw [h, toksB, List.nil_append] at h1
    have := hr' z h1
    cases hk : isTxt x.kind with
    | true => rw [(h2 hk).1] at this; cases this
    | false => rw [h3 hk] at this; cases this
  | 0, x :: l, y :: l', r, r', hn, hl, _, _, _, _ => by
    exfalso
    rw [toksB_len, totalB] at hn
    have := size_pos (row_tail hl).2.1
    omega
  | n + 1, x :: l, y :: l', r, r', hn, hl, hl', hr, hr', h => by
    obtain ⟨_, fx, gx⟩ := row_tail hl
    obtain ⟨_, fy, gy⟩ := row_tail hl'
    obtain ⟨z, z1, z2, z3⟩ := toks_head (l := l) (r := r) fx
    obtain ⟨z', z1', z2', z3'⟩ := toks_head (l := l') (r := r') fy
    rw [h, z1', Option.some.injEq] at z1
    subst z1
    cases hx : isTxt x.kind with
    | true =>
      cases hy : isTxt y.kind with
      | false => have := (z2 hx).1; rw [z3' hy] at this; cases this
      | true =>
        have hh : headT x = headT y := by rw [← (z2 hx).2, (z2' hy).2]
        have hm := head_marks hx hy fx fy hh
        have P1 : ∀ (w : Tree) (k : List Tree) (s : List Tok), isTxt w.kind = true → formedB w = true → headT w = headT x → rowB (some w) k = true → Shut s → ∀ q, (toksB k ++ s).head? = some q → ¬ (q.kind = 116 ∧ q.head = headT x) := by
          intro w k s hw fw hwx hk hs q hq hP
          cases k with
          | nil =>
            rw [toksB, List.nil_append] at hq
            have := hs q hq
            rw [hP.1] at this; cases this
          | cons v k =>
            obtain ⟨av, fv, _⟩ := row_tail hk
            obtain ⟨q', q1, q2, q3⟩ := toks_head (l := k) (r := s) fv
            rw [hq, Option.some.injEq] at q1
            subst q1
            cases hv : isTxt v.kind with
            | false => rw [q3 hv] at hP; exact absurd hP.1 (show ¬ (111 : Nat) = 116 by decide)
            | true =>
              have hvx : headT w = headT v := by rw [hwx, ← hP.2, (q2 hv).2]
              have := head_marks hw hv fw fv hvx
              simp only [alikeO, alikeB, hw, hv, Bool.true_and] at av
              rw [this, sameL_all rfl fun _ _ => by simp] at av
              cases av
        rw [toksB, toksB, List.append_assoc, List.append_assoc] at h
        obtain ⟨e1, e2⟩ := runs_eq (fun q : Tok => q.kind = 116 ∧ q.head = headT x) _ _ _ _ (tok_text_kind hx) (fun q hq => by have := tok_text_kind hy q hq; rw [hh]; exact this) (P1 x l r hx fx rfl gx hr) (P1 y l' r' hy fy hh.symm gy hr') h
        obtain ⟨tx, mx, rfl, x1, x2⟩ := text_form hx fx
        obtain ⟨ty, my, rfl, y1, y2⟩ := text_form hy fy
        have hm' : mx = my := hm
        subst hm'
        rw [tokB_text (.mk TEXT tx mx [] []) isTxt_TEXT, tokB_text (.mk TEXT ty mx [] []) isTxt_TEXT] at e1
        have ht : tx = ty := pts_back x2 y2 (signs_text _ _ _ _ e1)
        subst ht
        have hlen : (toksB l).length ≤ n := by
          rw [toksB_len, totalB] at hn
          have := size_pos fx
          rw [toksB_len]; omega
        obtain ⟨i1, i2⟩ := toks_inj n l l' r r' hlen (row_none gx) (row_none gy) hr hr' e2
        exact ⟨by rw [i1], i2⟩
    | false =>
      cases hy : isTxt y.kind with
      | true => have := (z2' hy).1; rw [z3 hx] at this; cases this
      | false =>
        have hh : headT x = headT y := by
          have := z3 hx
          rw [z3' hy] at this
          exact (congrArg Tok.head this).symm
        obtain ⟨k1, k2, k3, k4⟩ := head_node hx hy fx fy hh
        rw [toksB, toksB, tokB_node x hx, tokB_node y hy, hh] at h
        simp only [List.cons_append, List.append_assoc, List.nil_append] at h
        injection h with _ h
        have hlx : (toksB x.kids).length ≤ n ∧ (toksB l).length ≤ n := by
          rw [toksB_len, totalB, sizeB_node hx] at hn
          rw [toksB_len, toksB_len]; omega
        obtain ⟨i1, i2⟩ := toks_inj n x.kids y.kids _ _ hlx.1 (kids_row hx fx) (kids_row hy fy) (by intro q hq; simp at hq; subst hq; rfl) (by intro q hq; simp at hq; subst hq; rfl) h
        injection i2 with _ i3
        obtain ⟨j1, j2⟩ := toks_inj n l l' r r' hlx.2 (row_none gx) (row_none gy) hr hr' i3
        refine ⟨?_, j2⟩
        rw [j1]
        congr 1
        obtain ⟨k, t, m, a, lx⟩ := x
        obtain ⟨k', t', m', a', ly⟩ := y
        simp only [Tree.kind, Tree.text, Tree.marks, Tree.attrs, Tree.kids] at *
        rw [k1, k2, k3, k4, i1]
theorem kids_inj {l l' : List Tree} (h : rowB none l = true) (h' : rowB none l' = true) (e : toksB l = toksB l') : l = l' :=
  (toks_inj _ l l' [] [] (Nat.le_refl _) h h' (by intro x hx; cases hx) (by intro x hx; cases hx) (by rw [e])).1
end Go.Proofs.YtggoebbfgkebcaaGreatDoor
