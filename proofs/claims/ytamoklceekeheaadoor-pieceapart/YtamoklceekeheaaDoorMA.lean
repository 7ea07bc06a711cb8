/-
  What start and isThere answer.
  How nodes are written, as plain functions on trees; two right nodes are written alike just if they are the same (no program is named here).
  What the codec's writing calls answer: Quote, Head, Print.
  What the codec's writing calls answer: writeMarks, writeAttrs, writeHead, writeAll, written, Print.
  append of one thing to a row of the call's own.
  The walk of Resolve, as facts: what its rows hold, and how a round changes them.
  What Resolve answers.
  What isThere, Pos, Inner and Start answer.
  What Pos, Inner and Start answer.
  What Inner and Start answer.
  What slices.Equal answers of paths, and what spanOf answers.
  The chapter's example (at the head of the statements of chapter 4), and whether two spots are the same.
  The document of the statements, its spots, and calls in regions that draw their order.
  What spanOf answers, where both positions are in one node.
  What isDocument and areKids answer.
-/
import Derived.Test.YtamoklceekeheaaDoorPlB
import Derived.Test.YtamoklceekeheaaDoorRightA
import Derived.Test.YtamoklceekeheaaDoorW14
import Derived.Test.YtamoklceekeheaaDoorW11a
import Derived.Laws.RangeAny
import Derived.Test.YtamoklceekeheaaDoorW23
import Derived.Test.YtamoklceekeheaaDoorQi
import Derived.Test.YtamoklceekeheaaDoorW13a
import Derived.Test.YtamoklceekeheaaDoorW26
namespace Go.Proofs.YtamoklceekeheaaDoor
open Go.RowKit Go.Sort

theorem rowAt_take {w : World} {S : Nat → Prop} {l : List Tree} {b o : Nat} (h : RowAt w S l b o) (j : Nat) : RowAt w S (l.take j) b o := by
  refine rowAt_of _ b o fun i t hi => rowAt_get l b o h i t ?_
  have hij : i < j := by have := (List.getElem?_eq_some_iff.1 hi).1; rw [List.length_take] at this; omega
  rwa [List.getElem?_take_of_lt hij] at hi
theorem Kids.upto {w : World} {S : Nat → Prop} {A : Option Addr} {n c : Nat} {l : List Tree} (h : Kids w S (.slice A n c) l) {j : Nat} (hj : j ≤ l.length) : Kids w S (.slice A j c) (l.take j) := by
  obtain ⟨A', c', hv, h1, h2, h3⟩ := h
  injection hv with hA hn hc
  subst hA; subst hc
  refine ⟨A, c, by rw [List.length_take, Nat.min_eq_left hj], by rw [List.length_take]; omega, h2, ?_⟩
  rcases h3 with rfl | ⟨b, o, rfl, hb, hr⟩
  · exact .inl (by simp)
  · exact .inr ⟨b, o, rfl, hb, rowAt_take hr j⟩
theorem Kids.len {w : World} {S : Nat → Prop} {A : Option Addr} {n c : Nat} {l : List Tree} (h : Kids w S (.slice A n c) l) : n = l.length ∧ l.length ≤ c ∧ c ≤ maxLen := by
  obtain ⟨A', c', hv, h1, h2, _⟩ := h
  injection hv with _ h3 h4
  subst h4
  exact ⟨h3, h1, h2⟩

set_option maxHeartbeats 4000000 in
theorem start_any (v vp : Value) (t u : Tree) (p : List Int) (w : World) (h : Node w (Under w.heap.size) v t) (hp : Ints w (Under w.heap.size) vp p) (hgo : goB t p = some u) (hw : weigh t ≤ 1000000) :
    Calls Tryd.prog 72 #[v, vp] w fun e w' => e = .returned (.int .i64 (startB t p)) ∧ Below w.heap.size w w' := by
  have HP := Lib.hid hp
  have HN := Lib.hid h
  obtain ⟨A1, n1, c1, A2, n2, c2, A3, c3, rfl⟩ := h.forms
  obtain ⟨Ap, cp, rfl, hpc⟩ := hp.form
  have hpm := hp.len.2.2
  unfold maxLen at hpm
  have hsw := startB_weigh p t
  have HGO := Lib.hid hgo
  clear hp h hgo
  go_enter Tryd.func72, Tryd.ntmps72
  go_wp2
  go_loopw [5, 10] (fun s i wr => ∃ (k n : Nat) (y : Tree), k ≤ p.length ∧ i = .int .i64 k ∧ s = .int .i64 n ∧ Below w.heap.size w wr ∧ w.heap.size + 1 ≤ wr.heap.size ∧ weigh y ≤ 1000000 ∧ n + startB y (p.drop k) = startB t p ∧ Hid (goB y (p.drop k) = some u) ∧ Hid (Box w wr w.heap.size y)) (fun _ i _ => p.length - (intOf i).toNat)
  case atStart =>
    exact ⟨0, 0, t, by omega, rfl, rfl, (Below.refl _ _).alloc (Nat.le_refl _) _, by simp, hw, by simp, Lib.hid HGO.out, Lib.hid ⟨_, _, _, _, _, _, _, _, heap_new _ _, HN.out⟩⟩
  case round =>
    obtain ⟨k, n, y, hk, rfl, rfl, hb, hz, hwy, hst, hgy, hbox⟩ := hrel
    obtain ⟨B1, m1, d1, B2, m2, d2, B3, d3, hbl, hny⟩ := hbox.out
    obtain ⟨x0, x1, x2, x3, x4⟩ := cells5 hbl
    have HNY := Lib.hid hny
    have HB := Lib.hid hb
    have HBL := Lib.hid hbl
    by_cases hlt : k < p.length
    · have hpx : p[k]? = some p[k] := List.getElem?_eq_getElem hlt
      generalize p[k] = x at *
      obtain ⟨bp, op, rfl, hup, hcx⟩ := HP.out.get hpx
      have z0 := (HB.out.cell (p := ⟨bp, op + k, none⟩) hup).trans hcx
      have hd := drop_cons hpx
      obtain ⟨y', hky, hgy'⟩ : ∃ y', kidAt y x = some y' ∧ goB y' (p.drop (k + 1)) = some u := by
        have := hgy.out
        rw [hd, goB] at this
        cases hq : kidAt y x with
        | none => rw [hq] at this; cases this
        | some y' => rw [hq] at this; exact ⟨y', rfl, this⟩
      obtain ⟨hty, hx0, hju⟩ := kidAt_some hky
      rw [hd, startB, hju] at hst
      obtain ⟨j, rfl⟩ : ∃ j : Nat, x = (j : Int) := ⟨x.toNat, by omega⟩
      rw [Int.toNat_natCast] at hju hst
      simp only at hst
      have hj : j < y.kids.length := (List.getElem?_eq_some_iff.1 hju).1
      have hwk := weigh_kid hju
      have hws := kids_weigh y
      have hjl := length_le_weigh y.kids
      have HWT : Hid (weighAll (y.kids.take j) ≤ 1000000) := Lib.hid (by omega)
      have hlen := hny.kidsOf.len
      have hlc := hlen.2.1
      have HTK : Hid (∀ W, Below w.heap.size w W → w.heap.size ≤ W.heap.size → Kids W (Under W.heap.size) (.slice B3 j d3) (y.kids.take j)) := Lib.hid fun W hW hz => ((HNY.out.kidsOf.upto (Nat.le_of_lt hj)).below hW).more hz
      obtain ⟨by', oy, E1, l1, e1, E2, l2, e2, E3, e3, rfl, huy, r0, r1, r2, r3, r4, hny'⟩ := hny.kidsOf.kid hju
      have HNY' := Lib.hid hny'
      have HR := Lib.hid (And.intro r0 (And.intro r1 (And.intro r2 (And.intro r3 r4))))
      have i1 : j ≤ d3 := by omega
      have HGY := Lib.hid hgy'
      clear hcx hpx hny hbl hb hlen hny' r0 r1 r2 r3 r4 hgy' hky hty hju hd hx0 hgy hbox
      go_wp2_with fail
      refine (total_any _ (y.kids.take j) _ (HTK.out _ HB.out (by omega)) HWT.out).mono ?_
      rintro e w1 ⟨rfl, hb1⟩
      have hn1 := (hb1.block w.heap.size (by omega)).trans HBL.out
      have HB1 := Lib.hid (belowNext HB.out (hb1.mono (Nat.le_refl _)))
      have hz1 := hb1.size
      have HN1 := Lib.hid hn1
      clear x0 x1 x2 x3 x4 z0 hb1 HBL
      obtain ⟨x0, x1, x2, x3, x4⟩ := cells5 hn1
      have hf : ∀ j, w1.frozen? ⟨w.heap.size, j, none⟩ = false := fun j => frozen_of_row _ _ j _ _ hn1
      have f0 := hf 0
      have f1 := hf 1
      have f2 := hf 2
      have f3 := hf 3
      have f4 := hf 4
      have s0 := (HB1.out.cell (p := ⟨by', oy + j * 5, none⟩) huy).trans HR.out.1
      have s1 := (HB1.out.cell (p := ⟨by', oy + j * 5 + 1, none⟩) huy).trans HR.out.2.1
      have s2 := (HB1.out.cell (p := ⟨by', oy + j * 5 + 2, none⟩) huy).trans HR.out.2.2.1
      have s3 := (HB1.out.cell (p := ⟨by', oy + j * 5 + 3, none⟩) huy).trans HR.out.2.2.2.1
      have s4 := (HB1.out.cell (p := ⟨by', oy + j * 5 + 4, none⟩) huy).trans HR.out.2.2.2.2
      have HST := Lib.hid hst
      generalize totalB (y.kids.take j) = tt at *
      clear hf hn1
      go_wp2
      refine ⟨⟨k + 1, n + (tt + 1), y', by omega, by go_num, by go_num, put5z_below (Nat.le_refl _) HB1.out, ?_, by omega, by have := HST.out; omega, HGY, Lib.hid ⟨_, _, _, _, _, _, _, _, put5z_block HN1.out, HNY'.out⟩⟩, by simp [intOf]; omega⟩
      have := put5z_size (w := w1) (g := w.heap.size) (v0 := .string y'.kind) (v1 := .string y'.text) (v2 := .slice E1 l1 e1) (v3 := .slice E2 l2 e2) (v4 := .slice E3 y'.kids.length e3)
      unfold put5z at this
      omega
    · rw [List.drop_of_length_le (by omega), startB] at hst
      go_wp2
      go_ret
      exact ⟨by rw [← hst]; rfl, HB.out⟩
end Go.Proofs.YtamoklceekeheaaDoor

namespace Go.Proofs.YtamoklceekeheaaDoor
open Go.RowKit Go.Sort

def escL : List UInt8 → List UInt8
  | [] => []
  | c :: l => if c == 34 || c == 92 then 92 :: c :: escL l else c :: escL l
def quoteL (l : List UInt8) : List UInt8 := 34 :: (escL l ++ [34])
def commaM : List ByteArray → List UInt8
  | [] => []
  | [s] => s.data.toList
  | s :: l => s.data.toList ++ 44 :: commaM l
def marksW (l : List ByteArray) : List UInt8 := if l.isEmpty then [] else 60 :: (commaM l ++ [62])
def attrW (p : ByteArray × ByteArray) : List UInt8 := p.1.data.toList ++ 61 :: quoteL p.2.data.toList
def blankA : List (ByteArray × ByteArray) → List UInt8
  | [] => []
  | [p] => attrW p
  | p :: l => attrW p ++ 32 :: blankA l
def attrsW (l : List (ByteArray × ByteArray)) : List UInt8 := if l.isEmpty then [] else 40 :: (blankA l ++ [41])
def headW (t : Tree) : List UInt8 := if isTxt t.kind then marksW t.marks else t.kind.data.toList ++ attrsW t.attrs
mutual
def writeB : Tree → List UInt8
  | .mk k t m a l => if isTxt k then quoteL t.data.toList ++ marksW m else (k.data.toList ++ attrsW a) ++ 91 :: (writeAllB l ++ [93])
def writeAllB : List Tree → List UInt8
  | [] => []
  | x :: l => writeB x ++ writeAllB l
end

theorem escL_snoc (l : List UInt8) (c : UInt8) : escL (l ++ [c]) = escL l ++ (if c == 34 || c == 92 then [92, c] else [c]) := by
  induction l with
  | nil => simp only [List.nil_append, escL]
  | cons d l ih => simp only [List.cons_append, escL, ih]; split <;> simp
theorem commaM_snoc (l : List ByteArray) (x : ByteArray) : commaM (l ++ [x]) = if l.isEmpty then x.data.toList else commaM l ++ 44 :: x.data.toList := by
  induction l with
  | nil => simp [commaM]
  | cons d l ih =>
    cases l with
    | nil => simp [commaM]
    | cons e l => simp only [List.cons_append, commaM] at ih ⊢; rw [ih]; simp
theorem blankA_snoc (l : List (ByteArray × ByteArray)) (x : ByteArray × ByteArray) : blankA (l ++ [x]) = if l.isEmpty then attrW x else blankA l ++ 32 :: attrW x := by
  induction l with
  | nil => simp [blankA]
  | cons d l ih =>
    cases l with
    | nil => simp [blankA]
    | cons e l => simp only [List.cons_append, blankA] at ih ⊢; rw [ih]; simp
theorem writeAllB_append (a b : List Tree) : writeAllB (a ++ b) = writeAllB a ++ writeAllB b := by
  induction a with
  | nil => simp [writeAllB]
  | cons x l ih => simp only [List.cons_append, writeAllB, ih, List.append_assoc]

/-! ### how long -/
theorem escL_le (l : List UInt8) : (escL l).length ≤ 2 * l.length := by
  induction l with
  | nil => simp [escL]
  | cons c l ih => simp only [escL]; split <;> simp only [List.length_cons] <;> omega
theorem escL_ge (l : List UInt8) : l.length ≤ (escL l).length := by
  induction l with
  | nil => simp [escL]
  | cons c l ih => simp only [escL]; split <;> simp only [List.length_cons] <;> omega
theorem quoteL_le (l : List UInt8) : (quoteL l).length ≤ 2 * l.length + 2 := by have := escL_le l; simp only [quoteL, List.length_cons, List.length_append, List.length_nil]; omega
theorem commaM_le : ∀ l : List ByteArray, (commaM l).length ≤ weighL l
  | [] => by simp [commaM]
  | [s] => by have := Lib.size_eq s; simp only [commaM, weighL, List.map_cons, List.map_nil, List.sum_cons, List.sum_nil]; omega
  | s :: s' :: l => by
    have := commaM_le (s' :: l); have := Lib.size_eq s
    simp only [commaM, weighL, List.map_cons, List.sum_cons, List.length_append, List.length_cons] at *; omega
theorem marksW_le (l : List ByteArray) : (marksW l).length ≤ weighL l + 2 := by
  have := commaM_le l
  unfold marksW; split <;> simp only [List.length_nil, List.length_cons, List.length_append] <;> omega
theorem blankA_le : ∀ l : List (ByteArray × ByteArray), (blankA l).length ≤ 4 * weighP l
  | [] => by simp [blankA]
  | [p] => by
    have := Lib.size_eq p.1; have := Lib.size_eq p.2; have := quoteL_le p.2.data.toList
    simp only [blankA, attrW, weighP, List.map_cons, List.map_nil, List.sum_cons, List.sum_nil, List.length_append, List.length_cons]; omega
  | p :: q :: l => by
    have := blankA_le (q :: l); have := Lib.size_eq p.1; have := Lib.size_eq p.2; have := quoteL_le p.2.data.toList
    simp only [blankA, attrW, weighP, List.map_cons, List.sum_cons, List.length_append, List.length_cons] at *; omega
theorem attrsW_le (l : List (ByteArray × ByteArray)) : (attrsW l).length ≤ 4 * weighP l + 2 := by
  have := blankA_le l
  unfold attrsW; split <;> simp only [List.length_nil, List.length_cons, List.length_append] <;> omega
mutual
theorem writeB_le : ∀ t : Tree, (writeB t).length ≤ 4 * weigh t
  | .mk k t m a l => by
    have h1 := writeAllB_le l
    have h2 := quoteL_le t.data.toList
    have h3 := Lib.size_eq t
    have h4 := Lib.size_eq k
    have h5 := marksW_le m
    have h6 := attrsW_le a
    simp only [writeB, weigh]; split <;> simp only [List.length_append, List.length_cons, List.length_nil] <;> omega
theorem writeAllB_le : ∀ l : List Tree, (writeAllB l).length ≤ 4 * weighAll l
  | [] => by simp [writeAllB]
  | x :: l => by have h1 := writeB_le x; have h2 := writeAllB_le l; simp only [writeAllB, weighAll, List.length_append]; omega
end

/-! ### written alike, the same -/
theorem esc_inj : ∀ (l l' r r' : List UInt8), escL l ++ 34 :: r = escL l' ++ 34 :: r' → l = l' ∧ r = r'
  | [], [], r, r', h => by simpa [escL] using h
  | [], c :: l', r, r', h => by
    simp only [escL] at h
    split at h
    · simp at h
    · rename_i hc
      simp only [List.nil_append, List.cons_append, List.cons.injEq] at h
      exact absurd (by rw [← h.1]; rfl) hc
  | c :: l, [], r, r', h => by
    simp only [escL] at h
    split at h
    · simp at h
    · rename_i hc
      simp only [List.nil_append, List.cons_append, List.cons.injEq] at h
      exact absurd (by rw [h.1]; rfl) hc
  | c :: l, c' :: l', r, r', h => by
    simp only [escL] at h
    split at h
    · split at h
      · simp only [List.cons_append, List.cons.injEq, true_and] at h
        obtain ⟨e, h⟩ := h
        obtain ⟨h1, h2⟩ := esc_inj l l' r r' h
        exact ⟨by rw [e, h1], h2⟩
      · rename_i hc'
        simp only [List.cons_append, List.cons.injEq] at h
        exact absurd (by rw [← h.1]; rfl) hc'
    · rename_i hc
      split at h
      · simp only [List.cons_append, List.cons.injEq] at h
        exact absurd (by rw [h.1]; rfl) hc
      · simp only [List.cons_append, List.cons.injEq] at h
        obtain ⟨e, h⟩ := h
        obtain ⟨h1, h2⟩ := esc_inj l l' r r' h
        exact ⟨by rw [e, h1], h2⟩
theorem quote_inj {l l' r r' : List UInt8} (h : quoteL l ++ r = quoteL l' ++ r') : l = l' ∧ r = r' := by
  simp only [quoteL, List.cons_append, List.append_assoc, List.cons.injEq, true_and, List.nil_append] at h
  exact esc_inj l l' r r' h
theorem letters_inj : ∀ (a b r r' : List UInt8) (x y : UInt8), (∀ c ∈ a, small c = true) → (∀ c ∈ b, small c = true) → small x = false → small y = false → a ++ x :: r = b ++ y :: r' → a = b ∧ x = y ∧ r = r'
  | [], [], r, r', x, y, _, _, _, _, h => by simp at h; exact ⟨rfl, h.1, h.2⟩
  | [], c :: b, r, r', x, y, _, hb, hx, _, h => by
    simp only [List.nil_append, List.cons_append, List.cons.injEq] at h
    have := hb c (by simp); rw [← h.1, hx] at this; cases this
  | c :: a, [], r, r', x, y, ha, _, _, hy, h => by
    simp only [List.nil_append, List.cons_append, List.cons.injEq] at h
    have := ha c (by simp); rw [h.1, hy] at this; cases this
  | c :: a, d :: b, r, r', x, y, ha, hb, hx, hy, h => by
    simp only [List.cons_append, List.cons.injEq] at h
    obtain ⟨h1, h2, h3⟩ := letters_inj a b r r' x y (fun c hc => ha c (by simp [hc])) (fun c hc => hb c (by simp [hc])) hx hy h.2
    exact ⟨by rw [h.1, h1], h2, h3⟩
theorem name_small {s : ByteArray} (h : nameB s = true) : ∀ c ∈ s.data.toList, small c = true := by
  simp only [nameB, Bool.and_eq_true, List.all_eq_true] at h
  exact h.2.2.2
theorem name_ne {s : ByteArray} (h : nameB s = true) : s.data.toList ≠ [] := by
  simp only [nameB, Bool.and_eq_true, decide_eq_true_eq] at h
  have := Lib.size_eq s
  intro e; rw [e, List.length_nil] at this; omega
theorem bytes_of {s t : ByteArray} (h : s.data.toList = t.data.toList) : s = t := ByteArray.ext (Array.ext' h)
theorem marks_names {m : List ByteArray} (h : marksB m = true) : ∀ s ∈ m, nameB s = true := by
  intro s hs
  obtain ⟨i, hi, rfl⟩ := List.getElem_of_mem hs
  simp only [marksB, List.all_eq_true, List.mem_range] at h
  have := h i hi
  simp only [markOk, Bool.and_eq_true, List.getD, List.getElem?_eq_getElem hi, Option.getD_some] at this
  exact this.1
theorem attrs_names {m : List (ByteArray × ByteArray)} (h : attrsB m = true) : ∀ p ∈ m, nameB p.1 = true := by
  intro s hs
  obtain ⟨i, hi, rfl⟩ := List.getElem_of_mem hs
  simp only [attrsB, List.all_eq_true, List.mem_range] at h
  have := h i hi
  simp only [attrOk, pairAt, Bool.and_eq_true, List.getD, List.getElem?_eq_getElem hi, Option.getD_some] at this
  exact this.1
theorem comma_inj : ∀ (m m' : List ByteArray) (r r' : List UInt8), m ≠ [] → m' ≠ [] → (∀ s ∈ m, nameB s = true) → (∀ s ∈ m', nameB s = true) → commaM m ++ 62 :: r = commaM m' ++ 62 :: r' → m = m' ∧ r = r'
  | [], _, _, _, h, _, _, _, _ => absurd rfl h
  | _ :: _, [], _, _, _, h, _, _, _ => absurd rfl h
  | [s], [s'], r, r', _, _, hm, hm', h => by
    obtain ⟨h1, _, h3⟩ := letters_inj _ _ _ _ _ _ (name_small (hm s (by simp))) (name_small (hm' s' (by simp))) (by decide) (by decide) h
    exact ⟨by rw [bytes_of h1], h3⟩
  | [s], s' :: t' :: l', r, r', _, _, hm, hm', h => by
    simp only [commaM, List.append_assoc, List.cons_append] at h
    obtain ⟨_, h2, _⟩ := letters_inj _ _ _ _ _ _ (name_small (hm s (by simp))) (name_small (hm' s' (by simp))) (by decide) (by decide) h
    exact absurd h2 (by decide)
  | s :: t :: l, [s'], r, r', _, _, hm, hm', h => by
    simp only [commaM, List.append_assoc, List.cons_append] at h
    obtain ⟨_, h2, _⟩ := letters_inj _ _ _ _ _ _ (name_small (hm s (by simp))) (name_small (hm' s' (by simp))) (by decide) (by decide) h
    exact absurd h2 (by decide)
  | s :: t :: l, s' :: t' :: l', r, r', _, _, hm, hm', h => by
    simp only [commaM, List.append_assoc, List.cons_append] at h
    obtain ⟨h1, _, h3⟩ := letters_inj _ _ _ _ _ _ (name_small (hm s (by simp))) (name_small (hm' s' (by simp))) (by decide) (by decide) h
    obtain ⟨h4, h5⟩ := comma_inj (t :: l) (t' :: l') r r' (by simp) (by simp) (fun x hx => hm x (by simp [hx])) (fun x hx => hm' x (by simp [hx])) h3
    exact ⟨by rw [bytes_of h1, h4], h5⟩
theorem blank_inj : ∀ (m m' : List (ByteArray × ByteArray)) (r r' : List UInt8), m ≠ [] → m' ≠ [] → (∀ s ∈ m, nameB s.1 = true) → (∀ s ∈ m', nameB s.1 = true) → blankA m ++ 41 :: r = blankA m' ++ 41 :: r' → m = m' ∧ r = r'
  | [], _, _, _, h, _, _, _, _ => absurd rfl h
  | _ :: _, [], _, _, _, h, _, _, _ => absurd rfl h
  | [s], [s'], r, r', _, _, hm, hm', h => by
    simp only [blankA, attrW, List.append_assoc, List.cons_append] at h
    obtain ⟨h1, _, h3⟩ := letters_inj _ _ _ _ _ _ (name_small (hm s (by simp))) (name_small (hm' s' (by simp))) (by decide) (by decide) h
    obtain ⟨h4, h5⟩ := quote_inj h3
    simp only [List.cons.injEq, true_and] at h5
    exact ⟨by rw [Prod.ext (bytes_of h1) (bytes_of h4)], h5⟩
  | [s], s' :: t' :: l', r, r', _, _, hm, hm', h => by
    simp only [blankA, attrW, List.append_assoc, List.cons_append] at h
    obtain ⟨h1, _, h3⟩ := letters_inj _ _ _ _ _ _ (name_small (hm s (by simp))) (name_small (hm' s' (by simp))) (by decide) (by decide) h
    obtain ⟨h4, h5⟩ := quote_inj h3
    simp only [List.cons.injEq] at h5
    exact absurd h5.1 (by decide)
  | s :: t :: l, [s'], r, r', _, _, hm, hm', h => by
    simp only [blankA, attrW, List.append_assoc, List.cons_append] at h
    obtain ⟨h1, _, h3⟩ := letters_inj _ _ _ _ _ _ (name_small (hm s (by simp))) (name_small (hm' s' (by simp))) (by decide) (by decide) h
    obtain ⟨h4, h5⟩ := quote_inj h3
    simp only [List.cons.injEq] at h5
    exact absurd h5.1 (by decide)
  | s :: t :: l, s' :: t' :: l', r, r', _, _, hm, hm', h => by
    simp only [blankA, attrW, List.append_assoc, List.cons_append] at h
    obtain ⟨h1, _, h3⟩ := letters_inj _ _ _ _ _ _ (name_small (hm s (by simp))) (name_small (hm' s' (by simp))) (by decide) (by decide) h
    obtain ⟨h4, h5⟩ := quote_inj h3
    simp only [List.cons.injEq, true_and] at h5
    obtain ⟨h6, h7⟩ := blank_inj (t :: l) (t' :: l') r r' (by simp) (by simp) (fun x hx => hm x (by simp [hx])) (fun x hx => hm' x (by simp [hx])) h5
    exact ⟨by rw [Prod.ext (bytes_of h1) (bytes_of h4), h6], h7⟩
/-- What may stand behind a node. -/
def Aft (r : List UInt8) : Prop := ∀ c, r.head? = some c → c ≠ 60
theorem marks_inj (m m' : List ByteArray) (r r' : List UInt8) (hm : ∀ s ∈ m, nameB s = true) (hm' : ∀ s ∈ m', nameB s = true) (hr : Aft r) (hr' : Aft r') (h : marksW m ++ r = marksW m' ++ r') : m = m' ∧ r = r' := by
  unfold marksW at h
  cases m with
  | nil =>
    cases m' with
    | nil => exact ⟨rfl, by simpa using h⟩
    | cons s' l' =>
      simp at h
      exact absurd rfl (hr 60 (by rw [h]; rfl))
  | cons s l =>
    cases m' with
    | nil =>
      simp at h
      exact absurd rfl (hr' 60 (by rw [← h]; rfl))
    | cons s' l' =>
      simp only [List.isEmpty_cons, Bool.false_eq_true, if_false, List.cons_append, List.append_assoc, List.nil_append, List.cons.injEq, true_and] at h
      exact comma_inj (s :: l) (s' :: l') r r' (by simp) (by simp) hm hm' h
theorem attrs_inj (m m' : List (ByteArray × ByteArray)) (r r' : List UInt8) (hm : ∀ s ∈ m, nameB s.1 = true) (hm' : ∀ s ∈ m', nameB s.1 = true) (h : attrsW m ++ 91 :: r = attrsW m' ++ 91 :: r') : m = m' ∧ r = r' := by
  unfold attrsW at h
  cases m with
  | nil =>
    cases m' with
    | nil => exact ⟨rfl, by simpa using h⟩
    | cons s' l' => simp at h
  | cons s l =>
    cases m' with
    | nil => simp at h
    | cons s' l' =>
      simp only [List.isEmpty_cons, Bool.false_eq_true, if_false, List.cons_append, List.append_assoc, List.nil_append, List.cons.injEq, true_and] at h
      obtain ⟨h1, h2⟩ := blank_inj (s :: l) (s' :: l') _ _ (by simp) (by simp) hm hm' h
      simp only [List.cons.injEq, true_and] at h2
      exact ⟨h1, h2⟩
/-! ### trees -/
theorem text_parts {k t : ByteArray} {m : List ByteArray} {a : List (ByteArray × ByteArray)} {l : List Tree} (hk : isTxt k = true) (h : formedB (.mk k t m a l) = true) : marksB m = true ∧ a = [] ∧ l = [] := by
  rw [formedB_text hk] at h
  obtain ⟨_, _, h3, h4, h5⟩ := textB_parts h
  exact ⟨h3, List.eq_nil_of_length_eq_zero h4, List.eq_nil_of_length_eq_zero h5⟩
theorem node_parts {k t : ByteArray} {m : List ByteArray} {a : List (ByteArray × ByteArray)} {l : List Tree} (hk : isTxt k = false) (h : formedB (.mk k t m a l) = true) : nameB k = true ∧ t.data.toList = [] ∧ m = [] ∧ attrsB a = true ∧ rowB none l = true := by
  rw [formedB_node hk] at h
  simp only [headB, Bool.and_eq_true, Tree.kind, Tree.text, Tree.marks, Tree.attrs] at h
  exact ⟨h.1.1, empty_data.1 h.1.2.1, List.eq_nil_of_length_eq_zero (of_decide_eq_true h.1.2.2.1), h.1.2.2.2, h.2⟩
theorem txt_eq {k k' : ByteArray} (h : isTxt k = true) (h' : isTxt k' = true) : k = k' := by
  unfold isTxt at h h'
  rw [beq_iff_eq, Lib.toList_data] at h h'
  exact bytes_of (h.trans h'.symm)
theorem row_all : ∀ (l : List Tree) (p : Option Tree), rowB p l = true → ∀ x ∈ l, formedB x = true
  | [], _, _, x, hx => by cases hx
  | y :: l, p, h, x, hx => by
    simp only [rowB, Bool.and_eq_true] at h
    rcases List.mem_cons.1 hx with e | e
    · subst e; exact h.2.1
    · exact row_all l (some y) h.2.2 x e
/-- The first sign of a node. -/
theorem write_head (x : Tree) (h : formedB x = true) : ∃ c r, writeB x = c :: r ∧ ((isTxt x.kind = true ∧ c = 34) ∨ (isTxt x.kind = false ∧ small c = true)) := by
  obtain ⟨k, t, m, a, l⟩ := x
  cases hk : isTxt k with
  | true => exact ⟨34, escL t.data.toList ++ [34] ++ marksW m, by simp only [writeB, hk, if_true, quoteL, List.cons_append], .inl ⟨hk, rfl⟩⟩
  | false =>
    obtain ⟨h1, _⟩ := node_parts hk h
    have hn := name_ne h1
    have hs := name_small h1
    cases hd : k.data.toList with
    | nil => exact absurd hd hn
    | cons c r =>
      refine ⟨c, r ++ attrsW a ++ 91 :: (writeAllB l ++ [93]), ?_, .inr ⟨hk, hs c (by rw [hd]; simp)⟩⟩
      simp only [writeB, hk, Bool.false_eq_true, if_false, hd, List.cons_append]
theorem small_ne {c : UInt8} (h : small c = true) : c ≠ 34 ∧ c ≠ 93 ∧ c ≠ 60 := by
  refine ⟨?_, ?_, ?_⟩ <;> (rintro rfl; exact absurd h (by decide))
theorem aft_all (l : List Tree) (r : List UInt8) (h : ∀ x ∈ l, formedB x = true) (hr : Aft r) : Aft (writeAllB l ++ r) := by
  cases l with
  | nil => simpa [writeAllB] using hr
  | cons x l =>
    obtain ⟨c, s, e, hc⟩ := write_head x (h x (by simp))
    intro d hd
    simp only [writeAllB, e, List.cons_append, List.head?_cons, Option.some.injEq] at hd
    subst hd
    rcases hc with ⟨_, rfl⟩ | ⟨_, hc⟩
    · decide
    · exact (small_ne hc).2.2
theorem aft_93 (r : List UInt8) : Aft (93 :: r) := by intro c hc; simp at hc; subst hc; decide

mutual
theorem write_inj : ∀ (t t' : Tree) (r r' : List UInt8), formedB t = true → formedB t' = true → Aft r → Aft r' → writeB t ++ r = writeB t' ++ r' → t = t' ∧ r = r'
  | .mk k t m a l, .mk k' t' m' a' l', r, r', h, h', hr, hr', e => by
    cases hk : isTxt k with
    | true =>
      cases hk' : isTxt k' with
      | true =>
        obtain ⟨p1, rfl, rfl⟩ := text_parts hk h
        obtain ⟨q1, rfl, rfl⟩ := text_parts hk' h'
        simp only [writeB, hk, hk', if_true, List.append_assoc] at e
        obtain ⟨e1, e2⟩ := quote_inj e
        obtain ⟨e3, e4⟩ := marks_inj m m' r r' (marks_names p1) (marks_names q1) hr hr' e2
        exact ⟨by rw [txt_eq hk hk', bytes_of e1, e3], e4⟩
      | false =>
        obtain ⟨c, s, e1, e2⟩ := write_head _ h
        obtain ⟨c', s', e3, e4⟩ := write_head _ h'
        rw [e1, e3, List.cons_append, List.cons_append] at e
        have e5 := (List.cons.inj e).1
        rcases e2 with ⟨_, rfl⟩ | ⟨e2, _⟩
        · rcases e4 with ⟨e4, _⟩ | ⟨_, e4⟩
          · rw [show (Tree.mk k' t' m' a' l').kind = k' from rfl, hk'] at e4; cases e4
          · exact absurd e5.symm (small_ne e4).1
        · rw [show (Tree.mk k t m a l).kind = k from rfl, hk] at e2; cases e2
    | false =>
      cases hk' : isTxt k' with
      | true =>
        obtain ⟨c, s, e1, e2⟩ := write_head _ h
        obtain ⟨c', s', e3, e4⟩ := write_head _ h'
        rw [e1, e3, List.cons_append, List.cons_append] at e
        have e5 := (List.cons.inj e).1
        rcases e4 with ⟨_, rfl⟩ | ⟨e4, _⟩
        · rcases e2 with ⟨e2, _⟩ | ⟨_, e2⟩
          · rw [show (Tree.mk k t m a l).kind = k from rfl, hk] at e2; cases e2
          · exact absurd e5 (small_ne e2).1
        · rw [show (Tree.mk k' t' m' a' l').kind = k' from rfl, hk'] at e4; cases e4
      | false =>
        obtain ⟨p1, p2, rfl, p4, p5⟩ := node_parts hk h
        obtain ⟨q1, q2, rfl, q4, q5⟩ := node_parts hk' h'
        simp only [writeB, hk, hk', Bool.false_eq_true, if_false, List.append_assoc, List.cons_append, List.nil_append] at e
        have key : ∀ (b : List (ByteArray × ByteArray)) (s : List UInt8), ∃ x y, small x = false ∧ attrsW b ++ 91 :: s = x :: y := fun b s => by
          unfold attrsW; split
          · exact ⟨91, s, by decide, rfl⟩
          · exact ⟨40, _, by decide, rfl⟩
        obtain ⟨x, y, hx, ex⟩ := key a (writeAllB l ++ 93 :: r)
        obtain ⟨x', y', hx', ex'⟩ := key a' (writeAllB l' ++ 93 :: r')
        have e' := e
        rw [ex, ex'] at e'
        obtain ⟨e1, e2, e3⟩ := letters_inj _ _ _ _ _ _ (name_small p1) (name_small q1) hx hx' e'
        rw [e1] at e
        have e4 := List.append_cancel_left e
        obtain ⟨e5, e6⟩ := attrs_inj a a' _ _ (attrs_names p4) (attrs_names q4) e4
        obtain ⟨e7, e8⟩ := writeAll_inj l l' r r' (row_all l none p5) (row_all l' none q5) e6
        exact ⟨by rw [bytes_of e1, bytes_of (p2.trans q2.symm), e5, e7], e8⟩
theorem writeAll_inj : ∀ (l l' : List Tree) (r r' : List UInt8), (∀ x ∈ l, formedB x = true) → (∀ x ∈ l', formedB x = true) → writeAllB l ++ 93 :: r = writeAllB l' ++ 93 :: r' → l = l' ∧ r = r'
  | [], [], r, r', _, _, e => by simpa [writeAllB] using e
  | [], y :: l', r, r', _, h', e => by
    obtain ⟨c, s, e1, e2⟩ := write_head y (h' y (by simp))
    simp only [writeAllB, e1, List.nil_append, List.cons_append, List.cons.injEq] at e
    rcases e2 with ⟨_, rfl⟩ | ⟨_, e2⟩
    · exact absurd e.1 (by decide)
    · exact absurd e.1.symm (small_ne e2).2.1
  | x :: l, [], r, r', h, _, e => by
    obtain ⟨c, s, e1, e2⟩ := write_head x (h x (by simp))
    simp only [writeAllB, e1, List.nil_append, List.cons_append, List.cons.injEq] at e
    rcases e2 with ⟨_, rfl⟩ | ⟨_, e2⟩
    · exact absurd e.1 (by decide)
    · exact absurd e.1 (small_ne e2).2.1
  | x :: l, y :: l', r, r', h, h', e => by
    simp only [writeAllB, List.append_assoc] at e
    obtain ⟨e1, e2⟩ := write_inj x y _ _ (h x (by simp)) (h' y (by simp)) (aft_all l _ (fun z hz => h z (by simp [hz])) (aft_93 r)) (aft_all l' _ (fun z hz => h' z (by simp [hz])) (aft_93 r')) e
    obtain ⟨e3, e4⟩ := writeAll_inj l l' r r' (fun z hz => h z (by simp [hz])) (fun z hz => h' z (by simp [hz])) e2
    exact ⟨by rw [e1, e3], e4⟩
end
theorem writeB_inj {t t' : Tree} (h : formedB t = true) (h' : formedB t' = true) (e : writeB t = writeB t') : t = t' :=
  (write_inj t t' [] [] h h' (by intro c hc; cases hc) (by intro c hc; cases hc) (by rw [e])).1
end Go.Proofs.YtamoklceekeheaaDoor

namespace Go.Proofs.YtamoklceekeheaaDoor
open Go.RowKit Go.Sort

def renByte : Go.Shelf.Ren := ⟨fun | 167 => 86 | 240 => 78 | 276 => 85 | n => n, fun | 0 => 0 | 4 => 4 | 5 => 5 | 9 => 9 | 20 => 20 | 37 => 97 | 70 => 96 | 72 => 99 | 75 => 101 | 164 => 119 | 80 => 104 | n => n, fun | n => n⟩
theorem laysByte : Lays.n167 Tryd.prog renByte := {
  mixed := by kernel_rfl
  f167 := Tryd.func86.trans (congrArg some (by kernel_rfl))
  f240 := Tryd.func78.trans (congrArg some (by kernel_rfl))
  f276 := Tryd.func85.trans (congrArg some (by kernel_rfl))
  t0 := Tryd.underlying0
  a0 := Tryd.isAgg0
  z0 := Tryd.sizeOf0
  v0 := Tryd.zeroValue0
  t4 := Tryd.underlying4
  a4 := Tryd.isAgg4
  z4 := Tryd.sizeOf4
  v4 := Tryd.zeroValue4
  t5 := Tryd.underlying5
  a5 := Tryd.isAgg5
  z5 := Tryd.sizeOf5
  v5 := Tryd.zeroValue5
  t9 := Tryd.underlying9
  a9 := Tryd.isAgg9
  z9 := Tryd.sizeOf9
  v9 := Tryd.zeroValue9
  t20 := Tryd.underlying20
  a20 := Tryd.isAgg20
  z20 := Tryd.sizeOf20
  v20 := Tryd.zeroValue20
  t37 := Tryd.underlying97
  a37 := Tryd.isAgg97
  z37 := Tryd.sizeOf97
  v37 := Tryd.zeroValue97
  t70 := Tryd.underlying96
  a70 := Tryd.isAgg96
  z70 := Tryd.sizeOf96
  v70 := Tryd.zeroValue96
  t72 := Tryd.underlying99
  a72 := Tryd.isAgg99
  z72 := Tryd.sizeOf99
  v72 := Tryd.zeroValue99
  t75 := Tryd.underlying101
  a75 := Tryd.isAgg101
  z75 := Tryd.sizeOf101
  v75 := Tryd.zeroValue101
  t164 := Tryd.underlying119
  a164 := Tryd.isAgg119
  z164 := Tryd.sizeOf119
  v164 := Tryd.zeroValue119 }
theorem extraByte : Builder.Extra Tryd.prog renByte := {
  sizeBuilder := by kernel_rfl
  liesBuilder := by kernel_rfl
  t5 := Tryd.underlying5
  a5 := Tryd.isAgg5
  z5 := Tryd.sizeOf5
  v5 := Tryd.zeroValue5
  infoByte := by kernel_rfl
  cellsByte := by kernel_rfl
  sizeByte := by kernel_rfl
  neB5 := by decide }

/-- What a call that writes leaves. -/
def WPost (B b : Nat) (w : World) (l : List UInt8) (e : Ending) (w' : World) : Prop := e = .returned (.tuple #[]) ∧ Buil w' B b l ∧ Below B w w' ∧ Rest b w w'
theorem byte_any (B b : Nat) (l : List UInt8) (c : UInt8) (w : World) (h : Buil w B b l) (hlen : l.length ≤ 90000000) (hBw : B ≤ w.heap.size) :
    Calls Tryd.prog 86 #[.pointer (some ⟨b, 0, none⟩), .int .u8 (c.toNat : Int)] w fun e w' => e = .returned .nilIface ∧ Buil w' B b (l ++ [c]) ∧ Below B w w' ∧ Rest b w w' := by
  refine (Any.Builder_WriteByte_k laysByte extraByte B b (Lib.byteCells l) (c.toNat : Int) w h (by rw [Lib.byteCells_length]; omega) hBw).mono ?_
  rintro e w' ⟨rfl, h1, hb, hk⟩
  refine ⟨rfl, ?_, hb, hk⟩
  rw [show Lib.byteCells l ++ [.int .u8 (c.toNat : Int)] = Lib.byteCells (l ++ [c]) by simp [Lib.byteCells]] at h1
  exact Or.inr h1
theorem byteN_any (B b : Nat) (l : List UInt8) (n : Int) (c : UInt8) (w : World) (hc : (c.toNat : Int) = n) (h : Buil w B b l) (hlen : l.length ≤ 90000000) (hBw : B ≤ w.heap.size) :
    Calls Tryd.prog 86 #[.pointer (some ⟨b, 0, none⟩), .int .u8 n] w fun e w' => e = .returned .nilIface ∧ Buil w' B b (l ++ [c]) ∧ Below B w w' ∧ Rest b w w' := by
  subst hc; exact byte_any B b l c w h hlen hBw
theorem Buil.lt {w : World} {B b : Nat} {l : List UInt8} (h : Buil w B b l) : b < w.heap.size := by
  rcases h with ⟨_, v, hb, _⟩ | ⟨_, v, hb, _⟩
  · exact (Array.getElem?_eq_some_iff.1 hb).1
  · exact (Array.getElem?_eq_some_iff.1 hb).1
/-- A block of another type than bytes, kept. -/
theorem Rest.blk {b p : Nat} {w w' : World} {cs : Array Value} {T : TypeId} (h : Rest b w w') (hp : w.heap[p]? = some (.cells cs T)) (hn : p ≠ b) (hT : T ≠ 5) : w'.heap[p]? = some (.cells cs T) :=
  h p _ hp (fun e => hn (Option.some.inj e)) (fun _ _ e => by injection e with _ e _; exact hT e)

theorem take_snoc_b (s : ByteArray) (k : Nat) (h : k < s.size) : s.data.toList.take (k + 1) = s.data.toList.take k ++ [s[k]] := by
  rw [List.take_succ_eq_append_getElem (by simpa using h)]; rfl

set_option maxHeartbeats 1000000 in
theorem writeQuoted_any (B b : Nat) (acc : List UInt8) (s : ByteArray) (w : World) (h : Buil w B b acc) (hs : s.size ≤ 10000000) (hacc : acc.length ≤ 50000000) (hBw : B ≤ w.heap.size) :
    Calls Tryd.prog 87 #[.pointer (some ⟨b, 0, none⟩), .string s] w (WPost B b w (acc ++ quoteL s.data.toList)) := by
  have HB := Lib.hid h
  clear h
  go_enter Tryd.func87, Tryd.ntmps87
  go_wp2_with fail
  refine (byteN_any B b acc 34 34 w (by decide) HB.out (by omega) hBw).mono ?_
  rintro e w1 ⟨rfl, hb1, hB1, hr1⟩
  have HB1 := Lib.hid hb1
  have HW1 := Lib.hid (And.intro hB1 hr1)
  clear hb1 hB1 hr1
  go_wp2
  go_loopw [9] (fun i wr => ∃ k : Nat, k ≤ s.size ∧ i = .int .i64 k ∧ Hid (Buil wr B b (acc ++ 34 :: escL (s.data.toList.take k))) ∧ Below B w wr ∧ Hid (Rest b w wr)) (fun i _ => s.size - (intOf i).toNat)
  case atStart => exact ⟨0, by omega, rfl, Lib.hid (by simpa [escL] using HB1.out), HW1.out.1, Lib.hid HW1.out.2⟩
  case round =>
    obtain ⟨k, hk, rfl, hcr, hbr, hrr⟩ := hrel
    have hws := hbr.size
    have hel := escL_le (s.data.toList.take k)
    have htl : (s.data.toList.take k).length ≤ s.size := by rw [List.length_take, Lib.size_eq]; omega
    have hal : (acc ++ 34 :: escL (s.data.toList.take k)).length ≤ 80000000 := by rw [List.length_append, List.length_cons]; omega
    by_cases hlt : k < s.size
    · have HTK : Hid (escL (s.data.toList.take (k + 1)) = escL (s.data.toList.take k) ++ (if s[k] == 34 || s[k] == 92 then [92, s[k]] else [s[k]])) := Lib.hid (by rw [take_snoc_b s k hlt, escL_snoc])
      have HCL : Hid (acc ++ 34 :: escL (s.data.toList.take (k + 1)) = (acc ++ 34 :: escL (s.data.toList.take k)) ++ (if s[k] == 34 || s[k] == 92 then [92, s[k]] else [s[k]])) := Lib.hid (by rw [HTK.out]; simp)
      generalize acc ++ 34 :: escL (s.data.toList.take k) = A1 at *
      generalize hc : s[k] = c at *
      have hcl := UInt8.toNat_lt c
      cases q1 : ((c.toNat : Int) == 34) with
      | true =>
        have hE : (c == 34 || c == 92) = true := by
          have h1 : (c.toNat : Int) = 34 := beq_iff_eq.1 q1
          have h2 : c = 34 := UInt8.toNat_inj.1 (by show c.toNat = 34; omega)
          rw [h2]; rfl
        rw [hE] at HCL
        go_wp2_with fail
        refine (byteN_any B b A1 92 92 wr (by decide) hcr.out (by omega) (by omega)).mono ?_
        rintro e w2 ⟨rfl, hb2, hB2, hr2⟩
        have HB2 := Lib.hid hb2
        have HR2 := Lib.hid (hrr.out.trans hr2)
        have hW2 := hbr.trans hB2
        have hws2 := hW2.size
        clear hb2 hr2 hB2
        go_wp2_with fail
        refine (byteN_any B b (A1 ++ [92]) c.toNat c w2 rfl HB2.out (by rw [List.length_append, List.length_singleton]; omega) (by omega)).mono ?_
        rintro e w3 ⟨rfl, hb3, hB3, hr3⟩
        have HB3 := Lib.hid hb3
        have HR3 := Lib.hid (HR2.out.trans hr3)
        have hW3 := hW2.trans hB3
        clear hb3 hr3 hB3
        go_wp2
        exact ⟨⟨k + 1, by omega, by go_num, Lib.hid (by rw [HCL.out]; have h := HB3.out; rw [List.append_assoc] at h; exact h), hW3, HR3⟩, by simp [intOf]; omega⟩
      | false =>
        cases q2 : ((c.toNat : Int) == 92) with
        | true =>
          have hE : (c == 34 || c == 92) = true := by
            have h1 : (c.toNat : Int) = 92 := beq_iff_eq.1 q2
            have h2 : c = 92 := UInt8.toNat_inj.1 (by show c.toNat = 92; omega)
            rw [h2]; rfl
          rw [hE] at HCL
          go_wp2_with fail
          refine (byteN_any B b A1 92 92 wr (by decide) hcr.out (by omega) (by omega)).mono ?_
          rintro e w2 ⟨rfl, hb2, hB2, hr2⟩
          have HB2 := Lib.hid hb2
          have HR2 := Lib.hid (hrr.out.trans hr2)
          have hW2 := hbr.trans hB2
          have hws2 := hW2.size
          clear hb2 hr2 hB2
          go_wp2_with fail
          refine (byteN_any B b (A1 ++ [92]) c.toNat c w2 rfl HB2.out (by rw [List.length_append, List.length_singleton]; omega) (by omega)).mono ?_
          rintro e w3 ⟨rfl, hb3, hB3, hr3⟩
          have HB3 := Lib.hid hb3
          have HR3 := Lib.hid (HR2.out.trans hr3)
          have hW3 := hW2.trans hB3
          clear hb3 hr3 hB3
          go_wp2
          exact ⟨⟨k + 1, by omega, by go_num, Lib.hid (by rw [HCL.out]; have h := HB3.out; rw [List.append_assoc] at h; exact h), hW3, HR3⟩, by simp [intOf]; omega⟩
        | false =>
          have hE : (c == 34 || c == 92) = false := by
            have h1 : (c.toNat : Int) ≠ 34 := beq_eq_false_iff_ne.1 q1
            have h2 : (c.toNat : Int) ≠ 92 := beq_eq_false_iff_ne.1 q2
            have h3 : (c == 34) = false := beq_eq_false_iff_ne.2 (fun e => h1 (by rw [e]; rfl))
            have h4 : (c == 92) = false := beq_eq_false_iff_ne.2 (fun e => h2 (by rw [e]; rfl))
            rw [h3, h4]; rfl
          rw [hE] at HCL
          go_wp2_with fail
          refine (byteN_any B b A1 c.toNat c wr rfl hcr.out (by omega) (by omega)).mono ?_
          rintro e w3 ⟨rfl, hb3, hB3, hr3⟩
          have HB3 := Lib.hid hb3
          have HR3 := Lib.hid (hrr.out.trans hr3)
          have hW3 := hbr.trans hB3
          clear hb3 hr3 hB3
          go_wp2
          exact ⟨⟨k + 1, by omega, by go_num, Lib.hid (by rw [HCL.out]; exact HB3.out), hW3, HR3⟩, by simp [intOf]; omega⟩
    · have hfull : s.data.toList.take k = s.data.toList := List.take_of_length_le (by rw [← Lib.size_eq]; omega)
      rw [hfull] at hcr hal
      clear hel htl hfull
      go_wp2_with fail
      refine (byteN_any B b _ 34 34 wr (by decide) hcr.out (by omega) (by omega)).mono ?_
      rintro e w3 ⟨rfl, hb3, hB3, hr3⟩
      have HB3 := Lib.hid hb3
      have HR3 := Lib.hid (hrr.out.trans hr3)
      have hW3 := hbr.trans hB3
      clear hb3 hr3 hB3
      go_wp2
      go_end0
      refine ⟨rfl, ?_, hW3, HR3.out⟩
      have h := HB3.out
      rw [List.append_assoc] at h
      exact h

/-- A new builder. -/
theorem buil_new (w : World) : Buil (w.alloc (.cells #[.pointer none, .slice none 0 0] 99)) w.heap.size w.heap.size [] := Lib.IsBuilderF.of (Lib.fresh_isBuilder 99 5 w)
theorem list_bytes {l : List UInt8} : ([] : List UInt8) ++ l = l := rfl

end Go.Proofs.YtamoklceekeheaaDoor

namespace Go.Proofs.YtamoklceekeheaaDoor
open Go.RowKit Go.Sort

theorem marksW_cons {l : List ByteArray} (h : l ≠ []) : marksW l = 60 :: (commaM l ++ [62]) := by cases l with | nil => exact absurd rfl h | cons x l => rfl
theorem attrsW_cons {l : List (ByteArray × ByteArray)} (h : l ≠ []) : attrsW l = 40 :: (blankA l ++ [41]) := by cases l with | nil => exact absurd rfl h | cons x l => rfl
theorem commaM_take_le (l : List ByteArray) (k : Nat) : (commaM (l.take k)).length ≤ weighL l := by
  have h1 := commaM_le (l.take k)
  have h2 : weighL (l.take k) + weighL (l.drop k) = weighL l := by unfold weighL; rw [← List.sum_append, ← List.map_append, List.take_append_drop]
  omega
theorem blankA_take_le (l : List (ByteArray × ByteArray)) (k : Nat) : (blankA (l.take k)).length ≤ 4 * weighP l := by
  have h1 := blankA_le (l.take k)
  have h2 : weighP (l.take k) + weighP (l.drop k) = weighP l := by unfold weighP; rw [← List.sum_append, ← List.map_append, List.take_append_drop]
  omega

set_option maxHeartbeats 1000000 in
theorem writeMarks_any (B b : Nat) (acc : List UInt8) (v : Value) (l : List ByteArray) (w : World) (hB : Buil w B b acc) (h : Strs w (Under B) v l) (hw : weighL l ≤ 1000000) (hacc : acc.length ≤ 45000000) (hBw : B ≤ w.heap.size) :
    Calls Tryd.prog 79 #[.pointer (some ⟨b, 0, none⟩), v] w (WPost B b w (acc ++ marksW l)) := by
  have hlen := length_le_weighL l
  obtain ⟨A, c, rfl, hc⟩ := h.form
  have HB := Lib.hid hB
  have HL := Lib.hid h
  clear hB h
  rcases Nat.eq_zero_or_pos l.length with h0 | h0
  · have HE : Hid (acc ++ marksW l = acc) := Lib.hid (by rw [List.eq_nil_of_length_eq_zero h0]; simp [marksW])
    have q : ((l.length : Int) == 0) = true := by rw [beq_iff_eq]; omega
    clear h0
    go_enter Tryd.func79, Tryd.ntmps79
    go_wp2
    go_end0
    exact ⟨rfl, by rw [HE.out]; exact HB.out, Below.refl _ _, Rest.refl _ _⟩
  · have HE : Hid (acc ++ marksW l = (acc ++ 60 :: commaM l) ++ [62]) := Lib.hid (by rw [marksW_cons (fun e => by rw [e] at h0; simp at h0)]; simp)
    have q : ((l.length : Int) == 0) = false := by rw [beq_eq_false_iff_ne]; omega
    go_enter Tryd.func79, Tryd.ntmps79
    go_wp2_with fail
    refine (byteN_any B b acc 60 60 w (by decide) HB.out (by omega) hBw).mono ?_
    rintro e w1 ⟨rfl, hb1, hB1, hr1⟩
    have HB1 := Lib.hid hb1
    have HW1 := Lib.hid (And.intro hB1 hr1)
    clear hb1 hB1 hr1
    go_wp2
    go_loopw [13] (fun i wr => ∃ k : Nat, k ≤ l.length ∧ i = .int .i64 k ∧ Hid (Buil wr B b (acc ++ 60 :: commaM (l.take k))) ∧ Below B w wr ∧ Hid (Rest b w wr)) (fun i _ => l.length - (intOf i).toNat)
    case atStart => exact ⟨0, by omega, rfl, Lib.hid (by simpa [commaM] using HB1.out), HW1.out.1, Lib.hid HW1.out.2⟩
    case round =>
      obtain ⟨k, hk, rfl, hcr, hbr, hrr⟩ := hrel
      have hws := hbr.size
      have hel := commaM_take_le l k
      have hal : (acc ++ 60 :: commaM (l.take k)).length ≤ 80000000 := by rw [List.length_append, List.length_cons]; omega
      by_cases hlt : k < l.length
      · obtain ⟨g, o, rfl, hub, hcell⟩ := HL.out.get hlt
        have hc1 := (hbr.cell (p := ⟨g, o + k, none⟩) hub).trans (hcell k hlt)
        have hsz := weighL_get (getD_some ByteArray.empty hlt)
        have HTK : Hid (commaM (l.take (k + 1)) = if (l.take k).isEmpty then (l.getD k ByteArray.empty).data.toList else commaM (l.take k) ++ 44 :: (l.getD k ByteArray.empty).data.toList) := Lib.hid (by
          rw [show l.take (k + 1) = l.take k ++ [l.getD k ByteArray.empty] by rw [List.take_succ_eq_append_getElem hlt, List.getD_eq_getElem?_getD, List.getElem?_eq_getElem hlt]; rfl, commaM_snoc])
        generalize l.getD k ByteArray.empty = x at *
        clear hcell
        rcases Nat.eq_zero_or_pos k with hk0 | hk0
        · have HTK' : Hid (acc ++ 60 :: commaM (l.take (k + 1)) = (acc ++ 60 :: commaM (l.take k)) ++ x.data.toList) := Lib.hid (by rw [HTK.out, hk0]; simp [commaM])
          have g0 : decide (0 < k) = false := by simp; omega
          generalize acc ++ 60 :: commaM (l.take k) = A1 at *
          clear hk0
          go_wp2_with fail
          refine (write_any B b A1 x wr hcr.out (by omega) (by omega)).mono ?_
          rintro e w3 ⟨rfl, hb3, hB3, hr3⟩
          have HB3 := Lib.hid hb3
          have HR3 := Lib.hid (hrr.out.trans hr3)
          have hW3 := hbr.trans hB3
          clear hb3 hr3 hB3
          go_wp2
          exact ⟨⟨k + 1, by omega, by go_num, Lib.hid (by rw [HTK'.out]; exact HB3.out), hW3, HR3⟩, by simp [intOf]; omega⟩
        · have HTK' : Hid (acc ++ 60 :: commaM (l.take (k + 1)) = ((acc ++ 60 :: commaM (l.take k)) ++ [44]) ++ x.data.toList) := Lib.hid (by
            have : (l.take k).isEmpty = false := by rw [List.isEmpty_eq_false_iff]; intro e; have := congrArg List.length e; rw [List.length_take, List.length_nil] at this; omega
            rw [HTK.out, this]; simp)
          generalize acc ++ 60 :: commaM (l.take k) = A1 at *
          have g0 : decide (0 < k) = true := by simpa using hk0
          go_wp2_with fail
          refine (byteN_any B b A1 44 44 wr (by decide) hcr.out (by omega) (by omega)).mono ?_
          rintro e w2 ⟨rfl, hb2, hB2, hr2⟩
          have HB2 := Lib.hid hb2
          have HR2 := Lib.hid (hrr.out.trans hr2)
          have hW2 := hbr.trans hB2
          have hws2 := hW2.size
          clear hb2 hr2 hB2
          go_wp2_with fail
          refine (write_any B b (A1 ++ [44]) x w2 HB2.out (by rw [List.length_append, List.length_singleton]; omega) (by omega)).mono ?_
          rintro e w3 ⟨rfl, hb3, hB3, hr3⟩
          have HB3 := Lib.hid hb3
          have HR3 := Lib.hid (HR2.out.trans hr3)
          have hW3 := hW2.trans hB3
          clear hb3 hr3 hB3
          go_wp2
          exact ⟨⟨k + 1, by omega, by go_num, Lib.hid (by rw [HTK'.out]; exact HB3.out), hW3, HR3⟩, by simp [intOf]; omega⟩
      · rw [List.take_of_length_le (by omega)] at hcr hal
        clear hel
        go_wp2_with fail
        refine (byteN_any B b _ 62 62 wr (by decide) hcr.out (by omega) (by omega)).mono ?_
        rintro e w3 ⟨rfl, hb3, hB3, hr3⟩
        have HB3 := Lib.hid hb3
        have HR3 := Lib.hid (hrr.out.trans hr3)
        have hW3 := hbr.trans hB3
        clear hb3 hr3 hB3
        go_wp2
        go_end0
        exact ⟨rfl, by rw [HE.out]; exact HB3.out, hW3, HR3.out⟩

set_option maxHeartbeats 2000000 in
theorem writeAttrs_any (B b : Nat) (acc : List UInt8) (v : Value) (l : List (ByteArray × ByteArray)) (w : World) (hB : Buil w B b acc) (h : Pairs w (Under B) v l) (hw : weighP l ≤ 1000000) (hacc : acc.length ≤ 40000000) (hBw : B ≤ w.heap.size) :
    Calls Tryd.prog 80 #[.pointer (some ⟨b, 0, none⟩), v] w (WPost B b w (acc ++ attrsW l)) := by
  have hlen := length_le_weighP l
  obtain ⟨A, c, rfl, hc⟩ := h.form
  have HB := Lib.hid hB
  have HL := Lib.hid h
  clear hB h
  rcases Nat.eq_zero_or_pos l.length with h0 | h0
  · have HE : Hid (acc ++ attrsW l = acc) := Lib.hid (by rw [List.eq_nil_of_length_eq_zero h0]; simp [attrsW])
    have q : ((l.length : Int) == 0) = true := by rw [beq_iff_eq]; omega
    clear h0
    go_enter Tryd.func80, Tryd.ntmps80
    go_wp2
    go_end0
    exact ⟨rfl, by rw [HE.out]; exact HB.out, Below.refl _ _, Rest.refl _ _⟩
  · have HE : Hid (acc ++ attrsW l = (acc ++ 40 :: blankA l) ++ [41]) := Lib.hid (by rw [attrsW_cons (fun e => by rw [e] at h0; simp at h0)]; simp)
    have q : ((l.length : Int) == 0) = false := by rw [beq_eq_false_iff_ne]; omega
    go_enter Tryd.func80, Tryd.ntmps80
    go_wp2_with fail
    refine (byteN_any B b acc 40 40 w (by decide) HB.out (by omega) hBw).mono ?_
    rintro e w1 ⟨rfl, hb1, hB1, hr1⟩
    have HB1 := Lib.hid hb1
    have HW1 := Lib.hid (And.intro hB1 hr1)
    clear hb1 hB1 hr1
    go_wp2
    go_loopw [13] (fun i wr => ∃ k : Nat, k ≤ l.length ∧ i = .int .i64 k ∧ Hid (Buil wr B b (acc ++ 40 :: blankA (l.take k))) ∧ Below B w wr ∧ Hid (Rest b w wr)) (fun i _ => l.length - (intOf i).toNat)
    case atStart => exact ⟨0, by omega, rfl, Lib.hid (by simpa [blankA] using HB1.out), HW1.out.1, Lib.hid HW1.out.2⟩
    case round =>
      obtain ⟨k, hk, rfl, hcr, hbr, hrr⟩ := hrel
      have hws := hbr.size
      have hel := blankA_take_le l k
      have hal : (acc ++ 40 :: blankA (l.take k)).length ≤ 45000000 := by rw [List.length_append, List.length_cons]; omega
      by_cases hlt : k < l.length
      · obtain ⟨g, o, rfl, hub, hcell⟩ := HL.out.get hlt
        have hc1 := (hbr.cell (p := ⟨g, o + k * 2, none⟩) hub).trans (hcell k hlt).1
        have hc2 := (hbr.cell (p := ⟨g, o + k * 2 + 1, none⟩) hub).trans (hcell k hlt).2
        have hsz := weighP_get (getD_some (ByteArray.empty, ByteArray.empty) hlt)
        have HTK : Hid (blankA (l.take (k + 1)) = if (l.take k).isEmpty then attrW (pairAt l k) else blankA (l.take k) ++ 32 :: attrW (pairAt l k)) := Lib.hid (by
          rw [show l.take (k + 1) = l.take k ++ [pairAt l k] by rw [List.take_succ_eq_append_getElem hlt, pairAt, List.getD_eq_getElem?_getD, List.getElem?_eq_getElem hlt]; rfl, blankA_snoc])
        change (pairAt l k).1.size + (pairAt l k).2.size < _ at hsz
        generalize pairAt l k = x at *
        have hbl := hcr.out.lt
        have HCR := Lib.hid (hcr.out.below ((Below.refl _ wr).alloc (Nat.le_refl _) (.cells #[.string x.1, .string x.2] 74)))
        have HPB : Hid ((wr.alloc (.cells #[.string x.1, .string x.2] 74)).heap[wr.heap.size]? = some (.cells #[.string x.1, .string x.2] 74)) := Lib.hid (by show (wr.heap.push _)[wr.heap.size]? = _; simp)
        have hWA : Below B w (wr.alloc (.cells #[.string x.1, .string x.2] 74)) := hbr.alloc (by omega) _
        have HRA : Hid (Rest b w (wr.alloc (.cells #[.string x.1, .string x.2] 74))) := Lib.hid (hrr.out.trans (Rest.of_below ((Below.refl _ _).alloc (Nat.le_refl _) _)))
        have hzA : (wr.alloc (.cells #[.string x.1, .string x.2] 74)).heap.size = wr.heap.size + 1 := by simp
        clear hcell hcr
        have key : ∀ (A1 : List UInt8), Hid (acc ++ 40 :: blankA (l.take (k + 1)) = A1 ++ attrW x) → Hid (acc ++ 40 :: blankA (l.take (k + 1)) = ((A1 ++ x.1.data.toList) ++ [61]) ++ quoteL x.2.data.toList) := fun A1 h => Lib.hid (by rw [h.out]; simp [attrW])
        rcases Nat.eq_zero_or_pos k with hk0 | hk0
        · have HTK' := key (acc ++ 40 :: blankA (l.take k)) (Lib.hid (by rw [HTK.out, hk0]; simp [blankA]))
          clear key
          have g0 : decide (0 < k) = false := by simp; omega
          generalize acc ++ 40 :: blankA (l.take k) = A1 at *
          clear hk0
          go_wp2_with fail
          generalize wr.alloc (.cells #[.string x.1, .string x.2] 74) = W2 at *
          refine (write_any B b A1 x.1 W2 HCR.out (by omega) (by omega)).mono ?_
          rintro e w3 ⟨rfl, hb3, hB3, hr3⟩
          have HB3 := Lib.hid hb3
          have HR3 := Lib.hid (HRA.out.trans hr3)
          have HP3 := Lib.hid (hr3.blk HPB.out (by omega) (by decide))
          have hW3 := hWA.trans hB3
          have hws3 := hW3.size
          clear hb3 hr3 hB3
          go_wp2_with fail
          refine (byteN_any B b (A1 ++ x.1.data.toList) 61 61 w3 (by decide) HB3.out (by rw [List.length_append, ← Lib.size_eq]; omega) (by omega)).mono ?_
          rintro e w4 ⟨rfl, hb4, hB4, hr4⟩
          have HB4 := Lib.hid hb4
          have HR4 := Lib.hid (HR3.out.trans hr4)
          have hp4 := hr4.blk HP3.out (by omega) (by decide)
          have p1 : w4.cell? ⟨wr.heap.size, 1, none⟩ = some (.string x.2) := by simp only [World.cell?, hp4]; rfl
          have hW4 := hW3.trans hB4
          have hws4 := hW4.size
          clear hb4 hr4 hB4 hp4
          go_wp2_with fail
          refine (writeQuoted_any B b ((A1 ++ x.1.data.toList) ++ [61]) x.2 w4 HB4.out (by omega) (by rw [List.length_append, List.length_append, ← Lib.size_eq, List.length_singleton]; omega) (by omega)).mono ?_
          rintro e w5 ⟨rfl, hb5, hB5, hr5⟩
          have HB5 := Lib.hid hb5
          have HR5 := Lib.hid (HR4.out.trans hr5)
          have hW5 := hW4.trans hB5
          clear hb5 hr5 hB5 p1
          go_wp2
          exact ⟨⟨k + 1, by omega, by go_num, Lib.hid (by rw [HTK'.out]; exact HB5.out), hW5, HR5⟩, by simp [intOf]; omega⟩
        · have HTK' := key ((acc ++ 40 :: blankA (l.take k)) ++ [32]) (Lib.hid (by
            have : (l.take k).isEmpty = false := by rw [List.isEmpty_eq_false_iff]; intro e; have := congrArg List.length e; rw [List.length_take, List.length_nil] at this; omega
            rw [HTK.out, this]; simp))
          clear key
          generalize acc ++ 40 :: blankA (l.take k) = A0 at *
          have g0 : decide (0 < k) = true := by simpa using hk0
          go_wp2_with fail
          generalize wr.alloc (.cells #[.string x.1, .string x.2] 74) = W2 at *
          refine (byteN_any B b A0 32 32 W2 (by decide) HCR.out (by omega) (by omega)).mono ?_
          rintro e w2 ⟨rfl, hb2, hB2, hr2⟩
          have HB2 := Lib.hid hb2
          have HR2 := Lib.hid (HRA.out.trans hr2)
          have hp2 := hr2.blk HPB.out (by omega) (by decide)
          have p0 : w2.cell? ⟨wr.heap.size, 0, none⟩ = some (.string x.1) := by simp only [World.cell?, hp2]; rfl
          have HP2 := Lib.hid hp2
          have hW2 := hWA.trans hB2
          have hws2 := hW2.size
          have hA1 : (A0 ++ [32]).length ≤ 45000001 := by rw [List.length_append, List.length_singleton]; omega
          generalize A0 ++ [32] = A1 at *
          clear hb2 hr2 hB2 hp2
          go_wp2_with fail
          refine (write_any B b A1 x.1 w2 HB2.out (by omega) (by omega)).mono ?_
          rintro e w3 ⟨rfl, hb3, hB3, hr3⟩
          have HB3 := Lib.hid hb3
          have HR3 := Lib.hid (HR2.out.trans hr3)
          have HP3 := Lib.hid (hr3.blk HP2.out (by omega) (by decide))
          have hW3 := hW2.trans hB3
          have hws3 := hW3.size
          clear hb3 hr3 hB3 p0
          go_wp2_with fail
          refine (byteN_any B b (A1 ++ x.1.data.toList) 61 61 w3 (by decide) HB3.out (by rw [List.length_append, ← Lib.size_eq]; omega) (by omega)).mono ?_
          rintro e w4 ⟨rfl, hb4, hB4, hr4⟩
          have HB4 := Lib.hid hb4
          have HR4 := Lib.hid (HR3.out.trans hr4)
          have hp4 := hr4.blk HP3.out (by omega) (by decide)
          have p1 : w4.cell? ⟨wr.heap.size, 1, none⟩ = some (.string x.2) := by simp only [World.cell?, hp4]; rfl
          have hW4 := hW3.trans hB4
          have hws4 := hW4.size
          clear hb4 hr4 hB4 hp4
          go_wp2_with fail
          refine (writeQuoted_any B b ((A1 ++ x.1.data.toList) ++ [61]) x.2 w4 HB4.out (by omega) (by rw [List.length_append, List.length_append, ← Lib.size_eq, List.length_singleton]; omega) (by omega)).mono ?_
          rintro e w5 ⟨rfl, hb5, hB5, hr5⟩
          have HB5 := Lib.hid hb5
          have HR5 := Lib.hid (HR4.out.trans hr5)
          have hW5 := hW4.trans hB5
          clear hb5 hr5 hB5 p1
          go_wp2
          exact ⟨⟨k + 1, by omega, by go_num, Lib.hid (by rw [HTK'.out]; exact HB5.out), hW5, HR5⟩, by simp [intOf]; omega⟩
      · rw [List.take_of_length_le (by omega)] at hcr hal
        clear hel
        go_wp2_with fail
        refine (byteN_any B b _ 41 41 wr (by decide) hcr.out (by omega) (by omega)).mono ?_
        rintro e w3 ⟨rfl, hb3, hB3, hr3⟩
        have HB3 := Lib.hid hb3
        have HR3 := Lib.hid (hrr.out.trans hr3)
        have hW3 := hbr.trans hB3
        clear hb3 hr3 hB3
        go_wp2
        go_end0
        exact ⟨rfl, by rw [HE.out]; exact HB3.out, hW3, HR3.out⟩

set_option maxHeartbeats 1000000 in
theorem writeHead_any (B b : Nat) (acc : List UInt8) (v : Value) (t : Tree) (w : World) (hB : Buil w B b acc) (h : Node w (Under B) v t) (hw : weigh t ≤ 1000000) (hacc : acc.length ≤ 30000000) (hBw : B ≤ w.heap.size) :
    Calls Tryd.prog 71 #[.pointer (some ⟨b, 0, none⟩), v] w (WPost B b w (acc ++ headW t)) := by
  have HB := Lib.hid hB
  obtain ⟨vm, va, vk, rfl, hm, ha, hk⟩ := h
  have HM := Lib.hid hm
  have HA := Lib.hid ha
  obtain ⟨A1, c1, rfl, _⟩ := hm.form
  obtain ⟨A2, c2, rfl, _⟩ := ha.form
  have hbl := hB.lt
  have hwk : t.kind.size + weighL t.marks + weighP t.attrs + 2 ≤ weigh t := by obtain ⟨k, t, m, a, l⟩ := t; simp only [weigh, Tree.kind, Tree.marks, Tree.attrs]; omega
  have HW : Hid (Below B w (w.alloc (.cells #[.string t.kind, .string t.text, .slice A1 t.marks.length c1, .slice A2 t.attrs.length c2, vk] 28))) := Lib.hid ((Below.refl _ _).alloc hBw _)
  have HR : Hid (Rest b w (w.alloc (.cells #[.string t.kind, .string t.text, .slice A1 t.marks.length c1, .slice A2 t.attrs.length c2, vk] 28))) := Lib.hid (Rest.of_below ((Below.refl _ _).alloc (Nat.le_refl _) _))
  have HB1 := Lib.hid (HB.out.below ((Below.refl _ w).alloc (Nat.le_refl _) (.cells #[.string t.kind, .string t.text, .slice A1 t.marks.length c1, .slice A2 t.attrs.length c2, vk] 28)))
  have HP : Hid ((w.alloc (.cells #[.string t.kind, .string t.text, .slice A1 t.marks.length c1, .slice A2 t.attrs.length c2, vk] 28)).heap[w.heap.size]? = some (.cells #[.string t.kind, .string t.text, .slice A1 t.marks.length c1, .slice A2 t.attrs.length c2, vk] 28)) := Lib.hid (by show (w.heap.push _)[w.heap.size]? = _; simp)
  have hz : (w.alloc (.cells #[.string t.kind, .string t.text, .slice A1 t.marks.length c1, .slice A2 t.attrs.length c2, vk] 28)).heap.size = w.heap.size + 1 := by simp
  clear hm ha hk hB HB
  cases hk : isTxt t.kind with
  | true =>
    have hk' : (t.kind.toList == [116, 101, 120, 116]) = true := hk
    have HE : Hid (headW t = marksW t.marks) := Lib.hid (by simp [headW, hk])
    clear hk
    go_enter Tryd.func71, Tryd.ntmps71
    go_wp2_with fail
    generalize w.alloc (.cells #[.string t.kind, .string t.text, .slice A1 t.marks.length c1, .slice A2 t.attrs.length c2, vk] 28) = W1 at *
    refine (writeMarks_any B b acc _ t.marks W1 HB1.out (HM.out.below HW.out) (by omega) (by omega) (by omega)).mono ?_
    rintro e w2 ⟨rfl, hb2, hB2, hr2⟩
    have HB2 := Lib.hid hb2
    have HR2 := Lib.hid (HR.out.trans hr2)
    have hW2 := HW.out.trans hB2
    clear hb2 hB2 hr2
    go_wp2
    refine bodyPost_ret (results_none rfl _ _ _) rfl ?_
    exact ⟨rfl, by rw [HE.out]; exact HB2.out, hW2, HR2.out⟩
  | false =>
    have hk' : (t.kind.toList == [116, 101, 120, 116]) = false := hk
    have HE : Hid (acc ++ headW t = (acc ++ t.kind.data.toList) ++ attrsW t.attrs) := Lib.hid (by simp [headW, hk])
    clear hk
    go_enter Tryd.func71, Tryd.ntmps71
    go_wp2_with fail
    generalize w.alloc (.cells #[.string t.kind, .string t.text, .slice A1 t.marks.length c1, .slice A2 t.attrs.length c2, vk] 28) = W1 at *
    refine (write_any B b acc t.kind W1 HB1.out (by omega) (by omega)).mono ?_
    rintro e w2 ⟨rfl, hb2, hB2, hr2⟩
    have HB2 := Lib.hid hb2
    have HR2 := Lib.hid (HR.out.trans hr2)
    have hp2 := hr2.blk HP.out (by omega) (by decide)
    have p3 : w2.cell? ⟨w.heap.size, 3, none⟩ = some (.slice A2 t.attrs.length c2) := by simp only [World.cell?, hp2]; rfl
    have hW2 := HW.out.trans hB2
    have hws2 := hW2.size
    clear hb2 hB2 hr2 hp2
    go_wp2_with fail
    refine (writeAttrs_any B b (acc ++ t.kind.data.toList) _ t.attrs w2 HB2.out (HA.out.below hW2) (by omega) (by rw [List.length_append, ← Lib.size_eq]; omega) (by omega)).mono ?_
    rintro e w3 ⟨rfl, hb3, hB3, hr3⟩
    have HB3 := Lib.hid hb3
    have HR3 := Lib.hid (HR2.out.trans hr3)
    have hW3 := hW2.trans hB3
    clear hb3 hB3 hr3 p3
    go_wp2
    go_end0
    exact ⟨rfl, by rw [HE.out]; exact HB3.out, hW3, HR3.out⟩
end Go.Proofs.YtamoklceekeheaaDoor

namespace Go.Proofs.YtamoklceekeheaaDoor
open Go.RowKit Go.Sort Go.Maps

section
variable {w : World} {ops : Array Oper} {rest : List Oper} {o : Oper} {a : Act} {Q : Exit → Act → World → Prop}
theorem wp_append_gen {K : Act → World → Prop} {t e : TypeId} {z : Value} {size bytes : Nat} (ht : Tryd.prog.underlying t = some (.slice e)) (hinfo : (Tryd.prog.info? e).map (fun i => (i.zero, i.size, i.bytes)) = some (some z, size, bytes)) (hzs : z.cells.size = size) (hsz : 0 < size) (hby : bytes ≤ 1000)
    (s x : Operand) (ho : o.op = .call { callee := .builtin .append, args := #[s, x], argTypes := #[t, t] })
    (base : Nat) (v : Value) (n : Nat) (xs : List Value) (g c : Nat) (news : List Value) (hs : a.eval s = v) (hx : a.eval x = .slice (some ⟨g, 0, none⟩) 1 c) (hown : w.ownsRow base e size v n xs)
    (hl : news.length = size) (hnews : ∀ j u, news[j]? = some u → w.cell? ⟨g, j, none⟩ = some u) (h1 : ∀ u ∈ news, u.oneCell' = true) (hn : n + 1 ≤ 100000000) (hbase : base ≤ w.heap.size)
    (h : ∀ v' w', w'.ownsRow base e size v' (n + 1) (xs ++ news) → w.grownBy w' v.ownBlock → K (a.put o.dst v') w') : o.wp Tryd.prog a w K Q := by
  obtain ⟨i, hi, hz0, hz1, hz2⟩ := info_parts hinfo
  obtain ⟨v', w', hr, h2, h3, _, _⟩ := run_append_own_at (P := Tryd.prog) w base t o.type e i z size bytes ht hi hz0 hz1 hz2 hzs hsz v n xs hown ⟨g, 0, none⟩ 1 c news (by rw [hl, Nat.one_mul]) (fun j u hj => by rw [add_cell, Nat.zero_add]; exact hnews j u hj) h1 (by unfold maxLen; omega) (Nat.le_trans (Nat.mul_le_mul hn hby) (by decide)) hbase
  unfold Oper.wp execOp
  simp only [ho, resolve, invoke, builtin, Sem.run_bind, Sem.run_pure, Result.andThen_ok, List.map_toArray, List.map_cons, List.map_nil, hs, hx, hr]
  exact h v' w' h2 h3
theorem step_append_gen {K : Act → World → Prop} {E : Prop} {t e : TypeId} {z : Value} {size bytes : Nat} (ht : Tryd.prog.underlying t = some (.slice e)) (hinfo : (Tryd.prog.info? e).map (fun i => (i.zero, i.size, i.bytes)) = some (some z, size, bytes)) (hzs : z.cells.size = size) (hsz : 0 < size) (hby : bytes ≤ 1000)
    (hgd : o.guard = none) (s x : Operand) (ho : o.op = .call { callee := .builtin .append, args := #[s, x], argTypes := #[t, t] })
    (base : Nat) (v : Value) (n : Nat) (xs : List Value) (g c : Nat) (news : List Value) (hs : a.eval s = v) (hx : a.eval x = .slice (some ⟨g, 0, none⟩) 1 c) (hown : w.ownsRow base e size v n xs)
    (hl : news.length = size) (hnews : ∀ j u, news[j]? = some u → w.cell? ⟨g, j, none⟩ = some u) (h1 : ∀ u ∈ news, u.oneCell' = true) (hn : n + 1 ≤ 100000000) (hbase : base ≤ w.heap.size)
    (h : ∀ v' w', w'.ownsRow base e size v' (n + 1) (xs ++ news) → w.grownBy w' v.ownBlock → K (a.put o.dst v') w') :
    if Region.wanted o (yielded ops a.tmps) = true then Oper.wp Tryd.prog o a w K Q else E := by
  have hw : Region.wanted o (yielded ops a.tmps) = true := by simp [Region.wanted, hgd]
  rw [if_pos hw]
  exact wp_append_gen ht hinfo hzs hsz hby s x ho base v n xs g c news hs hx hown hl hnews h1 hn hbase h
theorem wpList_append_gen {t e : TypeId} {z : Value} {size bytes : Nat} (ht : Tryd.prog.underlying t = some (.slice e)) (hinfo : (Tryd.prog.info? e).map (fun i => (i.zero, i.size, i.bytes)) = some (some z, size, bytes)) (hzs : z.cells.size = size) (hsz : 0 < size) (hby : bytes ≤ 1000)
    (hgd : o.guard = none) (s x : Operand) (ho : o.op = .call { callee := .builtin .append, args := #[s, x], argTypes := #[t, t] })
    (base : Nat) (v : Value) (n : Nat) (xs : List Value) (g c : Nat) (news : List Value) (hs : a.eval s = v) (hx : a.eval x = .slice (some ⟨g, 0, none⟩) 1 c) (hown : w.ownsRow base e size v n xs)
    (hl : news.length = size) (hnews : ∀ j u, news[j]? = some u → w.cell? ⟨g, j, none⟩ = some u) (h1 : ∀ u ∈ news, u.oneCell' = true) (hn : n + 1 ≤ 100000000) (hbase : base ≤ w.heap.size)
    (h : ∀ v' w', w'.ownsRow base e size v' (n + 1) (xs ++ news) → w.grownBy w' v.ownBlock → wpList Tryd.prog ops Q rest (a.put o.dst v') w') : wpList Tryd.prog ops Q (o :: rest) a w :=
  wpList_plain hgd fun _ hK => wp_append_gen ht hinfo hzs hsz hby s x ho base v n xs g c news hs hx hown hl hnews h1 hn hbase fun v' w' h1 h2 => hK _ _ (h v' w' h1 h2)
end

theorem str_info : (Tryd.prog.info? 9).map (fun i => (i.zero, i.size, i.bytes)) = some (some (.string ⟨#[]⟩), 1, 16) := by kernel_rfl
theorem pair_info : (Tryd.prog.info? 74).map (fun i => (i.zero, i.size, i.bytes)) = some (some (.agg #[.string ⟨#[]⟩, .string ⟨#[]⟩]), 2, 32) := by kernel_rfl

theorem fresh_cell (w : World) (cs : Array Value) (T : TypeId) (j : Nat) (v : Value) (h : cs[j]? = some v) : (w.alloc (.cells cs T)).cell? ⟨w.heap.size, j, none⟩ = some v := by
  unfold World.cell?
  simp only [heap_alloc_new]
  exact h
theorem five_cells {w : World} {g : Nat} {u0 u1 u2 u3 u4 : Value} {T : TypeId} (h : w.heap[g]? = some (.cells #[u0, u1, u2, u3, u4] T)) :
    w.cell? ⟨g, 0, none⟩ = some u0 ∧ w.cell? ⟨g, 1, none⟩ = some u1 ∧ w.cell? ⟨g, 2, none⟩ = some u2 ∧ w.cell? ⟨g, 3, none⟩ = some u3 ∧ w.cell? ⟨g, 4, none⟩ = some u4 := by
  simp [World.cell?, h]
theorem iter_below (w : World) (s : ByteArray) (p : Nat) : Below w.heap.size w (w.iter s p) := (Below.refl _ _).alloc (Nat.le_refl _) _
end Go.Proofs.YtamoklceekeheaaDoor

namespace Go.Proofs.YtamoklceekeheaaDoor
open Go.RowKit Go.Sort Go.Maps

theorem int_info : (Tryd.prog.info? 3).map (fun i => (i.zero, i.size, i.bytes)) = some (some (.int .i64 0), 1, 8) := by kernel_rfl
theorem row_info : (Tryd.prog.info? 26).map (fun i => (i.zero, i.size, i.bytes)) = some (some (.slice none 0 0), 1, 24) := by kernel_rfl

theorem row_hold {w w' : World} {base : Nat} {e : TypeId} {size : Nat} {v : Value} {n : Nat} {xs : List Value} (h : w.ownsRow base e size v n xs) (k : ∀ g, v.ownBlock = some g → w'.heap[g]? = w.heap[g]?) : w'.ownsRow base e size v n xs := by
  refine ⟨h.1, ?_⟩
  rcases h.2 with hn | ⟨g, cap, cur, hv, hb, hg, rest⟩
  · exact .inl hn
  · exact .inr ⟨g, cap, cur, hv, hb, (k g (by rw [hv]; rfl)).trans hg, rest⟩
theorem row_ty {w : World} {base : Nat} {e : TypeId} {size : Nat} {v : Value} {n : Nat} {xs : List Value} (h : w.ownsRow base e size v n xs) {g : Nat} (hg : v.ownBlock = some g) : base ≤ g ∧ g < w.heap.size ∧ ∃ cur, w.heap[g]? = some (.cells cur e) := by
  rcases h.2 with ⟨rfl, _⟩ | ⟨g', cap, cur, rfl, hb, hg', _⟩
  · cases hg
  · injection hg with hg; subst hg; exact ⟨hb, (Array.getElem?_eq_some_iff.1 hg').1, cur, hg'⟩
/-- A block of another type is not the row's. -/
theorem row_ne {w : World} {base : Nat} {e e' : TypeId} {size : Nat} {v : Value} {n : Nat} {xs : List Value} (h : w.ownsRow base e size v n xs) {b : Nat} {cs : Array Value} (hb : w.heap[b]? = some (.cells cs e')) (hne : e ≠ e') : some b ≠ v.ownBlock := fun hh => by
  obtain ⟨_, _, cur, hc⟩ := row_ty h hh.symm
  have := hb.symm.trans hc
  injection this with this
  injection this with _ this
  exact hne this.symm
theorem row_below {w w' : World} {base : Nat} {e : TypeId} {size : Nat} {v : Value} {n : Nat} {xs : List Value} (h : w.ownsRow base e size v n xs) (hb : Below w.heap.size w w') : w'.ownsRow base e size v n xs :=
  row_hold h fun g hg => hb.block g (row_ty h hg).2.1
theorem row_form {w : World} {base : Nat} {e : TypeId} {size : Nat} {v : Value} {n : Nat} {xs : List Value} (h : w.ownsRow base e size v n xs) : ∃ A c, v = .slice A n c ∧ n ≤ c ∧ (0 < n → ∃ g, A = some ⟨g, 0, none⟩) := by
  rcases h.2 with ⟨rfl, rfl⟩ | ⟨g, cap, cur, rfl, _, _, hn, _⟩
  · exact ⟨_, _, rfl, Nat.le_refl _, fun h => absurd h (Nat.lt_irrefl _)⟩
  · exact ⟨_, _, rfl, hn, fun _ => ⟨g, rfl⟩⟩
/-- The row without its last thing. -/
theorem row_less {w : World} {base : Nat} {e : TypeId} {g m n cap : Nat} {xs : List Value} {x : Value} (h : w.ownsRow base e 1 (.slice (some ⟨g, 0, none⟩) m cap) (n + 1) (xs ++ [x])) : w.ownsRow base e 1 (.slice (some ⟨g, 0, none⟩) n cap) n xs := by
  obtain ⟨hl, h⟩ := h
  have hxl : xs.length = n := by simp at hl; exact hl
  refine ⟨by omega, ?_⟩
  rcases h with ⟨h, _⟩ | ⟨g', cap', cur, hv, hb, hg, hn, hc, hs, ht⟩
  · cases h
  · injection hv with h1 h2 h3
    injection h1 with h1
    injection h1 with h1
    subst h1; subst h3
    refine .inr ⟨g, cap, cur, rfl, hb, hg, by omega, hc, hs, ?_⟩
    have := congrArg (List.take n) ht
    rw [List.take_take, Nat.min_eq_left (by omega), List.take_append_of_le_length (by omega), List.take_of_length_le (l := xs) (by omega)] at this
    simpa using this
theorem row_ints {w : World} {base : Nat} {v : Value} {n : Nat} {l : List Int} (h : w.ownsRow base 3 1 v n (l.map (Value.int .i64))) : Ints w (From base w.heap.size) v l := by
  obtain ⟨hl, h⟩ := h
  have hn : n = l.length := by simp at hl; omega
  subst hn
  rcases h with ⟨rfl, h0⟩ | ⟨g, cap, cur, rfl, hb, hg, hn, hc, hs, ht⟩
  · have : l = [] := List.eq_nil_of_length_eq_zero h0
    subst this
    exact ⟨none, 0, rfl, Nat.le_refl _, by unfold maxLen; omega, .inl rfl⟩
  · refine ⟨_, cap, rfl, hn, hc, .inr ⟨g, 0, rfl, ⟨hb, (Array.getElem?_eq_some_iff.1 hg).1⟩, fun i s hi => ?_⟩⟩
    have hil := (List.getElem?_eq_some_iff.1 hi).1
    have h1 : (cur.toList.take (l.length * 1))[i]? = some (.int .i64 s) := by rw [ht, List.getElem?_map, hi]; rfl
    rw [List.getElem?_take_of_lt (by omega)] at h1
    simp only [World.cell?, hg]
    simpa using h1

/-- The open nodes' rows lie in the old blocks, and are not too many. -/
def OkSt (w : World) : List Frm → Prop
  | [] => True
  | f :: st => Kids w (Under w.heap.size) f.v f.K ∧ weighAll f.K + st.length ≤ 1000000 ∧ f.i < f.K.length ∧ OkSt w st
abbrev noSpot : Obj := .cells #[.slice none 0 0, .int .i64 0, .int .i64 0] 56
/-- Where the walk is. -/
structure ResAt (w : World) (want : Option Spt) (st : List Frm) (K : List Tree) (i pos : Nat) (v6 v7 v8 : Value) (wx : World) : Prop where
  kids : Kids w (Under w.heap.size) v8 K
  le : i ≤ K.length
  few : weighAll K + st.length ≤ 1000000
  ok : OkSt w st
  path : wx.ownsRow w.heap.size 3 1 v6 st.length ((pathOf st).map (Value.int .i64))
  around : wx.ownsRow w.heap.size 26 1 v7 st.length (st.reverse.map (·.v))
  rem : (remOf st K i)[pos]? = want
  below : Below w.heap.size w wx
  res : wx.heap[w.heap.size + 1]? = some noSpot

section
variable {w wx w' : World} {want : Option Spt} {st : List Frm} {K : List Tree} {i pos : Nat} {v6 v7 v8 : Value}
theorem ResAt.later (h : ResAt w want st K i pos v6 v7 v8 wx) (hb : Below wx.heap.size wx w') : ResAt w want st K i pos v6 v7 v8 w' :=
  ⟨h.kids, h.le, h.few, h.ok, row_below h.path hb, row_below h.around hb, h.rem, belowNext h.below hb, (hb.block _ (Array.getElem?_eq_some_iff.1 h.res).1).trans h.res⟩
theorem ResAt.skip (h : ResAt w want st K i pos v6 v7 v8 wx) {x : Tree} (hx : K[i]? = some x) (hp : sizeB x ≤ pos) : ResAt w want st K (i + 1) (pos - sizeB x) v6 v7 v8 wx :=
  ⟨h.kids, (List.getElem?_eq_some_iff.1 hx).1, h.few, h.ok, h.path, h.around, (rem_skip hx hp).symm.trans h.rem, h.below, h.res⟩
theorem ResAt.push (h : ResAt w want st K i (pos + 1) v6 v7 v8 wx) {x : Tree} (hx : K[i]? = some x) (ht : isTxt x.kind = false) {L1 L2 : Obj} {w3 w5 : World} {v6' v7' vk : Value}
    (h3 : w3.ownsRow w.heap.size 3 1 v6' (st.length + 1) ((pathOf st).map (Value.int .i64) ++ [.int .i64 (i : Int)])) (hg3 : (wx.alloc L1).grownBy w3 v6.ownBlock)
    (h5 : w5.ownsRow w.heap.size 26 1 v7' (st.length + 1) (st.reverse.map (·.v) ++ [v8])) (hg5 : (w3.alloc L2).grownBy w5 v7.ownBlock)
    (hk : Kids w (Under w.heap.size) vk x.kids) : ResAt w want (⟨i, K, v8⟩ :: st) x.kids 0 pos v6' v7' vk w5 := by
  have hwx := weigh_mem (List.mem_of_getElem? hx)
  have hwk := kids_weigh x
  have hf := h.few
  have hs1 : (wx.alloc L1).heap.size = wx.heap.size + 1 := by simp
  have hs3 : (w3.alloc L2).heap.size = w3.heap.size + 1 := by simp
  have hz3 := hg3.size
  have hz5 := hg5.size
  have old : ∀ b o, wx.heap[b]? = some o → some b ≠ v6.ownBlock → some b ≠ v7.ownBlock → w5.heap[b]? = some o := fun b o hb h6 h7 => by
    have hl := (Array.getElem?_eq_some_iff.1 hb).1
    have a1 : (wx.alloc L1).heap[b]? = some o := heap_old _ _ _ hb
    have a2 : w3.heap[b]? = some o := (hg3.block b (by omega) h6).trans a1
    exact (hg5.block b (by omega) h7).trans (heap_old _ _ _ a2)
  refine ⟨hk, Nat.zero_le _, by simp only [List.length_cons]; omega, ⟨h.kids, hf, (List.getElem?_eq_some_iff.1 hx).1, h.ok⟩, ?_, ?_, (rem_push v8 hx ht).symm.trans h.rem, ?_, ?_⟩
  · have : (pathOf (⟨i, K, v8⟩ :: st)).map (Value.int .i64) = (pathOf st).map (Value.int .i64) ++ [.int .i64 (i : Int)] := by rw [pathOf_cons]; simp
    rw [this]
    refine row_hold h3 fun g hg => ?_
    obtain ⟨h1, h2, cur, hc⟩ := row_ty h3 hg
    have a1 : (w3.alloc L2).heap[g]? = w3.heap[g]? := by rw [hc]; exact heap_old _ _ _ hc
    refine (hg5.block g (by omega) fun e => ?_).trans a1
    -- the block of v7 is of another type
    obtain ⟨c1, c2, cur7, hc7⟩ := row_ty h.around e.symm
    by_cases e6 : v6.ownBlock = some g
    · obtain ⟨_, _, cur6, hc6⟩ := row_ty h.path e6
      rw [hc7] at hc6
      injection hc6 with hc6; injection hc6 with _ hc6
      exact absurd hc6 (by decide)
    · have a2 : w3.heap[g]? = some (.cells cur7 26) := (hg3.block g (by omega) fun e => e6 e.symm).trans (heap_old _ _ _ hc7)
      rw [hc] at a2
      injection a2 with a2; injection a2 with _ a2
      exact absurd a2 (by decide)
  · have : (List.reverse (⟨i, K, v8⟩ :: st)).map (·.v) = st.reverse.map (·.v) ++ [v8] := by simp
    rw [this]; exact h5
  · have b1 : Below w.heap.size w (wx.alloc L1) := h.below.alloc h.below.size _
    have b2 : Below w.heap.size w w3 := b1.trans ((Below.refl _ _).grown hg3 b1.size fun k hk => (row_ty h.path hk).1)
    have b3 : Below w.heap.size w (w3.alloc L2) := b2.alloc b2.size _
    exact b3.trans ((Below.refl _ _).grown hg5 b3.size fun k hk => (row_ty h.around hk).1)
  · exact old _ _ h.res (row_ne h.path h.res (by decide)) (row_ne h.around h.res (by decide))
/-- A node's row and index are taken up again. -/
theorem ResAt.pop {f : Frm} {g6 c6 g7 c7 : Nat} (h : ResAt w want (f :: st) K K.length (pos + 1) (.slice (some ⟨g6, 0, none⟩) (st.length + 1) c6) (.slice (some ⟨g7, 0, none⟩) (st.length + 1) c7) v8 wx) :
    ResAt w want st f.K (f.i + 1) pos (.slice (some ⟨g6, 0, none⟩) st.length c6) (.slice (some ⟨g7, 0, none⟩) st.length c7) f.v wx := by
  obtain ⟨o1, o2, o3, o4⟩ := h.ok
  refine ⟨o1, o3, o2, o4, ?_, ?_, (rem_pop f st K pos).symm.trans h.rem, h.below, h.res⟩
  · have h6 := h.path
    have : (pathOf (f :: st)).map (Value.int .i64) = (pathOf st).map (Value.int .i64) ++ [.int .i64 (f.i : Int)] := by rw [pathOf_cons]; simp
    rw [this] at h6
    exact row_less h6
  · have h7 := h.around
    have : (List.reverse (f :: st)).map (·.v) = st.reverse.map (·.v) ++ [f.v] := by simp
    rw [this] at h7
    exact row_less h7
theorem ResAt.lastI {f : Frm} {g6 c6 : Nat} {v7 : Value} (h : ResAt w want (f :: st) K i pos (.slice (some ⟨g6, 0, none⟩) (st.length + 1) c6) v7 v8 wx) : wx.cell? ⟨g6, st.length, none⟩ = some (.int .i64 (f.i : Int)) := by
  have h6 := h.path
  rw [h6.cellAt _ (by omega), pathOf_cons]
  simp [pathOf_len]
theorem ResAt.lastV {f : Frm} {g7 c7 : Nat} {v6 : Value} (h : ResAt w want (f :: st) K i pos v6 (.slice (some ⟨g7, 0, none⟩) (st.length + 1) c7) v8 wx) : wx.cell? ⟨g7, st.length, none⟩ = some f.v := by
  have h7 := h.around
  rw [h7.cellAt _ (by omega)]
  simp
end

/-- What Resolve answers. -/
def ResPost (w : World) (want : Option Spt) (e : Ending) (w' : World) : Prop :=
  Below w.heap.size w w' ∧ ((want = none ∧ e = .returned (.tuple #[.agg #[.slice none 0 0, .int .i64 0, .int .i64 0], .int .i64 3])) ∨
    ∃ p j o A c, want = some (p, j, o) ∧ e = .returned (.tuple #[.agg #[.slice A p.length c, .int .i64 (j : Nat), .int .i64 (o : Nat)], .int .i64 0]) ∧ Ints w' (From w.heap.size w'.heap.size) (.slice A p.length c) p)
/-- Three cells put into a block of three. -/
def put3z (w : World) (g : Nat) (v0 v1 v2 : Value) : World := ((w.setCell ⟨g, 0, none⟩ v0).setCell ⟨g, 1, none⟩ v1).setCell ⟨g, 2, none⟩ v2
theorem put3z_block {w : World} {g : Nat} {u0 u1 u2 v0 v1 v2 : Value} {T : TypeId} (h : w.heap[g]? = some (.cells #[u0, u1, u2] T)) : (put3z w g v0 v1 v2).heap[g]? = some (.cells #[v0, v1, v2] T) :=
  have h0 : (w.setCell ⟨g, 0, none⟩ v0).heap[g]? = some (.cells #[v0, u1, u2] T) := heap_setCell_same _ g 0 _ T v0 h
  have h1 : ((w.setCell ⟨g, 0, none⟩ v0).setCell ⟨g, 1, none⟩ v1).heap[g]? = some (.cells #[v0, v1, u2] T) := heap_setCell_same _ g 1 _ T v1 h0
  heap_setCell_same _ g 2 _ T v2 h1
theorem put3z_other {w : World} {g b : Nat} {v0 v1 v2 : Value} (h : b ≠ g) : (put3z w g v0 v1 v2).heap[b]? = w.heap[b]? := by
  unfold put3z
  rw [Below.heap_setCell _ _ _ _ h, Below.heap_setCell _ _ _ _ h, Below.heap_setCell _ _ _ _ h]
theorem put3z_size {w : World} {g : Nat} {v0 v1 v2 : Value} : (put3z w g v0 v1 v2).heap.size = w.heap.size := by
  have e : ∀ (W : World) (o : Nat) (u : Value), (W.setCell ⟨g, o, none⟩ u).heap.size = W.heap.size := fun W o u => by simp [World.setCell]
  unfold put3z; rw [e, e, e]
theorem put3z_below {B : Nat} {a w : World} {g : Nat} {v0 v1 v2 : Value} (hg : B ≤ g) (h : Below B a w) : Below B a (put3z w g v0 v1 v2) :=
  set_below hg (set_below hg (set_below hg h))
theorem cells3 {w : World} {g : Nat} {u0 u1 u2 : Value} {T : TypeId} (h : w.heap[g]? = some (.cells #[u0, u1, u2] T)) :
    w.cell? ⟨g, 0, none⟩ = some u0 ∧ w.cell? ⟨g, 1, none⟩ = some u1 ∧ w.cell? ⟨g, 2, none⟩ = some u2 := by
  simp [World.cell?, h]
/-- The end of the walk at a spot. -/
theorem ResAt.fin {w wx : World} {want : Option Spt} {st : List Frm} {K : List Tree} {i pos : Nat} {A : Option Addr} {c : Nat} {v7 v8 : Value} (h : ResAt w want st K i pos (.slice A st.length c) v7 v8 wx) (hr : (remOf st K i)[pos]? = some (pathOf st, i, pos)) :
    ResPost w want (.returned (.tuple #[.agg #[.slice A st.length c, .int .i64 (i : Nat), .int .i64 (pos : Nat)], .int .i64 0])) (put3z wx (w.heap.size + 1) (.slice A st.length c) (.int .i64 (i : Nat)) (.int .i64 (pos : Nat))) := by
  refine ⟨put3z_below (Nat.le_succ _) h.below, .inr ⟨pathOf st, i, pos, A, c, h.rem.symm.trans hr, by rw [pathOf_len], ?_⟩⟩
  have h1 := row_ints h.path
  have hne : ∀ b, (Value.slice A st.length c).ownBlock = some b → b ≠ w.heap.size + 1 := fun b hb e => by subst e; exact row_ne h.path h.res (by decide) hb.symm
  have h2 : (put3z wx (w.heap.size + 1) (.slice A st.length c) (.int .i64 (i : Nat)) (.int .i64 (pos : Nat))).ownsRow w.heap.size 3 1 (.slice A st.length c) st.length ((pathOf st).map (Value.int .i64)) :=
    row_hold h.path fun g hg => put3z_other (hne g hg)
  have h3 := row_ints h2
  rw [pathOf_len]
  exact h3
end Go.Proofs.YtamoklceekeheaaDoor

namespace Go.Proofs.YtamoklceekeheaaDoor
open Go.RowKit Go.Sort Go.Maps

def ResRel (w : World) (want : Option Spt) (g : Nat) (s1 s6 s7 s8 s9 : Value) (wx : World) : Prop :=
  ∃ st K, ∃ i pos : Nat, pos ≤ g ∧ pos ≤ 9223372036854775807 ∧ s1 = .int .i64 (pos : Int) ∧ s9 = .int .i64 (i : Int) ∧ ResAt w want st K i pos s6 s7 s8 wx
def ResIn (w : World) (want : Option Spt) (st : List Frm) (K : List Tree) (v6 v7 v8 : Value) (gk g : Nat) (s1 s6 s7 s8 s9 : Value) (wx : World) : Prop :=
  ∃ i pos : Nat, K.length ≤ i + g ∧ pos ≤ gk ∧ pos ≤ 9223372036854775807 ∧ s1 = .int .i64 (pos : Int) ∧ s9 = .int .i64 (i : Int) ∧ s6 = v6 ∧ s7 = v7 ∧ s8 = v8 ∧ ResAt w want st K i pos v6 v7 v8 wx

theorem Kids.old {w : World} {B : Nat} {A : Option Addr} {n c : Nat} {l : List Tree} {W : World} {i : Nat} {x : Tree} (h : Kids w (Under B) (.slice A n c) l) (hb : Below B w W) (hx : l[i]? = some x) :
    ∃ b o A1 n1 c1 A2 n2 c2 A3 c3, A = some ⟨b, o, none⟩ ∧ b < B ∧ W.cell? ⟨b, o + i * 5, none⟩ = some (.string x.kind) ∧ W.cell? ⟨b, o + i * 5 + 1, none⟩ = some (.string x.text) ∧ W.cell? ⟨b, o + i * 5 + 2, none⟩ = some (.slice A1 n1 c1) ∧
      W.cell? ⟨b, o + i * 5 + 3, none⟩ = some (.slice A2 n2 c2) ∧ W.cell? ⟨b, o + i * 5 + 4, none⟩ = some (.slice A3 x.kids.length c3) ∧ Node w (Under B) (.agg #[.string x.kind, .string x.text, .slice A1 n1 c1, .slice A2 n2 c2, .slice A3 x.kids.length c3]) x := by
  obtain ⟨b, o, A1, n1, c1, A2, n2, c2, A3, c3, hA, hS, r0, r1, r2, r3, r4, hn⟩ := h.kid hx
  exact ⟨b, o, A1, n1, c1, A2, n2, c2, A3, c3, hA, hS, (hb.cell (p := ⟨b, o + i * 5, none⟩) hS).trans r0, (hb.cell (p := ⟨b, o + i * 5 + 1, none⟩) hS).trans r1, (hb.cell (p := ⟨b, o + i * 5 + 2, none⟩) hS).trans r2, (hb.cell (p := ⟨b, o + i * 5 + 3, none⟩) hS).trans r3, (hb.cell (p := ⟨b, o + i * 5 + 4, none⟩) hS).trans r4, hn⟩

/-- A block of another type than the row's is as it was behind an append. -/
theorem grown_other {w w' : World} {base : Nat} {e e' : TypeId} {size : Nat} {v : Value} {n : Nat} {xs : List Value} {L : Obj} (h : w.ownsRow base e size v n xs) (hg : (w.alloc L).grownBy w' v.ownBlock) {b : Nat} {cs : Array Value} (hb : w.heap[b]? = some (.cells cs e')) (hne : e ≠ e') : w'.heap[b]? = some (.cells cs e') :=
  (hg.block b (by have := (Array.getElem?_eq_some_iff.1 hb).1; simp; omega) (row_ne h hb hne)).trans (heap_old _ _ _ hb)
theorem ResAt.around_on {w wx w5 : World} {want : Option Spt} {st : List Frm} {K : List Tree} {i pos : Nat} {v6 v7 v8 : Value} {L1 : Obj} (h : ResAt w want st K i pos v6 v7 v8 wx) (hg : (wx.alloc L1).grownBy w5 v6.ownBlock) (L2 : Obj) :
    (w5.alloc L2).ownsRow w.heap.size 26 1 v7 st.length (st.reverse.map (·.v)) := by
  refine row_hold h.around fun g hgg => ?_
  obtain ⟨_, _, cur, hc⟩ := row_ty h.around hgg
  rw [hc]
  exact heap_old _ _ _ (grown_other h.path hg hc (by decide))
theorem ResAt.size_on {w wx w5 : World} {want : Option Spt} {st : List Frm} {K : List Tree} {i pos : Nat} {v6 v7 v8 : Value} {L1 : Obj} (h : ResAt w want st K i pos v6 v7 v8 wx) (hg : (wx.alloc L1).grownBy w5 v6.ownBlock) (L2 : Obj) : w.heap.size ≤ (w5.alloc L2).heap.size := by
  have h1 := h.below.size
  have h2 := hg.size
  simp at h2 ⊢
  omega
/-- A node's variable is as it was behind both appends. -/
theorem ResAt.kid_on {w wx w5 w7 : World} {want : Option Spt} {st : List Frm} {K : List Tree} {i pos : Nat} {v6 v7 v8 : Value} {L1 L2 : Obj} (h : ResAt w want st K i pos v6 v7 v8 wx) (hg : (wx.alloc L1).grownBy w5 v6.ownBlock) (hg7 : (w5.alloc L2).grownBy w7 v7.ownBlock)
    {b : Nat} {cs : Array Value} (hb : wx.heap[b]? = some (.cells cs 28)) : w7.heap[b]? = some (.cells cs 28) := by
  have h5 := grown_other h.path hg hb (by decide)
  refine (hg7.block b (by have := (Array.getElem?_eq_some_iff.1 h5).1; simp; omega) (row_ne h.around hb (by decide))).trans (heap_old _ _ _ h5)

theorem resolveB_nat {t : Tree} {n : Nat} (h : isTxt t.kind = false) : resolveB t (n : Int) = (spotsB 0 t.kids)[n]? := by
  unfold resolveB
  rw [if_neg (by rw [h]; decide), if_neg (by omega), Int.toNat_natCast]

set_option maxHeartbeats 20000000 in
set_option maxRecDepth 100000 in
theorem resolve_any (v : Value) (t : Tree) (pos0 : Int) (w : World) (h : Node w (Under w.heap.size) v t) (hw : weigh t ≤ 1000000) (h1 : -9223372036854775808 ≤ pos0) (h2 : pos0 ≤ 9223372036854775807) :
    Calls Tryd.prog 25 #[v, .int .i64 pos0] w (ResPost w (resolveB t pos0)) := by
  have HN := Lib.hid h
  obtain ⟨A1, n1, c1, A2, n2, c2, A3, c3, rfl⟩ := h.forms
  clear h
  go_enter Tryd.func25, Tryd.ntmps25
  go_wp2_with fail
  go_step3
  go_wp2_with fail
  generalize hW1 : (w.alloc (.cells #[.string t.kind, .string t.text, .slice A1 n1 c1, .slice A2 n2 c2, .slice A3 t.kids.length c3] 28)).alloc (.cells #[.slice none 0 0, .int .i64 0, .int .i64 0] 56) = W1
  have HB0 : Hid (Below w.heap.size w W1) := Lib.hid (by subst hW1; exact ((Below.refl _ _).alloc (Nat.le_refl _) _).alloc (by simp) _)
  have HC1 : Hid (W1.heap[w.heap.size]? = some (.cells #[.string t.kind, .string t.text, .slice A1 n1 c1, .slice A2 n2 c2, .slice A3 t.kids.length c3] 28) ∧ W1.heap[w.heap.size + 1]? = some noSpot ∧ W1.heap.size = w.heap.size + 2) := Lib.hid (by
    subst hW1; exact ⟨heap_old _ _ _ (heap_new _ _), heap_new' _ _ (by simp), by simp⟩)
  clear hW1
  refine (pText_any _ _ _ _ _ _).mono ?_
  rintro e w2 ⟨rfl, hb2⟩
  have hz1 := HC1.out.2.2
  have hz2 := hb2.size
  have hn2 := (hb2.block w.heap.size (by omega)).trans HC1.out.1
  have hs2 := (hb2.block (w.heap.size + 1) (by omega)).trans HC1.out.2.1
  have HB2 := Lib.hid (belowNext HB0.out hb2)
  have HS2 := Lib.hid hs2
  obtain ⟨y0, y1, y2⟩ := cells3 hs2
  have f0 := frozen_of_row _ _ 0 _ _ hs2
  have f1 := frozen_of_row _ _ 1 _ _ hs2
  have f2 := frozen_of_row _ _ 2 _ _ hs2
  obtain ⟨x0, x1, x2, x3, x4⟩ := cells5 hn2
  clear hb2 hn2 hs2 HC1 HB0
  cases hT : isTxt t.kind with
  | true =>
    have HE : Hid (resolveB t pos0 = none) := Lib.hid (by unfold resolveB; simp [hT])
    clear hT
    go_wp2
    obtain ⟨q0, q1, q2⟩ := cells3 (put3z_block (v0 := .slice none 0 0) (v1 := .int .i64 0) (v2 := .int .i64 0) HS2.out)
    have HBE := Lib.hid (put3z_below (v0 := .slice none 0 0) (v1 := .int .i64 0) (v2 := .int .i64 0) (Nat.le_succ w.heap.size) HB2.out)
    unfold put3z at q0 q1 q2
    try rw [Exit.noGoto_ret]
    refine bodyPost_ret (v := .tuple #[.agg #[.slice none 0 0, .int .i64 0, .int .i64 0], .int .i64 3]) (by simp [results, Tryd.results25, go_sem, q0, q1, q2]) rfl ?_
    exact ⟨HBE.out, .inl ⟨HE.out, rfl⟩⟩
  | false =>
    by_cases h0 : pos0 < 0
    · have HE : Hid (resolveB t pos0 = none) := Lib.hid (by unfold resolveB; simp [hT, h0])
      clear hT
      go_wp2
      obtain ⟨q0, q1, q2⟩ := cells3 (put3z_block (v0 := .slice none 0 0) (v1 := .int .i64 0) (v2 := .int .i64 0) HS2.out)
      have HBE := Lib.hid (put3z_below (v0 := .slice none 0 0) (v1 := .int .i64 0) (v2 := .int .i64 0) (Nat.le_succ w.heap.size) HB2.out)
      unfold put3z at q0 q1 q2
      try rw [Exit.noGoto_ret]
      refine bodyPost_ret (v := .tuple #[.agg #[.slice none 0 0, .int .i64 0, .int .i64 0], .int .i64 3]) (by simp [results, Tryd.results25, go_sem, q0, q1, q2]) rfl ?_
      exact ⟨HBE.out, .inl ⟨HE.out, rfl⟩⟩
    · obtain ⟨n0, rfl⟩ : ∃ n : Nat, pos0 = (n : Int) := ⟨pos0.toNat, by omega⟩
      have hwk := kids_weigh t
      have HRA : Hid (ResAt w (resolveB t (n0 : Int)) [] t.kids 0 n0 (.slice none 0 0) (.slice none 0 0) (.slice A3 t.kids.length c3) w2) := Lib.hid ⟨HN.out.kidsOf, Nat.zero_le _, by simp only [List.length_nil]; omega, trivial, World.ownsRow_nil _ _ _ _, World.ownsRow_nil _ _ _ _, by rw [rem_all, resolveB_nat hT], HB2.out, HS2.out⟩
      generalize resolveB t (n0 : Int) = want at *
      have hn9 : n0 ≤ 9223372036854775807 := by omega
      clear hT h1 h2 h0 f0 f1 f2 y0 y1 y2 hwk
      go_wp2_with fail
      go_step3
      go_wp2_with fail
      go_loopg [1, 6, 7, 8, 9] n0 (fun g s1 s6 s7 s8 s9 wx => ResRel w want g s1 s6 s7 s8 s9 wx)
      case atStart => exact ⟨[], t.kids, 0, n0, Nat.le_refl _, hn9, rfl, rfl, HRA.out⟩
      case round =>
        obtain ⟨st, K, i, pos, hpg, hp9, rfl, rfl, hat⟩ := hrel
        generalize hG : gk = G at *
        obtain ⟨A6, c6, rfl, hc6, ha6⟩ := row_form hat.path
        obtain ⟨A7, c7, rfl, hc7, ha7⟩ := row_form hat.around
        obtain ⟨A8, c8, rfl, hc8⟩ := hat.kids.form
        have hfew := hat.few
        have hkl := length_le_weigh K
        have HAT := Lib.hid hat
        clear hat HRA x0 x1 x2 x3 x4 HS2 HB2 hz1 hz2
        go_wp2_with fail
        go_loopg [1, 6, 7, 8, 9] K.length (fun g s1 s6 s7 s8 s9 wx => ResIn w want st K (.slice A6 st.length c6) (.slice A7 st.length c7) (.slice A8 K.length c8) G g s1 s6 s7 s8 s9 wx)
        case atStart => exact ⟨i, pos, by omega, hpg, hp9, rfl, rfl, rfl, rfl, rfl, HAT.out⟩
        case round =>
          clear HAT hpg hp9
          clear pos i
          obtain ⟨i, pos, hig, hpg, hp9, rfl, rfl, rfl, rfl, rfl, hat⟩ := hrel
          have HAT := Lib.hid hat
          by_cases hlt : i < K.length
          · have hx : K[i]? = some K[i] := List.getElem?_eq_getElem hlt
            generalize K[i] = x at *
            obtain ⟨b, o, E1, l1, e1, E2, l2, e2, E3, e3, rfl, hbo, r0, r1, r2, r3, r4, hnx⟩ := hat.kids.old hat.below hx
            have HX := Lib.hid hx
            have HNX := Lib.hid hnx
            have hwx := weigh_mem (List.mem_of_getElem? hx)
            clear hx hnx hat
            go_wp2_with fail
            refine (pText_any _ _ _ _ _ _).mono ?_
            rintro e w3 ⟨rfl, hb3⟩
            obtain ⟨k0, k1, k2, k3, k4, hB3, hz3⟩ := box5 hb3
            have HKB : Hid (w3.heap[wr.heap.size]? = some (.cells #[.string x.kind, .string x.text, .slice E1 l1 e1, .slice E2 l2 e2, .slice E3 x.kids.length e3] 28)) := Lib.hid ((hb3.block wr.heap.size (by simp)).trans (heap_new _ _))
            have HA3 := Lib.hid (HAT.out.later hB3)
            clear hb3 r0 r1 r2 r3 r4 HAT
            cases hT : isTxt x.kind with
            | true =>
              have HT := Lib.hid hT
              clear hT
              go_wp2_with fail
              refine (size_any _ x w3 (HNX.out.keep (fun b hb => Nat.lt_of_lt_of_le hb HA3.out.below.size) (fun b hb => HA3.out.below.block b hb)) (by omega)).mono ?_
              rintro e w4 ⟨rfl, hb4⟩
              have HA4 := Lib.hid (HA3.out.later hb4)
              have hsz := size_le_weigh x
              have HRS := Lib.hid (fun h => rem_text (st := st) (pos := pos) HX.out HT.out h)
              have HSK := Lib.hid (fun h => HA4.out.skip HX.out h)
              have hres := HA4.out.res
              obtain ⟨y0, y1, y2⟩ := cells3 hres
              have f0 := frozen_of_row _ _ 0 _ _ hres
              have f1 := frozen_of_row _ _ 1 _ _ hres
              have f2 := frozen_of_row _ _ 2 _ _ hres
              generalize sizeB x = sz at *
              clear hb4 hB3 hz3 k0 k1 k2 k3 k4 HA3 hres
              by_cases hp : pos < sz
              · have hp' : (pos : Int) < (sz : Int) := by omega
                go_wp2
                obtain ⟨q0, q1, q2⟩ := cells3 (put3z_block (v0 := .slice A6 st.length c6) (v1 := .int .i64 (i : Int)) (v2 := .int .i64 (pos : Int)) HA4.out.res)
                unfold put3z at q0 q1 q2
                try rw [Exit.noGoto_ret]
                refine bodyPost_ret (v := .tuple #[.agg #[.slice A6 st.length c6, .int .i64 (i : Int), .int .i64 (pos : Int)], .int .i64 0]) (by simp [results, Tryd.results25, go_sem, q0, q1, q2]) rfl ?_
                exact HA4.out.fin (HRS.out hp)
              · have hp' : ¬ (pos : Int) < (sz : Int) := by omega
                obtain ⟨g, rfl⟩ : ∃ g, gk = g + 1 := ⟨gk - 1, by omega⟩
                go_wp2
                go_roundg g
                case measure => omega
                case rel => exact ⟨i + 1, pos - sz, by omega, by omega, by omega, by go_num, by go_num, rfl, rfl, rfl, HSK.out (by omega)⟩
            | false =>
              have HT := Lib.hid hT
              have hres := HA3.out.res
              obtain ⟨y0, y1, y2⟩ := cells3 hres
              have f0 := frozen_of_row _ _ 0 _ _ hres
              have f1 := frozen_of_row _ _ 1 _ _ hres
              have f2 := frozen_of_row _ _ 2 _ _ hres
              clear hT hB3 hres
              by_cases hp : pos = 0
              · have HRN : Hid ((remOf st K i)[pos]? = some (pathOf st, i, pos)) := Lib.hid (by rw [hp]; exact rem_node HX.out HT.out)
                have hp1 : ((pos : Int) == 0) = true := by simp [hp]
                clear hp
                go_wp2
                obtain ⟨q0, q1, q2⟩ := cells3 (put3z_block (v0 := .slice A6 st.length c6) (v1 := .int .i64 (i : Int)) (v2 := .int .i64 (pos : Int)) HA3.out.res)
                unfold put3z at q0 q1 q2
                try rw [Exit.noGoto_ret]
                refine bodyPost_ret (v := .tuple #[.agg #[.slice A6 st.length c6, .int .i64 (i : Int), .int .i64 (pos : Int)], .int .i64 0]) (by simp [results, Tryd.results25, go_sem, q0, q1, q2]) rfl ?_
                exact HA3.out.fin HRN.out
              · obtain ⟨q, rfl⟩ : ∃ q, pos = q + 1 := ⟨pos - 1, by omega⟩
                have hp1 : (((q + 1 : Nat) : Int) == 0) = false := by rw [beq_eq_false_iff_ne]; omega
                obtain ⟨g, rfl⟩ : ∃ g, G = g + 1 := ⟨G - 1, by omega⟩
                have R6 : Hid ((w3.alloc (.cells #[.int .i64 (i : Int)] 3)).ownsRow w.heap.size 3 1 (.slice A6 st.length c6) st.length ((pathOf st).map (Value.int .i64))) := Lib.hid (row_below HA3.out.path ((Below.refl _ _).alloc (Nat.le_refl _) _))
                have N6 : Hid (∀ j u, [Value.int .i64 (i : Int)][j]? = some u → (w3.alloc (.cells #[.int .i64 (i : Int)] 3)).cell? ⟨w3.heap.size, j, none⟩ = some u) := Lib.hid fun j u hj => fresh_cell w3 _ _ j u (by simpa using hj)
                have O6 : Hid (∀ u ∈ [Value.int .i64 (i : Int)], u.oneCell' = true) := Lib.hid (by simp [Value.oneCell'])
                have O7 : Hid (∀ u ∈ [Value.slice (some ⟨b, o, none⟩) K.length c8], u.oneCell' = true) := Lib.hid (by simp [Value.oneCell'])
                have Z6 : Hid (w.heap.size ≤ (w3.alloc (.cells #[.int .i64 (i : Int)] 3)).heap.size) := Lib.hid (by have := HA3.out.below.size; simp; omega)
                have M6 : Hid (st.length + 1 ≤ 100000000) := Lib.hid (by omega)
                clear y0 y1 y2 f0 f1 f2
                go_wp2_with (first
                  | (at_builtin; refine wpList_append_gen Tryd.underlying54 int_info rfl (by decide) (by decide) rfl (.tmp 46) (.tmp 48) rfl w.heap.size (.slice A6 st.length c6) st.length ((pathOf st).map (Value.int .i64)) w3.heap.size 1 [.int .i64 (i : Int)] rfl rfl R6.out rfl N6.out O6.out M6.out Z6.out ?_; intro v5 w5 ho5 hg5; obtain ⟨A9, c9, rfl, _⟩ := row_form ho5; have HO5 := Lib.hid ho5; have HG5 := Lib.hid hg5; have R7 := Lib.hid (HA3.out.around_on hg5 (.cells #[.slice (some ⟨b, o, none⟩) K.length c8] 26)); have Z7 := Lib.hid (HA3.out.size_on hg5 (.cells #[.slice (some ⟨b, o, none⟩) K.length c8] 26)); have N7 : Hid (∀ j u, [Value.slice (some ⟨b, o, none⟩) K.length c8][j]? = some u → (w5.alloc (.cells #[.slice (some ⟨b, o, none⟩) K.length c8] 26)).cell? ⟨w5.heap.size, j, none⟩ = some u) := Lib.hid (fun j u hj => fresh_cell w5 _ _ j u (by simpa using hj)); clear ho5 hg5)
                  | (at_builtin; refine wpList_append_gen Tryd.underlying83 row_info rfl (by decide) (by decide) rfl (.tmp 50) (.tmp 52) rfl w.heap.size (.slice A7 st.length c7) st.length (st.reverse.map (·.v)) w5.heap.size 1 [.slice (some ⟨b, o, none⟩) K.length c8] rfl rfl R7.out rfl N7.out O7.out M6.out Z7.out ?_; intro v7 w7 ho7 hg7; obtain ⟨A0, c0, rfl, _⟩ := row_form ho7; obtain ⟨z0, z1, z2, z3, z4⟩ := cells5 (HA3.out.kid_on HG5.out hg7 HKB.out); have HP := Lib.hid (HA3.out.push HX.out HT.out HO5.out HG5.out ho7 hg7 HNX.out.kidsOf); clear ho7 hg7))
                go_roundg g
                case measure => omega
                case rel => exact ⟨_, _, 0, q, by omega, by omega, by go_num, rfl, HP.out⟩
          · have hik : i = K.length := by have := hat.le; omega
            have hi1 : ¬ (i : Int) < (K.length : Int) := by omega
            have hres := hat.res
            obtain ⟨y0, y1, y2⟩ := cells3 hres
            have f0 := frozen_of_row _ _ 0 _ _ hres
            have f1 := frozen_of_row _ _ 1 _ _ hres
            have f2 := frozen_of_row _ _ 2 _ _ hres
            by_cases hp : pos = 0
            · have HRN : Hid ((remOf st K i)[pos]? = some (pathOf st, i, pos)) := Lib.hid (by rw [hp, hik]; exact rem_end st K)
              have hp1 : ((pos : Int) == 0) = true := by simp [hp]
              clear hp hres hat hik
              go_wp2
              obtain ⟨q0, q1, q2⟩ := cells3 (put3z_block (v0 := .slice A6 st.length c6) (v1 := .int .i64 (i : Int)) (v2 := .int .i64 (pos : Int)) HAT.out.res)
              unfold put3z at q0 q1 q2
              try rw [Exit.noGoto_ret]
              refine bodyPost_ret (v := .tuple #[.agg #[.slice A6 st.length c6, .int .i64 (i : Int), .int .i64 (pos : Int)], .int .i64 0]) (by simp [results, Tryd.results25, go_sem, q0, q1, q2]) rfl ?_
              exact HAT.out.fin HRN.out
            · obtain ⟨q, rfl⟩ : ∃ q, pos = q + 1 := ⟨pos - 1, by omega⟩
              have hp1 : (((q + 1 : Nat) : Int) == 0) = false := by rw [beq_eq_false_iff_ne]; omega
              have HIK := Lib.hid hik
              clear hik
              cases st with
              | nil =>
                have HE : Hid (want = none) := Lib.hid (by have := HAT.out.rem; rw [HIK.out, rem_last] at this; exact this.symm)
                clear hres hat
                simp only [List.length_nil] at *
                go_wp2
                obtain ⟨q0, q1, q2⟩ := cells3 (put3z_block (v0 := .slice none 0 0) (v1 := .int .i64 0) (v2 := .int .i64 0) HAT.out.res)
                have HBE := Lib.hid (put3z_below (v0 := .slice none 0 0) (v1 := .int .i64 0) (v2 := .int .i64 0) (Nat.le_succ w.heap.size) HAT.out.below)
                unfold put3z at q0 q1 q2
                try rw [Exit.noGoto_ret]
                refine bodyPost_ret (v := .tuple #[.agg #[.slice none 0 0, .int .i64 0, .int .i64 0], .int .i64 3]) (by simp [results, Tryd.results25, go_sem, q0, q1, q2]) rfl ?_
                exact ⟨HBE.out, .inl ⟨HE.out, rfl⟩⟩
              | cons f st =>
                simp only [List.length_cons] at *
                obtain ⟨g6, rfl⟩ := ha6 (by omega)
                obtain ⟨g7, rfl⟩ := ha7 (by omega)
                obtain ⟨g, rfl⟩ : ∃ g, G = g + 1 := ⟨G - 1, by omega⟩
                have u6 := hat.lastI
                have u7 := hat.lastV
                obtain ⟨o1, o2, o3, o4⟩ := hat.ok
                obtain ⟨A9, c9, hv9, hc9⟩ := o1.form
                rw [hv9] at u7
                have HP : Hid (ResAt w want st f.K (f.i + 1) q (.slice (some ⟨g6, 0, none⟩) st.length c6) (.slice (some ⟨g7, 0, none⟩) st.length c7) (.slice A9 f.K.length c9) wr) := Lib.hid (by
                  have h := HAT.out
                  rw [HIK.out] at h
                  have := h.pop
                  rw [hv9] at this
                  exact this)
                have hfl : f.i ≤ 1000000 := by have := length_le_weigh f.K; omega
                have j1 : (0 : Int) ≤ (st.length : Int) := by omega
                have j2 : (st.length : Int) ≤ (c6 : Int) := by omega
                have j3 : (st.length : Int) ≤ (c7 : Int) := by omega
                have j4 : st.length ≤ c6 := by omega
                have j5 : st.length ≤ c7 := by omega
                have j6 : ¬ c6 = 0 := by omega
                have j7 : ¬ c7 = 0 := by omega
                have j8 : ((st.length + 1 : Nat) : Int) - 1 = (st.length : Int) := by omega
                have j9 : st.length < st.length + 1 := by omega
                clear hres hat y0 y1 y2 f0 f1 f2 o1 o2 o3 o4 hv9 HAT
                go_wp2
                go_quiet (fail)
                go_wp2
                go_quiet (fail)
                go_wp2
                go_roundg g
                case measure => omega
                case rel => exact ⟨_, _, f.i + 1, q, by omega, by omega, by go_num, by go_num, HP.out.later ⟨rfl, rfl, rfl, Nat.le_refl _, fun _ _ => rfl⟩⟩
end Go.Proofs.YtamoklceekeheaaDoor

namespace Go.Proofs.YtamoklceekeheaaDoor
open Go.RowKit Go.Sort

theorem there_out {K : List Tree} {j o : Int} (h : j < 0 ∨ (K.length : Int) < j) : thereB K j o = false := by
  unfold thereB
  rcases h with h | h <;> simp [h]
theorem there_in {K : List Tree} {j : Nat} {o : Int} (h : j ≤ K.length) : thereB K (j : Int) o = thereAt K[j]? o := by
  unfold thereB
  rw [decide_eq_false (by omega), decide_eq_false (by omega), Int.toNat_natCast]; rfl

end Go.Proofs.YtamoklceekeheaaDoor

namespace Go.Proofs.YtamoklceekeheaaDoor
open Go.RowKit Go.Sort

def posE : Option Int → Ending
  | some n => .returned (.tuple #[.int .i64 n, .int .i64 0])
  | none => .returned (.tuple #[.int .i64 0, .int .i64 9])
theorem posB_none {t : Tree} {p : List Int} {j o : Int} (h : followB t p = none) : posB t p j o = none := by unfold posB; rw [h]; rfl
theorem posB_not {t u : Tree} {p : List Int} {j o : Int} (h : followB t p = some u) (hn : thereB u.kids j o = false) : posB t p j o = none := by unfold posB; rw [h]; simp [hn]
theorem posB_some {t u : Tree} {p : List Int} {j o : Int} (h : followB t p = some u) (hn : thereB u.kids j o = true) : posB t p j o = some ((startB t p : Int) + (totalB (u.kids.take j.toNat) : Int) + o) := by unfold posB; rw [h]; simp [hn]
theorem thereB_true {K : List Tree} {j o : Int} (h : thereB K j o = true) : 0 ≤ j ∧ j ≤ (K.length : Int) ∧ 0 ≤ o ∧ o ≤ (weighAll K : Int) := by
  unfold thereB at h
  simp only [Bool.and_eq_true, Bool.not_eq_true', Bool.or_eq_false_iff, decide_eq_false_iff_not] at h
  obtain ⟨⟨h1, h2⟩, h3⟩ := h
  refine ⟨by omega, by omega, ?_⟩
  unfold thereAt at h3
  cases hx : K[j.toNat]? with
  | none => rw [hx] at h3; simp at h3; omega
  | some x =>
    rw [hx] at h3
    simp only at h3
    have h4 := size_le_weigh x
    have h5 := weigh_mem (List.mem_of_getElem? hx)
    split at h3
    · simp at h3; omega
    · simp at h3; omega

theorem spot_box {w w1 : World} {u0 u1 u2 : Value} {T : TypeId} (hb : Below (w.alloc (.cells #[u0, u1, u2] T)).heap.size (w.alloc (.cells #[u0, u1, u2] T)) w1) :
    w1.cell? ⟨w.heap.size, 0, none⟩ = some u0 ∧ w1.cell? ⟨w.heap.size, 1, none⟩ = some u1 ∧ w1.cell? ⟨w.heap.size, 2, none⟩ = some u2 ∧ w.heap.size < w1.heap.size := by
  have h := (hb.block w.heap.size (by simp)).trans (heap_new w (.cells #[u0, u1, u2] T))
  have := hb.size
  simp at this
  simp [World.cell?, h]
  omega

end Go.Proofs.YtamoklceekeheaaDoor

namespace Go.Proofs.YtamoklceekeheaaDoor
open Go.RowKit Go.Sort

set_option maxHeartbeats 8000000 in
set_option maxRecDepth 100000 in
theorem startP_any (v vp : Value) (t : Tree) (p : List Int) (w : World) (h : Node w (Under w.heap.size) v t) (hp : Ints w (Under w.heap.size) vp p) (hpr : ∀ x ∈ p, -9223372036854775808 ≤ x ∧ x ≤ 9223372036854775807) (hw : weigh t ≤ 1000000) :
    Calls Tryd.prog 57 #[v, vp] w fun e w' => e = posE ((followB t p).map fun _ => (startB t p : Int)) ∧ Below w.heap.size w w' := by
  have HP := Lib.hid hp
  have HPR := Lib.hid hpr
  have HN := Lib.hid h
  obtain ⟨A1, n1, c1, A2, n2, c2, A3, c3, rfl⟩ := h.forms
  obtain ⟨Ap, cp, rfl, hpc⟩ := hp.form
  clear hp hpr h
  go_enter Tryd.func57, Tryd.ntmps57
  go_wp2_with fail
  generalize hW1 : w.alloc (.cells #[.string t.kind, .string t.text, .slice A1 n1 c1, .slice A2 n2 c2, .slice A3 t.kids.length c3] 28) = W1
  have HB0 : Hid (Below w.heap.size w W1) := Lib.hid (by subst hW1; exact (Below.refl _ _).alloc (Nat.le_refl _) _)
  have HC1 : Hid (W1.heap[w.heap.size]? = some (.cells #[.string t.kind, .string t.text, .slice A1 n1 c1, .slice A2 n2 c2, .slice A3 t.kids.length c3] 28) ∧ W1.heap.size = w.heap.size + 1) := Lib.hid (by
    subst hW1; exact ⟨heap_new _ _, by simp⟩)
  clear hW1
  have HPK : Hid (∀ W, Below w.heap.size w W → Ints W (Under W.heap.size) (.slice Ap p.length cp) p) := Lib.hid fun W hW => HP.out.keep (fun b hb => Nat.lt_of_lt_of_le hb hW.size) (fun b hb => hW.block b hb)
  refine (follow_any _ _ t p W1 ((HN.out.below HB0.out).more HB0.out.size) (HPK.out W1 HB0.out) HPR.out hw).mono ?_
  rintro e w2 ⟨B1, m1, d1, B2, m2, d2, B3, d3, u, b, rfl, hnu, hfol, hb2⟩
  have hz1 := HC1.out.2
  have hz2 := hb2.size
  have hn2 := (hb2.block w.heap.size (by omega)).trans HC1.out.1
  have HB2 := Lib.hid (belowNext HB0.out hb2)
  have HF := Lib.hid hfol
  obtain ⟨x0, x1, x2, x3, x4⟩ := cells5 hn2
  have hb3 : Below w2.heap.size w2 (w2.alloc (.cells #[.string u.kind, .string u.text, .slice B1 m1 d1, .slice B2 m2 d2, .slice B3 u.kids.length d3] 28)) := (Below.refl _ _).alloc (Nat.le_refl _) _
  have a0 := cell_kept x0 hb3
  have a1 := cell_kept x1 hb3
  have a2 := cell_kept x2 hb3
  have a3 := cell_kept x3 hb3
  have a4 := cell_kept x4 hb3
  have HB3 := Lib.hid (belowNext HB2.out hb3)
  clear hb2 hnu hfol HC1 hb3 hn2
  cases b with
  | false =>
    have HE : Hid (followB t p = none) := Lib.hid HF.out
    go_wp2
    exact bodyPost_ret (results_tmp2 rfl _ _ _) rfl ⟨by rw [HE.out]; rfl, HB2.out.alloc HB2.out.size _⟩
  | true =>
    have HE : Hid (followB t p = some u) := Lib.hid HF.out
    go_wp2_with fail
    refine (start_any _ _ t u p _ ((HN.out.below HB3.out).more HB3.out.size) (HPK.out _ HB3.out) (followB_some HE.out).1 hw).mono ?_
    rintro e w4 ⟨rfl, hb4⟩
    have HB4 := Lib.hid (belowNext HB3.out hb4)
    clear hb4 a0 a1 a2 a3 a4 x0 x1 x2 x3 x4
    go_wp2
    exact bodyPost_ret (results_tmp2 rfl _ _ _) rfl ⟨by rw [HE.out]; rfl, HB4.out⟩

/-- What Inner answers. -/
def InnPost (w : World) (t : Tree) (p : List Int) (e : Ending) (w' : World) : Prop :=
  ∃ A1 n1 c1 A2 n2 c2 A3 c3 u, ∃ n : Int, e = .returned (.tuple #[.agg #[.string u.kind, .string u.text, .slice A1 n1 c1, .slice A2 n2 c2, .slice A3 u.kids.length c3], .int .i64 n]) ∧
    Node w' (From w.heap.size w'.heap.size) (.agg #[.string u.kind, .string u.text, .slice A1 n1 c1, .slice A2 n2 c2, .slice A3 u.kids.length c3]) u ∧ ((followB t p = some u ∧ n = 0) ∨ (followB t p = none ∧ n = 9 ∧ u = .mk ⟨#[]⟩ ⟨#[]⟩ [] [] [])) ∧ Below w.heap.size w w'

set_option maxHeartbeats 8000000 in
set_option maxRecDepth 100000 in
theorem inner_any (v vp : Value) (t : Tree) (p : List Int) (w : World) (h : Node w (Under w.heap.size) v t) (hp : Ints w (Under w.heap.size) vp p) (hpr : ∀ x ∈ p, -9223372036854775808 ≤ x ∧ x ≤ 9223372036854775807) (hw : weigh t ≤ 1000000) :
    Calls Tryd.prog 56 #[v, vp] w (InnPost w t p) := by
  have HP := Lib.hid hp
  have HPR := Lib.hid hpr
  have HN := Lib.hid h
  obtain ⟨A1, n1, c1, A2, n2, c2, A3, c3, rfl⟩ := h.forms
  obtain ⟨Ap, cp, rfl, hpc⟩ := hp.form
  clear hp hpr h
  go_enter Tryd.func56, Tryd.ntmps56
  go_wp2_with fail
  generalize hW1 : (w.alloc (.cells #[.string t.kind, .string t.text, .slice A1 n1 c1, .slice A2 n2 c2, .slice A3 t.kids.length c3] 28)).alloc (.cells #[.string ⟨#[]⟩, .string ⟨#[]⟩, .slice none 0 0, .slice none 0 0, .slice none 0 0] 28) = W1
  have HB0 : Hid (Below w.heap.size w W1) := Lib.hid (by subst hW1; exact ((Below.refl _ _).alloc (Nat.le_refl _) _).alloc (by simp) _)
  have HC1 : Hid (W1.heap[w.heap.size + 1]? = some (.cells #[.string ⟨#[]⟩, .string ⟨#[]⟩, .slice none 0 0, .slice none 0 0, .slice none 0 0] 28) ∧ W1.heap.size = w.heap.size + 2) := Lib.hid (by
    subst hW1; exact ⟨heap_new' _ _ (by simp), by simp⟩)
  clear hW1
  have HPK : Hid (∀ W, Below w.heap.size w W → Ints W (Under W.heap.size) (.slice Ap p.length cp) p) := Lib.hid fun W hW => HP.out.keep (fun b hb => Nat.lt_of_lt_of_le hb hW.size) (fun b hb => hW.block b hb)
  refine (follow_any _ _ t p W1 ((HN.out.below HB0.out).more HB0.out.size) (HPK.out W1 HB0.out) HPR.out hw).mono ?_
  rintro e w2 ⟨B1, m1, d1, B2, m2, d2, B3, d3, u, b, rfl, hnu, hfol, hb2⟩
  have hz1 := HC1.out.2
  have hz2 := hb2.size
  have hn2 := (hb2.block (w.heap.size + 1) (by omega)).trans HC1.out.1
  have HB2 := Lib.hid (belowNext HB0.out hb2)
  have HF := Lib.hid hfol
  have HNU := Lib.hid hnu
  have hb3 : Below w2.heap.size w2 (w2.alloc (.cells #[.string u.kind, .string u.text, .slice B1 m1 d1, .slice B2 m2 d2, .slice B3 u.kids.length d3] 28)) := (Below.refl _ _).alloc (Nat.le_refl _) _
  have hr3 := (hb3.block (w.heap.size + 1) (by omega)).trans hn2
  have HB3 := Lib.hid (belowNext HB2.out hb3)
  have HR3 := Lib.hid hr3
  cases b with
  | false =>
    have HE : Hid (followB t p = none) := Lib.hid HF.out
    obtain ⟨a0, a1, a2, a3, a4⟩ := cells5 hr3
    have f0 := frozen_of_row _ _ 0 _ _ hr3
    have f1 := frozen_of_row _ _ 1 _ _ hr3
    have f2 := frozen_of_row _ _ 2 _ _ hr3
    have f3 := frozen_of_row _ _ 3 _ _ hr3
    have f4 := frozen_of_row _ _ 4 _ _ hr3
    clear hb2 hnu hfol HC1 hb3 hn2 hr3
    go_wp2
    obtain ⟨q0, q1, q2, q3, q4⟩ := cells5 (put5z_block (v0 := .string ⟨#[]⟩) (v1 := .string ⟨#[]⟩) (v2 := .slice none 0 0) (v3 := .slice none 0 0) (v4 := .slice none 0 0) HR3.out)
    have HBE := Lib.hid (put5z_below (v0 := .string ⟨#[]⟩) (v1 := .string ⟨#[]⟩) (v2 := .slice none 0 0) (v3 := .slice none 0 0) (v4 := .slice none 0 0) (Nat.le_succ w.heap.size) HB3.out)
    unfold put5z at q0 q1 q2 q3 q4
    refine bodyPost_ret (v := .tuple #[.agg #[.string ⟨#[]⟩, .string ⟨#[]⟩, .slice none 0 0, .slice none 0 0, .slice none 0 0], .int .i64 9]) (by simp [results, Tryd.results56, go_sem, q0, q1, q2, q3, q4]) rfl ?_
    exact ⟨none, 0, 0, none, 0, 0, none, 0, .mk ⟨#[]⟩ ⟨#[]⟩ [] [] [], 9, rfl, ⟨_, _, _, rfl, strs_nil, pairs_nil, kids_nil⟩, .inr ⟨HE.out, rfl, rfl⟩, HBE.out⟩
  | true =>
    have HE : Hid (followB t p = some u) := Lib.hid HF.out
    have hwu : weigh u ≤ 1000000 := Nat.le_trans (goB_weigh p t u (followB_some HE.out).1) hw
    have HNK : Hid (∀ W, Below w2.heap.size w2 W → Node W (Under W.heap.size) (.agg #[.string u.kind, .string u.text, .slice B1 m1 d1, .slice B2 m2 d2, .slice B3 u.kids.length d3]) u) := Lib.hid fun W hW => HNU.out.keep (fun b hb => Nat.lt_of_lt_of_le hb (Nat.le_trans hz2 hW.size)) (fun b hb => hW.block b (Nat.lt_of_lt_of_le hb hz2))
    have HBW := Lib.hid hb3
    clear hb2 hnu hfol HC1 hb3 hn2 hr3
    go_wp2_with fail
    refine (copy_any _ u _ (HNK.out _ HBW.out) hwu).mono ?_
    rintro e w4 ⟨v4, rfl, hn4, hb4⟩
    obtain ⟨E1, l1, e1, E2, l2, e2, E3, e3, rfl⟩ := hn4.forms
    have HB4 := Lib.hid (belowNext HB3.out hb4)
    have hz3 := HB3.out.size
    have hz4 := hb4.size
    have hw3 : (w2.alloc (.cells #[.string u.kind, .string u.text, .slice B1 m1 d1, .slice B2 m2 d2, .slice B3 u.kids.length d3] 28)).heap.size = w2.heap.size + 1 := by simp
    have hr4 := (hb4.block (w.heap.size + 1) (by omega)).trans HR3.out
    have HR4 := Lib.hid hr4
    have HN4 := Lib.hid hn4
    obtain ⟨a0, a1, a2, a3, a4⟩ := cells5 hr4
    have f0 := frozen_of_row _ _ 0 _ _ hr4
    have f1 := frozen_of_row _ _ 1 _ _ hr4
    have f2 := frozen_of_row _ _ 2 _ _ hr4
    have f3 := frozen_of_row _ _ 3 _ _ hr4
    have f4 := frozen_of_row _ _ 4 _ _ hr4
    clear hb4 hr4 hn4
    go_wp2
    obtain ⟨q0, q1, q2, q3, q4⟩ := cells5 (put5z_block (v0 := .string u.kind) (v1 := .string u.text) (v2 := .slice E1 l1 e1) (v3 := .slice E2 l2 e2) (v4 := .slice E3 u.kids.length e3) HR4.out)
    have HBE := Lib.hid (put5z_below (v0 := .string u.kind) (v1 := .string u.text) (v2 := .slice E1 l1 e1) (v3 := .slice E2 l2 e2) (v4 := .slice E3 u.kids.length e3) (Nat.le_succ w.heap.size) HB4.out)
    unfold put5z at q0 q1 q2 q3 q4
    refine bodyPost_ret (v := .tuple #[.agg #[.string u.kind, .string u.text, .slice E1 l1 e1, .slice E2 l2 e2, .slice E3 u.kids.length e3], .int .i64 0]) (by simp [results, Tryd.results56, go_sem, q0, q1, q2, q3, q4]) rfl ?_
    refine ⟨E1, l1, e1, E2, l2, e2, E3, e3, u, 0, rfl, HN4.out.keep (fun b hb => ⟨?_, ?_⟩) (fun b hb => put5z_other (g := w.heap.size + 1) ?_), .inl ⟨HE.out, rfl⟩, HBE.out⟩
    · have := hb.1; omega
    · have := hb.2
      have hs := put5z_size (w := w4) (g := w.heap.size + 1) (v0 := .string u.kind) (v1 := .string u.text) (v2 := .slice E1 l1 e1) (v3 := .slice E2 l2 e2) (v4 := .slice E3 u.kids.length e3)
      unfold put5z at hs
      rw [hs]; exact this
    · have := hb.1; omega
end Go.Proofs.YtamoklceekeheaaDoor

namespace Go.Proofs.YtamoklceekeheaaDoor
open Go.RowKit Go.Sort Go.Maps

theorem ints_eq5 {a b : List Int} (hl : a.length = b.length) (h : ∀ i, i < a.length → a[i]? = b[i]?) : a = b := by
  apply List.ext_getElem?
  intro i
  by_cases hi : i < a.length
  · exact h i hi
  · rw [List.getElem?_eq_none (by omega), List.getElem?_eq_none (by omega)]

set_option maxHeartbeats 2000000 in
theorem eqInts_any (va vb : Value) (a b : List Int) (S S' : Nat → Prop) (w : World) (ha : Ints w S va a) (hb : Ints w S' vb b) :
    Calls Tryd.prog 55 #[va, vb] w fun e w' => e = .returned (.bool (decide (a = b))) ∧ ∃ n, w' = w.drewN n := by
  obtain ⟨A, c, rfl, hc⟩ := ha.form
  obtain ⟨A', c', rfl, hc'⟩ := hb.form
  have h1 := ha.len.2.2
  have h2 := hb.len.2.2
  unfold maxLen at h1 h2
  have HA := Lib.hid ha
  have HB := Lib.hid hb
  clear ha hb
  by_cases hl : a.length = b.length
  · have HL := Lib.hid hl
    have hl' : ((a.length : Int) != (b.length : Int)) = false := by simp [hl]
    clear hl
    go_enter Tryd.func55, Tryd.ntmps55
    go_wp2
    go_loopw [13] (fun i wr => ∃ k n : Nat, k ≤ a.length ∧ i = .int .i64 k ∧ wr = w.drewN n ∧ Hid (∀ j, j < k → a[j]? = b[j]?)) (fun i _ => a.length - (intOf i).toNat)
    case atStart => exact ⟨0, 0, by omega, rfl, rfl, fun j hj => absurd hj (by omega)⟩
    case round =>
      obtain ⟨k, n, hk, rfl, rfl, hall⟩ := hrel
      by_cases hlt : k < a.length
      · have hltb : k < b.length := by rw [← HL.out]; exact hlt
        have hax : a[k]? = some a[k] := List.getElem?_eq_getElem hlt
        have hbx : b[k]? = some b[k] := List.getElem?_eq_getElem hltb
        have HNE : Hid (a[k] ≠ b[k] → decide (a = b) = false) := Lib.hid fun hne => decide_eq_false fun e => hne (by subst e; rfl)
        have HEQ : Hid (a[k] = b[k] → a[k]? = b[k]?) := Lib.hid fun he => by rw [hax, hbx, he]
        generalize a[k] = x at *
        generalize b[k] = y at *
        obtain ⟨ba, oa, rfl, _, ca⟩ := HA.out.get hax
        obtain ⟨bb, ob, rfl, _, cb⟩ := HB.out.get hbx
        clear hax hbx
        by_cases hxy : x = y
        · have HE2 := Lib.hid (HEQ.out hxy)
          clear HEQ HNE
          subst hxy
          go_wp2
          go_quiet (fail)
          go_wp2
          exact ⟨⟨k + 1, _, by omega, by go_num, rfl, Lib.hid fun j hj => by
            by_cases e : j < k
            · exact hall.out j e
            · obtain rfl : j = k := by omega
              exact HE2.out⟩, by simp [intOf]; omega⟩
        · have hne : (x != y) = true := by simp [hxy]
          have HF := Lib.hid (HNE.out hxy)
          go_wp2
          go_quiet (fail)
          go_wp2
          go_ret
          exact ⟨ret_bool HF.out.symm, _, World.drewN_drewN _ _ _⟩
      · go_wp2
        go_ret
        exact ⟨ret_bool (decide_eq_true (ints_eq5 HL.out fun i hi => hall.out i (by omega))).symm, n, rfl⟩
  · have hl' : ((a.length : Int) != (b.length : Int)) = true := by simp; omega
    have HN : Hid (decide (a = b) = false) := Lib.hid (decide_eq_false fun e => hl (by rw [e]))
    clear hl
    go_enter Tryd.func55, Tryd.ntmps55
    go_wp2
    go_ret
    exact ⟨ret_bool HN.out.symm, 0, rfl⟩

theorem new_box (w : World) (ob : Obj) : Below w.heap.size w (w.alloc ob) ∧ (w.alloc ob).heap[w.heap.size]? = some ob ∧ w.heap.size < (w.alloc ob).heap.size := ⟨(Below.refl _ _).alloc (Nat.le_refl _) _, heap_new _ _, by simp⟩
end Go.Proofs.YtamoklceekeheaaDoor

namespace Go.Proofs.YtamoklceekeheaaDoor
open Go.RowKit Go.Sort Go.Maps

def hi4 : Tree := .mk ⟨#[116, 101, 120, 116]⟩ ⟨#[104, 105]⟩ [] [] []
def p4 : Tree := .mk ⟨#[112]⟩ ⟨#[]⟩ [] [] [hi4]
def doc4 : Tree := .mk ⟨#[100, 111, 99]⟩ ⟨#[]⟩ [] [] [p4]
theorem doc4_weigh : weigh doc4 ≤ 1000000 := by decide +kernel
theorem doc4_res : resolveB doc4 2 = some ([0], 0, 1) := by decide +kernel

theorem ints_eq {a b : List Int} (hl : a.length = b.length) (h : ∀ i, i < a.length → a[i]? = b[i]?) : a = b := by
  apply List.ext_getElem?
  intro i
  by_cases hi : i < a.length
  · exact h i hi
  · rw [List.getElem?_eq_none (by omega), List.getElem?_eq_none (by omega)]

set_option maxHeartbeats 2000000 in
theorem same4_any (va vb : Value) (a b : List Int) (S S' : Nat → Prop) (w : World) (ha : Ints w S va a) (hb : Ints w S' vb b) :
    Calls Tryd.prog 54 #[va, vb] w fun e w' => e = .returned (.bool (decide (a = b))) ∧ ∃ n, w' = w.drewN n := by
  obtain ⟨A, c, rfl, hc⟩ := ha.form
  obtain ⟨A', c', rfl, hc'⟩ := hb.form
  have h1 := ha.len.2.2
  have h2 := hb.len.2.2
  unfold maxLen at h1 h2
  have HA := Lib.hid ha
  have HB := Lib.hid hb
  clear ha hb
  by_cases hl : a.length = b.length
  · have HL := Lib.hid hl
    have hl' : ((a.length : Int) != (b.length : Int)) = false := by simp [hl]
    clear hl
    go_enter Tryd.func54, Tryd.ntmps54
    go_wp2
    go_loopw [5] (fun i wr => ∃ k n : Nat, k ≤ a.length ∧ i = .int .i64 k ∧ wr = w.drewN n ∧ Hid (∀ j, j < k → a[j]? = b[j]?)) (fun i _ => a.length - (intOf i).toNat)
    case atStart => exact ⟨0, 0, by omega, rfl, rfl, fun j hj => absurd hj (by omega)⟩
    case round =>
      obtain ⟨k, n, hk, rfl, rfl, hall⟩ := hrel
      by_cases hlt : k < a.length
      · have hltb : k < b.length := by rw [← HL.out]; exact hlt
        have hax : a[k]? = some a[k] := List.getElem?_eq_getElem hlt
        have hbx : b[k]? = some b[k] := List.getElem?_eq_getElem hltb
        have HNE : Hid (a[k] ≠ b[k] → decide (a = b) = false) := Lib.hid fun hne => decide_eq_false fun e => hne (by subst e; rfl)
        have HEQ : Hid (a[k] = b[k] → a[k]? = b[k]?) := Lib.hid fun he => by rw [hax, hbx, he]
        generalize a[k] = x at *
        generalize b[k] = y at *
        obtain ⟨ba, oa, rfl, _, ca⟩ := HA.out.get hax
        obtain ⟨bb, ob, rfl, _, cb⟩ := HB.out.get hbx
        clear hax hbx
        by_cases hxy : x = y
        · have HE2 := Lib.hid (HEQ.out hxy)
          clear HEQ HNE
          subst hxy
          go_wp2
          go_quiet (fail)
          go_wp2
          exact ⟨⟨k + 1, _, by omega, by go_num, rfl, Lib.hid fun j hj => by
            by_cases e : j < k
            · exact hall.out j e
            · obtain rfl : j = k := by omega
              exact HE2.out⟩, by simp [intOf]; omega⟩
        · have hne : (x != y) = true := by simp [hxy]
          have HF := Lib.hid (HNE.out hxy)
          go_wp2
          go_quiet (fail)
          go_wp2
          go_ret
          exact ⟨ret_bool HF.out.symm, _, World.drewN_drewN _ _ _⟩
      · go_wp2
        go_ret
        exact ⟨ret_bool (decide_eq_true (ints_eq HL.out fun i hi => hall.out i (by omega))).symm, n, rfl⟩
  · have hl' : ((a.length : Int) != (b.length : Int)) = true := by simp; omega
    have HN : Hid (decide (a = b) = false) := Lib.hid (decide_eq_false fun e => hl (by rw [e]))
    clear hl
    go_enter Tryd.func54, Tryd.ntmps54
    go_wp2
    go_ret
    exact ⟨ret_bool HN.out.symm, 0, rfl⟩

set_option maxHeartbeats 2000000 in
theorem sameS_any (va vb : Value) (a b : List Int) (j o j' o' : Int) (w : World) (ha : Ints w (Under w.heap.size) va a) (hb : Ints w (Under w.heap.size) vb b) :
    Calls Tryd.prog 26 #[.agg #[va, .int .i64 j, .int .i64 o], .agg #[vb, .int .i64 j', .int .i64 o']] w fun e w' => e = .returned (.bool (decide (a = b) && ((j == j') && (o == o')))) ∧ Below w.heap.size w w' := by
  obtain ⟨A, c, rfl, hc⟩ := ha.form
  obtain ⟨A', c', rfl, hc'⟩ := hb.form
  have HA := Lib.hid ha
  have HB := Lib.hid hb
  clear ha hb
  obtain ⟨res, hres⟩ : ∃ r, r = (decide (a = b) && ((j == j') && (o == o'))) := ⟨_, rfl⟩
  rw [← hres]
  have HE := Lib.hid hres
  clear hres
  go_enter Tryd.func26, Tryd.ntmps26
  go_wp2_with fail
  generalize hW1 : (w.alloc (.cells #[.slice A a.length c, .int .i64 j, .int .i64 o] 60)).alloc (.cells #[.slice A' b.length c', .int .i64 j', .int .i64 o'] 60) = W1
  have hb1 : Below w.heap.size w W1 := by subst hW1; exact ((Below.refl _ _).alloc (Nat.le_refl _) _).alloc (by simp) _
  obtain ⟨x0, x1, x2⟩ := cells3 (show W1.heap[w.heap.size]? = some (.cells #[.slice A a.length c, .int .i64 j, .int .i64 o] 60) by subst hW1; exact heap_old _ _ _ (heap_new _ _))
  obtain ⟨y0, y1, y2⟩ := cells3 (show W1.heap[w.heap.size + 1]? = some (.cells #[.slice A' b.length c', .int .i64 j', .int .i64 o'] 60) by subst hW1; exact heap_new' _ _ (by simp))
  have HB1 := Lib.hid hb1
  clear hW1 hb1
  refine (same4_any _ _ a b (Under w.heap.size) (Under w.heap.size) W1 (HA.out.keep (fun _ h => h) (fun b hb => HB1.out.block b hb)) (HB.out.keep (fun _ h => h) (fun b hb => HB1.out.block b hb))).mono ?_
  rintro e w2 ⟨rfl, n, rfl⟩
  have HB2 : Hid (Below w.heap.size w (W1.drewN n)) := Lib.hid (HB1.out.trans ⟨rfl, rfl, rfl, Nat.le_refl _, fun _ _ => rfl⟩)
  generalize hr0 : decide (a = b) = r at *
  cases r with
  | false =>
    have HF : Hid (res = false) := Lib.hid (by rw [HE.out]; rfl)
    clear hr0
    go_wp2
    go_ret
    exact ⟨ret_bool HF.out.symm, HB2.out⟩
  | true =>
    generalize hr : (j == j') = r at *
    cases r with
    | false =>
      have HF : Hid (res = false) := Lib.hid (by rw [HE.out]; rfl)
      clear hr0
      go_wp2
      go_ret
      exact ⟨ret_bool HF.out.symm, HB2.out⟩
    | true =>
      have HF : Hid (res = (o == o')) := Lib.hid (by rw [HE.out]; rfl)
      clear hr0
      go_wp2
      go_ret
      exact ⟨ret_bool HF.out.symm, HB2.out⟩
end Go.Proofs.YtamoklceekeheaaDoor

namespace Go.Proofs.YtamoklceekeheaaDoor
open Go.RowKit Go.Sort Go.Maps

theorem docB_weigh (l : List Cel) : weigh (docB l) ≤ 800 := by
  have h := madeB_weigh l
  have h1 : DOC.size = 3 := by decide
  have h2 : ByteArray.empty.size = 0 := by decide
  simp only [docB, weigh, weighL, weighP, List.map_nil, List.sum_nil, h1, h2]; omega
theorem docB_plain (l : List Cel) : isTxt (docB l).kind = false := by
  show isTxt DOC = false
  decide +kernel
theorem docB_kids (l : List Cel) : (docB l).kids = madeB l := rfl
abbrev docCells (A : Option Addr) (n c : Nat) : Array Value := #[.string ⟨#[100, 111, 99]⟩, .string ⟨#[]⟩, .slice none 0 0, .slice none 0 0, .slice A n c]
/-- The document in memory. -/
theorem doc_node {w : World} {S : Nat → Prop} {A : Option Addr} {c : Nat} {l : List Cel} (h : Kids w S (.slice A (madeB l).length c) (madeB l)) : Node w S (.agg (docCells A (madeB l).length c)) (docB l) := ⟨_, _, _, rfl, strs_nil, pairs_nil, h⟩
/-- A spot of the document, and where it leads. -/
theorem doc_spot (l : List Cel) {k : Nat} (hk : k ≤ totalB (madeB l)) : ∃ p, ∃ j o : Nat, ∃ u, resolveB (docB l) (k : Int) = some (p, j, o) ∧ SpotOk (docB l) k (p, j, o) u := by
  have hl : k < (spotsB 0 (docB l).kids).length := by rw [spotsB_len, docB_kids]; omega
  have hs : (spotsB 0 (docB l).kids)[k]? = some (spotsB 0 (docB l).kids)[k] := List.getElem?_eq_getElem hl
  obtain ⟨u, hu⟩ := spots_ok (docB l) (docB_plain l) k _ hs
  exact ⟨_, _, _, u, by rw [resolveB_nat (docB_plain l)]; exact hs, hu⟩
theorem path_range : ∀ (p : List Int) (t u : Tree), goB t p = some u → weigh t ≤ 1000000 → ∀ x ∈ p, -9223372036854775808 ≤ x ∧ x ≤ 9223372036854775807
  | [], _, _, _, _, x, hx => by cases hx
  | i :: p, t, u, h, hw, x, hx => by
    rw [goB] at h
    cases hk : kidAt t i with
    | none => rw [hk] at h; cases h
    | some y =>
      rw [hk] at h
      obtain ⟨_, h0, hy⟩ := kidAt_some hk
      have hl := (List.getElem?_eq_some_iff.1 hy).1
      have h1 := length_le_weigh t.kids
      have h2 := kids_weigh t
      rcases List.mem_cons.1 hx with rfl | hx
      · omega
      · exact path_range p y u h (Nat.le_trans (goB_weigh [i] t y (by simp [goB, hk])) hw) x hx
section
variable {w : World} {ops : Array Oper} {o : Oper} {a : Act} {K : Act → World → Prop} {Q : Exit → Act → World → Prop} {E : Prop}
/-- Total, in a region that draws its order. -/
theorem step_total {v : Value} {n : Int} (hgd : o.guard = none) (p : Operand) (ho : o.op = .call { callee := .value (.func 15), args := #[p], argTypes := #[26] })
    (hp : a.eval p = v) (hc : Calls Tryd.prog 15 #[v] w fun e w' => e = .returned (.int .i64 n) ∧ Below w.heap.size w w') (h : ∀ w', Below w.heap.size w w' → K (a.put o.dst (.int .i64 n)) w') :
    if Region.wanted o (yielded ops a.tmps) = true then Oper.wp Tryd.prog o a w K Q else E := by
  have hwn : Region.wanted o (yielded ops a.tmps) = true := by simp [Region.wanted, hgd]
  rw [if_pos hwn]
  have hrun : (execOp a.eval o).run Tryd.prog w = .ok (.enter 15 #[v]) w := by
    have hf : a.eval (.func 15) = .func (.func 15) #[] #[] := rfl
    obtain ⟨c, hc⟩ : ∃ c, Tryd.f15.body = some c := Option.isSome_iff_exists.1 (by kernel_rfl)
    have hne : ¬ Tryd.f15.name = "runtime.NumGoroutine" := of_decide_eq_false (by kernel_rfl)
    simp [execOp, ho, resolve, invoke, hp, hf, Deferred.ofValue, callFunc, hne, hc]
  unfold Oper.wp
  rw [hrun, Oper.upon_enter]
  refine hc.mono fun e w'' hh => ?_
  obtain ⟨rfl, h1⟩ := hh
  exact h w'' h1
/-- Resolve, in a region that draws its order. -/
theorem step_resolve {v x : Value} {m : Int} (hgd : o.guard = none) (p q : Operand) (ho : o.op = .call { callee := .value (.func 25), args := #[p, q], argTypes := #[28, 3] })
    (hp : a.eval p = v) (hq : a.eval q = .int .i64 m) (hc : Calls Tryd.prog 25 #[v, .int .i64 m] w fun e w' => e = .returned x ∧ Below w.heap.size w w') (h : ∀ w', Below w.heap.size w w' → K (a.put o.dst x) w') :
    if Region.wanted o (yielded ops a.tmps) = true then Oper.wp Tryd.prog o a w K Q else E := by
  have hwn : Region.wanted o (yielded ops a.tmps) = true := by simp [Region.wanted, hgd]
  rw [if_pos hwn]
  have hrun : (execOp a.eval o).run Tryd.prog w = .ok (.enter 25 #[v, .int .i64 m]) w := by
    have hf : a.eval (.func 25) = .func (.func 25) #[] #[] := rfl
    obtain ⟨c, hc⟩ : ∃ c, Tryd.f25.body = some c := Option.isSome_iff_exists.1 (by kernel_rfl)
    have hne : ¬ Tryd.f25.name = "runtime.NumGoroutine" := of_decide_eq_false (by kernel_rfl)
    simp [execOp, ho, resolve, invoke, hp, hq, hf, Deferred.ofValue, callFunc, hne, hc]
  unfold Oper.wp
  rw [hrun, Oper.upon_enter]
  refine hc.mono fun e w'' hh => ?_
  obtain ⟨rfl, h1⟩ := hh
  exact h w'' h1
end
/-- Resolve, where there is no spot. -/
theorem resolve_none {v : Value} {t : Tree} {m : Int} {w : World} (h : Node w (Under w.heap.size) v t) (hw : weigh t ≤ 1000000) (h1 : -9223372036854775808 ≤ m) (h2 : m ≤ 9223372036854775807) (hn : resolveB t m = none) :
    Calls Tryd.prog 25 #[v, .int .i64 m] w fun e w' => e = .returned (.tuple #[.agg #[.slice none 0 0, .int .i64 0, .int .i64 0], .int .i64 3]) ∧ Below w.heap.size w w' := by
  refine (resolve_any v t m w h hw h1 h2).mono ?_
  rintro e w' ⟨hb, hr⟩
  rw [hn] at hr
  rcases hr with ⟨_, rfl⟩ | ⟨p, j, o, A, c, hr, _⟩
  · exact ⟨rfl, hb⟩
  · cases hr

end Go.Proofs.YtamoklceekeheaaDoor

namespace Go.Proofs.YtamoklceekeheaaDoor
open Go.RowKit Go.Sort Go.Maps

abbrev SpanZ : Obj := .cells #[.slice none 0 0, .string ⟨#[]⟩, .string ⟨#[]⟩, .slice none 0 0, .slice none 0 0, .slice none 0 0, .slice none 0 0, .slice none 0 0, .slice none 0 0] 62

/-- Nine cells put into a block of nine. -/
def put9 (w : World) (g : Nat) (v0 v1 v2 v3 v4 v5 v6 v7 v8 : Value) : World := ((((((((w.setCell ⟨g, 0, none⟩ v0).setCell ⟨g, 1, none⟩ v1).setCell ⟨g, 2, none⟩ v2).setCell ⟨g, 3, none⟩ v3).setCell ⟨g, 4, none⟩ v4).setCell ⟨g, 5, none⟩ v5).setCell ⟨g, 6, none⟩ v6).setCell ⟨g, 7, none⟩ v7).setCell ⟨g, 8, none⟩ v8
theorem put9_block {w : World} {g : Nat} {u0 u1 u2 u3 u4 u5 u6 u7 u8 v0 v1 v2 v3 v4 v5 v6 v7 v8 : Value} {T : TypeId} (h : w.heap[g]? = some (.cells #[u0, u1, u2, u3, u4, u5, u6, u7, u8] T)) : (put9 w g v0 v1 v2 v3 v4 v5 v6 v7 v8).heap[g]? = some (.cells #[v0, v1, v2, v3, v4, v5, v6, v7, v8] T) :=
  have h0 : (w.setCell ⟨g, 0, none⟩ v0).heap[g]? = some (.cells #[v0, u1, u2, u3, u4, u5, u6, u7, u8] T) := heap_setCell_same _ g 0 _ T v0 h
  have h1 : ((w.setCell ⟨g, 0, none⟩ v0).setCell ⟨g, 1, none⟩ v1).heap[g]? = some (.cells #[v0, v1, u2, u3, u4, u5, u6, u7, u8] T) := heap_setCell_same _ g 1 _ T v1 h0
  have h2 : (((w.setCell ⟨g, 0, none⟩ v0).setCell ⟨g, 1, none⟩ v1).setCell ⟨g, 2, none⟩ v2).heap[g]? = some (.cells #[v0, v1, v2, u3, u4, u5, u6, u7, u8] T) := heap_setCell_same _ g 2 _ T v2 h1
  have h3 : ((((w.setCell ⟨g, 0, none⟩ v0).setCell ⟨g, 1, none⟩ v1).setCell ⟨g, 2, none⟩ v2).setCell ⟨g, 3, none⟩ v3).heap[g]? = some (.cells #[v0, v1, v2, v3, u4, u5, u6, u7, u8] T) := heap_setCell_same _ g 3 _ T v3 h2
  have h4 : (((((w.setCell ⟨g, 0, none⟩ v0).setCell ⟨g, 1, none⟩ v1).setCell ⟨g, 2, none⟩ v2).setCell ⟨g, 3, none⟩ v3).setCell ⟨g, 4, none⟩ v4).heap[g]? = some (.cells #[v0, v1, v2, v3, v4, u5, u6, u7, u8] T) := heap_setCell_same _ g 4 _ T v4 h3
  have h5 : ((((((w.setCell ⟨g, 0, none⟩ v0).setCell ⟨g, 1, none⟩ v1).setCell ⟨g, 2, none⟩ v2).setCell ⟨g, 3, none⟩ v3).setCell ⟨g, 4, none⟩ v4).setCell ⟨g, 5, none⟩ v5).heap[g]? = some (.cells #[v0, v1, v2, v3, v4, v5, u6, u7, u8] T) := heap_setCell_same _ g 5 _ T v5 h4
  have h6 : (((((((w.setCell ⟨g, 0, none⟩ v0).setCell ⟨g, 1, none⟩ v1).setCell ⟨g, 2, none⟩ v2).setCell ⟨g, 3, none⟩ v3).setCell ⟨g, 4, none⟩ v4).setCell ⟨g, 5, none⟩ v5).setCell ⟨g, 6, none⟩ v6).heap[g]? = some (.cells #[v0, v1, v2, v3, v4, v5, v6, u7, u8] T) := heap_setCell_same _ g 6 _ T v6 h5
  have h7 : ((((((((w.setCell ⟨g, 0, none⟩ v0).setCell ⟨g, 1, none⟩ v1).setCell ⟨g, 2, none⟩ v2).setCell ⟨g, 3, none⟩ v3).setCell ⟨g, 4, none⟩ v4).setCell ⟨g, 5, none⟩ v5).setCell ⟨g, 6, none⟩ v6).setCell ⟨g, 7, none⟩ v7).heap[g]? = some (.cells #[v0, v1, v2, v3, v4, v5, v6, v7, u8] T) := heap_setCell_same _ g 7 _ T v7 h6
  heap_setCell_same _ g 8 _ T v8 h7
theorem put9_other {w : World} {g b : Nat} {v0 v1 v2 v3 v4 v5 v6 v7 v8 : Value} (h : b ≠ g) : (put9 w g v0 v1 v2 v3 v4 v5 v6 v7 v8).heap[b]? = w.heap[b]? := by
  unfold put9
  rw [Below.heap_setCell _ _ _ _ h, Below.heap_setCell _ _ _ _ h, Below.heap_setCell _ _ _ _ h, Below.heap_setCell _ _ _ _ h, Below.heap_setCell _ _ _ _ h, Below.heap_setCell _ _ _ _ h, Below.heap_setCell _ _ _ _ h, Below.heap_setCell _ _ _ _ h, Below.heap_setCell _ _ _ _ h]
theorem put9_size {w : World} {g : Nat} {v0 v1 v2 v3 v4 v5 v6 v7 v8 : Value} : (put9 w g v0 v1 v2 v3 v4 v5 v6 v7 v8).heap.size = w.heap.size := by
  have e : ∀ (W : World) (o : Nat) (u : Value), (W.setCell ⟨g, o, none⟩ u).heap.size = W.heap.size := fun W o u => by simp [World.setCell]
  unfold put9; rw [e, e, e, e, e, e, e, e, e]
theorem put9_below {B : Nat} {a w : World} {g : Nat} {v0 v1 v2 v3 v4 v5 v6 v7 v8 : Value} (hg : B ≤ g) (h : Below B a w) : Below B a (put9 w g v0 v1 v2 v3 v4 v5 v6 v7 v8) :=
  set_below hg (set_below hg (set_below hg (set_below hg (set_below hg (set_below hg (set_below hg (set_below hg (set_below hg h))))))))
/-- What spanOf answers: the path, the node there, and its kids in three. -/
def SpanPost (w : World) (t : Tree) (p : List Int) (u : Tree) (a b : Nat) (e : Ending) (w' : World) : Prop :=
  ∃ P q B1 m1 d1 B2 m2 d2 B3 d3 E1 k1 c1 E2 k2 c2 E3 k3 c3, e = .returned (.tuple #[.agg #[.slice P p.length q, .string u.kind, .string u.text, .slice B1 m1 d1, .slice B2 m2 d2, .slice B3 u.kids.length d3, .slice E1 k1 c1, .slice E2 k2 c2, .slice E3 k3 c3], .int .i64 0]) ∧
    Ints w' (From w.heap.size w'.heap.size) (.slice P p.length q) p ∧ Node w' (From w.heap.size w'.heap.size) (.agg #[.string u.kind, .string u.text, .slice B1 m1 d1, .slice B2 m2 d2, .slice B3 u.kids.length d3]) u ∧
    Kids w' (From w.heap.size w'.heap.size) (.slice E1 k1 c1) (splitB (splitB u.kids (b - startB t p)).2.1 (a - startB t p)).2.1 ∧ Kids w' (From w.heap.size w'.heap.size) (.slice E2 k2 c2) (splitB (splitB u.kids (b - startB t p)).2.1 (a - startB t p)).2.2 ∧
    Kids w' (From w.heap.size w'.heap.size) (.slice E3 k3 c3) (splitB u.kids (b - startB t p)).2.2 ∧ Below w.heap.size w w'

set_option maxHeartbeats 20000000 in
set_option maxRecDepth 100000 in
theorem span_ok (v : Value) (t u : Tree) (a b : Nat) (p : List Int) (j1 o1 j2 o2 : Nat) (w : World) (h : Node w (Under w.heap.size) v t) (hw : weigh t ≤ 800000) (hT : Tabs w) (ha : resolveB t (a : Int) = some (p, j1, o1)) (hb : resolveB t (b : Int) = some (p, j2, o2)) (hab : a ≤ b) (ha1 : SpotOk t a (p, j1, o1) u) (hb1 : SpotOk t b (p, j2, o2) u) (hb9 : b ≤ 1000000) :
    Calls Tryd.prog 29 #[v, .int .i64 (a : Int), .int .i64 (b : Int)] w (SpanPost w t p u a b) := by
  have HN := Lib.hid h
  have HA := Lib.hid ha
  have HB := Lib.hid hb
  have HOA := Lib.hid ha1
  have HOB := Lib.hid hb1
  have HT := Lib.hid hT
  have HPR := Lib.hid (path_range p t u ha1.go (by omega))
  obtain ⟨A1, n1, c1, A2, n2, c2, A3, c3, rfl⟩ := h.forms
  clear h ha hb ha1 hb1 hT
  obtain ⟨hb0, hx0, hl0⟩ := new_box w (.cells #[.string t.kind, .string t.text, .slice A1 n1 c1, .slice A2 n2 c2, .slice A3 t.kids.length c3] 28)
  obtain ⟨hb1, hx1, hl1⟩ := new_box (w.alloc (.cells #[.string t.kind, .string t.text, .slice A1 n1 c1, .slice A2 n2 c2, .slice A3 t.kids.length c3] 28)) SpanZ
  have HB1 := Lib.hid (belowNext hb0 hb1)
  have HX1 := Lib.hid ((hb1.block _ hl0).trans hx0)
  have HZ1 := Lib.hid hx1
  have HL0 : Hid (w.heap.size < ((w.alloc (.cells #[.string t.kind, .string t.text, .slice A1 n1 c1, .slice A2 n2 c2, .slice A3 t.kids.length c3] 28)).alloc SpanZ).heap.size) := Lib.hid (Nat.lt_of_lt_of_le hl0 hb1.size)
  clear hb0 hx0 hl0 hb1 hx1 hl1
  go_enter Tryd.func29, Tryd.ntmps29
  go_upto_region 1 with fail
  generalize hW1 : (w.alloc (.cells #[.string t.kind, .string t.text, .slice A1 n1 c1, .slice A2 n2 c2, .slice A3 t.kids.length c3] 28)).alloc SpanZ = w1 at *
  clear hW1
  have HG1 : Hid (w1.heap[w.heap.size + 1]? = some SpanZ) := Lib.hid (by have := HZ1.out; simpa using this)
  have HL1 : Hid (w.heap.size + 1 < w1.heap.size) := Lib.hid (Array.getElem?_eq_some_iff.1 HG1.out).1
  clear HZ1
  have HND : Hid (∀ W, Below w1.heap.size w1 W → Node W (Under W.heap.size) (.agg #[.string t.kind, .string t.text, .slice A1 n1 c1, .slice A2 n2 c2, .slice A3 t.kids.length c3]) t) := Lib.hid fun W hW => (HN.out.below (belowNext HB1.out hW)).more (belowNext HB1.out hW).size
  have HXD : Hid (∀ W, Below w1.heap.size w1 W → W.heap[w.heap.size]? = some (.cells #[.string t.kind, .string t.text, .slice A1 n1 c1, .slice A2 n2 c2, .slice A3 t.kids.length c3] 28)) := Lib.hid fun W hW => (hW.block _ HL0.out).trans HX1.out
  have HRD : Hid (∀ W, Below w1.heap.size w1 W → W.heap[w.heap.size + 1]? = some SpanZ) := Lib.hid fun W hW => (hW.block _ HL1.out).trans HG1.out
  obtain ⟨x0, x1, x2, x3, x4⟩ := cells5 HX1.out
  -- first
  go_wp2_with fail
  refine (resolve_any _ t (a : Int) w1 (HND.out w1 (Below.refl _ _)) (by omega) (by omega) (by omega)).mono ?_
  rintro e w2 ⟨hb2, hr2⟩
  rw [HA.out] at hr2
  rcases hr2 with ⟨hr2, _⟩ | ⟨p', j', o', P1, q1, hr2, rfl, hi2⟩
  · cases hr2
  simp only [Option.some.injEq, Prod.mk.injEq] at hr2
  obtain ⟨rfl, rfl, rfl⟩ := hr2
  obtain ⟨ha3, hs3, hl3⟩ := new_box w2 (.cells #[.slice P1 p.length q1, .int .i64 (j1 : Int), .int .i64 (o1 : Int)] 56)
  have HB3 := Lib.hid (belowNext hb2 ha3)
  have HS3 := Lib.hid hs3
  have HL3 := Lib.hid hl3
  have HI3 := Lib.hid (hi2.keep (S' := From w1.heap.size w2.heap.size) (w' := w2.alloc (.cells #[.slice P1 p.length q1, .int .i64 (j1 : Int), .int .i64 (o1 : Int)] 56)) (fun _ h => h) (fun b hb => ha3.block b hb.2))
  have HZ2 := Lib.hid hb2.size
  clear hb2 hi2 ha3 hs3 hl3 x0 x1 x2 x3 x4
  go_upto_region 2 with fail
  generalize w2.alloc (.cells #[.slice P1 p.length q1, .int .i64 (j1 : Int), .int .i64 (o1 : Int)] 56) = w3 at *
  generalize w2.heap.size = g2 at *
  obtain ⟨x0, x1, x2, x3, x4⟩ := cells5 (HXD.out w3 HB3.out)
  -- last
  go_wp2_with fail
  refine (resolve_any _ t (b : Int) w3 (HND.out w3 HB3.out) (by omega) (by omega) (by omega)).mono ?_
  rintro e w4 ⟨hb4, hr4⟩
  rw [HB.out] at hr4
  rcases hr4 with ⟨hr4, _⟩ | ⟨p', j', o', P2, q2, hr4, rfl, hi4⟩
  · cases hr4
  simp only [Option.some.injEq, Prod.mk.injEq] at hr4
  obtain ⟨rfl, rfl, rfl⟩ := hr4
  obtain ⟨ha5, hs5, hl5⟩ := new_box w4 (.cells #[.slice P2 p.length q2, .int .i64 (j2 : Int), .int .i64 (o2 : Int)] 56)
  have HB5 := Lib.hid (belowNext hb4 ha5)
  have HS5 := Lib.hid hs5
  have HI5 := Lib.hid (hi4.keep (S' := Under (w4.alloc (.cells #[.slice P2 p.length q2, .int .i64 (j2 : Int), .int .i64 (o2 : Int)] 56)).heap.size) (w' := w4.alloc (.cells #[.slice P2 p.length q2, .int .i64 (j2 : Int), .int .i64 (o2 : Int)] 56)) (fun b hb => Nat.lt_of_lt_of_le hb.2 ha5.size) (fun b hb => ha5.block b hb.2))
  clear hb4 hi4 ha5 hs5 hl5 x0 x1 x2 x3 x4
  have hnlt : ¬ (b : Int) < (a : Int) := by omega
  go_upto_region 5 with fail
  generalize w4.alloc (.cells #[.slice P2 p.length q2, .int .i64 (j2 : Int), .int .i64 (o2 : Int)] 56) = w5 at *
  generalize w4.heap.size = g4 at *
  have HC5 := Lib.hid (belowNext HB3.out HB5.out)
  have HS35 := Lib.hid ((HB5.out.block g2 HL3.out).trans HS3.out)
  obtain ⟨s0, s1, s2⟩ := cells3 HS35.out
  obtain ⟨r0, r1, r2⟩ := cells3 HS5.out
  have HI35 : Hid (Ints w5 (From w1.heap.size g2) (.slice P1 p.length q1) p) := Lib.hid (HI3.out.keep (fun _ h => h) (fun b hb => HB5.out.block b (Nat.lt_trans hb.2 HL3.out)))
  go_wp2_with fail
  refine (eqInts_any _ _ p p _ _ w5 HI35.out HI5.out).mono ?_
  rintro e w6 ⟨rfl, nd, rfl⟩
  have hb6 : Below w5.heap.size w5 (w5.drewN nd) := (Below.refl _ _).trans ⟨rfl, rfl, rfl, Nat.le_refl _, fun _ _ => rfl⟩
  rw [show decide (p = p) = true by simp]
  generalize w5.drewN nd = w6 at *
  have HC6 := Lib.hid (belowNext HC5.out hb6)
  have HL5 : Hid (g2 < w5.heap.size) := Lib.hid (Nat.lt_of_lt_of_le HL3.out HB5.out.size)
  have HS36 := Lib.hid ((hb6.block g2 HL5.out).trans HS35.out)
  have HI6 : Hid (Ints w6 (From w1.heap.size g2) (.slice P1 p.length q1) p) := Lib.hid (HI35.out.keep (fun _ h => h) (fun b hb => hb6.block b (Nat.lt_trans hb.2 HL5.out)))
  clear s0 s1 s2 r0 r1 r2 hb6
  obtain ⟨s0, s1, s2⟩ := cells3 HS36.out
  obtain ⟨ha7, hs7, hl7⟩ := new_box w6 (.cells #[.slice P1 p.length q1, .string ⟨#[]⟩, .string ⟨#[]⟩, .slice none 0 0, .slice none 0 0, .slice none 0 0, .slice none 0 0, .slice none 0 0, .slice none 0 0] 62)
  have HB7 := Lib.hid (belowNext HC6.out ha7)
  have HS7 := Lib.hid hs7
  have HL7 := Lib.hid hl7
  have HIP : Hid (∀ W, Below w6.heap.size w6 W → Ints W (From w1.heap.size W.heap.size) (.slice P1 p.length q1) p) := Lib.hid fun W hW => HI6.out.keep (fun b hb => ⟨hb.1, by have := hb.2; have := HL5.out; have := HC6.out.size; have := hW.size; have := HB5.out.size; have := (Array.getElem?_eq_some_iff.1 HS36.out).1; omega⟩) (fun b hb => hW.block b (by have := hb.2; have := (Array.getElem?_eq_some_iff.1 HS36.out).1; omega))
  have HA7 := Lib.hid ha7
  clear ha7 hs7 hl7
  go_upto_region 8 with fail
  generalize w6.alloc (.cells #[.slice P1 p.length q1, .string ⟨#[]⟩, .string ⟨#[]⟩, .slice none 0 0, .slice none 0 0, .slice none 0 0, .slice none 0 0, .slice none 0 0, .slice none 0 0] 62) = w7 at *
  have HG6 : Hid (w1.heap.size ≤ w6.heap.size) := Lib.hid HC6.out.size
  generalize w6.heap.size = gs at *
  have hwt : weigh t ≤ 1000000 := by omega
  have hwu : weigh u ≤ 800000 := Nat.le_trans (goB_weigh p t u HOA.out.go) hw
  obtain ⟨x0, x1, x2, x3, x4⟩ := cells5 (HXD.out w7 HB7.out)
  have c0 : w7.cell? ⟨gs, 0, none⟩ = some (.slice P1 p.length q1) := by simp [World.cell?, HS7.out]
  have HIU : Hid (∀ W, Below gs w6 W → Ints W (Under W.heap.size) (.slice P1 p.length q1) p) := Lib.hid fun W hW => (HIP.out W hW).keep (fun _ h => h.2) (fun _ _ => rfl)
  clear s0 s1 s2
  go_wp2_with fail
  refine (inner_any _ _ t p w7 (HND.out w7 HB7.out) (HIU.out w7 HA7.out) HPR.out hwt).mono ?_
  rintro e w8 ⟨B1, m1, d1, B2, m2, d2, B3, d3, u', nn, rfl, hnu, hfo, hb8⟩
  rw [HOA.out.follow] at hfo
  obtain ⟨rfl, rfl⟩ : u = u' ∧ nn = 0 := by
    rcases hfo with ⟨hfo, h0⟩ | ⟨hfo, _⟩
    · exact ⟨Option.some.inj hfo, h0⟩
    · cases hfo
  have hs8 := (hb8.block gs HL7.out).trans HS7.out
  have HN8 := Lib.hid hnu
  have HB8 := Lib.hid hb8
  have HS8 := Lib.hid hs8
  have hc : ∀ j, w8.cell? ⟨gs, j, none⟩ = (#[.slice P1 p.length q1, .string ⟨#[]⟩, .string ⟨#[]⟩, .slice none 0 0, .slice none 0 0, .slice none 0 0, .slice none 0 0, .slice none 0 0, .slice none 0 0] : Array Value)[j]? := fun j => by simp [World.cell?, hs8]
  have hf : ∀ j, w8.frozen? ⟨gs, j, none⟩ = false := fun j => frozen_of_row _ _ j _ _ hs8
  have e1 := hc 1
  have e2 := hc 2
  have e3 := hc 3
  have e4 := hc 4
  have e5 := hc 5
  have f1 := hf 1
  have f2 := hf 2
  have f3 := hf 3
  have f4 := hf 4
  have f5 := hf 5
  simp at e1 e2 e3 e4 e5
  clear hc hf hs8 hb8 hnu hfo x0 x1 x2 x3 x4 c0
  go_upto_region 9 with fail
  have g1 : (w8.setCell ⟨gs, 1, none⟩ (.string u.kind)).heap[gs]? = some (.cells #[.slice P1 p.length q1, .string u.kind, .string ⟨#[]⟩, .slice none 0 0, .slice none 0 0, .slice none 0 0, .slice none 0 0, .slice none 0 0, .slice none 0 0] 62) := heap_setCell_same _ gs 1 _ _ _ HS8.out
  have g2' : ((w8.setCell ⟨gs, 1, none⟩ (.string u.kind)).setCell ⟨gs, 2, none⟩ (.string u.text)).heap[gs]? = some (.cells #[.slice P1 p.length q1, .string u.kind, .string u.text, .slice none 0 0, .slice none 0 0, .slice none 0 0, .slice none 0 0, .slice none 0 0, .slice none 0 0] 62) := heap_setCell_same _ gs 2 _ _ _ g1
  have g3 : (((w8.setCell ⟨gs, 1, none⟩ (.string u.kind)).setCell ⟨gs, 2, none⟩ (.string u.text)).setCell ⟨gs, 3, none⟩ (.slice B1 m1 d1)).heap[gs]? = some (.cells #[.slice P1 p.length q1, .string u.kind, .string u.text, .slice B1 m1 d1, .slice none 0 0, .slice none 0 0, .slice none 0 0, .slice none 0 0, .slice none 0 0] 62) := heap_setCell_same _ gs 3 _ _ _ g2'
  have g4' : ((((w8.setCell ⟨gs, 1, none⟩ (.string u.kind)).setCell ⟨gs, 2, none⟩ (.string u.text)).setCell ⟨gs, 3, none⟩ (.slice B1 m1 d1)).setCell ⟨gs, 4, none⟩ (.slice B2 m2 d2)).heap[gs]? = some (.cells #[.slice P1 p.length q1, .string u.kind, .string u.text, .slice B1 m1 d1, .slice B2 m2 d2, .slice none 0 0, .slice none 0 0, .slice none 0 0, .slice none 0 0] 62) := heap_setCell_same _ gs 4 _ _ _ g3
  have HS9 : Hid ((((((w8.setCell ⟨gs, 1, none⟩ (.string u.kind)).setCell ⟨gs, 2, none⟩ (.string u.text)).setCell ⟨gs, 3, none⟩ (.slice B1 m1 d1)).setCell ⟨gs, 4, none⟩ (.slice B2 m2 d2)).setCell ⟨gs, 5, none⟩ (.slice B3 u.kids.length d3)).heap[gs]? = some (.cells #[.slice P1 p.length q1, .string u.kind, .string u.text, .slice B1 m1 d1, .slice B2 m2 d2, .slice B3 u.kids.length d3, .slice none 0 0, .slice none 0 0, .slice none 0 0] 62)) := Lib.hid (heap_setCell_same _ gs 5 _ _ _ g4')
  have HO9 : Hid (∀ b, b ≠ gs → (((((w8.setCell ⟨gs, 1, none⟩ (.string u.kind)).setCell ⟨gs, 2, none⟩ (.string u.text)).setCell ⟨gs, 3, none⟩ (.slice B1 m1 d1)).setCell ⟨gs, 4, none⟩ (.slice B2 m2 d2)).setCell ⟨gs, 5, none⟩ (.slice B3 u.kids.length d3)).heap[b]? = w8.heap[b]?) := Lib.hid fun b hb => (put5o_other (o := 1) hb)
  have HZ9 : Hid ((((((w8.setCell ⟨gs, 1, none⟩ (.string u.kind)).setCell ⟨gs, 2, none⟩ (.string u.text)).setCell ⟨gs, 3, none⟩ (.slice B1 m1 d1)).setCell ⟨gs, 4, none⟩ (.slice B2 m2 d2)).setCell ⟨gs, 5, none⟩ (.slice B3 u.kids.length d3)).heap.size = w8.heap.size) := Lib.hid (put5o_size (o := 1))
  have HB9 : Hid (Below gs w6 (((((w8.setCell ⟨gs, 1, none⟩ (.string u.kind)).setCell ⟨gs, 2, none⟩ (.string u.text)).setCell ⟨gs, 3, none⟩ (.slice B1 m1 d1)).setCell ⟨gs, 4, none⟩ (.slice B2 m2 d2)).setCell ⟨gs, 5, none⟩ (.slice B3 u.kids.length d3))) := Lib.hid (put5o_below (o := 1) (Nat.le_refl _) (HA7.out.trans (HB8.out.mono (Nat.le_of_lt HL7.out))))
  clear g1 g2' g3 g4' e1 e2 e3 e4 e5 f1 f2 f3 f4 f5
  generalize ((((w8.setCell ⟨gs, 1, none⟩ (.string u.kind)).setCell ⟨gs, 2, none⟩ (.string u.text)).setCell ⟨gs, 3, none⟩ (.slice B1 m1 d1)).setCell ⟨gs, 4, none⟩ (.slice B2 m2 d2)).setCell ⟨gs, 5, none⟩ (.slice B3 u.kids.length d3) = w9 at *
  have HD9 := Lib.hid (HC6.out.trans (HB9.out.mono HG6.out))
  have HT9 := Lib.hid (HT.out.under (belowNext HB1.out HD9.out))
  have HU9 : Hid (Node w9 (From w7.heap.size w9.heap.size) (.agg #[.string u.kind, .string u.text, .slice B1 m1 d1, .slice B2 m2 d2, .slice B3 u.kids.length d3]) u) := Lib.hid (HN8.out.keep (fun b hb => ⟨hb.1, by rw [HZ9.out]; exact hb.2⟩) (fun b hb => HO9.out b (by have := hb.1; have := HL7.out; omega)))
  have HL9 : Hid (gs < w9.heap.size) := Lib.hid (Array.getElem?_eq_some_iff.1 HS9.out).1
  have hspa := HOA.out.pos
  have hspb := HOB.out.pos
  simp only at hspa hspb
  generalize hst : startB t p = st at *
  have hsa : st ≤ a := by omega
  have hsb : st ≤ b := by omega
  clear hspa hspb
  obtain ⟨x0, x1, x2, x3, x4⟩ := cells5 (HXD.out w9 HD9.out)
  have c0 : w9.cell? ⟨gs, 0, none⟩ = some (.slice P1 p.length q1) := by simp [World.cell?, HS9.out]
  go_wp2_with fail
  refine (startP_any _ _ t p w9 (HND.out w9 HD9.out) (HIU.out w9 HB9.out) HPR.out hwt).mono ?_
  rintro e w10 ⟨he, hb10⟩
  rw [HOA.out.follow] at he
  simp only [Option.map_some, posE, hst] at he
  subst he
  have hs10 := (hb10.block gs HL9.out).trans HS9.out
  have HS10 := Lib.hid hs10
  have HB10 := Lib.hid hb10
  have HK10 : Hid (Kids w10 (Under w10.heap.size) (.slice B3 u.kids.length d3) u.kids) := Lib.hid (HU9.out.kidsOf.keep (fun b hb => Nat.lt_of_lt_of_le hb.2 hb10.size) (fun b hb => hb10.block b hb.2))
  have HT10 := Lib.hid (HT9.out.under hb10)
  have hku : weighAll u.kids ≤ 900000 := by have := kids_weigh u; omega
  have c5 : w10.cell? ⟨gs, 5, none⟩ = some (.slice B3 u.kids.length d3) := by simp [World.cell?, hs10]
  have hbs : (b : Int) - (st : Int) = ((b - st : Nat) : Int) := by omega
  have has : (a : Int) - (st : Int) = ((a - st : Nat) : Int) := by omega
  have HBS := Lib.hid hbs
  have HAS := Lib.hid has
  clear hb10 hs10 x0 x1 x2 x3 x4 c0 hbs has
  go_wp2_with fail
  rw [HBS.out]
  refine (split_any _ u.kids (b - st) w10 HK10.out hku (by omega) HT10.out).mono ?_
  rintro e w11 ⟨v1, v2, rfl, hk1, hk2, hb11⟩
  obtain ⟨E0, z0, rfl, _⟩ := hk1.form
  obtain ⟨E3, z3, rfl, _⟩ := hk2.form
  have hsw := (splitB_weigh u.kids (b - st)).1
  generalize (splitB u.kids (b - st)).1 = code1 at *
  generalize hup : (splitB u.kids (b - st)).2.1 = upTo at *
  generalize hbh : (splitB u.kids (b - st)).2.2 = bhd at *
  have HB11 := Lib.hid hb11
  have hl10 : gs < w10.heap.size := (Array.getElem?_eq_some_iff.1 HS10.out).1
  have hs11 := (hb11.block gs hl10).trans HS10.out
  have HK1 := Lib.hid hk1
  have HK2 := Lib.hid hk2
  have HS11 := Lib.hid hs11
  have c8 : w11.cell? ⟨gs, 8, none⟩ = some (.slice none 0 0) := by simp [World.cell?, hs11]
  have f8 : w11.frozen? ⟨gs, 8, none⟩ = false := frozen_of_row _ _ 8 _ _ hs11
  have HS12 : Hid ((w11.setCell ⟨gs, 8, none⟩ (.slice E3 bhd.length z3)).heap[gs]? = some (.cells #[.slice P1 p.length q1, .string u.kind, .string u.text, .slice B1 m1 d1, .slice B2 m2 d2, .slice B3 u.kids.length d3, .slice none 0 0, .slice none 0 0, .slice E3 bhd.length z3] 62)) := Lib.hid (heap_setCell_same _ gs 8 _ _ _ hs11)
  have HO12 : Hid (∀ b, b ≠ gs → (w11.setCell ⟨gs, 8, none⟩ (.slice E3 bhd.length z3)).heap[b]? = w11.heap[b]?) := Lib.hid fun b hb => Below.heap_setCell _ _ _ _ hb
  have HZ12 : Hid ((w11.setCell ⟨gs, 8, none⟩ (.slice E3 bhd.length z3)).heap.size = w11.heap.size) := Lib.hid (by simp [World.setCell])
  have HB12 : Hid (Below gs w6 (w11.setCell ⟨gs, 8, none⟩ (.slice E3 bhd.length z3))) := Lib.hid (set_below (Nat.le_refl _) (HB9.out.trans ((belowNext HB10.out hb11).mono (Nat.le_of_lt HL9.out))))
  clear hb11 hs11 hk1 hk2 c5
  go_upto_region 12 with fail
  clear c8 f8
  generalize w11.setCell ⟨gs, 8, none⟩ (.slice E3 bhd.length z3) = w12 at *
  have HD12 := Lib.hid (HC6.out.trans (HB12.out.mono HG6.out))
  have HT12 := Lib.hid (HT.out.under (belowNext HB1.out HD12.out))
  have HK12 : Hid (Kids w12 (Under w12.heap.size) (.slice E0 upTo.length z0) upTo) := Lib.hid (HK1.out.keep (fun b hb => by unfold Under; rw [HZ12.out]; exact hb.2) (fun b hb => HO12.out b (by have := hb.1; omega)))
  go_wp2_with fail
  rw [HAS.out]
  refine (split_any _ upTo (a - st) w12 HK12.out (by omega) (by omega) HT12.out).mono ?_
  rintro e w13 ⟨v3, v4, rfl, hk3, hk4, hb13⟩
  obtain ⟨F1, y1, rfl, _⟩ := hk3.form
  obtain ⟨F2, y2, rfl, _⟩ := hk4.form
  generalize (splitB upTo (a - st)).1 = code2 at *
  generalize hah : (splitB upTo (a - st)).2.1 = ahd at *
  generalize hbt : (splitB upTo (a - st)).2.2 = btw at *
  have hl12 : gs < w12.heap.size := (Array.getElem?_eq_some_iff.1 HS12.out).1
  have hs13 := (hb13.block gs hl12).trans HS12.out
  have c6 : w13.cell? ⟨gs, 6, none⟩ = some (.slice none 0 0) := by simp [World.cell?, hs13]
  have c7 : w13.cell? ⟨gs, 7, none⟩ = some (.slice none 0 0) := by simp [World.cell?, hs13]
  have f6 : w13.frozen? ⟨gs, 6, none⟩ = false := frozen_of_row _ _ 6 _ _ hs13
  have f7 : w13.frozen? ⟨gs, 7, none⟩ = false := frozen_of_row _ _ 7 _ _ hs13
  have g6 : (w13.setCell ⟨gs, 6, none⟩ (.slice F1 ahd.length y1)).heap[gs]? = some (.cells #[.slice P1 p.length q1, .string u.kind, .string u.text, .slice B1 m1 d1, .slice B2 m2 d2, .slice B3 u.kids.length d3, .slice F1 ahd.length y1, .slice none 0 0, .slice E3 bhd.length z3] 62) := heap_setCell_same _ gs 6 _ _ _ hs13
  have HS14 : Hid (((w13.setCell ⟨gs, 6, none⟩ (.slice F1 ahd.length y1)).setCell ⟨gs, 7, none⟩ (.slice F2 btw.length y2)).heap[gs]? = some (.cells #[.slice P1 p.length q1, .string u.kind, .string u.text, .slice B1 m1 d1, .slice B2 m2 d2, .slice B3 u.kids.length d3, .slice F1 ahd.length y1, .slice F2 btw.length y2, .slice E3 bhd.length z3] 62)) := Lib.hid (heap_setCell_same _ gs 7 _ _ _ g6)
  have HO14 : Hid (∀ b, b ≠ gs → ((w13.setCell ⟨gs, 6, none⟩ (.slice F1 ahd.length y1)).setCell ⟨gs, 7, none⟩ (.slice F2 btw.length y2)).heap[b]? = w13.heap[b]?) := Lib.hid fun b hb => (Below.heap_setCell _ _ _ _ hb).trans (Below.heap_setCell _ _ _ _ hb)
  have HZ14 : Hid (((w13.setCell ⟨gs, 6, none⟩ (.slice F1 ahd.length y1)).setCell ⟨gs, 7, none⟩ (.slice F2 btw.length y2)).heap.size = w13.heap.size) := Lib.hid (by simp [World.setCell])
  have HB14 : Hid (Below gs w6 ((w13.setCell ⟨gs, 6, none⟩ (.slice F1 ahd.length y1)).setCell ⟨gs, 7, none⟩ (.slice F2 btw.length y2))) := Lib.hid (set_below (Nat.le_refl _) (set_below (Nat.le_refl _) (HB12.out.trans (hb13.mono (Nat.le_of_lt hl12)))))
  have HB13 := Lib.hid hb13
  have HK3 := Lib.hid hk3
  have HK4 := Lib.hid hk4
  clear hb13 hs13 hk3 hk4 g6
  go_upto_region 13 with fail
  clear c6 c7 f6 f7
  generalize (w13.setCell ⟨gs, 6, none⟩ (.slice F1 ahd.length y1)).setCell ⟨gs, 7, none⟩ (.slice F2 btw.length y2) = w14 at *
  have HD14 := Lib.hid (HC6.out.trans (HB14.out.mono HG6.out))
  have hz14 := HRD.out w14 HD14.out
  have hc : ∀ j, w14.cell? ⟨gs, j, none⟩ = (#[.slice P1 p.length q1, .string u.kind, .string u.text, .slice B1 m1 d1, .slice B2 m2 d2, .slice B3 u.kids.length d3, .slice F1 ahd.length y1, .slice F2 btw.length y2, .slice E3 bhd.length z3] : Array Value)[j]? := fun j => by simp [World.cell?, HS14.out]
  have hd : ∀ j, w14.cell? ⟨w.heap.size + 1, j, none⟩ = (#[.slice none 0 0, .string ⟨#[]⟩, .string ⟨#[]⟩, .slice none 0 0, .slice none 0 0, .slice none 0 0, .slice none 0 0, .slice none 0 0, .slice none 0 0] : Array Value)[j]? := fun j => by simp [World.cell?, hz14]
  have hf : ∀ j, w14.frozen? ⟨w.heap.size + 1, j, none⟩ = false := fun j => frozen_of_row _ _ j _ _ hz14
  have a0 := hc 0
  have a1 := hc 1
  have a2 := hc 2
  have a3 := hc 3
  have a4 := hc 4
  have a5 := hc 5
  have a6 := hc 6
  have a7 := hc 7
  have a8 := hc 8
  have b0 := hd 0
  have b1 := hd 1
  have b2 := hd 2
  have b3 := hd 3
  have b4 := hd 4
  have b5 := hd 5
  have b6 := hd 6
  have b7 := hd 7
  have b8 := hd 8
  have f0 := hf 0
  have f1 := hf 1
  have f2 := hf 2
  have f3 := hf 3
  have f4 := hf 4
  have f5 := hf 5
  have f6 := hf 6
  have f7 := hf 7
  have f8 := hf 8
  simp at a0 a1 a2 a3 a4 a5 a6 a7 a8 b0 b1 b2 b3 b4 b5 b6 b7 b8
  clear hc hd hf
  go_wp2
  have hpb := put9_block (v0 := .slice P1 p.length q1) (v1 := .string u.kind) (v2 := .string u.text) (v3 := .slice B1 m1 d1) (v4 := .slice B2 m2 d2) (v5 := .slice B3 u.kids.length d3) (v6 := .slice F1 ahd.length y1) (v7 := .slice F2 btw.length y2) (v8 := .slice E3 bhd.length z3) hz14
  have hq : ∀ j, (put9 w14 (w.heap.size + 1) (.slice P1 p.length q1) (.string u.kind) (.string u.text) (.slice B1 m1 d1) (.slice B2 m2 d2) (.slice B3 u.kids.length d3) (.slice F1 ahd.length y1) (.slice F2 btw.length y2) (.slice E3 bhd.length z3)).cell? ⟨w.heap.size + 1, j, none⟩ = (#[.slice P1 p.length q1, .string u.kind, .string u.text, .slice B1 m1 d1, .slice B2 m2 d2, .slice B3 u.kids.length d3, .slice F1 ahd.length y1, .slice F2 btw.length y2, .slice E3 bhd.length z3] : Array Value)[j]? := fun j => by simp [World.cell?, hpb]
  have t0 := hq 0
  have t1 := hq 1
  have t2 := hq 2
  have t3 := hq 3
  have t4 := hq 4
  have t5 := hq 5
  have t6 := hq 6
  have t7 := hq 7
  have t8 := hq 8
  simp at t0 t1 t2 t3 t4 t5 t6 t7 t8
  have hw0 := HL1.out
  have hb1z := HB1.out.size
  have HBE := Lib.hid (put9_below (g := w.heap.size + 1) (v0 := .slice P1 p.length q1) (v1 := .string u.kind) (v2 := .string u.text) (v3 := .slice B1 m1 d1) (v4 := .slice B2 m2 d2) (v5 := .slice B3 u.kids.length d3) (v6 := .slice F1 ahd.length y1) (v7 := .slice F2 btw.length y2) (v8 := .slice E3 bhd.length z3) (Nat.le_succ _) (belowNext HB1.out HD14.out))
  have hsz := put9_size (w := w14) (g := w.heap.size + 1) (v0 := .slice P1 p.length q1) (v1 := .string u.kind) (v2 := .string u.text) (v3 := .slice B1 m1 d1) (v4 := .slice B2 m2 d2) (v5 := .slice B3 u.kids.length d3) (v6 := .slice F1 ahd.length y1) (v7 := .slice F2 btw.length y2) (v8 := .slice E3 bhd.length z3)
  have hot : ∀ d, w1.heap.size ≤ d → (put9 w14 (w.heap.size + 1) (.slice P1 p.length q1) (.string u.kind) (.string u.text) (.slice B1 m1 d1) (.slice B2 m2 d2) (.slice B3 u.kids.length d3) (.slice F1 ahd.length y1) (.slice F2 btw.length y2) (.slice E3 bhd.length z3)).heap[d]? = w14.heap[d]? := fun d hd => put9_other (by omega)
  have hot2 : ∀ d, w1.heap.size ≤ d → d ≠ gs → (put9 w14 (w.heap.size + 1) (.slice P1 p.length q1) (.string u.kind) (.string u.text) (.slice B1 m1 d1) (.slice B2 m2 d2) (.slice B3 u.kids.length d3) (.slice F1 ahd.length y1) (.slice F2 btw.length y2) (.slice E3 bhd.length z3)).heap[d]? = w13.heap[d]? := fun d hd hn => (hot d hd).trans (HO14.out d hn)
  have hg6 := HG6.out
  have hl7 := HL7.out
  have hz13 := HB13.out.size
  have hz12 := HZ12.out
  have hz14' := HZ14.out
  have hz9 := HZ9.out
  have hz10 := HB10.out.size
  have hz11 := HB11.out.size
  have hz8 := HB8.out.size
  have hot3 : ∀ d, w1.heap.size ≤ d → d ≠ gs → d < w11.heap.size → (put9 w14 (w.heap.size + 1) (.slice P1 p.length q1) (.string u.kind) (.string u.text) (.slice B1 m1 d1) (.slice B2 m2 d2) (.slice B3 u.kids.length d3) (.slice F1 ahd.length y1) (.slice F2 btw.length y2) (.slice E3 bhd.length z3)).heap[d]? = w11.heap[d]? := fun d hd hn hl => (hot2 d hd hn).trans ((HB13.out.block d (by omega)).trans (HO12.out d hn))
  have hot4 : ∀ d, w1.heap.size ≤ d → d ≠ gs → d < w9.heap.size → (put9 w14 (w.heap.size + 1) (.slice P1 p.length q1) (.string u.kind) (.string u.text) (.slice B1 m1 d1) (.slice B2 m2 d2) (.slice B3 u.kids.length d3) (.slice F1 ahd.length y1) (.slice F2 btw.length y2) (.slice E3 bhd.length z3)).heap[d]? = w9.heap[d]? := fun d hd hn hl => (hot3 d hd hn (by omega)).trans ((HB11.out.block d (by omega)).trans (HB10.out.block d hl))
  unfold put9 at t0 t1 t2 t3 t4 t5 t6 t7 t8
  refine bodyPost_ret (v := .tuple #[.agg #[.slice P1 p.length q1, .string u.kind, .string u.text, .slice B1 m1 d1, .slice B2 m2 d2, .slice B3 u.kids.length d3, .slice F1 ahd.length y1, .slice F2 btw.length y2, .slice E3 bhd.length z3], .int .i64 0]) (by simp [results, Tryd.results29, go_sem, t0, t1, t2, t3, t4, t5, t6, t7, t8]) rfl ?_
  show SpanPost w t p u a b _ (put9 w14 (w.heap.size + 1) (.slice P1 p.length q1) (.string u.kind) (.string u.text) (.slice B1 m1 d1) (.slice B2 m2 d2) (.slice B3 u.kids.length d3) (.slice F1 ahd.length y1) (.slice F2 btw.length y2) (.slice E3 bhd.length z3))
  have HBE' := HBE.out
  generalize put9 w14 (w.heap.size + 1) (.slice P1 p.length q1) (.string u.kind) (.string u.text) (.slice B1 m1 d1) (.slice B2 m2 d2) (.slice B3 u.kids.length d3) (.slice F1 ahd.length y1) (.slice F2 btw.length y2) (.slice E3 bhd.length z3) = W at *
  refine ⟨P1, q1, B1, m1, d1, B2, m2, d2, B3, d3, F1, _, y1, F2, _, y2, E3, _, z3, rfl, ?_, ?_, ?_, ?_, ?_, HBE'⟩
  · exact (HIP.out w14 HB14.out).keep (fun d hd => ⟨by have := hd.1; omega, by have := hd.2; omega⟩) (fun d hd => hot d hd.1)
  · exact HU9.out.keep (fun d hd => ⟨by have := hd.1; omega, by have := hd.2; omega⟩) (fun d hd => hot4 d (by have := hd.1; omega) (by have := hd.1; omega) hd.2)
  · rw [hst, hup, hah]
    exact HK3.out.keep (fun d hd => ⟨by have := hd.1; omega, by have := hd.2; omega⟩) (fun d hd => hot2 d (by have := hd.1; omega) (by have := hd.1; omega))
  · rw [hst, hup, hbt]
    exact HK4.out.keep (fun d hd => ⟨by have := hd.1; omega, by have := hd.2; omega⟩) (fun d hd => hot2 d (by have := hd.1; omega) (by have := hd.1; omega))
  · rw [hst, hbh]
    exact HK2.out.keep (fun d hd => ⟨by have := hd.1; omega, by have := hd.2; omega⟩) (fun d hd => hot3 d (by have := hd.1; omega) (by have := hd.1; omega) hd.2)
end Go.Proofs.YtamoklceekeheaaDoor

namespace Go.Proofs.YtamoklceekeheaaDoor
open Go.RowKit Go.Sort

def isDocB (t : Tree) : Bool := !isTxt t.kind && (checkB t == 0)
set_option maxHeartbeats 2000000 in
set_option maxRecDepth 100000 in
theorem isDocument_any (v : Value) (t : Tree) (w : World) (h : Node w (Under w.heap.size) v t) (hw : weigh t ≤ 1000000) (hT : Tabs w) :
    Calls Tryd.prog 28 #[v] w fun e w' => e = .returned (.bool (isDocB t)) ∧ Below w.heap.size w w' := by
  have HN := Lib.hid h
  have HT := Lib.hid hT
  obtain ⟨A1, n1, c1, A2, n2, c2, A3, c3, rfl⟩ := h.forms
  clear h hT
  obtain ⟨hb1, hx1⟩ : Below w.heap.size w (w.alloc (.cells #[.string t.kind, .string t.text, .slice A1 n1 c1, .slice A2 n2 c2, .slice A3 t.kids.length c3] 28)) ∧ (w.alloc (.cells #[.string t.kind, .string t.text, .slice A1 n1 c1, .slice A2 n2 c2, .slice A3 t.kids.length c3] 28)).heap[w.heap.size]? = some (.cells #[.string t.kind, .string t.text, .slice A1 n1 c1, .slice A2 n2 c2, .slice A3 t.kids.length c3] 28) := ⟨(Below.refl _ _).alloc (Nat.le_refl _) _, heap_new _ _⟩
  have HB1 := Lib.hid hb1
  have HX1 := Lib.hid hx1
  clear hb1 hx1
  go_enter Tryd.func28, Tryd.ntmps28
  go_upto_region 1 with fail
  generalize w.alloc (.cells #[.string t.kind, .string t.text, .slice A1 n1 c1, .slice A2 n2 c2, .slice A3 t.kids.length c3] 28) = w1 at *
  obtain ⟨x0, x1, x2, x3, x4⟩ := cells5 HX1.out
  cases hk : isTxt t.kind with
  | true =>
    have hk' : (t.kind.toList == [116, 101, 120, 116]) = true := hk
    have HD : Hid (isDocB t = false) := Lib.hid (by simp [isDocB, hk])
    go_wp2
    go_ret
    exact ⟨by rw [HD.out]; rfl, HB1.out⟩
  | false =>
    have hk' : (t.kind.toList == [116, 101, 120, 116]) = false := hk
    have HD : Hid (isDocB t = (checkB t == 0)) := Lib.hid (by simp [isDocB, hk])
    go_wp2_with fail
    refine (right_any _ t w1 ((HN.out.below HB1.out).more HB1.out.size) hw (HT.out.below HB1.out)).mono ?_
    rintro e w2 ⟨rfl, hb2⟩
    have HB2 := Lib.hid (belowNext HB1.out hb2)
    generalize (checkB t == 0) = r at *
    clear hb2
    go_wp2
    go_ret
    exact ⟨by rw [HD.out]; rfl, HB2.out⟩

def XKIND : ByteArray := ⟨#[120]⟩
def areKidsB (l : List Tree) : Bool := checkB (.mk XKIND ⟨#[]⟩ [] [] (joinB l)) != 2
set_option maxHeartbeats 2000000 in
set_option maxRecDepth 100000 in
theorem areKids_any (v : Value) (l : List Tree) (w : World) (h : Kids w (Under w.heap.size) v l) (hw : weighAll l ≤ 800000) (hwj : weighAll (joinB l) ≤ 900000) (hT : Tabs w) :
    Calls Tryd.prog 31 #[v] w fun e w' => e = .returned (.bool (areKidsB l)) ∧ Below w.heap.size w w' := by
  have HN := Lib.hid h
  have HT := Lib.hid hT
  obtain ⟨A, c, rfl, _⟩ := h.form
  clear h hT
  go_enter Tryd.func31, Tryd.ntmps31
  go_wp2_with fail
  refine (join_any _ l w HN.out (by omega)).mono ?_
  rintro e w1 ⟨v1, rfl, hk1, hb1⟩
  obtain ⟨A1, c1, rfl, _⟩ := hk1.form
  have HN1 : Hid (Node w1 (Under w1.heap.size) (.agg #[.string XKIND, .string ⟨#[]⟩, .slice none 0 0, .slice none 0 0, .slice A1 (joinB l).length c1]) (.mk XKIND ⟨#[]⟩ [] [] (joinB l))) := Lib.hid ⟨_, _, _, rfl, strs_nil, pairs_nil, hk1⟩
  have HW : Hid (weigh (.mk XKIND ⟨#[]⟩ [] [] (joinB l)) ≤ 1000000) := Lib.hid (by
    have h0 : (⟨#[]⟩ : ByteArray).size = 0 := rfl
    have h1 : XKIND.size = 1 := rfl
    simp only [weigh, weighL, weighP, List.map_nil, List.sum_nil]; omega)
  have HB1 := Lib.hid hb1
  clear hk1 hb1
  unfold XKIND at HN1
  go_wp2_with fail
  refine (check_any _ _ w1 HN1.out HW.out (HT.out.below HB1.out)).mono ?_
  rintro e w2 ⟨rfl, hb2⟩
  have HB2 := Lib.hid (belowNext HB1.out hb2)
  have HD : Hid (areKidsB l = ((checkB (.mk ⟨#[120]⟩ ⟨#[]⟩ [] [] (joinB l)) : Int) != 2)) := Lib.hid (by
    unfold areKidsB XKIND
    cases h : checkB (.mk ⟨#[120]⟩ ⟨#[]⟩ [] [] (joinB l)) == 2 <;> simp_all [bne])
  generalize checkB (.mk ⟨#[120]⟩ ⟨#[]⟩ [] [] (joinB l)) = r at *
  clear hb2
  go_wp2
  go_ret
  exact ⟨by rw [HD.out]; rfl, HB2.out⟩
end Go.Proofs.YtamoklceekeheaaDoor
