/-
  The reader's attr and attrs.
-/
import Derived.Test.YtdcgffepdgldmaaDoorD5
namespace Go.Proofs.YtdcgffepdgldmaaDoor
open Go.RowKit Go.Sort Go.Maps

theorem qL_pre {l : List UInt8} {p : List UInt8 × List UInt8} (h : qL l = some p) : Lib.hasPrefix l [34] = true := by
  cases hp : Lib.hasPrefix l [34] with
  | true => rfl
  | false => unfold qL wantL at h; rw [hp] at h; simp [unq] at h
theorem qL_want {l q : List UInt8} {p : List UInt8 × List UInt8} (h : qL (wantL q l) = some p) : Lib.hasPrefix l q = true := by
  cases hp : Lib.hasPrefix l q with
  | true => rfl
  | false =>
    have e : wantL q l = [] := by unfold wantL; rw [hp]; rfl
    rw [e] at h
    have := qL_pre h
    simp [Lib.hasPrefix, List.isPrefixOf] at this

/-- What is quoted, and what is left (none: it stands wrong). -/
def quoL (l : List UInt8) : ByteArray × Option (List UInt8) := match qL l with | some (s, r) => (⟨s.toArray⟩, some r) | none => (⟨#[]⟩, none)
theorem rd_quoted2 (R : Nat) (l : List UInt8) (x : Bool) (w : World) (h : Rd w R l x) (hl : l.length ≤ 10000000) :
    Calls Tryd.prog 97 #[.pointer (some ⟨R, 0, none⟩)] w fun e w' => e = .returned (.string (quoL l).1) ∧ Rd w' R ((quoL l).2.getD []) (x || (quoL l).2.isNone) ∧ OnlyR R w w' := by
  refine (rd_quoted R l x w h hl).mono ?_
  rintro e w' ⟨h1, h2⟩
  cases hq : qL l with
  | none =>
    rw [hq] at h1
    have : quoL l = (⟨#[]⟩, none) := by unfold quoL; rw [hq]
    rw [this]
    exact ⟨h1.1, by simpa using h1.2, h2⟩
  | some p =>
    obtain ⟨s, r⟩ := p
    have hp := qL_pre hq
    rw [hq, hp] at h1
    have : quoL l = (⟨s.toArray⟩, some r) := by unfold quoL; rw [hq]
    rw [this]
    exact ⟨h1.1, by simpa using h1.2, h2⟩

/-- An attribute, and what is left (none: it stands wrong). -/
def attrL (l : List UInt8) : (ByteArray × ByteArray) × Option (List UInt8) :=
  ((⟨(l.takeWhile small).toArray⟩, (quoL (wantL [61] (l.dropWhile small))).1), (quoL (wantL [61] (l.dropWhile small))).2)
theorem quo_wrong (l q : List UInt8) (x : Bool) : ((x || !Lib.hasPrefix l q) || (quoL (wantL q l)).2.isNone) = (x || (quoL (wantL q l)).2.isNone) := by
  cases hp : Lib.hasPrefix l q with
  | true => simp
  | false =>
    have : (quoL (wantL q l)).2.isNone = true := by
      cases hq : qL (wantL q l) with
      | none => unfold quoL; rw [hq]; rfl
      | some p => rw [qL_want hq] at hp; cases hp
    rw [this]; simp

set_option maxHeartbeats 2000000 in
theorem rd_attr (R : Nat) (l : List UInt8) (x : Bool) (w : World) (h : Rd w R l x) (hl : l.length ≤ 10000000) :
    Calls Tryd.prog 120 #[.pointer (some ⟨R, 0, none⟩)] w fun e w' =>
      e = .returned (.agg #[.string (attrL l).1.1, .string (attrL l).1.2]) ∧ Rd w' R ((attrL l).2.getD []) (x || (attrL l).2.isNone) ∧ OnlyR R w w' := by
  have hRw := h.lt
  have hb1 : Below w.heap.size w (w.alloc (.cells #[.string ⟨#[]⟩, .string ⟨#[]⟩] 48)) := (Below.refl _ _).alloc (Nat.le_refl _) _
  have H1 := Lib.hid (h.below hb1)
  have O1 := Lib.hid (OnlyR.of_below R hb1)
  have hz1 : w.heap.size < (w.alloc (.cells #[.string ⟨#[]⟩, .string ⟨#[]⟩] 48)).heap.size := by simp
  have HC : Hid ((w.alloc (.cells #[.string ⟨#[]⟩, .string ⟨#[]⟩] 48)).heap[w.heap.size]? = some (.cells #[.string ⟨#[]⟩, .string ⟨#[]⟩] 48)) := Lib.hid (heap_alloc_new w _)
  clear h hb1
  go_enter Tryd.func120, Tryd.ntmps120
  go_wp2_with fail
  generalize w.alloc (.cells #[.string ⟨#[]⟩, .string ⟨#[]⟩] 48) = w1 at *
  refine (rd_name R l x w1 H1.out (by omega)).mono ?_
  rintro e w2 ⟨rfl, h2, o2⟩
  have hl2 := drops_le l
  have H2 := Lib.hid h2
  have O2 := Lib.hid (O1.out.trans o2)
  have HC2 := Lib.hid ((o2.block _ hz1 (by omega)).trans HC.out)
  have hz2 := o2.size
  clear h2 o2
  go_wp2_with fail
  refine (rd_want R _ x ⟨#[61]⟩ w2 H2.out).mono ?_
  rintro e w3 ⟨rfl, h3, o3⟩
  change Rd w3 R (wantL [61] (l.dropWhile small)) (x || !Lib.hasPrefix (l.dropWhile small) [61]) at h3
  have hl3 := wantL_le [61] (l.dropWhile small)
  have H3 := Lib.hid h3
  have O3 := Lib.hid (O2.out.trans o3)
  have HC3 := Lib.hid ((o3.block _ (by omega) (by omega)).trans HC2.out)
  have hz3 := o3.size
  clear h3 o3
  go_wp2_with fail
  refine (rd_quoted2 R _ _ w3 H3.out (by omega)).mono ?_
  rintro e w4 ⟨rfl, h4, o4⟩
  rw [quo_wrong] at h4
  have H4 := Lib.hid h4
  have O4 := Lib.hid (O3.out.trans o4)
  have hc4 := (o4.block _ (by omega) (by omega)).trans HC3.out
  have hz4 := o4.size
  have c0 : w4.cell? ⟨w.heap.size, 0, none⟩ = some (.string ⟨#[]⟩) := by simp [World.cell?, hc4]
  have c1 : w4.cell? ⟨w.heap.size, 1, none⟩ = some (.string ⟨#[]⟩) := by simp [World.cell?, hc4]
  have f0 : w4.frozen? ⟨w.heap.size, 0, none⟩ = false := frozen_of_row w4 _ 0 _ _ hc4
  have f1 : w4.frozen? ⟨w.heap.size, 1, none⟩ = false := frozen_of_row w4 _ 1 _ _ hc4
  have HC4 := Lib.hid hc4
  clear h4 o4 hc4
  go_wp2
  have q := heap_setCell_same _ _ 1 _ _ (.string (quoL (wantL [61] (l.dropWhile small))).1) (heap_setCell_same w4 _ 0 _ _ (.string ⟨(l.takeWhile small).toArray⟩) HC4.out)
  have hb : Below w.heap.size w4 ((w4.setCell ⟨w.heap.size, 0, none⟩ (.string ⟨(l.takeWhile small).toArray⟩)).setCell ⟨w.heap.size, 1, none⟩ (.string (quoL (wantL [61] (l.dropWhile small))).1)) := ((Below.refl _ _).setCell (p := ⟨w.heap.size, 0, none⟩) (Nat.le_refl _) _).setCell (p := ⟨w.heap.size, 1, none⟩) (Nat.le_refl _) _
  generalize (w4.setCell ⟨w.heap.size, 0, none⟩ (.string ⟨(l.takeWhile small).toArray⟩)).setCell ⟨w.heap.size, 1, none⟩ (.string (quoL (wantL [61] (l.dropWhile small))).1) = W at *
  have q0 : W.cell? ⟨w.heap.size, 0, none⟩ = some (.string ⟨(l.takeWhile small).toArray⟩) := by simp [World.cell?, q]
  have q1 : W.cell? ⟨w.heap.size, 1, none⟩ = some (.string (quoL (wantL [61] (l.dropWhile small))).1) := by simp [World.cell?, q]
  refine bodyPost_ret (v := .agg #[.string (attrL l).1.1, .string (attrL l).1.2]) (by simp [results, Tryd.results120, go_sem, q0, q1, attrL]) rfl ⟨rfl, H4.out.under hb hRw, O4.out.thenBelow hb (Nat.le_refl _)⟩

theorem unq_len : ∀ (n : Nat) (l s r : List UInt8), l.length ≤ n → unq l = some (s, r) → s.length + r.length < l.length
  | n, [], s, r, _, h => by simp [unq] at h
  | 0, _ :: _, _, _, hn, _ => by simp at hn
  | n + 1, c :: l, s, r, hn, h => by
    have hn' : l.length ≤ n := by simpa using hn
    rw [unq.eq_def] at h
    simp only at h
    split at h
    · injection h with h; injection h with h1 h2; subst h1; subst h2; simp
    · split at h
      · cases l with
        | nil => simp at h
        | cons d l' =>
          simp only at h
          split at h
          · cases hu : unq l' with
            | none => rw [hu] at h; simp at h
            | some p =>
              obtain ⟨s', r'⟩ := p
              rw [hu] at h
              simp at h
              have := unq_len n l' s' r' (by simp at hn'; omega) hu
              obtain ⟨h1, h2⟩ := h
              subst h1; subst h2
              simp; omega
          · simp at h
      · cases hu : unq l with
        | none => rw [hu] at h; simp at h
        | some p =>
          obtain ⟨s', r'⟩ := p
          rw [hu] at h
          simp at h
          have := unq_len n l s' r' hn' hu
          obtain ⟨h1, h2⟩ := h
          subst h1; subst h2
          simp; omega
theorem quo_le (l : List UInt8) : ((quoL l).2.getD []).length ≤ l.length := by
  cases hq : qL l with
  | none => unfold quoL; rw [hq]; simp
  | some p =>
    obtain ⟨s, r⟩ := p
    have h1 := unq_len _ _ s r (Nat.le_refl _) hq
    have h2 := wantL_le [34] l
    unfold quoL; rw [hq]
    show r.length ≤ _
    omega
theorem attr_le (l : List UInt8) : ((attrL l).2.getD []).length ≤ l.length :=
  Nat.le_trans (quo_le _) (Nat.le_trans (wantL_le _ _) (drops_le l))

/-- The attributes behind the first, each with its blank ahead; what is left; whether one stands wrong. -/
def restAttrs (l : List UInt8) : List (ByteArray × ByteArray) × List UInt8 × Bool :=
  if _h : Lib.hasPrefix l [32] = true then
    ((attrL (l.drop 1)).1 :: (restAttrs ((attrL (l.drop 1)).2.getD [])).1, (restAttrs ((attrL (l.drop 1)).2.getD [])).2.1, (attrL (l.drop 1)).2.isNone || (restAttrs ((attrL (l.drop 1)).2.getD [])).2.2)
  else ([], l, false)
termination_by l.length
decreasing_by
  all_goals
    have h1 := attr_le (l.drop 1)
    have h2 : 1 ≤ l.length := by
      cases l with
      | nil => simp [Lib.hasPrefix, List.isPrefixOf] at _h
      | cons _ _ => simp
    rw [List.length_drop] at h1
    omega
theorem restAttrs_yes {l : List UInt8} (h : Lib.hasPrefix l [32] = true) : restAttrs l = ((attrL (l.drop 1)).1 :: (restAttrs ((attrL (l.drop 1)).2.getD [])).1, (restAttrs ((attrL (l.drop 1)).2.getD [])).2.1, (attrL (l.drop 1)).2.isNone || (restAttrs ((attrL (l.drop 1)).2.getD [])).2.2) := by
  rw [restAttrs.eq_def]; exact dif_pos h
theorem restAttrs_no {l : List UInt8} (h : Lib.hasPrefix l [32] = false) : restAttrs l = ([], l, false) := by
  rw [restAttrs.eq_def]; exact dif_neg (by rw [h]; decide)
/-- Attributes: what they are, what is left, whether something stands wrong. -/
def attrsL (l : List UInt8) : List (ByteArray × ByteArray) × List UInt8 × Bool :=
  if Lib.hasPrefix l [40] then
    ((attrL (l.drop 1)).1 :: (restAttrs ((attrL (l.drop 1)).2.getD [])).1, wantL [41] (restAttrs ((attrL (l.drop 1)).2.getD [])).2.1,
      ((attrL (l.drop 1)).2.isNone || (restAttrs ((attrL (l.drop 1)).2.getD [])).2.2) || !Lib.hasPrefix (restAttrs ((attrL (l.drop 1)).2.getD [])).2.1 [41])
  else ([], l, false)

/-- A row of attributes of the call's own. -/
def flatA (m : List (ByteArray × ByteArray)) : List Value := m.flatMap fun p => [.string p.1, .string p.2]
theorem flatA_append (a b : List (ByteArray × ByteArray)) : flatA (a ++ b) = flatA a ++ flatA b := List.flatMap_append
theorem flatA_get : ∀ (m : List (ByteArray × ByteArray)) (i : Nat) (p : ByteArray × ByteArray), m[i]? = some p → (flatA m)[i * 2]? = some (.string p.1) ∧ (flatA m)[i * 2 + 1]? = some (.string p.2)
  | [], i, p, h => by simp at h
  | q :: m, 0, p, h => by simp at h; subst h; exact ⟨rfl, rfl⟩
  | q :: m, i + 1, p, h => by
    have := flatA_get m i p (by simpa using h)
    rw [show (i + 1) * 2 = i * 2 + 2 by omega]
    exact this
def PRow (w : World) (base : Nat) (v : Value) (m : List (ByteArray × ByteArray)) : Prop := w.ownsRow base 48 2 v m.length (flatA m)
theorem PRow.pairs {w : World} {base : Nat} {v : Value} {m : List (ByteArray × ByteArray)} (h : PRow w base v m) : Pairs w (From base w.heap.size) v m := by
  rcases h.2 with ⟨rfl, hm⟩ | ⟨g, cap, cur, rfl, hb, hg, hnc, hcap, hsz, htk⟩
  · exact ⟨none, 0, by rw [hm], by omega, by unfold maxLen; omega, .inl (List.eq_nil_of_length_eq_zero hm)⟩
  · refine ⟨_, cap, rfl, hnc, hcap, .inr ⟨g, 0, rfl, ⟨hb, (Array.getElem?_eq_some_iff.1 hg).1⟩, fun i p hi => ?_⟩⟩
    have hlt : i < m.length := (List.getElem?_eq_some_iff.1 hi).1
    obtain ⟨e1, e2⟩ := flatA_get m i p hi
    rw [← htk, List.getElem?_take, if_pos (by omega)] at e1 e2
    rw [Nat.zero_add]
    exact ⟨by simpa [World.cell?, hg] using e1, by simpa [World.cell?, hg] using e2⟩
end Go.Proofs.YtdcgffepdgldmaaDoor
