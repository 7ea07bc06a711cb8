/-
  What token.Same and token.Back answer.
-/
import Derived.Test.YtdcgffepdgldmaaK2
import Derived.Lib.QuietBelow
import Derived.Laws.StructEq
namespace Go.Proofs.Ytdcgffepdgldmaa
open Go.RowKit Go.Sort Go.Maps

/-- A row of tokens, as it is read. -/
def Toks (w : World) (S : Nat → Prop) (v : Value) (l : List Tok) : Prop :=
  ∃ A c, v = .slice A l.length c ∧ l.length ≤ c ∧ c ≤ maxLen ∧ (l = [] ∨ ∃ b o, A = some ⟨b, o, none⟩ ∧ S b ∧
    ∀ i t, l[i]? = some t → w.cell? ⟨b, o + i * 3, none⟩ = some (.int .u8 (t.kind : Int)) ∧ w.cell? ⟨b, o + i * 3 + 1, none⟩ = some (.string t.text) ∧ w.cell? ⟨b, o + i * 3 + 2, none⟩ = some (.string t.head))
theorem Toks.keep {w w' : World} {S S' : Nat → Prop} {v : Value} {l : List Tok} (h : Toks w S v l) (hs : ∀ b, S b → S' b) (k : ∀ b, S b → w'.heap[b]? = w.heap[b]?) : Toks w' S' v l := by
  obtain ⟨A, c, hv, h1, h2, h3⟩ := h
  refine ⟨A, c, hv, h1, h2, h3.imp id ?_⟩
  rintro ⟨b, o, ha, hb, hc⟩
  refine ⟨b, o, ha, hs b hb, fun i t hi => ?_⟩
  obtain ⟨x0, x1, x2⟩ := hc i t hi
  exact ⟨(World.cell?_of_block (a := ⟨b, _, none⟩) (k b hb)).trans x0, (World.cell?_of_block (a := ⟨b, _, none⟩) (k b hb)).trans x1, (World.cell?_of_block (a := ⟨b, _, none⟩) (k b hb)).trans x2⟩
theorem Toks.get {w : World} {S : Nat → Prop} {A : Option Addr} {n c : Nat} {l : List Tok} (h : Toks w S (.slice A n c) l) {i : Nat} {t : Tok} (hi : l[i]? = some t) :
    ∃ b o, A = some ⟨b, o, none⟩ ∧ S b ∧ w.cell? ⟨b, o + i * 3, none⟩ = some (.int .u8 (t.kind : Int)) ∧ w.cell? ⟨b, o + i * 3 + 1, none⟩ = some (.string t.text) ∧ w.cell? ⟨b, o + i * 3 + 2, none⟩ = some (.string t.head) := by
  obtain ⟨A', c', hv, _, _, h3⟩ := h
  injection hv with hv
  subst hv
  rcases h3 with rfl | ⟨b, o, rfl, hb, hc⟩
  · simp at hi
  · exact ⟨b, o, rfl, hb, hc i t hi⟩
theorem Toks.form {w : World} {S : Nat → Prop} {v : Value} {l : List Tok} (h : Toks w S v l) : ∃ A c, v = .slice A l.length c ∧ l.length ≤ c := by
  obtain ⟨A, c, hv, h1, _⟩ := h; exact ⟨A, c, hv, h1⟩
theorem flat3 : ∀ (l : List Tok) (i j : Nat) (t : Tok), l[i]? = some t → j < 3 → (l.flatMap tokCells)[i * 3 + j]? = (tokCells t)[j]?
  | [], i, j, t, h, _ => by simp at h
  | x :: l, 0, j, t, h, hj => by
    simp only [List.getElem?_cons_zero, Option.some.injEq] at h
    subst h
    rw [List.flatMap_cons, Nat.zero_mul, Nat.zero_add, List.getElem?_append_left (by rw [tokCells_len]; exact hj)]
  | x :: l, i + 1, j, t, h, hj => by
    rw [List.getElem?_cons_succ] at h
    rw [List.flatMap_cons, List.getElem?_append_right (by rw [tokCells_len]; omega), tokCells_len, show (i + 1) * 3 + j - 3 = i * 3 + j by omega]
    exact flat3 l i j t h hj
theorem TRow.toks {w : World} {base : Nat} {v : Value} {l : List Tok} (h : TRow w base v l) : Toks w (From base w.heap.size) v l := by
  rcases h.2 with ⟨rfl, hm⟩ | ⟨g, cap, cur, rfl, hb, hg, hnc, hcap, hsz, htk⟩
  · exact ⟨none, 0, by rw [hm], by omega, by unfold maxLen; omega, .inl (List.eq_nil_of_length_eq_zero hm)⟩
  · refine ⟨_, cap, rfl, hnc, hcap, .inr ⟨g, 0, rfl, ⟨hb, (Array.getElem?_eq_some_iff.1 hg).1⟩, fun i t hi => ?_⟩⟩
    have hlt : i < l.length := (List.getElem?_eq_some_iff.1 hi).1
    have each : ∀ j u, j < 3 → (tokCells t)[j]? = some u → w.cell? ⟨g, 0 + i * 3 + j, none⟩ = some u := fun j u hj hu => by
      have e := flat3 l i j t hi hj
      rw [hu, ← htk, List.getElem?_take, if_pos (by omega)] at e
      rw [Nat.zero_add]
      simpa [World.cell?, hg] using e
    exact ⟨by simpa using each 0 _ (by omega) rfl, each 1 _ (by omega) rfl, each 2 _ (by omega) rfl⟩

/-- How many tokens two rows begin with alike. -/
def sameN : List Tok → List Tok → Nat
  | a :: x, b :: y => if a = b then sameN x y + 1 else 0
  | _, _ => 0

theorem bytes_eq (a b : ByteArray) : (a.toList == b.toList) = true ↔ a = b := by
  rw [Lib.toList_data, Lib.toList_data, beq_iff_eq]
  exact ⟨fun h => ByteArray.ext (Array.ext' h), fun h => by rw [h]⟩
theorem tok_eq (x y : Tok) : x = y ↔ ((x.kind : Int) == (y.kind : Int)) = true ∧ (x.text.toList == y.text.toList) = true ∧ (x.head.toList == y.head.toList) = true := by
  obtain ⟨k, t, h⟩ := x
  obtain ⟨k', t', h'⟩ := y
  rw [bytes_eq, bytes_eq, beq_iff_eq, Tok.mk.injEq]
  constructor
  · rintro ⟨rfl, rfl, rfl⟩; exact ⟨rfl, rfl, rfl⟩
  · rintro ⟨h0, h1, h2⟩; exact ⟨Int.ofNat.inj h0, h1, h2⟩
theorem drawn_on {B : Nat} {a w : World} (h : Below B a w) (n : Nat) : Below B a (w.drewN n) := h.trans ⟨rfl, rfl, rfl, Nat.le_refl _, fun _ _ => rfl⟩
theorem sameN_end {a b : List Tok} {k : Nat} (h : a.length ≤ k ∨ b.length ≤ k) : sameN (a.drop k) (b.drop k) = 0 := by
  rcases h with h | h
  · rw [List.drop_of_length_le h]; cases b.drop k <;> rfl
  · rw [List.drop_of_length_le h]; cases a.drop k <;> rfl

set_option maxHeartbeats 4000000 in
set_option maxRecDepth 100000 in
theorem tsame_any (va vb : Value) (a b : List Tok) (w : World) (ha : Toks w (Under w.heap.size) va a) (hb : Toks w (Under w.heap.size) vb b) (hla : a.length ≤ 100000000) (hlb : b.length ≤ 100000000) :
    Calls Try.prog 13 #[va, vb] w fun e w' => e = .returned (.int .i64 (sameN a b)) ∧ Below w.heap.size w w' := by
  obtain ⟨A1, c1, rfl, _⟩ := ha.form
  obtain ⟨A2, c2, rfl, _⟩ := hb.form
  have HA := Lib.hid ha
  have HB := Lib.hid hb
  clear ha hb
  go_enter Try.func13, Try.ntmps13
  go_wp2
  go_loopw [6] (fun i wr => ∃ k : Nat, k ≤ a.length ∧ k ≤ b.length ∧ i = .int .i64 k ∧ Hid (sameN a b = k + sameN (a.drop k) (b.drop k)) ∧ Below w.heap.size w wr) (fun i _ => a.length - (intOf i).toNat)
  case atStart => exact ⟨0, by omega, by omega, rfl, Lib.hid (by simp), Below.refl _ _⟩
  case round =>
    obtain ⟨k, hka, hkb, rfl, hsn, hbr⟩ := hrel
    by_cases hlt : k < a.length ∧ k < b.length
    · obtain ⟨hlt1, hlt2⟩ := hlt
      have hax : a[k]? = some a[k] := List.getElem?_eq_getElem hlt1
      have hby : b[k]? = some b[k] := List.getElem?_eq_getElem hlt2
      have HST : Hid (sameN (a.drop k) (b.drop k) = if a[k] = b[k] then sameN (a.drop (k + 1)) (b.drop (k + 1)) + 1 else 0) := Lib.hid (by rw [List.drop_eq_getElem_cons hlt1, List.drop_eq_getElem_cons hlt2, sameN])
      generalize a[k] = x at *
      generalize b[k] = y at *
      obtain ⟨g1, o1, rfl, hu1, x0, x1, x2⟩ := HA.out.get hax
      obtain ⟨g2, o2, rfl, hu2, y0, y1, y2⟩ := HB.out.get hby
      have k0 := cell_kept x0 hbr
      have k1 := cell_kept x1 hbr
      have k2 := cell_kept x2 hbr
      have m0 := cell_kept y0 hbr
      have m1 := cell_kept y1 hbr
      have m2 := cell_kept y2 hbr
      have g3 : decide ((k : Int) < min (a.length : Int) (b.length : Int)) = true := by simp; omega
      have g4 : (k : Int) < (a.length : Int) ∧ (k : Int) < (b.length : Int) := by omega
      clear x0 x1 x2 y0 y1 y2 hax hby
      have HEQ := Lib.hid (tok_eq x y)
      cases q0 : ((x.kind : Int) == (y.kind : Int)) with
      | false =>
        have HNE : Hid (x ≠ y) := Lib.hid (fun e => by have := (HEQ.out.1 e).1; rw [q0] at this; cases this)
        go_wp2
        go_quiet (fail)
        go_wp2
        go_ret
        exact ⟨ret_num (by rw [hsn.out, HST.out, if_neg HNE.out]; omega), drawn_on hbr _⟩
      | true =>
        cases q1 : (x.text.toList == y.text.toList) with
        | false =>
          have HNE : Hid (x ≠ y) := Lib.hid (fun e => by have := (HEQ.out.1 e).2.1; rw [q1] at this; cases this)
          go_wp2
          go_quiet (fail)
          go_wp2
          go_ret
          exact ⟨ret_num (by rw [hsn.out, HST.out, if_neg HNE.out]; omega), drawn_on hbr _⟩
        | true =>
          cases q2 : (x.head.toList == y.head.toList) with
          | false =>
            have HNE : Hid (x ≠ y) := Lib.hid (fun e => by have := (HEQ.out.1 e).2.2; rw [q2] at this; cases this)
            go_wp2
            go_quiet (fail)
            go_wp2
            go_ret
            exact ⟨ret_num (by rw [hsn.out, HST.out, if_neg HNE.out]; omega), drawn_on hbr _⟩
          | true =>
            have HYE : Hid (x = y) := Lib.hid (HEQ.out.2 ⟨q0, q1, q2⟩)
            go_wp2
            go_quiet (fail)
            go_wp2
            exact ⟨⟨k + 1, by omega, by omega, by go_num, Lib.hid (by rw [hsn.out, HST.out, if_pos HYE.out]; omega), drawn_on hbr _⟩, by simp [intOf]; omega⟩
    · have g3 : decide ((k : Int) < min (a.length : Int) (b.length : Int)) = false := by simp; omega
      have HZ : Hid (sameN (a.drop k) (b.drop k) = 0) := Lib.hid (sameN_end (by omega))
      go_wp2_with fail
      refine wp_region_quiet_below (by kernel_rfl) (by kernel_rfl) ?_
      repeat (first | go_big_quiet_step (fail) | quiet_step (fail))
      refine wpQuiet_nil ?_
      intro _ hw'
      obtain ⟨⟨dq, osq⟩, hw''⟩ := hw'
      subst hw''
      have HQ := Lib.hid (below_regrown wr dq osq)
      go_wp2
      go_ret
      exact ⟨ret_num (by rw [hsn.out, HZ.out]; omega), belowNext hbr HQ.out⟩
/-- How many they end with, what they begin with alike left out. -/
def backN (a b : List Tok) : Nat := min (sameN a.reverse b.reverse) (min a.length b.length - sameN a b)
theorem sameN_le : ∀ a b : List Tok, sameN a b ≤ a.length ∧ sameN a b ≤ b.length
  | [], b => by cases b <;> simp [sameN]
  | a :: x, [] => by simp [sameN]
  | a :: x, b :: y => by
    have := sameN_le x y
    rw [sameN]; split <;> simp <;> omega
theorem get_rev {l : List Tok} {k : Nat} (h : k < l.length) : l[l.length - 1 - k]? = l.reverse[k]? := by
  rw [List.getElem?_reverse h]

set_option maxHeartbeats 4000000 in
set_option maxRecDepth 100000 in
theorem tback_any (va vb : Value) (a b : List Tok) (w : World) (ha : Toks w (Under w.heap.size) va a) (hb : Toks w (Under w.heap.size) vb b) (hla : a.length ≤ 100000000) (hlb : b.length ≤ 100000000) :
    Calls Try.prog 14 #[va, vb] w fun e w' => e = .returned (.int .i64 (backN a b)) ∧ Below w.heap.size w w' := by
  obtain ⟨A1, c1, rfl, _⟩ := ha.form
  obtain ⟨A2, c2, rfl, _⟩ := hb.form
  have HA := Lib.hid ha
  have HB := Lib.hid hb
  clear ha hb
  go_enter Try.func14, Try.ntmps14
  go_wp2_with fail
  refine (tsame_any _ _ a b w HA.out HB.out hla hlb).mono ?_
  rintro e w0 ⟨rfl, hb0⟩
  obtain ⟨hs1, hs2⟩ := sameN_le a b
  obtain ⟨n, hn⟩ : ∃ n : Nat, min (a.length : Int) (b.length : Int) - (sameN a b : Int) = (n : Int) := ⟨min a.length b.length - sameN a b, by omega⟩
  have HBN : Hid (backN a b = min (sameN a.reverse b.reverse) n) := Lib.hid (by unfold backN; congr 1; omega)
  have hn1 : n ≤ a.length := by omega
  have hn2 : n ≤ b.length := by omega
  have HB0 := Lib.hid hb0
  have hw1 : -9223372036854775808 ≤ min (a.length : Int) (b.length : Int) - (sameN a b : Int) ∧ min (a.length : Int) (b.length : Int) - (sameN a b : Int) ≤ 9223372036854775807 := by omega
  clear hb0
  go_wp2
  clear hn hs1 hs2 hw1
  go_loopw [6] (fun i wr => ∃ k : Nat, k ≤ n ∧ i = .int .i64 k ∧ Hid (sameN a.reverse b.reverse = k + sameN (a.reverse.drop k) (b.reverse.drop k)) ∧ Below w.heap.size w wr) (fun i _ => n - (intOf i).toNat)
  case atStart => exact ⟨0, by omega, rfl, Lib.hid (by simp), HB0.out⟩
  case round =>
    obtain ⟨k, hkn, rfl, hsn, hbr⟩ := hrel
    by_cases hlt : k < n
    · have hlt1 : k < a.length := by omega
      have hlt2 : k < b.length := by omega
      have hra : k < a.reverse.length := by rw [List.length_reverse]; exact hlt1
      have hrb : k < b.reverse.length := by rw [List.length_reverse]; exact hlt2
      have hax : a[a.length - 1 - k]? = some a.reverse[k] := by rw [get_rev hlt1]; exact List.getElem?_eq_getElem hra
      have hby : b[b.length - 1 - k]? = some b.reverse[k] := by rw [get_rev hlt2]; exact List.getElem?_eq_getElem hrb
      have HST : Hid (sameN (a.reverse.drop k) (b.reverse.drop k) = if a.reverse[k] = b.reverse[k] then sameN (a.reverse.drop (k + 1)) (b.reverse.drop (k + 1)) + 1 else 0) := Lib.hid (by rw [List.drop_eq_getElem_cons hra, List.drop_eq_getElem_cons hrb, sameN])
      generalize a.reverse[k] = x at *
      generalize b.reverse[k] = y at *
      obtain ⟨g1, o1, rfl, hu1, x0, x1, x2⟩ := HA.out.get hax
      obtain ⟨g2, o2, rfl, hu2, y0, y1, y2⟩ := HB.out.get hby
      have k0 := cell_kept x0 hbr
      have k1 := cell_kept x1 hbr
      have k2 := cell_kept x2 hbr
      have m0 := cell_kept y0 hbr
      have m1 := cell_kept y1 hbr
      have m2 := cell_kept y2 hbr
      obtain ⟨ia, hia⟩ : ∃ ia : Nat, a.length - 1 - k = ia := ⟨_, rfl⟩
      obtain ⟨ib, hib⟩ : ∃ ib : Nat, b.length - 1 - k = ib := ⟨_, rfl⟩
      rw [hia] at k0 k1 k2
      rw [hib] at m0 m1 m2
      have ja : (a.length : Int) - 1 - (k : Int) = (ia : Int) := by omega
      have jb : (b.length : Int) - 1 - (k : Int) = (ib : Int) := by omega
      have la : ia < a.length := by omega
      have lb : ib < b.length := by omega
      have g3 : decide ((k : Int) < (n : Int)) = true := by simp; omega
      clear x0 x1 x2 y0 y1 y2 hax hby hra hrb hia hib
      have HEQ := Lib.hid (tok_eq x y)
      cases q0 : ((x.kind : Int) == (y.kind : Int)) with
      | false =>
        have HNE : Hid (x ≠ y) := Lib.hid (fun e => by have := (HEQ.out.1 e).1; rw [q0] at this; cases this)
        go_wp2
        go_quiet (fail)
        go_wp2
        go_ret
        exact ⟨ret_num (by rw [HBN.out, hsn.out, HST.out, if_neg HNE.out]; omega), drawn_on hbr _⟩
      | true =>
        cases q1 : (x.text.toList == y.text.toList) with
        | false =>
          have HNE : Hid (x ≠ y) := Lib.hid (fun e => by have := (HEQ.out.1 e).2.1; rw [q1] at this; cases this)
          go_wp2
          go_quiet (fail)
          go_wp2
          go_ret
          exact ⟨ret_num (by rw [HBN.out, hsn.out, HST.out, if_neg HNE.out]; omega), drawn_on hbr _⟩
        | true =>
          cases q2 : (x.head.toList == y.head.toList) with
          | false =>
            have HNE : Hid (x ≠ y) := Lib.hid (fun e => by have := (HEQ.out.1 e).2.2; rw [q2] at this; cases this)
            go_wp2
            go_quiet (fail)
            go_wp2
            go_ret
            exact ⟨ret_num (by rw [HBN.out, hsn.out, HST.out, if_neg HNE.out]; omega), drawn_on hbr _⟩
          | true =>
            have HYE : Hid (x = y) := Lib.hid (HEQ.out.2 ⟨q0, q1, q2⟩)
            go_wp2
            go_quiet (fail)
            go_wp2
            exact ⟨⟨k + 1, by omega, by go_num, Lib.hid (by rw [hsn.out, HST.out, if_pos HYE.out]; omega), drawn_on hbr _⟩, by simp [intOf]; omega⟩
    · have g3 : decide ((k : Int) < (n : Int)) = false := by simp; omega
      obtain rfl : k = n := by omega
      go_wp2_with fail
      refine wp_region_quiet_below (by kernel_rfl) (by kernel_rfl) ?_
      repeat (first | go_big_quiet_step (fail) | quiet_step (fail))
      refine wpQuiet_nil ?_
      intro _ hw'
      obtain ⟨⟨dq, osq⟩, hw''⟩ := hw'
      subst hw''
      have HQ := Lib.hid (below_regrown wr dq osq)
      go_wp2
      go_ret
      exact ⟨ret_num (by rw [HBN.out, hsn.out]; omega), belowNext hbr HQ.out⟩
end Go.Proofs.Ytdcgffepdgldmaa
