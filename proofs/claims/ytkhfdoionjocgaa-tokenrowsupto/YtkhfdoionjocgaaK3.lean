/-
  What token.Same and token.Back answer.
-/
import Derived.Test.YtkhfdoionjocgaaK2
import Derived.Lib.QuietBelow
import Derived.Laws.StructEq
namespace Go.Proofs.Ytkhfdoionjocgaa
open Go.RowKit Go.Sort Go.Maps

/-- A row of tokens, as it is read. -/
def Toks (w : World) (S : Nat → Prop) (v : Value) (l : List Tok) : Prop :=
  ∃ A c, v = .slice A l.length c ∧ l.length ≤ c ∧ c ≤ maxLen ∧ (l = [] ∨ ∃ b o, A = some ⟨b, o, none⟩ ∧ S b ∧
    ∀ i t, l[i]? = some t → w.cell? ⟨b, o + i * 3, none⟩ = some (.int .u8 (t.kind : Int)) ∧ w.cell? ⟨b, o + i * 3 + 1, none⟩ = some (.string t.text) ∧ w.cell? ⟨b, o + i * 3 + 2, none⟩ = some (.string t.head))
theorem Toks.keep {w w' : World} {S S' : Nat → Prop} {v : Value} {l : List Tok} (h : Toks w S v l) (hs : ∀ b, S b → S' b) (k : ∀ b, S b → w'.heap[b]? = w.heap[b]?) : Toks w' S' v l := by
  obtain ⟨A, c, hv, h1, h2, h3⟩ := h
  refine ⟨A, c, hv, h1, h2, h3.imp id ?_⟩
  rintro ⟨b, o, ha, hb, hc⟩
  refine ⟨b, o, ha, hs b hb, fun i t hi => ?_⟩
  obtain ⟨x0, x1, x2⟩ := hc i t hi
  exact ⟨(World.cell?_of_block (a := ⟨b, _, none⟩) (k b hb)).trans x0, (World.cell?_of_block (a := ⟨b, _, none⟩) (k b hb)).trans x1, (World.cell?_of_block (a := ⟨b, _, none⟩) (k b hb)).trans x2⟩
theorem Toks.get {w : World} {S : Nat → Prop} {A : Option Addr} {n c : Nat} {l : List Tok} (h : Toks w S (.slice A n c) l) {i : Nat} {t : Tok} (hi : l[i]? = some t) :
    ∃ b o, A = some ⟨b, o, none⟩ ∧ S b ∧ w.cell? ⟨b, o + i * 3, none⟩ = some (.int .u8 (t.kind : Int)) ∧ w.cell? ⟨b, o + i * 3 + 1, none⟩ = some (.string t.text) ∧ w.cell? ⟨b, o + i * 3 + 2, none⟩ = some (.string t.head) := by
  obtain ⟨A', c', hv, _, _, h3⟩ := h
  injection hv with hv
  subst hv
  rcases h3 with rfl | ⟨b, o, rfl, hb, hc⟩
  · simp at hi
  · exact ⟨b, o, rfl, hb, hc i t hi⟩
theorem Toks.form {w : World} {S : Nat → Prop} {v : Value} {l : List Tok} (h : Toks w S v l) : ∃ A c, v = .slice A l.length c ∧ l.length ≤ c := by
  obtain ⟨A, c, hv, h1, _⟩ := h; exact ⟨A, c, hv, h1⟩
theorem flat3 : ∀ (l : List Tok) (i j : Nat) (t : Tok), l[i]? = some t → j < 3 → (l.flatMap tokCells)[i * 3 + j]? = (tokCells t)[j]?
  | [], i, j, t, h, _ => by simp at h
  | x :: l, 0, j, t, h, hj => by
    simp only [List.getElem?_cons_zero, Option.some.injEq] at h
    subst h
    rw [List.flatMap_cons, Nat.zero_mul, Nat.zero_add, List.getElem?_append_left (by rw [tokCells_len]; exact hj)]
  | x :: l, i + 1, j, t, h, hj => by
    rw [List.getElem?_cons_succ] at h
    rw [List.flatMap_cons, List.getElem?_append_right (by rw [tokCells_len]; omega), tokCells_len, show (i + 1) * 3 + j - 3 = i * 3 + j by omega]
    exact flat3 l i j t h hj
theorem TRow.toks {w : World} {base : Nat} {v : Value} {l : List Tok} (h : TRow w base v l) : Toks w (From base w.heap.size) v l := by
  rcases h.2 with ⟨rfl, hm⟩ | ⟨g, cap, cur, rfl, hb, hg, hnc, hcap, hsz, htk⟩
  · exact ⟨none, 0, by rw [hm], by omega, by unfold maxLen; omega, .inl (List.eq_nil_of_length_eq_zero hm)⟩
  · refine ⟨_, cap, rfl, hnc, hcap, .inr ⟨g, 0, rfl, ⟨hb, (Array.getElem?_eq_some_iff.1 hg).1⟩, fun i t hi => ?_⟩⟩
    have hlt : i < l.length := (List.getElem?_eq_some_iff.1 hi).1
    have each : ∀ j u, j < 3 → (tokCells t)[j]? = some u → w.cell? ⟨g, 0 + i * 3 + j, none⟩ = some u := fun j u hj hu => by
      have e := flat3 l i j t hi hj
      rw [hu, ← htk, List.getElem?_take, if_pos (by omega)] at e
      rw [Nat.zero_add]
      simpa [World.cell?, hg] using e
    exact ⟨by simpa using each 0 _ (by omega) rfl, each 1 _ (by omega) rfl, each 2 _ (by omega) rfl⟩

/-- How many tokens two rows begin with alike. -/
def sameN : List Tok → List Tok → Nat
  | a :: x, b :: y => if a = b then sameN x y + 1 else 0
  | _, _ => 0

theorem bytes_iff (a b : ByteArray) : (a.toList == b.toList) = true ↔ a = b := by
  rw [Lib.toList_data, Lib.toList_data, beq_iff_eq]
  exact ⟨fun h => ByteArray.ext (Array.ext' h), fun h => by rw [h]⟩
theorem tok_eq (x y : Tok) : x = y ↔ ((x.kind : Int) == (y.kind : Int)) = true ∧ (x.text.toList == y.text.toList) = true ∧ (x.head.toList == y.head.toList) = true := by
  obtain ⟨k, t, h⟩ := x
  obtain ⟨k', t', h'⟩ := y
  rw [bytes_iff, bytes_iff, beq_iff_eq, Tok.mk.injEq]
  constructor
  · rintro ⟨rfl, rfl, rfl⟩; exact ⟨rfl, rfl, rfl⟩
  · rintro ⟨h0, h1, h2⟩; exact ⟨Int.ofNat.inj h0, h1, h2⟩
theorem drawn_on {B : Nat} {a w : World} (h : Below B a w) (n : Nat) : Below B a (w.drewN n) := h.trans ⟨rfl, rfl, rfl, Nat.le_refl _, fun _ _ => rfl⟩
theorem sameN_end {a b : List Tok} {k : Nat} (h : a.length ≤ k ∨ b.length ≤ k) : sameN (a.drop k) (b.drop k) = 0 := by
  rcases h with h | h
  · rw [List.drop_of_length_le h]; cases b.drop k <;> rfl
  · rw [List.drop_of_length_le h]; cases a.drop k <;> rfl

/-- How many they end with, what they begin with alike left out. -/
def backN (a b : List Tok) : Nat := min (sameN a.reverse b.reverse) (min a.length b.length - sameN a b)
theorem sameN_le : ∀ a b : List Tok, sameN a b ≤ a.length ∧ sameN a b ≤ b.length
  | [], b => by cases b <;> simp [sameN]
  | a :: x, [] => by simp [sameN]
  | a :: x, b :: y => by
    have := sameN_le x y
    rw [sameN]; split <;> simp <;> omega
theorem get_rev {l : List Tok} {k : Nat} (h : k < l.length) : l[l.length - 1 - k]? = l.reverse[k]? := by
  rw [List.getElem?_reverse h]

end Go.Proofs.Ytkhfdoionjocgaa
