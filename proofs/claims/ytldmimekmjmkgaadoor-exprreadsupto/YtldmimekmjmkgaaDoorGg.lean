/-
  The document's example, as every statement asks it first.
-/
import Derived.Test.YtldmimekmjmkgaaDoorGe
namespace Go.Proofs.YtldmimekmjmkgaaDoor
open Go.RowKit Go.Sort Go.Maps Go.WideMaps

theorem parse_ex : parseE ⟨#[40, 112, 97, 114, 97, 124, 108, 105, 115, 116, 41, 43]⟩ = (exE, 0) := by
  have h : readE (⟨#[40, 112, 97, 114, 97, 124, 108, 105, 115, 116, 41, 43]⟩ : ByteArray).data.toList = exE := exE_read
  unfold parseE
  rw [h, if_pos ⟨exE_right, exE_write⟩]
theorem strs_one {W : World} {S : Nat → Prop} {g : Nat} {a : ByteArray} {T : TypeId} (hg : W.heap[g]? = some (.cells #[.string a] T)) (hS : S g) : Strs W S (.slice (some ⟨g, 0, none⟩) 1 1) [a] :=
  ⟨_, 1, rfl, Nat.le_refl _, by unfold maxLen; omega, .inr ⟨g, 0, rfl, hS, fun i s hi => by
    match i, hi with
    | 0, hi => simp at hi; subst hi; simp [World.cell?, hg]
    | i + 1, hi => simp at hi⟩⟩
theorem strs_two {W : World} {S : Nat → Prop} {g : Nat} {a b : ByteArray} {T : TypeId} (hg : W.heap[g]? = some (.cells #[.string a, .string b] T)) (hS : S g) : Strs W S (.slice (some ⟨g, 0, none⟩) 2 2) [a, b] :=
  ⟨_, 2, rfl, Nat.le_refl _, by unfold maxLen; omega, .inr ⟨g, 0, rfl, hS, fun i s hi => by
    match i, hi with
    | 0, hi => simp at hi; subst hi; simp [World.cell?, hg]
    | 1, hi => simp at hi; subst hi; simp [World.cell?, hg]
    | i + 2, hi => simp at hi⟩⟩
theorem strs_no (W : World) (S : Nat → Prop) : Strs W S (.slice none 0 0) [] := ⟨none, 0, rfl, Nat.le_refl _, by unfold maxLen; omega, .inl rfl⟩
theorem para_len : PARA.size ≤ maxLen := by unfold maxLen; decide
theorem list_len : LIST.size ≤ maxLen := by unfold maxLen; decide
theorem one_len : ∀ s ∈ [PARA], s.size ≤ maxLen := by
  intro s hs
  rcases List.mem_cons.1 hs with h | h
  · rw [h]; exact para_len
  · cases h
theorem two_len : ∀ s ∈ [LIST, PARA], s.size ≤ maxLen := by
  intro s hs
  rcases List.mem_cons.1 hs with h | h
  · rw [h]; exact list_len
  · exact one_len s h
theorem exE_fits : exE.fits := by
  have h := fit_read (l := [40, 112, 97, 114, 97, 124, 108, 105, 115, 116, 41, 43]) (by decide)
  rw [exE_read] at h
  exact h
theorem has_true {w w' : World} {e : Ex} {word : List ByteArray} {x : Ending} (h : HasE w e word x w') (hr : rightE okN e = true) (hl : lang e word) : x = .returned (.bool true) ∧ Below w.heap.size w w' := by
  obtain ⟨⟨r, rfl, hr'⟩, hb⟩ := h
  obtain rfl : r = true := hr'.2 ⟨hr, hl⟩
  exact ⟨rfl, hb⟩
theorem has_false {w w' : World} {e : Ex} {word : List ByteArray} {x : Ending} (h : HasE w e word x w') (hl : ¬ lang e word) : x = .returned (.bool false) ∧ Below w.heap.size w w' := by
  obtain ⟨⟨r, rfl, hr'⟩, hb⟩ := h
  cases r with
  | false => exact ⟨rfl, hb⟩
  | true => exact absurd (hr'.1 rfl).2 hl

/-- An expression lies in block g, its kids below; all of the beginning is as it was. -/
structure Lies (w W : World) (g : Nat) (e : Ex) (A : Option Addr) (k c : Nat) : Prop where
  below : Below w.heap.size w W
  box : W.heap[g]? = some (.cells #[.int .u8 (e.op : Int), .string e.name, .slice A k c] 24)
  kids : Exs W (Under W.heap.size) (.slice A k c) e.kids
theorem Lies.next {w W W' : World} {g : Nat} {e : Ex} {A : Option Addr} {k c : Nat} (h : Lies w W g e A k c) (hb : Below W.heap.size W W') : Lies w W' g e A k c :=
  ⟨belowNext h.below hb, (hb.block _ (Array.getElem?_eq_some_iff.1 h.box).1).trans h.box, h.kids.keep (fun _ hb' => Nat.lt_of_lt_of_le hb' hb.size) fun b hb' => hb.block b hb'⟩
theorem Lies.alloc {w W : World} {g : Nat} {e : Ex} {A : Option Addr} {k c : Nat} (h : Lies w W g e A k c) (o : Obj) : Lies w (W.alloc o) g e A k c := h.next ((Below.refl _ _).alloc (Nat.le_refl _) _)
theorem Lies.new {w W : World} {e : Ex} {A : Option Addr} {k c : Nat} {S : Nat → Prop} (hb : Below w.heap.size w W) (hk : Exs W S (.slice A k c) e.kids) (hS : ∀ b, S b → b < W.heap.size) :
    Lies w (W.alloc (.cells #[.int .u8 (e.op : Int), .string e.name, .slice A k c] 24)) W.heap.size e A k c :=
  ⟨belowNext hb ((Below.refl _ _).alloc (Nat.le_refl _) _), heap_new _ _, hk.keep (fun b hb => (show b < _ by have := hS b hb; simp; omega)) fun b hb => Below.heap_alloc _ _ _ (hS b hb)⟩
theorem Lies.cells {w W : World} {g : Nat} {e : Ex} {A : Option Addr} {k c : Nat} (h : Lies w W g e A k c) : W.cell? ⟨g, 0, none⟩ = some (.int .u8 (e.op : Int)) ∧ W.cell? ⟨g, 1, none⟩ = some (.string e.name) ∧ W.cell? ⟨g, 2, none⟩ = some (.slice A k c) := three_cells h.box

set_option maxRecDepth 100000 in
set_option maxHeartbeats 4000000 in
theorem shown6_any (w : World) (hT : TabB w) : Calls Tryd.prog 11 #[] w fun x w' => x = .returned (.bool true) ∧ Below w.heap.size w w' := by
  have HT := Lib.hid hT
  clear hT
  go_enter Tryd.func11, Tryd.ntmps11
  go_wp2_with fail
  refine (parse_any _ w (by decide)).mono ?_
  rw [parse_ex]
  rintro x w2 ⟨A, k, c, rfl, hk2, hb2⟩
  obtain ⟨e, he⟩ : ∃ e, Hid (e = exE) := ⟨exE, Lib.hid rfl⟩
  rw [← he.out] at hk2 ⊢
  simp only at hk2 ⊢
  have HF : Hid e.fits := Lib.hid (by rw [he.out]; exact exE_fits)
  have HL := Lib.hid (Lies.new hb2 hk2 fun b hb => hb.2)
  have HS3 : Hid ((w2.alloc (.cells #[.int .u8 (e.op : Int), .string e.name, .slice A k c] 24)).heap.size = w2.heap.size + 1) := Lib.hid (by simp)
  clear hk2 hb2
  go_wp2_with fail
  generalize w2.alloc (.cells #[.int .u8 (e.op : Int), .string e.name, .slice A k c] 24) = W3 at *
  have HL4 := Lib.hid (HL.out.alloc (.cells #[.string ⟨#[112, 97, 114, 97]⟩] 9))
  have h3 : Strs (W3.alloc (.cells #[.string ⟨#[112, 97, 114, 97]⟩] 9)) (Under (W3.alloc (.cells #[.string ⟨#[112, 97, 114, 97]⟩] 9)).heap.size) (.slice (some ⟨w2.heap.size + 1, 0, none⟩) 1 1) [PARA] := strs_one (heap_new' _ _ HS3.out) (by show _ < _; simp; rw [HS3.out]; omega)
  refine (hasE_any e A k c (.slice (some ⟨w2.heap.size + 1, 0, none⟩) 1 1) [PARA] (W3.alloc (.cells #[.string ⟨#[112, 97, 114, 97]⟩] 9)) HF.out HL4.out.kids (HT.out.below HL4.out.below) h3 one_len).mono ?_
  rintro x w5 h
  obtain ⟨rfl, hb5⟩ := has_true h (by rw [he.out]; exact exE_right) (by rw [he.out]; exact exE_one)
  have HL5 := Lib.hid (HL4.out.next hb5)
  clear h h3 hb5 HL4 HL
  obtain ⟨d0, d1, d2⟩ := HL5.out.cells
  go_wp2_with fail
  have HL6 := Lib.hid (HL5.out.alloc (.cells #[.string ⟨#[108, 105, 115, 116]⟩, .string ⟨#[112, 97, 114, 97]⟩] 9))
  have h3 : Strs (w5.alloc (.cells #[.string ⟨#[108, 105, 115, 116]⟩, .string ⟨#[112, 97, 114, 97]⟩] 9)) (Under (w5.alloc (.cells #[.string ⟨#[108, 105, 115, 116]⟩, .string ⟨#[112, 97, 114, 97]⟩] 9)).heap.size) (.slice (some ⟨w5.heap.size, 0, none⟩) 2 2) [LIST, PARA] := strs_two (heap_new _ _) (by show _ < _; simp)
  refine (hasE_any e A k c (.slice (some ⟨w5.heap.size, 0, none⟩) 2 2) [LIST, PARA] (w5.alloc (.cells #[.string ⟨#[108, 105, 115, 116]⟩, .string ⟨#[112, 97, 114, 97]⟩] 9)) HF.out HL6.out.kids (HT.out.below HL6.out.below) h3 two_len).mono ?_
  rintro x w7 h
  obtain ⟨rfl, hb7⟩ := has_true h (by rw [he.out]; exact exE_right) (by rw [he.out]; exact exE_two)
  have HL7 := Lib.hid (HL6.out.next hb7)
  clear h h3 hb7 HL6 HL5 d0 d1 d2
  obtain ⟨d0, d1, d2⟩ := HL7.out.cells
  go_wp2_with fail
  refine (hasE_any e A k c (.slice none 0 0) [] w7 HF.out HL7.out.kids (HT.out.below HL7.out.below) (strs_no _ _) (fun s hs => by cases hs)).mono ?_
  rintro x w8 h
  obtain ⟨rfl, hb8⟩ := has_false h (by rw [he.out]; exact exE_none)
  have HL8 := Lib.hid (HL7.out.next hb8)
  clear h hb8 d0 d1 d2
  go_wp2
  go_ret
  exact ⟨rfl, HL8.out.below⟩
end Go.Proofs.YtldmimekmjmkgaaDoor
