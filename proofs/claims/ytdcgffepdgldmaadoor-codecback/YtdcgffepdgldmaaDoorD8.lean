/-
  The reader's text and head.
-/
import Derived.Test.YtdcgffepdgldmaaDoorD7
import Derived.Test.YtdcgffepdgldmaaDoorNil
namespace Go.Proofs.YtdcgffepdgldmaaDoor
open Go.RowKit Go.Sort Go.Maps

def put5 (w : World) (g : Nat) (v0 v1 v2 v3 v4 : Value) : World := ((((w.setCell ⟨g, 0, none⟩ v0).setCell ⟨g, 1, none⟩ v1).setCell ⟨g, 2, none⟩ v2).setCell ⟨g, 3, none⟩ v3).setCell ⟨g, 4, none⟩ v4
theorem put5_at {w : World} {g : Nat} {u0 u1 u2 u3 u4 : Value} {T : TypeId} (h : w.heap[g]? = some (.cells #[u0, u1, u2, u3, u4] T)) (v0 v1 v2 v3 v4 : Value) : (put5 w g v0 v1 v2 v3 v4).heap[g]? = some (.cells #[v0, v1, v2, v3, v4] T) :=
  heap_setCell_same _ g 4 _ T v4 (heap_setCell_same _ g 3 _ T v3 (heap_setCell_same _ g 2 _ T v2 (heap_setCell_same _ g 1 _ T v1 (heap_setCell_same w g 0 _ T v0 h))))
theorem put5_only (w : World) (g : Nat) (v0 v1 v2 v3 v4 : Value) : OnlyR g w (put5 w g v0 v1 v2 v3 v4) :=
  ((((OnlyR.set g 0 w v0).trans (OnlyR.set g 1 _ v1)).trans (OnlyR.set g 2 _ v2)).trans (OnlyR.set g 3 _ v3)).trans (OnlyR.set g 4 _ v4)
theorem put5_size (w : World) (g : Nat) (v0 v1 v2 v3 v4 : Value) : (put5 w g v0 v1 v2 v3 v4).heap.size = w.heap.size := by simp [put5, World.setCell]
/-- A text as it is read: what it is, what is left, whether something stands wrong. -/
def textL (l : List UInt8) : Tree × List UInt8 × Bool :=
  (.mk TEXT (quoL l).1 (marksL ((quoL l).2.getD [])).1 [] [], (marksL ((quoL l).2.getD [])).2.1, (quoL l).2.isNone || !(marksL ((quoL l).2.getD [])).2.2)
/-- A head as it is read. -/
def headL (l : List UInt8) : Tree × List UInt8 × Bool :=
  (.mk ⟨(l.takeWhile small).toArray⟩ ⟨#[]⟩ [] (attrsL (l.dropWhile small)).1 [], wantL [91] (attrsL (l.dropWhile small)).2.1, (attrsL (l.dropWhile small)).2.2 || !Lib.hasPrefix (attrsL (l.dropWhile small)).2.1 [91])

set_option maxHeartbeats 2000000 in
theorem rd_text (R : Nat) (l : List UInt8) (x : Bool) (w : World) (h : Rd w R l x) (hl : l.length ≤ 10000000) :
    Calls Tryd.prog 69 #[.pointer (some ⟨R, 0, none⟩)] w fun e w' =>
      ∃ v, e = .returned v ∧ Node w' (From w.heap.size w'.heap.size) v (textL l).1 ∧ Rd w' R (textL l).2.1 (x || (textL l).2.2) ∧ OnlyR R w w' := by
  have hRw := h.lt
  have hb1 : Below w.heap.size w (w.alloc (.cells #[.string ⟨#[]⟩, .string ⟨#[]⟩, .slice none 0 0, .slice none 0 0, .slice none 0 0] 27)) := (Below.refl _ _).alloc (Nat.le_refl _) _
  have H1 := Lib.hid (h.below hb1)
  have O1 := Lib.hid (OnlyR.of_below R hb1)
  have hz1 : w.heap.size < (w.alloc (.cells #[.string ⟨#[]⟩, .string ⟨#[]⟩, .slice none 0 0, .slice none 0 0, .slice none 0 0] 27)).heap.size := by simp
  have HC : Hid ((w.alloc (.cells #[.string ⟨#[]⟩, .string ⟨#[]⟩, .slice none 0 0, .slice none 0 0, .slice none 0 0] 27)).heap[w.heap.size]? = some (.cells #[.string ⟨#[]⟩, .string ⟨#[]⟩, .slice none 0 0, .slice none 0 0, .slice none 0 0] 27)) := Lib.hid (heap_alloc_new w _)
  clear h hb1
  go_enter Tryd.func69, Tryd.ntmps69
  go_wp2_with fail
  generalize w.alloc (.cells #[.string ⟨#[]⟩, .string ⟨#[]⟩, .slice none 0 0, .slice none 0 0, .slice none 0 0] 27) = w1 at *
  refine (rd_quoted2 R l x w1 H1.out (by omega)).mono ?_
  rintro e w2 ⟨rfl, h2, o2⟩
  have hl2 := quo_le l
  have H2 := Lib.hid h2
  have O2 := Lib.hid (O1.out.trans o2)
  have HC2 := Lib.hid ((o2.block _ hz1 (by omega)).trans HC.out)
  have hz2 := o2.size
  clear h2 o2
  go_wp2_with fail
  refine (rd_marks R _ _ w2 H2.out (by omega)).mono ?_
  rintro e w3 ⟨v3, rfl, hs3, h3, o3⟩
  have ht : textL l = (.mk TEXT (quoL l).1 (marksL ((quoL l).2.getD [])).1 [] [], (marksL ((quoL l).2.getD [])).2.1, (quoL l).2.isNone || !(marksL ((quoL l).2.getD [])).2.2) := rfl
  have HT := Lib.hid ht
  clear ht
  have hst := hs3.strs
  obtain ⟨A, c, rfl, _⟩ := hst.form
  have HST := Lib.hid hst
  rw [Bool.or_assoc] at h3
  have H3 := Lib.hid h3
  have O3 := Lib.hid (O2.out.trans o3)
  have hc3 := (o3.block _ (by omega) (by omega)).trans HC2.out
  have HC3 := Lib.hid hc3
  have hz3 := o3.size
  obtain ⟨c0, c1, c2, c3, c4⟩ := five_cells hc3
  have f0 := frozen_of_row w3 _ 0 _ _ hc3
  have f1 := frozen_of_row w3 _ 1 _ _ hc3
  have f2 := frozen_of_row w3 _ 2 _ _ hc3
  have f3 := frozen_of_row w3 _ 3 _ _ hc3
  have f4 := frozen_of_row w3 _ 4 _ _ hc3
  clear hs3 hst h3 o3 hc3
  go_wp2
  have q := put5_at HC3.out (.string TEXT) (.string (quoL l).1) (.slice A (marksL ((quoL l).2.getD [])).1.length c) (.slice none 0 0) (.slice none 0 0)
  have o4 := put5_only w3 w.heap.size (.string TEXT) (.string (quoL l).1) (.slice A (marksL ((quoL l).2.getD [])).1.length c) (.slice none 0 0) (.slice none 0 0)
  change bodyPost _ _ _ _ _ (put5 w3 w.heap.size (.string TEXT) (.string (quoL l).1) (.slice A (marksL ((quoL l).2.getD [])).1.length c) (.slice none 0 0) (.slice none 0 0))
  generalize put5 w3 w.heap.size (.string TEXT) (.string (quoL l).1) (.slice A (marksL ((quoL l).2.getD [])).1.length c) (.slice none 0 0) (.slice none 0 0) = W at *
  have hb4 : Below w.heap.size w3 W := o4.below (Nat.le_refl _) (by omega)
  have hz4 := o4.size
  obtain ⟨q0, q1, q2, q3, q4⟩ := five_cells q
  refine bodyPost_ret (v := .agg #[.string TEXT, .string (quoL l).1, .slice A (marksL ((quoL l).2.getD [])).1.length c, .slice none 0 0, .slice none 0 0]) (by simp [results, Tryd.results69, go_sem, q0, q1, q2, q3, q4]) rfl ⟨_, rfl, ?_, ?_, O3.out.thenBelow hb4 (Nat.le_refl _)⟩
  · rw [HT.out]
    refine ⟨_, _, _, rfl, HST.out.keep (fun b hb => ⟨by have := hb.1; omega, by have := hb.2; omega⟩) (fun b hb => o4.block b hb.2 (by have := hb.1; omega)), pairs_nil, kids_nil⟩
  · rw [HT.out]; exact H3.out.under hb4 hRw

set_option maxHeartbeats 2000000 in
theorem rd_head (R : Nat) (l : List UInt8) (x : Bool) (w : World) (h : Rd w R l x) (hl : l.length ≤ 10000000) :
    Calls Tryd.prog 71 #[.pointer (some ⟨R, 0, none⟩)] w fun e w' =>
      ∃ va, e = .returned (.agg #[.string (headL l).1.kind, .string (headL l).1.text, .slice none 0 0, va, .slice none 0 0]) ∧ Pairs w' (From w.heap.size w'.heap.size) va (headL l).1.attrs ∧ Rd w' R (headL l).2.1 (x || (headL l).2.2) ∧ OnlyR R w w' := by
  have hRw := h.lt
  have hb1 : Below w.heap.size w (w.alloc (.cells #[.string ⟨#[]⟩, .string ⟨#[]⟩, .slice none 0 0, .slice none 0 0, .slice none 0 0] 27)) := (Below.refl _ _).alloc (Nat.le_refl _) _
  have H1 := Lib.hid (h.below hb1)
  have O1 := Lib.hid (OnlyR.of_below R hb1)
  have hz1 : w.heap.size < (w.alloc (.cells #[.string ⟨#[]⟩, .string ⟨#[]⟩, .slice none 0 0, .slice none 0 0, .slice none 0 0] 27)).heap.size := by simp
  have HC : Hid ((w.alloc (.cells #[.string ⟨#[]⟩, .string ⟨#[]⟩, .slice none 0 0, .slice none 0 0, .slice none 0 0] 27)).heap[w.heap.size]? = some (.cells #[.string ⟨#[]⟩, .string ⟨#[]⟩, .slice none 0 0, .slice none 0 0, .slice none 0 0] 27)) := Lib.hid (heap_alloc_new w _)
  clear h hb1
  go_enter Tryd.func71, Tryd.ntmps71
  go_wp2_with fail
  generalize w.alloc (.cells #[.string ⟨#[]⟩, .string ⟨#[]⟩, .slice none 0 0, .slice none 0 0, .slice none 0 0] 27) = w1 at *
  refine (rd_name R l x w1 H1.out (by omega)).mono ?_
  rintro e w2 ⟨rfl, h2, o2⟩
  have hl2 := drops_le l
  have H2 := Lib.hid h2
  have O2 := Lib.hid (O1.out.trans o2)
  have HC2 := Lib.hid ((o2.block _ hz1 (by omega)).trans HC.out)
  have hz2 := o2.size
  clear h2 o2
  go_wp2_with fail
  refine (rd_attrs R _ _ w2 H2.out (by omega)).mono ?_
  rintro e w3 ⟨v3, rfl, hs3, h3, o3⟩
  have ht : headL l = (.mk ⟨(l.takeWhile small).toArray⟩ ⟨#[]⟩ [] (attrsL (l.dropWhile small)).1 [], wantL [91] (attrsL (l.dropWhile small)).2.1, (attrsL (l.dropWhile small)).2.2 || !Lib.hasPrefix (attrsL (l.dropWhile small)).2.1 [91]) := rfl
  have HT := Lib.hid ht
  clear ht
  have hst := hs3.pairs
  obtain ⟨A, c, rfl, _⟩ := hst.form
  have HST := Lib.hid hst
  have H3 := Lib.hid h3
  have O3 := Lib.hid (O2.out.trans o3)
  have HC3 := Lib.hid ((o3.block _ (by omega) (by omega)).trans HC2.out)
  have hz3 := o3.size
  clear hs3 hst h3 o3
  generalize hk : (⟨(l.takeWhile small).toArray⟩ : ByteArray) = kk at *
  generalize hva : Value.slice A (attrsL (l.dropWhile small)).1.length c = va at *
  have hb4 : Below w3.heap.size w3 (w3.alloc (.cells #[.string kk, .string ⟨#[]⟩, .slice none 0 0, va, .slice none 0 0] 27)) := (Below.refl _ _).alloc (Nat.le_refl _) _
  have H4 := Lib.hid (H3.out.below hb4)
  have O4 := Lib.hid (O3.out.thenBelow hb4 (by omega))
  have HC4 := Lib.hid ((hb4.block _ (by omega)).trans HC3.out)
  have HN4 : Hid ((w3.alloc (.cells #[.string kk, .string ⟨#[]⟩, .slice none 0 0, va, .slice none 0 0] 27)).heap[w3.heap.size]? = some (.cells #[.string kk, .string ⟨#[]⟩, .slice none 0 0, va, .slice none 0 0] 27)) := Lib.hid (heap_alloc_new w3 _)
  have hz4 : w3.heap.size < (w3.alloc (.cells #[.string kk, .string ⟨#[]⟩, .slice none 0 0, va, .slice none 0 0] 27)).heap.size := by simp
  have HS4 := Lib.hid (HST.out.keep (S' := From (w.heap.size + 1) w3.heap.size) (fun b hb => ⟨by have := hb.1; omega, hb.2⟩) (fun b hb => hb4.block b hb.2))
  clear hb4
  subst hva
  go_wp2_with fail
  generalize hva : Value.slice A (attrsL (l.dropWhile small)).1.length c = va at *
  generalize w3.alloc (.cells #[.string kk, .string ⟨#[]⟩, .slice none 0 0, va, .slice none 0 0] 27) = w4 at *
  refine (rd_want R _ _ ⟨#[91]⟩ w4 H4.out).mono ?_
  rintro e w5 ⟨rfl, h5, o5⟩
  change Rd w5 R (wantL [91] (attrsL (l.dropWhile small)).2.1) (x || (attrsL (l.dropWhile small)).2.2 || !Lib.hasPrefix (attrsL (l.dropWhile small)).2.1 [91]) at h5
  rw [Bool.or_assoc] at h5
  have H5 := Lib.hid h5
  have O5 := Lib.hid (O4.out.trans o5)
  have hc5 := (o5.block _ (by omega) (by omega)).trans HC4.out
  have hn5 := (o5.block _ hz4 (by omega)).trans HN4.out
  have HS5 := Lib.hid (HS4.out.keep (S' := From (w.heap.size + 1) w3.heap.size) (fun b hb => hb) (fun b hb => o5.block b (by have := hb.2; omega) (by have := hb.1; omega)))
  have hz5 := o5.size
  have HC5 := Lib.hid hc5
  obtain ⟨c0, c1, c2, c3, c4⟩ := five_cells hc5
  obtain ⟨n0, n1, n2, n3, n4⟩ := five_cells hn5
  have f0 := frozen_of_row w5 _ 0 _ _ hc5
  have f1 := frozen_of_row w5 _ 1 _ _ hc5
  have f2 := frozen_of_row w5 _ 2 _ _ hc5
  have f3 := frozen_of_row w5 _ 3 _ _ hc5
  have f4 := frozen_of_row w5 _ 4 _ _ hc5
  clear h5 o5 hc5 hn5
  subst hva
  go_wp2
  have q := put5_at HC5.out (.string kk) (.string ⟨#[]⟩) (.slice none 0 0) (.slice A (attrsL (l.dropWhile small)).1.length c) (.slice none 0 0)
  have o6 := put5_only w5 w.heap.size (.string kk) (.string ⟨#[]⟩) (.slice none 0 0) (.slice A (attrsL (l.dropWhile small)).1.length c) (.slice none 0 0)
  change bodyPost _ _ _ _ _ (put5 w5 w.heap.size (.string kk) (.string ⟨#[]⟩) (.slice none 0 0) (.slice A (attrsL (l.dropWhile small)).1.length c) (.slice none 0 0))
  generalize put5 w5 w.heap.size (.string kk) (.string ⟨#[]⟩) (.slice none 0 0) (.slice A (attrsL (l.dropWhile small)).1.length c) (.slice none 0 0) = W at *
  have hb6 : Below w.heap.size w5 W := o6.below (Nat.le_refl _) (by omega)
  have hz6 := o6.size
  obtain ⟨q0, q1, q2, q3, q4⟩ := five_cells q
  refine bodyPost_ret (v := .agg #[.string kk, .string ⟨#[]⟩, .slice none 0 0, .slice A (attrsL (l.dropWhile small)).1.length c, .slice none 0 0]) (by simp [results, Tryd.results71, go_sem, q0, q1, q2, q3, q4]) rfl ⟨.slice A (attrsL (l.dropWhile small)).1.length c, by rw [HT.out, ← hk]; rfl, ?_, ?_, O5.out.thenBelow hb6 (Nat.le_refl _)⟩
  · rw [HT.out]
    exact HS5.out.keep (fun b hb => ⟨by have := hb.1; omega, by have := hb.2; omega⟩) (fun b hb => o6.block b (by have := hb.2; omega) (by have := hb.1; omega))
  · rw [HT.out]; exact H5.out.under hb6 hRw
end Go.Proofs.YtdcgffepdgldmaaDoor
