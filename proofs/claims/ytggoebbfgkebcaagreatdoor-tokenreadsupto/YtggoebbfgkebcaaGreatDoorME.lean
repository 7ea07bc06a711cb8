/-
  The reader's text and head.
  The reader's closed: a node that is too deep is judged on the spot.
  What was written is read back: the parts of a node.
  The reader's loop as a plain function; what was written is read back.
  Parse as a plain function; Parse of what Print wrote.
  token.Build as a plain function; the row of a right row's own tokens is built as it was (no program is named here but for the type of tokens).
  What was read is what is written of it: texts and heads. Plain facts.
  What a round of the reader takes: at least one sign; and what it makes weighs no more than eight times what it took.
  What was read without fault, and is right, is what is written of it: the reader's loop. Plain facts.
-/
import Derived.Test.YtggoebbfgkebcaaGreatDoorMD
import Derived.Test.YtggoebbfgkebcaaGreatDoorMC
namespace Go.Proofs.YtggoebbfgkebcaaGreatDoor
open Go.RowKit Go.Sort Go.Maps

def put5 (w : World) (g : Nat) (v0 v1 v2 v3 v4 : Value) : World := ((((w.setCell ⟨g, 0, none⟩ v0).setCell ⟨g, 1, none⟩ v1).setCell ⟨g, 2, none⟩ v2).setCell ⟨g, 3, none⟩ v3).setCell ⟨g, 4, none⟩ v4
theorem put5_at {w : World} {g : Nat} {u0 u1 u2 u3 u4 : Value} {T : TypeId} (h : w.heap[g]? = some (.cells #[u0, u1, u2, u3, u4] T)) (v0 v1 v2 v3 v4 : Value) : (put5 w g v0 v1 v2 v3 v4).heap[g]? = some (.cells #[v0, v1, v2, v3, v4] T) :=
  heap_setCell_same _ g 4 _ T v4 (heap_setCell_same _ g 3 _ T v3 (heap_setCell_same _ g 2 _ T v2 (heap_setCell_same _ g 1 _ T v1 (heap_setCell_same w g 0 _ T v0 h))))
theorem put5_only (w : World) (g : Nat) (v0 v1 v2 v3 v4 : Value) : OnlyR g w (put5 w g v0 v1 v2 v3 v4) :=
  ((((OnlyR.set g 0 w v0).trans (OnlyR.set g 1 _ v1)).trans (OnlyR.set g 2 _ v2)).trans (OnlyR.set g 3 _ v3)).trans (OnlyR.set g 4 _ v4)
theorem put5_size (w : World) (g : Nat) (v0 v1 v2 v3 v4 : Value) : (put5 w g v0 v1 v2 v3 v4).heap.size = w.heap.size := by simp [put5, World.setCell]
/-- A text as it is read: what it is, what is left, whether something stands wrong. -/
def textL (l : List UInt8) : Tree × List UInt8 × Bool :=
  (.mk TEXT (quoL l).1 (marksL ((quoL l).2.getD [])).1 [] [], (marksL ((quoL l).2.getD [])).2.1, (quoL l).2.isNone || !(marksL ((quoL l).2.getD [])).2.2)
/-- A head as it is read. -/
def headL (l : List UInt8) : Tree × List UInt8 × Bool :=
  (.mk ⟨(l.takeWhile small).toArray⟩ ⟨#[]⟩ [] (attrsL (l.dropWhile small)).1 [], wantL [91] (attrsL (l.dropWhile small)).2.1, (attrsL (l.dropWhile small)).2.2 || !Lib.hasPrefix (attrsL (l.dropWhile small)).2.1 [91])

set_option maxHeartbeats 2000000 in
theorem rd_text (R : Nat) (l : List UInt8) (x : Bool) (w : World) (h : Rd w R l x) (hl : l.length ≤ 10000000) :
    Calls Tryz.prog 57 #[.pointer (some ⟨R, 0, none⟩)] w fun e w' =>
      ∃ v, e = .returned v ∧ Node w' (From w.heap.size w'.heap.size) v (textL l).1 ∧ Rd w' R (textL l).2.1 (x || (textL l).2.2) ∧ OnlyR R w w' := by
  have hRw := h.lt
  have hb1 : Below w.heap.size w (w.alloc (.cells #[.string ⟨#[]⟩, .string ⟨#[]⟩, .slice none 0 0, .slice none 0 0, .slice none 0 0] 41)) := (Below.refl _ _).alloc (Nat.le_refl _) _
  have H1 := Lib.hid (h.below hb1)
  have O1 := Lib.hid (OnlyR.of_below R hb1)
  have hz1 : w.heap.size < (w.alloc (.cells #[.string ⟨#[]⟩, .string ⟨#[]⟩, .slice none 0 0, .slice none 0 0, .slice none 0 0] 41)).heap.size := by simp
  have HC : Hid ((w.alloc (.cells #[.string ⟨#[]⟩, .string ⟨#[]⟩, .slice none 0 0, .slice none 0 0, .slice none 0 0] 41)).heap[w.heap.size]? = some (.cells #[.string ⟨#[]⟩, .string ⟨#[]⟩, .slice none 0 0, .slice none 0 0, .slice none 0 0] 41)) := Lib.hid (heap_alloc_new w _)
  clear h hb1
  go_enter Tryz.func57, Tryz.ntmps57
  go_wp2_with fail
  generalize w.alloc (.cells #[.string ⟨#[]⟩, .string ⟨#[]⟩, .slice none 0 0, .slice none 0 0, .slice none 0 0] 41) = w1 at *
  refine (rd_quoted2 R l x w1 H1.out (by omega)).mono ?_
  rintro e w2 ⟨rfl, h2, o2⟩
  have hl2 := quo_le l
  have H2 := Lib.hid h2
  have O2 := Lib.hid (O1.out.trans o2)
  have HC2 := Lib.hid ((o2.block _ hz1 (by omega)).trans HC.out)
  have hz2 := o2.size
  clear h2 o2
  go_wp2_with fail
  refine (rd_marks R _ _ w2 H2.out (by omega)).mono ?_
  rintro e w3 ⟨v3, rfl, hs3, h3, o3⟩
  have ht : textL l = (.mk TEXT (quoL l).1 (marksL ((quoL l).2.getD [])).1 [] [], (marksL ((quoL l).2.getD [])).2.1, (quoL l).2.isNone || !(marksL ((quoL l).2.getD [])).2.2) := rfl
  have HT := Lib.hid ht
  clear ht
  have hst := hs3.strs
  obtain ⟨A, c, rfl, _⟩ := hst.form
  have HST := Lib.hid hst
  rw [Bool.or_assoc] at h3
  have H3 := Lib.hid h3
  have O3 := Lib.hid (O2.out.trans o3)
  have hc3 := (o3.block _ (by omega) (by omega)).trans HC2.out
  have HC3 := Lib.hid hc3
  have hz3 := o3.size
  obtain ⟨c0, c1, c2, c3, c4⟩ := five_cells hc3
  have f0 := frozen_of_row w3 _ 0 _ _ hc3
  have f1 := frozen_of_row w3 _ 1 _ _ hc3
  have f2 := frozen_of_row w3 _ 2 _ _ hc3
  have f3 := frozen_of_row w3 _ 3 _ _ hc3
  have f4 := frozen_of_row w3 _ 4 _ _ hc3
  clear hs3 hst h3 o3 hc3
  go_wp2
  have q := put5_at HC3.out (.string TEXT) (.string (quoL l).1) (.slice A (marksL ((quoL l).2.getD [])).1.length c) (.slice none 0 0) (.slice none 0 0)
  have o4 := put5_only w3 w.heap.size (.string TEXT) (.string (quoL l).1) (.slice A (marksL ((quoL l).2.getD [])).1.length c) (.slice none 0 0) (.slice none 0 0)
  change bodyPost _ _ _ _ _ (put5 w3 w.heap.size (.string TEXT) (.string (quoL l).1) (.slice A (marksL ((quoL l).2.getD [])).1.length c) (.slice none 0 0) (.slice none 0 0))
  generalize put5 w3 w.heap.size (.string TEXT) (.string (quoL l).1) (.slice A (marksL ((quoL l).2.getD [])).1.length c) (.slice none 0 0) (.slice none 0 0) = W at *
  have hb4 : Below w.heap.size w3 W := o4.below (Nat.le_refl _) (by omega)
  have hz4 := o4.size
  obtain ⟨q0, q1, q2, q3, q4⟩ := five_cells q
  refine bodyPost_ret (v := .agg #[.string TEXT, .string (quoL l).1, .slice A (marksL ((quoL l).2.getD [])).1.length c, .slice none 0 0, .slice none 0 0]) (by simp [results, Tryz.results57, go_sem, q0, q1, q2, q3, q4]) rfl ⟨_, rfl, ?_, ?_, O3.out.thenBelow hb4 (Nat.le_refl _)⟩
  · rw [HT.out]
    refine ⟨_, _, _, rfl, HST.out.keep (fun b hb => ⟨by have := hb.1; omega, by have := hb.2; omega⟩) (fun b hb => o4.block b hb.2 (by have := hb.1; omega)), pairs_nil, kids_nil⟩
  · rw [HT.out]; exact H3.out.under hb4 hRw

set_option maxHeartbeats 2000000 in
theorem rd_head (R : Nat) (l : List UInt8) (x : Bool) (w : World) (h : Rd w R l x) (hl : l.length ≤ 10000000) :
    Calls Tryz.prog 59 #[.pointer (some ⟨R, 0, none⟩)] w fun e w' =>
      ∃ va, e = .returned (.agg #[.string (headL l).1.kind, .string (headL l).1.text, .slice none 0 0, va, .slice none 0 0]) ∧ Pairs w' (From w.heap.size w'.heap.size) va (headL l).1.attrs ∧ Rd w' R (headL l).2.1 (x || (headL l).2.2) ∧ OnlyR R w w' := by
  have hRw := h.lt
  have hb1 : Below w.heap.size w (w.alloc (.cells #[.string ⟨#[]⟩, .string ⟨#[]⟩, .slice none 0 0, .slice none 0 0, .slice none 0 0] 41)) := (Below.refl _ _).alloc (Nat.le_refl _) _
  have H1 := Lib.hid (h.below hb1)
  have O1 := Lib.hid (OnlyR.of_below R hb1)
  have hz1 : w.heap.size < (w.alloc (.cells #[.string ⟨#[]⟩, .string ⟨#[]⟩, .slice none 0 0, .slice none 0 0, .slice none 0 0] 41)).heap.size := by simp
  have HC : Hid ((w.alloc (.cells #[.string ⟨#[]⟩, .string ⟨#[]⟩, .slice none 0 0, .slice none 0 0, .slice none 0 0] 41)).heap[w.heap.size]? = some (.cells #[.string ⟨#[]⟩, .string ⟨#[]⟩, .slice none 0 0, .slice none 0 0, .slice none 0 0] 41)) := Lib.hid (heap_alloc_new w _)
  clear h hb1
  go_enter Tryz.func59, Tryz.ntmps59
  go_wp2_with fail
  generalize w.alloc (.cells #[.string ⟨#[]⟩, .string ⟨#[]⟩, .slice none 0 0, .slice none 0 0, .slice none 0 0] 41) = w1 at *
  refine (rd_name R l x w1 H1.out (by omega)).mono ?_
  rintro e w2 ⟨rfl, h2, o2⟩
  have hl2 := drops_le l
  have H2 := Lib.hid h2
  have O2 := Lib.hid (O1.out.trans o2)
  have HC2 := Lib.hid ((o2.block _ hz1 (by omega)).trans HC.out)
  have hz2 := o2.size
  clear h2 o2
  go_wp2_with fail
  refine (rd_attrs R _ _ w2 H2.out (by omega)).mono ?_
  rintro e w3 ⟨v3, rfl, hs3, h3, o3⟩
  have ht : headL l = (.mk ⟨(l.takeWhile small).toArray⟩ ⟨#[]⟩ [] (attrsL (l.dropWhile small)).1 [], wantL [91] (attrsL (l.dropWhile small)).2.1, (attrsL (l.dropWhile small)).2.2 || !Lib.hasPrefix (attrsL (l.dropWhile small)).2.1 [91]) := rfl
  have HT := Lib.hid ht
  clear ht
  have hst := hs3.pairs
  obtain ⟨A, c, rfl, _⟩ := hst.form
  have HST := Lib.hid hst
  have H3 := Lib.hid h3
  have O3 := Lib.hid (O2.out.trans o3)
  have HC3 := Lib.hid ((o3.block _ (by omega) (by omega)).trans HC2.out)
  have hz3 := o3.size
  clear hs3 hst h3 o3
  generalize hk : (⟨(l.takeWhile small).toArray⟩ : ByteArray) = kk at *
  generalize hva : Value.slice A (attrsL (l.dropWhile small)).1.length c = va at *
  have hb4 : Below w3.heap.size w3 (w3.alloc (.cells #[.string kk, .string ⟨#[]⟩, .slice none 0 0, va, .slice none 0 0] 41)) := (Below.refl _ _).alloc (Nat.le_refl _) _
  have H4 := Lib.hid (H3.out.below hb4)
  have O4 := Lib.hid (O3.out.thenBelow hb4 (by omega))
  have HC4 := Lib.hid ((hb4.block _ (by omega)).trans HC3.out)
  have HN4 : Hid ((w3.alloc (.cells #[.string kk, .string ⟨#[]⟩, .slice none 0 0, va, .slice none 0 0] 41)).heap[w3.heap.size]? = some (.cells #[.string kk, .string ⟨#[]⟩, .slice none 0 0, va, .slice none 0 0] 41)) := Lib.hid (heap_alloc_new w3 _)
  have hz4 : w3.heap.size < (w3.alloc (.cells #[.string kk, .string ⟨#[]⟩, .slice none 0 0, va, .slice none 0 0] 41)).heap.size := by simp
  have HS4 := Lib.hid (HST.out.keep (S' := From (w.heap.size + 1) w3.heap.size) (fun b hb => ⟨by have := hb.1; omega, hb.2⟩) (fun b hb => hb4.block b hb.2))
  clear hb4
  subst hva
  go_wp2_with fail
  generalize hva : Value.slice A (attrsL (l.dropWhile small)).1.length c = va at *
  generalize w3.alloc (.cells #[.string kk, .string ⟨#[]⟩, .slice none 0 0, va, .slice none 0 0] 41) = w4 at *
  refine (rd_want R _ _ ⟨#[91]⟩ w4 H4.out).mono ?_
  rintro e w5 ⟨rfl, h5, o5⟩
  change Rd w5 R (wantL [91] (attrsL (l.dropWhile small)).2.1) (x || (attrsL (l.dropWhile small)).2.2 || !Lib.hasPrefix (attrsL (l.dropWhile small)).2.1 [91]) at h5
  rw [Bool.or_assoc] at h5
  have H5 := Lib.hid h5
  have O5 := Lib.hid (O4.out.trans o5)
  have hc5 := (o5.block _ (by omega) (by omega)).trans HC4.out
  have hn5 := (o5.block _ hz4 (by omega)).trans HN4.out
  have HS5 := Lib.hid (HS4.out.keep (S' := From (w.heap.size + 1) w3.heap.size) (fun b hb => hb) (fun b hb => o5.block b (by have := hb.2; omega) (by have := hb.1; omega)))
  have hz5 := o5.size
  have HC5 := Lib.hid hc5
  obtain ⟨c0, c1, c2, c3, c4⟩ := five_cells hc5
  obtain ⟨n0, n1, n2, n3, n4⟩ := five_cells hn5
  have f0 := frozen_of_row w5 _ 0 _ _ hc5
  have f1 := frozen_of_row w5 _ 1 _ _ hc5
  have f2 := frozen_of_row w5 _ 2 _ _ hc5
  have f3 := frozen_of_row w5 _ 3 _ _ hc5
  have f4 := frozen_of_row w5 _ 4 _ _ hc5
  clear h5 o5 hc5 hn5
  subst hva
  go_wp2
  have q := put5_at HC5.out (.string kk) (.string ⟨#[]⟩) (.slice none 0 0) (.slice A (attrsL (l.dropWhile small)).1.length c) (.slice none 0 0)
  have o6 := put5_only w5 w.heap.size (.string kk) (.string ⟨#[]⟩) (.slice none 0 0) (.slice A (attrsL (l.dropWhile small)).1.length c) (.slice none 0 0)
  change bodyPost _ _ _ _ _ (put5 w5 w.heap.size (.string kk) (.string ⟨#[]⟩) (.slice none 0 0) (.slice A (attrsL (l.dropWhile small)).1.length c) (.slice none 0 0))
  generalize put5 w5 w.heap.size (.string kk) (.string ⟨#[]⟩) (.slice none 0 0) (.slice A (attrsL (l.dropWhile small)).1.length c) (.slice none 0 0) = W at *
  have hb6 : Below w.heap.size w5 W := o6.below (Nat.le_refl _) (by omega)
  have hz6 := o6.size
  obtain ⟨q0, q1, q2, q3, q4⟩ := five_cells q
  refine bodyPost_ret (v := .agg #[.string kk, .string ⟨#[]⟩, .slice none 0 0, .slice A (attrsL (l.dropWhile small)).1.length c, .slice none 0 0]) (by simp [results, Tryz.results59, go_sem, q0, q1, q2, q3, q4]) rfl ⟨.slice A (attrsL (l.dropWhile small)).1.length c, by rw [HT.out, ← hk]; rfl, ?_, ?_, O5.out.thenBelow hb6 (Nat.le_refl _)⟩
  · rw [HT.out]
    exact HS5.out.keep (fun b hb => ⟨by have := hb.1; omega, by have := hb.2; omega⟩) (fun b hb => o6.block b (by have := hb.2; omega) (by have := hb.1; omega))
  · rw [HT.out]; exact H5.out.under hb6 hRw
end Go.Proofs.YtggoebbfgkebcaaGreatDoor

namespace Go.Proofs.YtggoebbfgkebcaaGreatDoor
open Go.RowKit Go.Sort Go.Maps

/-- A node without its kids. -/
def bare (t : Tree) : Tree := .mk t.kind t.text t.marks t.attrs []
/-- What closed makes of a node: the node, and whether it stands wrong. -/
def closedL (d : Nat) (t : Tree) : Tree × Bool := if d ≤ 40 then (t, false) else (bare t, checkB t == 2)

def ClPost (R : Nat) (S : Nat → Prop) (l : List UInt8) (x : Bool) (w : World) (q : Tree × Bool) (e : Ending) (w' : World) : Prop :=
  ∃ v', e = .returned v' ∧ Node w' S v' q.1 ∧ Rd w' R (if q.2 then [] else l) (x || q.2) ∧ OnlyR R w w'
theorem two_new (w : World) (a b : Obj) : ((w.alloc a).alloc b).heap[w.heap.size]? = some a ∧ ((w.alloc a).alloc b).heap[w.heap.size + 1]? = some b := by
  constructor
  · rw [Below.heap_alloc _ _ _ (by simp)]; exact heap_alloc_new w a
  · have := heap_alloc_new (w.alloc a) b
    rwa [show (w.alloc a).heap.size = w.heap.size + 1 by simp] at this

set_option maxHeartbeats 4000000 in
theorem rd_closed (R : Nat) (l : List UInt8) (x : Bool) (v : Value) (t : Tree) (S : Nat → Prop) (d : Nat) (w : World) (h : Rd w R l x) (hn : Node w S v t) (hS : ∀ b, S b → b < w.heap.size ∧ b ≠ R) (hd : d ≤ 100000000) (hw : weigh t ≤ 1000000) (hT : Tabs w) :
    Calls Tryz.prog 61 #[.pointer (some ⟨R, 0, none⟩), v, .int .i64 (d : Int)] w (ClPost R S l x w (closedL d t)) := by
  have hRw := h.lt
  have HN := Lib.hid hn
  have HS := Lib.hid hS
  obtain ⟨vm, va, vk, rfl, hm, ha, hk⟩ := hn
  obtain ⟨A1, c1, rfl, _⟩ := hm.form
  obtain ⟨A2, c2, rfl, _⟩ := ha.form
  obtain ⟨A3, c3, rfl, _⟩ := hk.form
  have HM := Lib.hid hm
  have HA := Lib.hid ha
  have HK := Lib.hid hk
  clear hm ha hk hS
  have hb0 : Below w.heap.size w ((w.alloc (.cells #[.string t.kind, .string t.text, .slice A1 t.marks.length c1, .slice A2 t.attrs.length c2, .slice A3 t.kids.length c3] 41)).alloc (.cells #[.string ⟨#[]⟩, .string ⟨#[]⟩, .slice none 0 0, .slice none 0 0, .slice none 0 0] 41)) := ((Below.refl _ _).alloc (Nat.le_refl _) _).alloc (by simp) _
  obtain ⟨hx0, hx1⟩ := two_new w (.cells #[.string t.kind, .string t.text, .slice A1 t.marks.length c1, .slice A2 t.attrs.length c2, .slice A3 t.kids.length c3] 41) (.cells #[.string ⟨#[]⟩, .string ⟨#[]⟩, .slice none 0 0, .slice none 0 0, .slice none 0 0] 41)
  have hz0 : ((w.alloc (.cells #[.string t.kind, .string t.text, .slice A1 t.marks.length c1, .slice A2 t.attrs.length c2, .slice A3 t.kids.length c3] 41)).alloc (.cells #[.string ⟨#[]⟩, .string ⟨#[]⟩, .slice none 0 0, .slice none 0 0, .slice none 0 0] 41)).heap.size = w.heap.size + 2 := by simp
  have HB0 := Lib.hid hb0
  have HX0 := Lib.hid hx0
  have HX1 := Lib.hid hx1
  have HR0 := Lib.hid (h.below hb0)
  have HRW := Lib.hid h
  clear hb0 hx0 hx1 h
  by_cases hd4 : d ≤ 40
  · have HC : Hid (closedL d t = (t, false)) := Lib.hid (if_pos hd4)
    obtain ⟨a0, a1, a2, a3, a4⟩ := five_cells HX0.out
    obtain ⟨b0, b1, b2, b3, b4⟩ := five_cells HX1.out
    have f0 := frozen_of_row _ _ 0 _ _ HX1.out
    have f1 := frozen_of_row _ _ 1 _ _ HX1.out
    have f2 := frozen_of_row _ _ 2 _ _ HX1.out
    have f3 := frozen_of_row _ _ 3 _ _ HX1.out
    have f4 := frozen_of_row _ _ 4 _ _ HX1.out
    go_enter Tryz.func61, Tryz.ntmps61
    go_wp2
    have hb1 : Below w.heap.size w ((w.alloc (.cells #[.string t.kind, .string t.text, .slice A1 t.marks.length c1, .slice A2 t.attrs.length c2, .slice A3 t.kids.length c3] 41)).alloc (.cells #[.string t.kind, .string t.text, .slice A1 t.marks.length c1, .slice A2 t.attrs.length c2, .slice A3 t.kids.length c3] 41)) := ((Below.refl _ _).alloc (Nat.le_refl _) _).alloc (by simp) _
    obtain ⟨_, hq⟩ := two_new w (.cells #[.string t.kind, .string t.text, .slice A1 t.marks.length c1, .slice A2 t.attrs.length c2, .slice A3 t.kids.length c3] 41) (.cells #[.string t.kind, .string t.text, .slice A1 t.marks.length c1, .slice A2 t.attrs.length c2, .slice A3 t.kids.length c3] 41)
    generalize (w.alloc (.cells #[.string t.kind, .string t.text, .slice A1 t.marks.length c1, .slice A2 t.attrs.length c2, .slice A3 t.kids.length c3] 41)).alloc (.cells #[.string t.kind, .string t.text, .slice A1 t.marks.length c1, .slice A2 t.attrs.length c2, .slice A3 t.kids.length c3] 41) = W at *
    obtain ⟨q0, q1, q2, q3, q4⟩ := five_cells hq
    refine bodyPost_ret (v := .agg #[.string t.kind, .string t.text, .slice A1 t.marks.length c1, .slice A2 t.attrs.length c2, .slice A3 t.kids.length c3]) (by simp [results, Tryz.results61, go_sem, q0, q1, q2, q3, q4]) rfl ⟨_, rfl, ?_, ?_, OnlyR.of_below R hb1⟩
    · rw [HC.out]; exact HN.out.keep (fun _ h => h) fun b hb => hb1.block b (HS.out b hb).1
    · rw [HC.out]; simpa using HRW.out.below hb1
  · have HC : Hid (closedL d t = (bare t, checkB t == 2)) := Lib.hid (if_neg hd4)
    obtain ⟨a0, a1, a2, a3, a4⟩ := five_cells HX0.out
    have HNU := Lib.hid (HN.out.keep (S' := Under (w.heap.size + 2)) (fun b hb => by have := (HS.out b hb).1; show b < _; omega) fun b hb => HB0.out.block b (HS.out b hb).1)
    have HT0 := Lib.hid (hT.below HB0.out)
    go_enter Tryz.func61, Tryz.ntmps61
    go_wp2_with fail
    generalize (w.alloc (.cells #[.string t.kind, .string t.text, .slice A1 t.marks.length c1, .slice A2 t.attrs.length c2, .slice A3 t.kids.length c3] 41)).alloc (.cells #[.string ⟨#[]⟩, .string ⟨#[]⟩, .slice none 0 0, .slice none 0 0, .slice none 0 0] 41) = w2 at *
    refine (check_any _ t w2 (by rw [hz0]; exact HNU.out) hw HT0.out).mono ?_
    rintro e w3 ⟨rfl, hb3⟩
    have HR3 := Lib.hid (HR0.out.below hb3)
    have HX03 := Lib.hid ((hb3.block _ (by omega)).trans HX0.out)
    have HX13 := Lib.hid ((hb3.block _ (by omega)).trans HX1.out)
    have HO3 := Lib.hid (OnlyR.of_below R (HB0.out.trans (hb3.mono (by omega))))
    have hz3 := hb3.size
    clear hb3 a0 a1 a2 a3 a4
    by_cases hc : checkB t = 2
    · have HCK := Lib.hid hc
      rw [hc]
      clear hc
      go_wp2_with fail
      refine (rd_fail R _ _ w3 HR3.out).mono ?_
      rintro e w4 ⟨rfl, h4, o4⟩
      have HR4 := Lib.hid h4
      have HX04 := Lib.hid ((o4.block _ (by omega) (by omega)).trans HX03.out)
      have HX14 := Lib.hid ((o4.block _ (by omega) (by omega)).trans HX13.out)
      have HO4 := Lib.hid (HO3.out.trans o4)
      have hz4 := o4.size
      clear h4 o4
      have g4 := frozen_of_row w4 _ 4 _ _ HX04.out
      obtain ⟨_, _, _, _, g5⟩ := five_cells HX04.out
      have x5 := heap_setCell_same w4 _ 4 _ _ (.slice none 0 0) HX04.out
      have y5 : (w4.setCell ⟨w.heap.size, 4, none⟩ (.slice none 0 0)).heap[w.heap.size + 1]? = _ := (Below.heap_setCell w4 ⟨w.heap.size, 4, none⟩ (.slice none 0 0) (w.heap.size + 1) (by show w.heap.size + 1 ≠ w.heap.size; omega)).trans HX14.out
      have o5 := OnlyR.set w.heap.size 4 w4 (.slice none 0 0)
      obtain ⟨a0, a1, a2, a3, a4⟩ := five_cells x5
      obtain ⟨b0, b1, b2, b3, b4⟩ := five_cells y5
      have f0 := frozen_of_row _ _ 0 _ _ y5
      have f1 := frozen_of_row _ _ 1 _ _ y5
      have f2 := frozen_of_row _ _ 2 _ _ y5
      have f3 := frozen_of_row _ _ 3 _ _ y5
      have f4 := frozen_of_row _ _ 4 _ _ y5
      have HY5 := Lib.hid y5
      have HO5 := Lib.hid o5
      clear x5 y5 o5
      go_wp2
      have hq := put5_at HY5.out (.string t.kind) (.string t.text) (.slice A1 t.marks.length c1) (.slice A2 t.attrs.length c2) (.slice none 0 0)
      have o6 := put5_only (w4.setCell ⟨w.heap.size, 4, none⟩ (.slice none 0 0)) (w.heap.size + 1) (.string t.kind) (.string t.text) (.slice A1 t.marks.length c1) (.slice A2 t.attrs.length c2) (.slice none 0 0)
      change bodyPost _ _ _ _ _ (put5 (w4.setCell ⟨w.heap.size, 4, none⟩ (.slice none 0 0)) (w.heap.size + 1) (.string t.kind) (.string t.text) (.slice A1 t.marks.length c1) (.slice A2 t.attrs.length c2) (.slice none 0 0))
      have hb6 : Below w.heap.size w4 (put5 (w4.setCell ⟨w.heap.size, 4, none⟩ (.slice none 0 0)) (w.heap.size + 1) (.string t.kind) (.string t.text) (.slice A1 t.marks.length c1) (.slice A2 t.attrs.length c2) (.slice none 0 0)) := (HO5.out.below (Nat.le_refl _) (by omega)).trans (o6.below (by omega) (by have := HO5.out.size; omega))
      generalize put5 (w4.setCell ⟨w.heap.size, 4, none⟩ (.slice none 0 0)) (w.heap.size + 1) (.string t.kind) (.string t.text) (.slice A1 t.marks.length c1) (.slice A2 t.attrs.length c2) (.slice none 0 0) = W at *
      obtain ⟨q0, q1, q2, q3, q4⟩ := five_cells hq
      have kept : ∀ b, S b → W.heap[b]? = w.heap[b]? := fun b hb => (hb6.block b (HS.out b hb).1).trans (HO4.out.block b (HS.out b hb).1 (HS.out b hb).2)
      refine bodyPost_ret (v := .agg #[.string t.kind, .string t.text, .slice A1 t.marks.length c1, .slice A2 t.attrs.length c2, .slice none 0 0]) (by simp [results, Tryz.results61, go_sem, q0, q1, q2, q3, q4]) rfl ⟨_, rfl, ?_, ?_, HO4.out.thenBelow hb6 (Nat.le_refl _)⟩
      · rw [HC.out]; exact ⟨_, _, _, rfl, HM.out.keep (fun _ h => h) kept, HA.out.keep (fun _ h => h) kept, kids_nil⟩
      · rw [HC.out]; simpa [HCK.out] using HR4.out.under hb6 hRw
    · have HCK := Lib.hid hc
      have hcb : (checkB t == 2) = false := beq_eq_false_iff_ne.2 hc
      clear hc
      have g4 := frozen_of_row w3 _ 4 _ _ HX03.out
      obtain ⟨_, _, _, _, g5⟩ := five_cells HX03.out
      have x5 := heap_setCell_same w3 _ 4 _ _ (.slice none 0 0) HX03.out
      have y5 : (w3.setCell ⟨w.heap.size, 4, none⟩ (.slice none 0 0)).heap[w.heap.size + 1]? = _ := (Below.heap_setCell w3 ⟨w.heap.size, 4, none⟩ (.slice none 0 0) (w.heap.size + 1) (by show w.heap.size + 1 ≠ w.heap.size; omega)).trans HX13.out
      have o5 := OnlyR.set w.heap.size 4 w3 (.slice none 0 0)
      obtain ⟨a0, a1, a2, a3, a4⟩ := five_cells x5
      obtain ⟨b0, b1, b2, b3, b4⟩ := five_cells y5
      have f0 := frozen_of_row _ _ 0 _ _ y5
      have f1 := frozen_of_row _ _ 1 _ _ y5
      have f2 := frozen_of_row _ _ 2 _ _ y5
      have f3 := frozen_of_row _ _ 3 _ _ y5
      have f4 := frozen_of_row _ _ 4 _ _ y5
      have HY5 := Lib.hid y5
      have HO5 := Lib.hid o5
      clear x5 y5 o5
      go_wp2
      have hq := put5_at HY5.out (.string t.kind) (.string t.text) (.slice A1 t.marks.length c1) (.slice A2 t.attrs.length c2) (.slice none 0 0)
      have o6 := put5_only (w3.setCell ⟨w.heap.size, 4, none⟩ (.slice none 0 0)) (w.heap.size + 1) (.string t.kind) (.string t.text) (.slice A1 t.marks.length c1) (.slice A2 t.attrs.length c2) (.slice none 0 0)
      change bodyPost _ _ _ _ _ (put5 (w3.setCell ⟨w.heap.size, 4, none⟩ (.slice none 0 0)) (w.heap.size + 1) (.string t.kind) (.string t.text) (.slice A1 t.marks.length c1) (.slice A2 t.attrs.length c2) (.slice none 0 0))
      have hb6 : Below w.heap.size w3 (put5 (w3.setCell ⟨w.heap.size, 4, none⟩ (.slice none 0 0)) (w.heap.size + 1) (.string t.kind) (.string t.text) (.slice A1 t.marks.length c1) (.slice A2 t.attrs.length c2) (.slice none 0 0)) := (HO5.out.below (Nat.le_refl _) (by omega)).trans (o6.below (by omega) (by have := HO5.out.size; omega))
      generalize put5 (w3.setCell ⟨w.heap.size, 4, none⟩ (.slice none 0 0)) (w.heap.size + 1) (.string t.kind) (.string t.text) (.slice A1 t.marks.length c1) (.slice A2 t.attrs.length c2) (.slice none 0 0) = W at *
      obtain ⟨q0, q1, q2, q3, q4⟩ := five_cells hq
      have kept : ∀ b, S b → W.heap[b]? = w.heap[b]? := fun b hb => (hb6.block b (HS.out b hb).1).trans (HO3.out.block b (HS.out b hb).1 (HS.out b hb).2)
      refine bodyPost_ret (v := .agg #[.string t.kind, .string t.text, .slice A1 t.marks.length c1, .slice A2 t.attrs.length c2, .slice none 0 0]) (by simp [results, Tryz.results61, go_sem, q0, q1, q2, q3, q4]) rfl ⟨_, rfl, ?_, ?_, HO3.out.thenBelow hb6 (Nat.le_refl _)⟩
      · rw [HC.out]; exact ⟨_, _, _, rfl, HM.out.keep (fun _ h => h) kept, HA.out.keep (fun _ h => h) kept, kids_nil⟩
      · rw [HC.out]; rw [show (checkB t == 2) = false from beq_eq_false_iff_ne.2 HCK.out]; simpa using HR3.out.under hb6 hRw
end Go.Proofs.YtggoebbfgkebcaaGreatDoor

namespace Go.Proofs.YtggoebbfgkebcaaGreatDoor
open Go.RowKit Go.Sort Go.Maps

theorem unq_plain {c : UInt8} (r : List UInt8) (h1 : (c == 34) = false) (h2 : (c == 92) = false) : unq (c :: r) = (unq r).map (fun p => (c :: p.1, p.2)) := by
  rw [unq.eq_def]; simp only [h1, h2]; rfl
theorem unq_esc : ∀ l r : List UInt8, unq (escL l ++ 34 :: r) = some (l, r)
  | [], r => unq_q r
  | c :: l, r => by
    have ih := unq_esc l r
    by_cases hc : (c == 34 || c == 92) = true
    · have e : escL (c :: l) = 92 :: c :: escL l := by rw [escL]; exact if_pos hc
      rw [e, List.cons_append, List.cons_append, unq_s, if_pos hc, ih]; rfl
    · have e : escL (c :: l) = c :: escL l := by rw [escL]; exact if_neg hc
      have h1 : (c == 34) = false := by cases h : (c == 34) <;> simp_all
      have h2 : (c == 92) = false := by cases h : (c == 92) <;> simp_all
      rw [e, List.cons_append, unq_plain _ h1 h2, ih]; rfl
theorem want_one (a : UInt8) (r : List UInt8) : wantL [a] (a :: r) = r := by simp [wantL, Lib.hasPrefix, List.isPrefixOf]
theorem pre_is (a b : UInt8) (r : List UInt8) : Lib.hasPrefix (b :: r) [a] = (a == b) := by simp [Lib.hasPrefix, List.isPrefixOf]
theorem quo_quote (s : ByteArray) (r : List UInt8) : quoL (quoteL s.data.toList ++ r) = (s, some r) := by
  have h : qL (quoteL s.data.toList ++ r) = some (s.data.toList, r) := by
    unfold qL quoteL
    rw [List.cons_append, want_one, List.append_assoc]
    exact unq_esc _ _
  unfold quoL; rw [h]

theorem letters_take : ∀ (a r : List UInt8) (x : UInt8), (∀ c ∈ a, small c = true) → small x = false → (a ++ x :: r).takeWhile small = a ∧ (a ++ x :: r).dropWhile small = x :: r
  | [], r, x, _, hx => by simp [hx]
  | c :: a, r, x, ha, hx => by
    obtain ⟨h1, h2⟩ := letters_take a r x (fun c hc => ha c (by simp [hc])) hx
    have hc := ha c (by simp)
    rw [List.cons_append, List.takeWhile_cons_of_pos hc, List.dropWhile_cons_of_pos hc, h1, h2]
    exact ⟨rfl, rfl⟩

def tailC : List ByteArray → List UInt8
  | [] => []
  | s :: l => 44 :: (s.data.toList ++ tailC l)
theorem commaM_tail : ∀ (s : ByteArray) (l : List ByteArray), commaM (s :: l) = s.data.toList ++ tailC l
  | s, [] => by simp [commaM, tailC]
  | s, t :: l => by rw [commaM, commaM_tail t l]; rfl; simp
theorem tailC_next (l : List ByteArray) (r : List UInt8) : ∃ x q, tailC l ++ 62 :: r = x :: q ∧ small x = false := by
  cases l with
  | nil => exact ⟨62, r, rfl, by decide⟩
  | cons s l => exact ⟨44, _, rfl, by decide⟩
theorem restNames_back : ∀ (l : List ByteArray) (r : List UInt8), (∀ s ∈ l, nameB s = true) → restNames (tailC l ++ 62 :: r) = (l, 62 :: r)
  | [], r, _ => restNames_no (by rw [tailC, List.nil_append, pre_is]; rfl)
  | s :: l, r, h => by
    obtain ⟨x, q, e, hx⟩ := tailC_next l r
    have e2 : tailC (s :: l) ++ 62 :: r = 44 :: (s.data.toList ++ x :: q) := by rw [tailC, List.cons_append, List.append_assoc, e]
    have ih := restNames_back l r (fun s hs => h s (by simp [hs]))
    obtain ⟨t1, t2⟩ := letters_take s.data.toList q x (name_small (h s (by simp))) hx
    rw [e2, restNames_yes (by rw [pre_is]; rfl)]
    rw [List.drop_one, List.tail_cons, t1, t2, ← e, ih]
theorem marks_back (m : List ByteArray) (r : List UInt8) (hm : ∀ s ∈ m, nameB s = true) (hr : Aft r) : marksL (marksW m ++ r) = (m, r, true) := by
  cases m with
  | nil =>
    have : Lib.hasPrefix r [60] = false := by
      cases r with
      | nil => rfl
      | cons c r => rw [pre_is]; exact beq_eq_false_iff_ne.2 fun e => hr c rfl e.symm
    unfold marksL; exact if_neg (by show ¬ Lib.hasPrefix r [60] = true; rw [this]; decide)
  | cons s l =>
    obtain ⟨x, q, e, hx⟩ := tailC_next l r
    have e2 : marksW (s :: l) ++ r = 60 :: (s.data.toList ++ x :: q) := by
      rw [marksW_cons (by simp), commaM_tail, ← e]; simp
    have hb := restNames_back l r (fun s hs => hm s (by simp [hs]))
    obtain ⟨t1, t2⟩ := letters_take s.data.toList q x (name_small (hm s (by simp))) hx
    rw [e2]; unfold marksL
    rw [if_pos (by rw [pre_is]; rfl)]
    rw [List.drop_one, List.tail_cons, t1, t2, ← e, hb]
    show (s :: l, wantL [62] (62 :: r), Lib.hasPrefix (62 :: r) [62]) = _
    rw [want_one, pre_is]; rfl

theorem attr_back (p : ByteArray × ByteArray) (r : List UInt8) (h : nameB p.1 = true) : attrL (attrW p ++ r) = (p, some r) := by
  have e : attrW p ++ r = p.1.data.toList ++ 61 :: (quoteL p.2.data.toList ++ r) := by unfold attrW; simp
  obtain ⟨t1, t2⟩ := letters_take p.1.data.toList (quoteL p.2.data.toList ++ r) 61 (name_small h) (by decide)
  rw [e]; unfold attrL
  rw [t1, t2, want_one, quo_quote]
def tailA : List (ByteArray × ByteArray) → List UInt8
  | [] => []
  | p :: l => 32 :: (attrW p ++ tailA l)
theorem blankA_tail : ∀ (p : ByteArray × ByteArray) (l : List (ByteArray × ByteArray)), blankA (p :: l) = attrW p ++ tailA l
  | p, [] => by simp [blankA, tailA]
  | p, q :: l => by rw [blankA, blankA_tail q l]; rfl; simp
theorem restAttrs_back : ∀ (l : List (ByteArray × ByteArray)) (r : List UInt8), (∀ p ∈ l, nameB p.1 = true) → restAttrs (tailA l ++ 41 :: r) = (l, 41 :: r, false)
  | [], r, _ => restAttrs_no (by rw [tailA, List.nil_append, pre_is]; rfl)
  | p :: l, r, h => by
    have ih := restAttrs_back l r (fun p hp => h p (by simp [hp]))
    have e : tailA (p :: l) ++ 41 :: r = 32 :: (attrW p ++ (tailA l ++ 41 :: r)) := by rw [tailA]; simp
    have hb := attr_back p (tailA l ++ 41 :: r) (h p (by simp))
    rw [e, restAttrs_yes (by rw [pre_is]; rfl), List.drop_one, List.tail_cons, hb]
    show (p :: (restAttrs (tailA l ++ 41 :: r)).1, (restAttrs (tailA l ++ 41 :: r)).2.1, false || (restAttrs (tailA l ++ 41 :: r)).2.2) = _
    rw [ih]; rfl
theorem attrs_back (m : List (ByteArray × ByteArray)) (r : List UInt8) (hm : ∀ p ∈ m, nameB p.1 = true) : attrsL (attrsW m ++ 91 :: r) = (m, 91 :: r, false) := by
  cases m with
  | nil => unfold attrsL; exact if_neg (by show ¬ Lib.hasPrefix (91 :: r) [40] = true; rw [pre_is]; decide)
  | cons p l =>
    have hb := attr_back p (tailA l ++ 41 :: (91 :: r)) (hm p (by simp))
    have hr := restAttrs_back l (91 :: r) (fun p hp => hm p (by simp [hp]))
    have e : attrsW (p :: l) ++ 91 :: r = 40 :: (attrW p ++ (tailA l ++ 41 :: (91 :: r))) := by rw [attrsW_cons (by simp), blankA_tail]; simp
    rw [e]; unfold attrsL
    rw [if_pos (by rw [pre_is]; rfl), List.drop_one, List.tail_cons, hb]
    show (p :: (restAttrs (tailA l ++ 41 :: (91 :: r))).1, wantL [41] (restAttrs (tailA l ++ 41 :: (91 :: r))).2.1, (false || (restAttrs (tailA l ++ 41 :: (91 :: r))).2.2) || !Lib.hasPrefix (restAttrs (tailA l ++ 41 :: (91 :: r))).2.1 [41]) = _
    rw [hr]
    show (p :: l, wantL [41] (41 :: (91 :: r)), (false || false) || !Lib.hasPrefix (41 :: (91 :: r)) [41]) = _
    rw [want_one, pre_is]; rfl

/-- A text that was written is read back. -/
theorem text_back (t : ByteArray) (m : List ByteArray) (r : List UInt8) (hm : ∀ s ∈ m, nameB s = true) (hr : Aft r) : textL (quoteL t.data.toList ++ (marksW m ++ r)) = (.mk TEXT t m [] [], r, false) := by
  unfold textL
  rw [quo_quote]
  show (Tree.mk TEXT t (marksL (marksW m ++ r)).1 [] [], (marksL (marksW m ++ r)).2.1, false || !(marksL (marksW m ++ r)).2.2) = _
  rw [marks_back m r hm hr]; rfl
/-- .. a head. -/
theorem head_back (k : ByteArray) (a : List (ByteArray × ByteArray)) (r : List UInt8) (hk : nameB k = true) (ha : ∀ p ∈ a, nameB p.1 = true) : headL (k.data.toList ++ (attrsW a ++ 91 :: r)) = (.mk k ⟨#[]⟩ [] a [], r, false) := by
  obtain ⟨x, q, e, hx⟩ : ∃ x q, attrsW a ++ 91 :: r = x :: q ∧ small x = false := by
    cases a with
    | nil => exact ⟨91, r, rfl, by decide⟩
    | cons p l => exact ⟨40, _, by rw [attrsW_cons (by simp)]; rfl, by decide⟩
  obtain ⟨t1, t2⟩ := letters_take k.data.toList q x (name_small hk) hx
  unfold headL
  rw [e, t1, t2, ← e, attrs_back a r ha]
  show (Tree.mk k ⟨#[]⟩ [] a [], wantL [91] (91 :: r), false || !Lib.hasPrefix (91 :: r) [91]) = _
  rw [want_one, pre_is]; rfl
end Go.Proofs.YtggoebbfgkebcaaGreatDoor

namespace Go.Proofs.YtggoebbfgkebcaaGreatDoor
open Go.RowKit Go.Sort Go.Maps

def addKid (t k : Tree) : Tree := .mk t.kind t.text t.marks t.attrs (t.kids ++ [k])
def addKids (t : Tree) (l : List Tree) : Tree := .mk t.kind t.text t.marks t.attrs (t.kids ++ l)
/-- One round: what is left, whether something was wrong, the open nodes (the innermost ahead). -/
def roundL (c : UInt8) (l : List UInt8) (x : Bool) (top : Tree) (st : List Tree) : List UInt8 × Bool × List Tree :=
  if c == 34 then ((textL (c :: l)).2.1, x || (textL (c :: l)).2.2, addKid top (textL (c :: l)).1 :: st)
  else if c == 93 then
    (match st with
     | [] => ([], true, [top])
     | up :: st' => (if (closedL (st'.length + 1) top).2 then [] else l, x || (closedL (st'.length + 1) top).2, addKid up (closedL (st'.length + 1) top).1 :: st'))
  else ((headL (c :: l)).2.1, x || (headL (c :: l)).2.2, (headL (c :: l)).1 :: top :: st)
/-- The loop, in at most so many rounds. -/
def readN : Nat → List UInt8 → Bool → List Tree → List Tree × Bool
  | 0, _, x, st => (st, x)
  | _ + 1, [], x, st => (st, x)
  | _ + 1, _ :: _, x, [] => ([], x)
  | n + 1, c :: l, x, top :: st => readN n (roundL c l x top st).1 (roundL c l x top st).2.1 (roundL c l x top st).2.2
theorem readN_step (n : Nat) (c : UInt8) (l : List UInt8) (x : Bool) (top : Tree) (st : List Tree) : readN (n + 1) (c :: l) x (top :: st) = readN n (roundL c l x top st).1 (roundL c l x top st).2.1 (roundL c l x top st).2.2 := rfl

theorem addKids_nil (t : Tree) : addKids t [] = t := by cases t; simp [addKids, Tree.kind, Tree.text, Tree.marks, Tree.attrs, Tree.kids]
theorem addKids_cons (t k : Tree) (l : List Tree) : addKids (addKid t k) l = addKids t (k :: l) := by simp [addKids, addKid, Tree.kind, Tree.text, Tree.marks, Tree.attrs, Tree.kids]

/-- What reading back one node says. -/
def Back (t : Tree) : Prop := ∀ (r : List UInt8) (x : Bool) (top : Tree) (st : List Tree) (n : Nat), formedB t = true → Aft r → st.length + depthB t ≤ 40 → (writeB t ++ r).length ≤ n →
  ∃ m, r.length ≤ m ∧ readN n (writeB t ++ r) x (top :: st) = readN m r x (addKid top t :: st)
theorem back_all : ∀ (l : List Tree), (∀ t ∈ l, Back t) → ∀ (r : List UInt8) (x : Bool) (top : Tree) (st : List Tree) (n : Nat), (∀ t ∈ l, formedB t = true) → Aft r → st.length + deepB l ≤ 40 → (writeAllB l ++ r).length ≤ n →
    ∃ m, r.length ≤ m ∧ readN n (writeAllB l ++ r) x (top :: st) = readN m r x (addKids top l :: st)
  | [], _, r, x, top, st, n, _, _, _, hn => ⟨n, by simpa [writeAllB] using hn, by rw [addKids_nil]; rfl⟩
  | t :: l, hb, r, x, top, st, n, hf, hr, hd, hn => by
    rw [deepB] at hd
    have e : writeAllB (t :: l) ++ r = writeB t ++ (writeAllB l ++ r) := by rw [writeAllB, List.append_assoc]
    rw [e] at hn ⊢
    obtain ⟨m1, h1, h2⟩ := hb t (by simp) (writeAllB l ++ r) x top st n (hf t (by simp)) (aft_all l r (fun y hy => hf y (by simp [hy])) hr) (by omega) hn
    obtain ⟨m2, h3, h4⟩ := back_all l (fun y hy => hb y (by simp [hy])) r x (addKid top t) st m1 (fun y hy => hf y (by simp [hy])) hr (by omega) h1
    exact ⟨m2, h3, by rw [h2, h4, addKids_cons]⟩
theorem back_one : ∀ t, Back t := by
  refine Tree.induct_one ?_
  intro k t m a l ih r x top st n hf hr hd hn
  cases hk : isTxt k with
  | true =>
    obtain ⟨hm, rfl, rfl⟩ := text_parts hk hf
    have hkt : k = TEXT := txt_eq hk (by unfold isTxt; rw [beq_iff_eq, Lib.toList_data]; rfl)
    have e : writeB (.mk k t m [] []) ++ r = quoteL t.data.toList ++ (marksW m ++ r) := by rw [writeB, if_pos hk, List.append_assoc]
    rw [e] at hn ⊢
    have hb := text_back t m r (marks_names hm) hr
    have e2 : quoteL t.data.toList ++ (marksW m ++ r) = 34 :: ((escL t.data.toList ++ [34]) ++ (marksW m ++ r)) := rfl
    rw [e2] at hn hb ⊢
    cases n with
    | zero => simp at hn
    | succ n =>
      refine ⟨n, ?_, ?_⟩
      · simp only [List.length_cons, List.length_append] at hn ⊢; omega
      · rw [readN_step]
        have : roundL 34 ((escL t.data.toList ++ [34]) ++ (marksW m ++ r)) x top st = (r, x, addKid top (.mk k t m [] []) :: st) := by
          unfold roundL
          rw [if_pos (by decide), hb, hkt, Bool.or_false]
        rw [this]
  | false =>
    obtain ⟨hnm, ht, rfl, ha, hrow⟩ := node_parts hk hf
    obtain rfl : t = ⟨#[]⟩ := bytes_of ht
    have hdd : st.length + (deepB l + 1) ≤ 40 := by rw [depthB, hk] at hd; simpa using hd
    have e : writeB (.mk k ⟨#[]⟩ [] a l) ++ r = k.data.toList ++ (attrsW a ++ 91 :: (writeAllB l ++ 93 :: r)) := by rw [writeB, hk]; simp
    obtain ⟨c, q, hc, hcs⟩ : ∃ c q, k.data.toList = c :: q ∧ small c = true := by
      cases h : k.data.toList with
      | nil => exact absurd h (name_ne hnm)
      | cons c q => exact ⟨c, q, rfl, name_small hnm c (by rw [h]; simp)⟩
    have hb := head_back k a (writeAllB l ++ 93 :: r) hnm (attrs_names ha)
    have hlen : (writeAllB l ++ 93 :: r).length + 1 ≤ n := by
      rw [e, hc] at hn
      simp only [List.length_cons, List.length_append] at hn ⊢; omega
    rw [e, hc] at hn ⊢
    rw [hc] at hb
    have h34 : (c == 34) = false := by cases h : (c == 34) with
      | false => rfl
      | true => rw [beq_iff_eq.1 h] at hcs; revert hcs; decide
    have h93 : (c == 93) = false := by cases h : (c == 93) with
      | false => rfl
      | true => rw [beq_iff_eq.1 h] at hcs; revert hcs; decide
    cases n with
    | zero => simp at hlen
    | succ n =>
      rw [List.cons_append, readN_step]
      have h1 : roundL c (q ++ (attrsW a ++ 91 :: (writeAllB l ++ 93 :: r))) x top st = (writeAllB l ++ 93 :: r, x, .mk k ⟨#[]⟩ [] a [] :: top :: st) := by
        unfold roundL
        rw [h34, h93, ← List.cons_append, hb, Bool.or_false]; rfl
      rw [h1]
      obtain ⟨m1, g1, g2⟩ := back_all l ih (93 :: r) x (.mk k ⟨#[]⟩ [] a []) (top :: st) n (row_all l none hrow) (aft_93 r) (by simp only [List.length_cons]; omega) (by omega)
      have e3 : addKids (.mk k ⟨#[]⟩ [] a []) l = .mk k ⟨#[]⟩ [] a l := rfl
      rw [e3] at g2
      cases m1 with
      | zero => simp at g1
      | succ m1 =>
        refine ⟨m1, by simpa using g1, ?_⟩
        show readN n (writeAllB l ++ 93 :: r) x (.mk k ⟨#[]⟩ [] a [] :: top :: st) = _
        rw [g2, readN_step]
        have hcl : closedL (st.length + 1) (.mk k ⟨#[]⟩ [] a l) = (.mk k ⟨#[]⟩ [] a l, false) := if_pos (by omega)
        have h2 : roundL 93 r x (.mk k ⟨#[]⟩ [] a l) (top :: st) = (r, x, addKid top (.mk k ⟨#[]⟩ [] a l) :: st) := by
          unfold roundL
          rw [if_neg (by decide), if_pos (by decide)]
          simp only [hcl, Bool.or_false]; rfl
        rw [h2]
end Go.Proofs.YtggoebbfgkebcaaGreatDoor

namespace Go.Proofs.YtggoebbfgkebcaaGreatDoor
open Go.RowKit Go.Sort Go.Maps

/-- The node by which a list of nodes is judged. -/
def around (l : List Tree) : Tree := .mk ⟨#[120]⟩ ⟨#[]⟩ [] [] l
def noTree : Tree := .mk ⟨#[]⟩ ⟨#[]⟩ [] [] []
/-- read: the nodes, and whether all stood right. -/
def readL (s : List UInt8) : List Tree × Bool :=
  (((readN s.length s false [around []]).1.getLast?.map Tree.kids).getD [], !(readN s.length s false [around []]).2 && (readN s.length s false [around []]).1.length == 1)
def parseB (s : List UInt8) : Tree × Int :=
  match readL s with
  | ([t], true) => if checkB t = 0 then (t, 0) else (noTree, checkB t)
  | _ => (noTree, 2)
def parseAllB (s : List UInt8) : List Tree × Int :=
  match readL s with
  | (l, true) => if checkB (around l) = 0 then (l, 0) else ([], checkB (around l))
  | _ => ([], 2)

theorem readN_nil (n : Nat) (x : Bool) (st : List Tree) : readN n [] x st = (st, x) := by cases n <;> rfl
theorem check_zero {t : Tree} (h : checkB t = 0) : formedB t = true ∧ depthB t ≤ 40 := by
  unfold checkB at h
  split at h
  · rename_i hf
    split at h
    · cases h
    · exact ⟨hf, by omega⟩
  · cases h
theorem aft_nil : Aft [] := by intro c hc; cases hc
theorem read_back (t : Tree) (hf : formedB t = true) (hd : depthB t ≤ 40) : readL (writeB t) = ([t], true) := by
  obtain ⟨m, _, h⟩ := back_one t [] false (around []) [] (writeB t).length hf aft_nil (by simpa using hd) (by simp)
  rw [List.append_nil, readN_nil] at h
  unfold readL
  rw [h]; rfl
theorem parse_back (t : Tree) (h : checkB t = 0) : parseB (writeB t) = (t, 0) := by
  obtain ⟨hf, hd⟩ := check_zero h
  unfold parseB
  rw [read_back t hf hd]
  exact if_pos h
theorem readAll_back (l : List Tree) (hf : ∀ t ∈ l, formedB t = true) (hd : deepB l ≤ 40) : readL (writeAllB l) = (l, true) := by
  obtain ⟨m, _, h⟩ := back_all l (fun t _ => back_one t) [] false (around []) [] (writeAllB l).length hf aft_nil (by simpa using hd) (by simp)
  rw [List.append_nil, readN_nil] at h
  unfold readL
  rw [h]; rfl
end Go.Proofs.YtggoebbfgkebcaaGreatDoor

namespace Go.Proofs.YtggoebbfgkebcaaGreatDoor
open Go.RowKit Go.Sort Go.Maps

/-! ### the function -/
/-- Are two tokens beside one another of one text? -/
def likeT (a b : Tok) : Bool := decide (a.kind = 116) && (decide (b.kind = 116) && decide (a.head = b.head))
/-- How many tokens at the beginning are written as one. -/
def partN : List Tok → Nat
  | [] => 0
  | [_] => 1
  | a :: b :: l => if likeT a b then partN (b :: l) + 1 else 1
theorem partN_pos : ∀ (a : Tok) (l : List Tok), 0 < partN (a :: l)
  | a, [] => by simp [partN]
  | a, b :: l => by rw [partN]; split <;> omega
theorem partN_le : ∀ l : List Tok, partN l ≤ l.length
  | [] => by simp [partN]
  | [_] => by simp [partN]
  | a :: b :: l => by
    rw [partN]; split
    · have := partN_le (b :: l); simp only [List.length_cons] at *; omega
    · simp only [List.length_cons]; omega
/-- Is a text one code point? -/
def oneCp (s : ByteArray) : Bool := Lib.validD s.data.toList && decide (Lib.runeCountL s.data.toList = 1)
/-- What signs say. -/
def saysL (l : List Tok) : List UInt8 := l.flatMap fun t => t.text.data.toList
def readsB (s : List UInt8) : Bool := decide ((parseB s).2 = 0)
/-- How a part is written, if its tokens are those of a node at all. -/
def partB (p : List Tok) : Option (List UInt8) :=
  match p with
  | [] => none
  | t :: _ =>
    if t = closeT then some [93]
    else if t = openT t.head then (if readsB (t.head.data.toList ++ [91, 93]) then some (t.head.data.toList ++ [91]) else none)
    else if t.kind = 116 then (if p.all (fun x => oneCp x.text) && readsB (quoteL t.text.data.toList ++ t.head.data.toList) then some (quoteL (saysL p) ++ t.head.data.toList) else none)
    else none
def buildN : Nat → List Tok → Option (List UInt8)
  | 0, _ => some []
  | _ + 1, [] => some []
  | n + 1, t :: l => (partB ((t :: l).take (partN (t :: l)))).bind fun s => (buildN n ((t :: l).drop (partN (t :: l)))).map (s ++ ·)
/-- How tokens are written. -/
def buildW (l : List Tok) : Option (List UInt8) := buildN l.length l
def buildB (l : List Tok) : List Tree × Int := match buildW l with | some s => parseAllB s | none => ([], 2)

theorem buildN_more : ∀ (n m : Nat) (l : List Tok), l.length ≤ n → l.length ≤ m → buildN n l = buildN m l
  | 0, 0, l, _, _ => rfl
  | 0, m + 1, l, h, _ => by
    have : l = [] := List.eq_nil_of_length_eq_zero (by omega)
    subst this; rfl
  | n + 1, 0, l, _, h => by
    have : l = [] := List.eq_nil_of_length_eq_zero (by omega)
    subst this; rfl
  | n + 1, m + 1, [], _, _ => rfl
  | n + 1, m + 1, t :: l, h1, h2 => by
    have hp := partN_pos t l
    simp only [buildN]
    rw [buildN_more n m _ (by simp only [List.length_drop, List.length_cons] at *; omega) (by simp only [List.length_drop, List.length_cons] at *; omega)]
theorem buildW_nil : buildW [] = some [] := rfl
theorem buildW_step (l : List Tok) (h : l ≠ []) : buildW l = (partB (l.take (partN l))).bind fun s => (buildW (l.drop (partN l))).map (s ++ ·) := by
  cases l with
  | nil => exact absurd rfl h
  | cons t l =>
    have hp := partN_pos t l
    unfold buildW
    simp only [List.length_cons, buildN]
    rw [buildN_more l.length ((t :: l).drop (partN (t :: l))).length _ (by simp only [List.length_drop, List.length_cons]; omega) (Nat.le_refl _)]
theorem buildB_none {l : List Tok} (h : buildW l = none) : buildB l = ([], 2) := by unfold buildB; rw [h]
theorem buildB_some {l : List Tok} {s : List UInt8} (h : buildW l = some s) : buildB l = parseAllB s := by unfold buildB; rw [h]

/-! ### code points -/
/-- A code point that comes of a text that is right. -/
def Cp (r : Nat) : Prop := pts (encL r) = [r] ∧ Lib.validD (encL r) = true ∧ Lib.runeCountL (encL r) = 1
theorem pts_cp : ∀ (n : Nat) (l : List UInt8), l.length ≤ n → Lib.validD l = true → ∀ r ∈ pts l, Cp r
  | 0, l, hn, _, r, hr => by
    have : l = [] := List.eq_nil_of_length_eq_zero (by omega)
    subst this; rw [pts_nil] at hr; cases hr
  | n + 1, l, hn, h, r, hr => by
    by_cases hne : l = []
    · subst hne; rw [pts_nil] at hr; cases hr
    · have hv : ¬ ((Lib.decodeL l).1 = 65533 ∧ (Lib.decodeL l).2 = 1) := fun hh => by rw [Lib.validD_step l hne, if_pos hh] at h; cases h
      have h1 : Lib.validD (l.drop (Lib.decodeL l).2) = true := by rw [Lib.validD_step l hne, if_neg hv] at h; exact h
      have hw := Lib.decodeL_width l
      have hl : 0 < l.length := List.length_pos_iff.2 hne
      rw [pts_step l hne] at hr
      rcases List.mem_cons.1 hr with rfl | hr
      · obtain ⟨o1, o2⟩ := one_valid l hne hv
        have ho := decodeL_own l hne hv
        have hle := Lib.decodeL_le l hne
        have hn0 : l.take (Lib.decodeL l).2 ≠ [] := by
          intro e; have := congrArg List.length e; rw [List.length_take] at this; simp only [List.length_nil] at this; omega
        unfold Cp
        rw [encL_dec l hne hv]
        refine ⟨?_, o1, o2⟩
        rw [pts_step _ hn0, ho]
        have : (l.take (Lib.decodeL l).2).drop (Lib.decodeL l).2 = [] := List.drop_eq_nil_iff.2 (by rw [List.length_take]; omega)
        rw [this, pts_nil]
      · exact pts_cp n _ (by rw [List.length_drop]; omega) h1 r hr
theorem encB_data (r : Nat) : (encB r).data.toList = encL r := by rw [encB_eq, encL_eq, encZ_eq]
theorem one_of_cp {r : Nat} (h : Cp r) : oneCp (encB r) = true := by
  unfold oneCp; rw [encB_data, h.2.1, h.2.2]; rfl
theorem encB_arrB (r : Nat) : (⟨(encL r).toArray⟩ : ByteArray) = encB r := ByteArray.ext (Array.ext' (by rw [encB_data]))
theorem text_formed (x : List UInt8) {m : List ByteArray} (hx : x ≠ []) (hv : Lib.validD x = true) (hm : marksB m = true) : formedB (.mk TEXT ⟨x.toArray⟩ m [] []) = true := by
  rw [formed_text (t := .mk TEXT ⟨x.toArray⟩ m [] []) isTxt_TEXT]
  exact textB_of hx hv hm rfl rfl
theorem piece_formed {m : List ByteArray} {r : Nat} (hm : marksB m = true) (h : Cp r) : formedB (pieceT m r) = true := text_formed (encL r) (encL_ne r) h.2.1 hm
theorem says_signs (h : ByteArray) : ∀ ps : List Nat, saysL (ps.map (signT h)) = (ps.map encL).flatten
  | [] => rfl
  | r :: ps => by
    have := says_signs h ps
    unfold saysL at *
    rw [List.map_cons, List.flatMap_cons, this, signT_text, encB_data, List.map_cons, List.flatten_cons]
theorem signT_kind (h : ByteArray) (r : Nat) : (signT h r).kind = 116 := by
  unfold signT; generalize encB r = s; rfl
theorem signT_head (h : ByteArray) (r : Nat) : (signT h r).head = h := by
  unfold signT; generalize encB r = s; rfl
theorem like_signs (h : ByteArray) (a b : Nat) : likeT (signT h a) (signT h b) = true := by
  unfold likeT; rw [signT_kind, signT_kind, signT_head, signT_head]; simp
theorem partN_signs (h : ByteArray) : ∀ (r : Nat) (ps : List Nat) (s : List Tok), (∀ x, s.head? = some x → ¬ (x.kind = 116 ∧ x.head = h)) → partN (((r :: ps).map (signT h)) ++ s) = ps.length + 1
  | r, [], s, hs => by
    cases s with
    | nil => rfl
    | cons x s =>
      have := hs x rfl
      rw [List.map_cons, List.map_nil, List.cons_append, List.nil_append, partN, if_neg]
      · rfl
      · unfold likeT; rw [signT_head]
        simp only [Bool.and_eq_true, decide_eq_true_eq]
        rintro ⟨_, h1, h2⟩; exact this ⟨h1, h2.symm⟩
  | r, q :: ps, s, hs => by
    have ih := partN_signs h q ps s hs
    rw [List.map_cons, List.cons_append] at ih
    rw [List.map_cons, List.map_cons, List.cons_append, List.cons_append, partN, if_pos (like_signs h r q), ih, List.length_cons]
theorem partN_other (t : Tok) (l : List Tok) (h : t.kind ≠ 116) : partN (t :: l) = 1 := by
  cases l with
  | nil => rfl
  | cons b l =>
    rw [partN, if_neg]
    unfold likeT
    simp only [Bool.and_eq_true, decide_eq_true_eq]
    rintro ⟨h1, _⟩; exact h h1

/-! ### a right row's own tokens are written as the row is -/
theorem check_small {t : Tree} (h : formedB t = true) (hd : depthB t ≤ 1) (hs : sizeB t ≤ 2) : checkB t = 0 := by
  unfold checkB
  rw [if_pos h, if_neg (by omega), if_neg (by omega)]
theorem reads_piece {m : List ByteArray} {r : Nat} (hm : marksB m = true) (h : Cp r) : readsB (quoteL (encL r) ++ marksW m) = true := by
  have hf := piece_formed hm h
  have hk : isTxt TEXT = true := isTxt_TEXT
  have hw : writeB (pieceT m r) = quoteL (encL r) ++ marksW m := by unfold pieceT; rw [writeB, if_pos hk]
  have hc : checkB (pieceT m r) = 0 := check_small hf (by unfold pieceT; rw [depthB, if_pos hk]; omega) (by
    unfold pieceT; rw [sizeB, if_pos hk]
    show Lib.runeCountL (encL r) ≤ 2
    rw [h.2.2]; omega)
  unfold readsB
  rw [← hw, parse_back _ hc]; rfl
theorem reads_node {x : Tree} (hk : isTxt x.kind = false) (hf : formedB x = true) : readsB (headW x ++ [91, 93]) = true := by
  obtain ⟨k, t, m, a, l⟩ := x
  simp only [Tree.kind] at hk
  have hf' : formedB (.mk k t m a []) = true := by
    have e1 : formedB (.mk k t m a l) = (headB (.mk k t m a l) && rowB none l) := by rw [formedB, if_neg (by rw [hk]; decide)]
    have e2 : formedB (.mk k t m a []) = (headB (.mk k t m a []) && rowB none []) := by rw [formedB, if_neg (by rw [hk]; decide)]
    rw [e1, Bool.and_eq_true] at hf
    rw [e2, Bool.and_eq_true]
    exact ⟨hf.1, by rw [rowB]⟩
  have hc : checkB (.mk k t m a []) = 0 := check_small hf' (by rw [depthB, if_neg (by rw [hk]; decide), deepB]; omega) (by rw [sizeB, if_neg (by rw [hk]; decide), totalB]; omega)
  have hw : writeB (.mk k t m a []) = headW (.mk k t m a l) ++ [91, 93] := by
    have hh : headW (.mk k t m a l) = k.data.toList ++ attrsW a := if_neg (by show ¬ isTxt k = true; rw [hk]; decide)
    rw [writeB, if_neg (by rw [hk]; decide), writeAllB, hh]; rfl
  unfold readsB
  rw [← hw, parse_back _ hc]; rfl
theorem headT_data (x : Tree) : (headT x).data.toList = headW x := by unfold headT; simp
theorem part_close (l : List Tok) : partB (closeT :: l) = some [93] := by
  unfold partB
  exact if_pos rfl
theorem build_close (r : List Tok) : buildW (closeT :: r) = (buildW r).map ([93] ++ ·) := by
  rw [buildW_step _ (by simp), partN_other closeT r (by decide)]
  simp only [List.take_succ_cons, List.take_zero, List.drop_succ_cons, List.drop_zero]
  rw [part_close]; rfl
theorem open_ne_close (h : ByteArray) : openT h ≠ closeT := by
  unfold openT closeT; intro e; injection e with e; exact absurd e (by decide)
theorem part_open {h : ByteArray} (l : List Tok) (hr : readsB (h.data.toList ++ [91, 93]) = true) : partB (openT h :: l) = some (h.data.toList ++ [91]) := by
  unfold partB
  simp only
  rw [if_neg (open_ne_close h), if_pos (show openT h = openT (openT h).head from rfl), if_pos (show readsB ((openT h).head.data.toList ++ [91, 93]) = true from hr)]; rfl
theorem build_open {h : ByteArray} (r : List Tok) (hr : readsB (h.data.toList ++ [91, 93]) = true) : buildW (openT h :: r) = (buildW r).map ((h.data.toList ++ [91]) ++ ·) := by
  rw [buildW_step _ (by simp), partN_other (openT h) r (by show (111 : Nat) ≠ 116; decide)]
  simp only [List.take_succ_cons, List.take_zero, List.drop_succ_cons, List.drop_zero]
  rw [part_open _ hr]; rfl
theorem part_signs {h : ByteArray} {r : Nat} {ps : List Nat} (hall : ∀ x ∈ r :: ps, Cp x) (hr : readsB (quoteL (encL r) ++ h.data.toList) = true) :
    partB ((r :: ps).map (signT h)) = some (quoteL ((r :: ps).map encL).flatten ++ h.data.toList) := by
  rw [List.map_cons]
  unfold partB
  simp only
  have h1 : signT h r ≠ closeT := fun e => by have := congrArg Tok.kind e; rw [signT_kind] at this; exact absurd this (by decide)
  have h2 : signT h r ≠ openT (signT h r).head := fun e => by have := congrArg Tok.kind e; rw [signT_kind] at this; exact absurd this (by show ¬ (116 : Nat) = 111; decide)
  have h3 : ((signT h r :: ps.map (signT h)).all fun x => oneCp x.text) = true := by
    rw [← List.map_cons, List.all_eq_true]
    intro x hx
    obtain ⟨q, hq, rfl⟩ := List.mem_map.1 hx
    rw [signT_text]; exact one_of_cp (hall q hq)
  have h4 : readsB (quoteL (signT h r).text.data.toList ++ (signT h r).head.data.toList) = true := by rw [signT_text, signT_head, encB_data]; exact hr
  rw [if_neg h1, if_neg h2, if_pos (signT_kind h r), if_pos (by rw [h3, h4]; rfl), ← List.map_cons, says_signs, signT_head]
theorem build_signs {h : ByteArray} {ps : List Nat} (hne : ps ≠ []) (s : List Tok) (hall : ∀ x ∈ ps, Cp x) (hr : ∀ x ∈ ps, readsB (quoteL (encL x) ++ h.data.toList) = true) (hs : ∀ x, s.head? = some x → ¬ (x.kind = 116 ∧ x.head = h)) :
    buildW (ps.map (signT h) ++ s) = (buildW s).map ((quoteL (ps.map encL).flatten ++ h.data.toList) ++ ·) := by
  cases ps with
  | nil => exact absurd rfl hne
  | cons r ps =>
    have hl : ((r :: ps).map (signT h)).length = ps.length + 1 := by simp
    rw [buildW_step _ (by simp), partN_signs h r ps s hs, ← hl, List.take_left, List.drop_left, part_signs hall (hr r (by simp))]; rfl
theorem build_toks : ∀ (n : Nat) (l : List Tree) (r : List Tok), (toksB l).length ≤ n → rowB none l = true → Shut r → buildW (toksB l ++ r) = (buildW r).map (writeAllB l ++ ·)
  | _, [], r, _, _, _ => by
    rw [toksB, List.nil_append, writeAllB]
    cases buildW r <;> simp
  | 0, x :: l, r, hn, hl, _ => by
    exfalso
    rw [toksB_len, totalB] at hn
    have := size_pos (row_tail hl).2.1
    omega
  | n + 1, x :: l, r, hn, hl, hr => by
    obtain ⟨hxa, fx, hl'⟩ := row_tail hl
    have hsz := size_pos fx
    have hn2 : (toksB l).length ≤ n := by rw [toksB_len, totalB] at hn; rw [toksB_len]; omega
    have ih := build_toks n l r hn2 (row_none hl') hr
    rw [toksB, List.append_assoc, writeAllB]
    cases hk : isTxt x.kind with
    | true =>
      obtain ⟨t, m, rfl, h1, h2⟩ := text_form hk fx
      have hmk : marksB m = true := by rw [formed_text hk] at fx; exact (textB_parts fx).2.2.1
      have hcp := pts_cp _ _ (Nat.le_refl _) h2
      have hhd : (headT (.mk TEXT t m [] [])).data.toList = marksW m := by rw [headT_data, headW, if_pos hk]; rfl
      rw [tokB_text _ hk]
      have hpn : pts t.data.toList ≠ [] := by rw [pts_step _ h1]; simp
      have hnext : ∀ z, (toksB l ++ r).head? = some z → ¬ (z.kind = 116 ∧ z.head = headT (.mk TEXT t m [] [])) := by
        intro z hz
        rintro ⟨hz1, hz2⟩
        cases l with
        | nil =>
          rw [toksB, List.nil_append] at hz
          have := hr z hz
          rw [hz1] at this; exact absurd this (by decide)
        | cons y l =>
          obtain ⟨ha, fy, _⟩ := row_tail hl'
          obtain ⟨z', e1, e2, e3⟩ := toks_head (l := l) (r := r) fy
          rw [e1] at hz
          injection hz with hz; subst hz
          cases hky : isTxt y.kind with
          | false => rw [e3 hky] at hz1; exact absurd hz1 (by show ¬ (111 : Nat) = 116; decide)
          | true =>
            rw [(e2 hky).2] at hz2
            have := head_marks hky hk fy fx hz2
            have hal : alikeB (.mk TEXT t m [] []) y = true := by
              unfold alikeB
              rw [hk, hky, this]
              simp [Tree.marks, sameL]
            simp only [alikeO] at ha
            rw [hal] at ha; cases ha
      rw [show (Tree.mk TEXT t m [] []).text = t from rfl, build_signs hpn _ hcp (fun q hq => by rw [hhd]; exact reads_piece hmk (hcp q hq)) hnext, ih, Option.map_map, hhd]
      have hb : ((pts t.data.toList).map encL).flatten = t.data.toList := back_valid _ _ (Nat.le_refl _) h2
      have hwt : writeB (.mk TEXT t m [] []) = quoteL t.data.toList ++ marksW m := by rw [writeB, if_pos isTxt_TEXT]
      rw [hb, hwt]
      congr 1
      funext s
      simp only [Function.comp, List.append_assoc]
    | false =>
      rw [tokB_node _ hk, List.cons_append, build_open _ (by rw [headT_data]; exact reads_node hk fx), List.append_assoc]
      have hkids : rowB none x.kids = true := by obtain ⟨k, t, m, a, q⟩ := x; exact (node_parts hk fx).2.2.2.2
      have hn3 : (toksB x.kids).length ≤ n := by
        rw [toksB_len, totalB] at hn
        have e : sizeB x = 2 + totalB x.kids := by obtain ⟨k, t, m, a, q⟩ := x; rw [sizeB, if_neg (by simp only [Tree.kind] at hk; rw [hk]; decide)]; rfl
        rw [toksB_len]; omega
      rw [build_toks n x.kids _ hn3 hkids (by intro z hz; simp at hz; subst hz; rfl), List.cons_append, List.nil_append, build_close, ih, headT_data, Option.map_map, Option.map_map, Option.map_map, write_node hk]
      congr 1
      funext s
      simp only [Function.comp, List.append_assoc, List.cons_append, List.nil_append]
theorem build_right {l : List Tree} (h : rowB none l = true) : buildW (toksB l) = some (writeAllB l) := by
  have := build_toks _ l [] (Nat.le_refl _) h (by intro x hx; cases hx)
  rw [List.append_nil, buildW_nil] at this
  rw [this]; simp
theorem around_check {l : List Tree} (h : rowB none l = true) (hd : deepB l ≤ 39) (hs : totalB l ≤ 3998) : checkB (around l) = 0 := by
  have hk : isTxt ⟨#[120]⟩ = false := by decide +kernel
  have hf : formedB (around l) = true := by
    unfold around
    rw [formedB, if_neg (by rw [hk]; decide), h, Bool.and_true]
    have h1 : nameB ⟨#[120]⟩ = true := by decide +kernel
    have he : (⟨#[]⟩ : ByteArray).toList.isEmpty = true := by decide +kernel
    have ha : attrsB [] = true := by decide +kernel
    unfold headB
    simp only [Tree.kind, Tree.text, Tree.marks, Tree.attrs]
    rw [h1, he, ha]
    rfl
  have h1 : depthB (around l) = deepB l + 1 := by unfold around; rw [depthB, if_neg (by rw [hk]; decide)]
  have h2 : sizeB (around l) = 2 + totalB l := by unfold around; rw [sizeB, if_neg (by rw [hk]; decide)]
  unfold checkB
  rw [if_pos hf, h1, h2, if_neg (by omega), if_neg (by omega)]
/-- Nodes are built of their tokens as they were. -/
theorem build_back {l : List Tree} (h : rowB none l = true) (hd : deepB l ≤ 39) (hs : totalB l ≤ 3998) : buildB (toksB l) = (l, 0) := by
  rw [buildB_some (build_right h)]
  have := readAll_back l (rowFormed h) (by omega)
  unfold parseAllB
  rw [this]
  exact if_pos (around_check h hd hs)
/-- The tokens of nodes that are joined. -/
theorem toks_join (l : List Tree) (h : ∀ x ∈ l, formedB x = true) : toksB (joinB l) = toksB l := by
  have key : ∀ n (l : List Tree), l.length = n → (∀ x ∈ l, formedB x = true) → toksB (joinB l) = toksB l := by
    intro n
    induction n with
    | zero => intro l hl _; have : l = [] := List.eq_nil_of_length_eq_zero hl; subst this; rfl
    | succ n ih =>
      intro l hl hf
      have hne : l ≠ [] := by rintro rfl; simp at hl
      have hd := List.dropLast_concat_getLast hne
      have hfa : ∀ x ∈ l.dropLast, formedB x = true := fun x hx => hf x (List.dropLast_subset _ hx)
      have hfz : formedB (l.getLast hne) = true := hf _ (List.getLast_mem hne)
      have h1 := ih l.dropLast (by rw [List.length_dropLast, hl]; omega) hfa
      have hz : rowB none [l.getLast hne] = true := row_of rfl hfz rfl
      have e : joinB l = joinB (joinB l.dropLast ++ [l.getLast hne]) := by
        have hj : joinB [l.getLast hne] = [l.getLast hne] := by
          have := step_new (out := []) (x := l.getLast hne) rfl hfz
          simpa [joinB] using this
        have := joinB_parts l.dropLast [l.getLast hne]
        rw [hj, hd] at this
        exact this.symm
      rw [e, toks_two (joinB_row _ hfa) hz, h1, ← toksB_append, hd]
  exact key _ l rfl h
theorem build_joined {l : List Tree} (h : ∀ x ∈ l, formedB x = true) (hd : deepB l ≤ 39) (hs : totalB l ≤ 3998) : buildB (toksB l) = (joinB l, 0) := by
  have hj := toks_join l h
  rw [← hj]
  refine build_back (joinB_row _ h) (Nat.le_trans (joinB_deep l) hd) ?_
  rw [← toksB_len, hj, toksB_len]; exact hs
end Go.Proofs.YtggoebbfgkebcaaGreatDoor

namespace Go.Proofs.YtggoebbfgkebcaaGreatDoor
open Go.RowKit Go.Sort Go.Maps

theorem unq_inv : ∀ (n : Nat) (l s r : List UInt8), l.length ≤ n → unq l = some (s, r) → l = escL s ++ 34 :: r
  | n, [], s, r, _, h => by simp [unq] at h
  | 0, _ :: _, _, _, hn, _ => by simp at hn
  | n + 1, c :: l, s, r, hn, h => by
    rw [List.length_cons] at hn
    by_cases h1 : c = 34
    · subst h1
      rw [unq_q] at h
      injection h with h
      injection h with h1 h2
      subst h1; subst h2
      rfl
    · by_cases h2 : c = 92
      · subst h2
        cases l with
        | nil => rw [unq_s1] at h; cases h
        | cons d l =>
          rw [unq_s] at h
          split at h
          · rename_i hd
            cases hq : unq l with
            | none => rw [hq] at h; cases h
            | some p =>
              rw [hq] at h
              injection h with h
              injection h with h3 h4
              subst h3; subst h4
              have := unq_inv n l p.1 p.2 (by simp only [List.length_cons] at hn; omega) hq
              rw [this]
              show _ = escL (d :: p.1) ++ _
              rw [escL, if_pos hd]; simp
          · cases h
      · have e1 : (c == 34) = false := beq_eq_false_iff_ne.2 h1
        have e2 : (c == 92) = false := beq_eq_false_iff_ne.2 h2
        have hu : unq (c :: l) = (unq l).map (fun p => (c :: p.1, p.2)) := by rw [unq.eq_def]; simp [e1, e2]
        rw [hu] at h
        cases hq : unq l with
        | none => rw [hq] at h; cases h
        | some p =>
          rw [hq] at h
          injection h with h
          injection h with h3 h4
          subst h3; subst h4
          have := unq_inv n l p.1 p.2 (by omega) hq
          rw [this]
          show _ = escL (c :: p.1) ++ _
          rw [escL, e1, e2]; simp
theorem want_inv {p l : List UInt8} (h : Lib.hasPrefix l p = true) : l = p ++ wantL p l := by
  unfold wantL; rw [if_pos h]
  obtain ⟨t, ht⟩ := List.isPrefixOf_iff_prefix.1 h
  rw [← ht]; simp
theorem qL_inv {l s r : List UInt8} (h : qL l = some (s, r)) : l = quoteL s ++ r := by
  unfold qL at h
  have hp : Lib.hasPrefix l [34] = true := by
    cases hp : Lib.hasPrefix l [34] with
    | true => rfl
    | false => unfold wantL at h; rw [hp] at h; simp [unq] at h
  have h1 := want_inv hp
  have h2 := unq_inv _ _ s r (Nat.le_refl _) h
  rw [h1, h2]; simp [quoteL]
theorem quo_inv {l r : List UInt8} (h : (quoL l).2 = some r) : l = quoteL (quoL l).1.data.toList ++ r := by
  cases hq : qL l with
  | none => unfold quoL at h; rw [hq] at h; cases h
  | some p =>
    have h1 := qL_inv (s := p.1) (r := p.2) hq
    have e : quoL l = (⟨p.1.toArray⟩, some p.2) := by unfold quoL; rw [hq]
    rw [e] at h ⊢
    injection h with h
    rw [← h]; simpa using h1
theorem names_inv (l : List UInt8) : l = ((restNames l).1.flatMap fun x => 44 :: x.data.toList) ++ (restNames l).2 := by
  cases l with
  | nil => rw [restNames.eq_def]; rfl
  | cons c r =>
    rw [restNames.eq_def]
    split
    · rename_i hc
      simp at hc
    · rename_i c' r' he
      injection he with h1 h2
      subst h1; subst h2
      by_cases h44 : (c == 44) = true
      · rw [if_pos h44]
        have ih := names_inv (r.dropWhile small)
        have e : c = 44 := by simpa using h44
        subst e
        simp only [List.flatMap_cons, List.cons_append, List.append_assoc]
        rw [← ih]
        simp
      · rw [if_neg h44]; rfl
termination_by l.length
decreasing_by
  have := drops_le r
  simp only [List.length_cons]; omega
theorem comma_flat : ∀ (x : ByteArray) (m : List ByteArray), commaM (x :: m) = x.data.toList ++ m.flatMap fun x => 44 :: x.data.toList
  | x, [] => by simp [commaM]
  | x, y :: m => by
    show x.data.toList ++ 44 :: commaM (y :: m) = _
    rw [comma_flat y m]; simp
theorem marks_inv {l : List UInt8} (h : (marksL l).2.2 = true) : l = marksW (marksL l).1 ++ (marksL l).2.1 := by
  unfold marksL at h ⊢
  split
  · rename_i hp
    rw [if_pos hp] at h
    simp only at h ⊢
    have h1 := want_inv hp
    have h2 := names_inv ((l.drop 1).dropWhile small)
    have h3 := want_inv h
    have e0 : l = 60 :: l.drop 1 := by unfold wantL at h1; rw [if_pos hp] at h1; simpa using h1
    have e1 : l.drop 1 = (l.drop 1).takeWhile small ++ (l.drop 1).dropWhile small := (List.takeWhile_append_dropWhile).symm
    rw [marksW, if_neg (by simp), comma_flat]
    conv => lhs; rw [e0, e1, h2, h3]
    simp
  · simp [marksW]
theorem attr_inv {l r : List UInt8} (h : (attrL l).2 = some r) : l = attrW (attrL l).1 ++ r := by
  unfold attrL at h ⊢
  simp only at h ⊢
  have h1 := quo_inv h
  have hp : Lib.hasPrefix (l.dropWhile small) [61] = true := by
    cases hp : Lib.hasPrefix (l.dropWhile small) [61] with
    | true => rfl
    | false =>
      unfold wantL at h; rw [hp] at h
      simp [quoL, qL, wantL, Lib.hasPrefix, unq] at h
  have h2 := want_inv hp
  have e1 : l = l.takeWhile small ++ l.dropWhile small := (List.takeWhile_append_dropWhile).symm
  unfold attrW
  conv => lhs; rw [e1, h2, h1]
  simp
theorem pre_drop {l : List UInt8} {c : UInt8} (h : Lib.hasPrefix l [c] = true) : l = c :: l.drop 1 := by
  have h1 := want_inv h
  unfold wantL at h1; rw [if_pos h] at h1; simpa using h1
theorem restAttrs_inv (l : List UInt8) (h : (restAttrs l).2.2 = false) : l = ((restAttrs l).1.flatMap fun p => 32 :: attrW p) ++ (restAttrs l).2.1 := by
  rw [restAttrs.eq_def] at h ⊢
  split
  · rename_i hp
    rw [dif_pos hp] at h
    simp only [Bool.or_eq_false_iff] at h ⊢
    obtain ⟨h1, h2⟩ := h
    cases hq : (attrL (l.drop 1)).2 with
    | none => rw [hq] at h1; cases h1
    | some r =>
      rw [hq] at h2
      have e1 := attr_inv hq
      have e0 := pre_drop hp
      have hlt : r.length < l.length := by
        have := congrArg List.length e1
        rw [List.length_append] at this
        have h3 := congrArg List.length e0
        rw [List.length_cons] at h3
        omega
      have ih := restAttrs_inv r h2
      rw [show (some r).getD [] = r from rfl]
      conv => lhs; rw [e0, e1, ih]
      simp
  · simp
termination_by l.length
theorem blank_flat : ∀ (x : ByteArray × ByteArray) (m : List (ByteArray × ByteArray)), blankA (x :: m) = attrW x ++ m.flatMap fun p => 32 :: attrW p
  | x, [] => by simp [blankA]
  | x, y :: m => by
    show attrW x ++ 32 :: blankA (y :: m) = _
    rw [blank_flat y m]; simp
theorem attrs_inv {l : List UInt8} (h : (attrsL l).2.2 = false) : l = attrsW (attrsL l).1 ++ (attrsL l).2.1 := by
  unfold attrsL at h ⊢
  split
  · rename_i hp
    rw [if_pos hp] at h
    simp only [Bool.or_eq_false_iff] at h ⊢
    obtain ⟨⟨h1, h2⟩, h3⟩ := h
    cases hq : (attrL (l.drop 1)).2 with
    | none => rw [hq] at h1; cases h1
    | some r =>
      rw [hq] at h2 h3
      rw [show (some r).getD [] = r from rfl] at h2 h3 ⊢
      have e1 := attr_inv hq
      have e0 := pre_drop hp
      have e2 := restAttrs_inv r h2
      have e3 := want_inv (p := [41]) (l := (restAttrs r).2.1) (by simpa using h3)
      rw [attrsW, if_neg (by simp), blank_flat]
      conv => lhs; rw [e0, e1, e2, e3]
      simp
  · simp [attrsW]
/-- A text that was read without fault. -/
theorem text_inv {l : List UInt8} (h : (textL l).2.2 = false) : l = quoteL (textL l).1.text.data.toList ++ (marksW (textL l).1.marks ++ (textL l).2.1) := by
  unfold textL at h ⊢
  simp only [Bool.or_eq_false_iff] at h
  obtain ⟨h1, h2⟩ := h
  cases hq : (quoL l).2 with
  | none => rw [hq] at h1; cases h1
  | some r =>
    rw [hq] at h2
    rw [show (some r).getD [] = r from rfl] at h2 ⊢
    have e1 := quo_inv hq
    have e2 := marks_inv (l := r) (by simpa using h2)
    simp only [Tree.text, Tree.marks]
    rw [← e2]
    exact e1
/-- A head that was read without fault. -/
theorem head_inv {l : List UInt8} (h : (headL l).2.2 = false) : l = (headL l).1.kind.data.toList ++ (attrsW (headL l).1.attrs ++ 91 :: (headL l).2.1) := by
  unfold headL at h ⊢
  simp only [Bool.or_eq_false_iff] at h
  obtain ⟨h1, h2⟩ := h
  have e1 := attrs_inv h1
  have e2 := want_inv (p := [91]) (l := (attrsL (l.dropWhile small)).2.1) (by simpa using h2)
  have e0 : l = l.takeWhile small ++ l.dropWhile small := (List.takeWhile_append_dropWhile).symm
  simp only [Tree.kind, Tree.attrs]
  conv => lhs; rw [e0, e1, e2]
  simp
end Go.Proofs.YtggoebbfgkebcaaGreatDoor

namespace Go.Proofs.YtggoebbfgkebcaaGreatDoor
open Go.RowKit Go.Sort Go.Maps

theorem takes_len (l : List UInt8) : (⟨(l.takeWhile small).toArray⟩ : ByteArray).size + (l.dropWhile small).length = l.length := by
  have h : (l.takeWhile small).length + (l.dropWhile small).length = l.length := by
    rw [← List.length_append, List.takeWhile_append_dropWhile]
  simpa [ByteArray.size] using h
theorem bytes_size (l : List UInt8) : (⟨l.toArray⟩ : ByteArray).size = l.length := by simp [ByteArray.size]
theorem quo_size (l : List UInt8) (hl : l ≠ []) : (quoL l).1.size + ((quoL l).2.getD []).length < l.length := by
  have h0 : 0 < l.length := List.length_pos_iff.2 hl
  cases hq : qL l with
  | none => unfold quoL; rw [hq]; exact h0
  | some p =>
    obtain ⟨s, r⟩ := p
    have h1 := unq_len _ _ s r (Nat.le_refl _) hq
    have h2 := wantL_le [34] l
    unfold quoL; rw [hq]
    show (⟨s.toArray⟩ : ByteArray).size + r.length < _
    rw [bytes_size]; omega
theorem quo_sizeLe (l : List UInt8) : (quoL l).1.size + ((quoL l).2.getD []).length ≤ l.length := by
  by_cases hl : l = []
  · subst hl
    have hq : qL [] = none := by unfold qL; rw [show wantL [34] [] = [] from rfl]; rw [unq.eq_def]
    unfold quoL; rw [hq]; exact Nat.le_refl _
  · exact Nat.le_of_lt (quo_size l hl)
theorem attr_size (l : List UInt8) : (attrL l).1.1.size + (attrL l).1.2.size + ((attrL l).2.getD []).length ≤ l.length := by
  have h1 := takes_len l
  have h2 := quo_sizeLe (wantL [61] (l.dropWhile small))
  have h3 := wantL_le [61] (l.dropWhile small)
  show (⟨(l.takeWhile small).toArray⟩ : ByteArray).size + (quoL (wantL [61] (l.dropWhile small))).1.size + ((quoL (wantL [61] (l.dropWhile small))).2.getD []).length ≤ l.length
  omega
theorem pre_pos {l : List UInt8} {a : UInt8} (h : Lib.hasPrefix l [a] = true) : (l.drop 1).length + 1 = l.length := by
  cases l with
  | nil => simp [Lib.hasPrefix, List.isPrefixOf] at h
  | cons _ _ => simp
theorem weighL_cons (s : ByteArray) (l : List ByteArray) : weighL (s :: l) = s.size + 1 + weighL l := by simp [weighL]
theorem weighP_cons (p : ByteArray × ByteArray) (l : List (ByteArray × ByteArray)) : weighP (p :: l) = p.1.size + p.2.size + 1 + weighP l := by simp [weighP]
theorem restNames_size : ∀ (n : Nat) (l : List UInt8), l.length ≤ n → weighL (restNames l).1 + (restNames l).2.length ≤ l.length := by
  intro n
  induction n with
  | zero =>
    intro l hl
    obtain rfl : l = [] := List.eq_nil_of_length_eq_zero (by omega)
    rw [restNames.eq_def]; exact Nat.le_refl _
  | succ n ih =>
    intro l hl
    cases hp : Lib.hasPrefix l [44] with
    | false => rw [restNames_no hp]; simp [weighL]
    | true =>
      have h1 := pre_pos hp
      have h2 := takes_len (l.drop 1)
      have h3 := ih ((l.drop 1).dropWhile small) (by omega)
      rw [restNames_yes hp]
      show weighL (_ :: _) + (restNames ((l.drop 1).dropWhile small)).2.length ≤ _
      rw [weighL_cons]; omega
theorem restAttrs_size : ∀ (n : Nat) (l : List UInt8), l.length ≤ n → weighP (restAttrs l).1 + (restAttrs l).2.1.length ≤ l.length := by
  intro n
  induction n with
  | zero =>
    intro l hl
    obtain rfl : l = [] := List.eq_nil_of_length_eq_zero (by omega)
    rw [restAttrs_no rfl]; exact Nat.le_refl _
  | succ n ih =>
    intro l hl
    cases hp : Lib.hasPrefix l [32] with
    | false => rw [restAttrs_no hp]; simp [weighP]
    | true =>
      have h1 := pre_pos hp
      have h2 := attr_size (l.drop 1)
      have h3 := ih ((attrL (l.drop 1)).2.getD []) (by omega)
      rw [restAttrs_yes hp]
      show weighP (_ :: _) + (restAttrs ((attrL (l.drop 1)).2.getD [])).2.1.length ≤ _
      rw [weighP_cons]; omega
theorem marks_size (l : List UInt8) : weighL (marksL l).1 + (marksL l).2.1.length ≤ l.length := by
  unfold marksL
  split
  · rename_i hp
    have h1 := pre_pos hp
    have h2 := takes_len (l.drop 1)
    have h3 := restNames_size _ ((l.drop 1).dropWhile small) (Nat.le_refl _)
    have h4 := wantL_le [62] (restNames ((l.drop 1).dropWhile small)).2
    show weighL (_ :: _) + _ ≤ _
    rw [weighL_cons]
    show _ + (wantL [62] _).length ≤ _
    omega
  · simp [weighL]
theorem attrs_size (l : List UInt8) : weighP (attrsL l).1 + (attrsL l).2.1.length ≤ l.length := by
  unfold attrsL
  split
  · rename_i hp
    have h1 := pre_pos hp
    have h2 := attr_size (l.drop 1)
    have h3 := restAttrs_size _ ((attrL (l.drop 1)).2.getD []) (Nat.le_refl _)
    have h4 := wantL_le [41] (restAttrs ((attrL (l.drop 1)).2.getD [])).2.1
    show weighP (_ :: _) + _ ≤ _
    rw [weighP_cons]
    show _ + (wantL [41] _).length ≤ _
    omega
  · simp [weighP]
theorem text_size (l : List UInt8) (hl : l ≠ []) : weigh (textL l).1 + 8 * (textL l).2.1.length ≤ 8 * l.length ∧ (textL l).2.1.length + 1 ≤ l.length := by
  have h1 := quo_size l hl
  have h2 := marks_size ((quoL l).2.getD [])
  have e1 : weigh (textL l).1 = 4 + (quoL l).1.size + weighL (marksL ((quoL l).2.getD [])).1 + 2 := by
    unfold textL; simp only [weigh, weighP, weighAll, List.map_nil, List.sum_nil]
    rw [show TEXT.size = 4 from rfl]; omega
  have e2 : (textL l).2.1 = (marksL ((quoL l).2.getD [])).2.1 := rfl
  rw [e1, e2]
  omega
theorem want_cases (a : UInt8) (l : List UInt8) : (wantL [a] l).length + 1 ≤ l.length ∨ wantL [a] l = [] := by
  unfold wantL
  split
  · rename_i hp
    left
    have := pre_pos hp
    show (l.drop 1).length + 1 ≤ _
    omega
  · exact .inr rfl
theorem head_size (l : List UInt8) (hl : l ≠ []) : weigh (headL l).1 + 8 * (headL l).2.1.length ≤ 8 * l.length ∧ (headL l).2.1.length + 1 ≤ l.length := by
  have h0 : 0 < l.length := List.length_pos_iff.2 hl
  have h1 := takes_len l
  have h2 := attrs_size (l.dropWhile small)
  have e1 : weigh (headL l).1 = (⟨(l.takeWhile small).toArray⟩ : ByteArray).size + weighP (attrsL (l.dropWhile small)).1 + 2 := by
    unfold headL; simp only [weigh, weighL, weighAll, List.map_nil, List.sum_nil]
    rw [show (⟨#[]⟩ : ByteArray).size = 0 from rfl]; omega
  have e2 : (headL l).2.1 = wantL [91] (attrsL (l.dropWhile small)).2.1 := rfl
  rw [e1, e2]
  rcases want_cases 91 (attrsL (l.dropWhile small)).2.1 with h | h
  · omega
  · rw [h]; simp only [List.length_nil]; omega
theorem weigh_kid (t k : Tree) : weigh (addKid t k) = weigh t + weigh k := by
  obtain ⟨a, b, m, p, l⟩ := t
  simp only [addKid, weigh, Tree.kind, Tree.text, Tree.marks, Tree.attrs, Tree.kids, weighAll_append, weighAll]
  omega
theorem weigh_closed (d : Nat) (t : Tree) : weigh (closedL d t).1 ≤ weigh t := by
  unfold closedL
  split
  · exact Nat.le_refl _
  · obtain ⟨a, b, m, p, l⟩ := t
    simp only [bare, weigh, Tree.kind, Tree.text, Tree.marks, Tree.attrs, weighAll]
    omega
/-- A round makes no more than it takes. -/
theorem round_size (c : UInt8) (l : List UInt8) (x : Bool) (top : Tree) (st : List Tree) :
    weighAll (roundL c l x top st).2.2 + 8 * (roundL c l x top st).1.length ≤ weighAll (top :: st) + 8 * (l.length + 1) ∧ (roundL c l x top st).1.length ≤ l.length := by
  have ht := text_size (c :: l) (by simp)
  have hh := head_size (c :: l) (by simp)
  simp only [List.length_cons] at ht hh
  unfold roundL
  split
  · simp only [weighAll, weigh_kid]; omega
  · split
    · split
      · simp only [weighAll, List.length_nil]; omega
      · rename_i up st'
        have hc := weigh_closed (st'.length + 1) top
        simp only [weighAll, weigh_kid]
        have : (if (closedL (st'.length + 1) top).2 = true then ([] : List UInt8) else l).length ≤ l.length := by split <;> simp
        omega
    · simp only [weighAll]; omega
theorem weigh_two (t : Tree) : 2 ≤ weigh t := by
  obtain ⟨a, b, m, p, l⟩ := t
  rw [weigh]; omega
theorem len_weigh : ∀ l : List Tree, 2 * l.length ≤ weighAll l
  | [] => Nat.le_refl _
  | t :: l => by have := weigh_two t; have := len_weigh l; rw [weighAll, List.length_cons]; omega
end Go.Proofs.YtggoebbfgkebcaaGreatDoor

namespace Go.Proofs.YtggoebbfgkebcaaGreatDoor
open Go.RowKit Go.Sort Go.Maps

/-- What has been read of the open nodes (the innermost ahead, the last one the root). -/
def openW : List Tree → List UInt8
  | [] => []
  | [root] => writeAllB root.kids
  | top :: up :: st => openW (up :: st) ++ (top.kind.data.toList ++ (attrsW top.attrs ++ 91 :: writeAllB top.kids))
/-- No open node lies, or leads, too deep. -/
def levelOK : List Tree → Prop
  | [] => True
  | top :: st => st.length + deepB top.kids ≤ 40 ∧ levelOK st
theorem openW_kid : ∀ (top : Tree) (st : List Tree) (k : Tree), openW (addKid top k :: st) = openW (top :: st) ++ writeB k
  | top, [], k => by
    show writeAllB (top.kids ++ [k]) = writeAllB top.kids ++ writeB k
    rw [writeAllB_append]; simp [writeAllB]
  | top, up :: st, k => by
    show openW (up :: st) ++ (top.kind.data.toList ++ (attrsW top.attrs ++ 91 :: writeAllB (top.kids ++ [k]))) = (openW (up :: st) ++ (top.kind.data.toList ++ (attrsW top.attrs ++ 91 :: writeAllB top.kids))) ++ writeB k
    rw [writeAllB_append]; simp [writeAllB]
theorem readN_wrong : ∀ (n : Nat) (l : List UInt8) (st : List Tree), (readN n l true st).2 = true
  | 0, _, _ => rfl
  | _ + 1, [], _ => rfl
  | _ + 1, _ :: _, [] => rfl
  | n + 1, c :: l, top :: st => by
    rw [readN_step]
    have : (roundL c l true top st).2.1 = true := by
      unfold roundL
      split
      · simp
      · split
        · cases st <;> simp
        · simp
    rw [this]
    exact readN_wrong n _ _
theorem wnode_inv {t : Tree} (h : isTxt t.kind = false) : writeB t = t.kind.data.toList ++ (attrsW t.attrs ++ 91 :: (writeAllB t.kids ++ [93])) := by
  obtain ⟨k, x, m, a, l⟩ := t
  simp only [Tree.kind] at h
  rw [writeB, h]; simp [Tree.kind, Tree.attrs, Tree.kids]
theorem write_txt {t : Tree} (h : isTxt t.kind = true) : writeB t = quoteL t.text.data.toList ++ marksW t.marks := by
  obtain ⟨k, x, m, a, l⟩ := t
  simp only [Tree.kind] at h
  rw [writeB, h]; simp [Tree.marks, Tree.text]
theorem txt_is : isTxt TEXT = true := by decide +kernel
/-- A formed node without words is none of the texts. -/
theorem formed_node {t : Tree} (h : formedB t = true) (ht : t.text = ⟨#[]⟩) : isTxt t.kind = false ∧ rowB none t.kids = true := by
  obtain ⟨k, x, m, a, l⟩ := t
  simp only [Tree.text] at ht
  subst ht
  cases hk : isTxt k with
  | true =>
    rw [formedB, hk] at h
    simp only [if_true] at h
    have : textB (.mk k ⟨#[]⟩ m a l) = false := by unfold textB; simp [Tree.text]
    rw [this] at h; cases h
  | false =>
    rw [formedB, hk] at h
    simp only [Bool.false_eq_true, if_false, Bool.and_eq_true] at h
    exact ⟨hk, h.2⟩

theorem read_inv : ∀ (n : Nat) (l : List UInt8) (st : List Tree) (root : Tree), l.length ≤ n → (∀ t ∈ st, t.text = ⟨#[]⟩) → readN n l false st = ([root], false) → (∀ k ∈ root.kids, formedB k = true) → deepB root.kids ≤ 40 →
    openW st ++ l = writeAllB root.kids ∧ (∀ t ∈ st, ∀ k ∈ t.kids, formedB k = true) ∧ levelOK st
  | n, [], st, root, _, _, h, hf, hd => by
    have e : st = [root] := by
      cases n with
      | zero => exact (Prod.mk.inj h).1
      | succ n => exact (Prod.mk.inj h).1
    subst e
    refine ⟨by simp [openW], fun t ht => ?_, by simpa [levelOK] using hd⟩
    simp only [List.mem_singleton] at ht
    subst ht; exact hf
  | 0, c :: l, st, root, hn, _, _, _, _ => by simp at hn
  | n + 1, c :: l, [], root, _, _, h, _, _ => by
    have := (Prod.mk.inj h).1
    cases this
  | n + 1, c :: l, top :: st, root, hn, hx, h, hf, hd => by
    rw [readN_step] at h
    have hlen := (round_size c l false top st).2
    have hx' : (roundL c l false top st).2.1 = false := by
      cases hq : (roundL c l false top st).2.1 with
      | false => rfl
      | true =>
        rw [hq] at h
        have := readN_wrong n (roundL c l false top st).1 (roundL c l false top st).2.2
        rw [h] at this; cases this
    rw [hx'] at h
    have hn' : (roundL c l false top st).1.length ≤ n := by simp only [List.length_cons] at hn; omega
    by_cases h34 : (c == 34) = true
    · -- a text
      have e : roundL c l false top st = ((textL (c :: l)).2.1, false || (textL (c :: l)).2.2, addKid top (textL (c :: l)).1 :: st) := by unfold roundL; rw [if_pos h34]
      rw [e] at h hx' hn'
      simp only [Bool.false_or] at hx'
      simp only at h hn'
      obtain ⟨i1, i2, i3⟩ := read_inv n _ _ root hn' (by
        intro t ht
        rcases List.mem_cons.1 ht with rfl | ht
        · exact hx top (List.mem_cons_self ..)
        · exact hx t (List.mem_cons_of_mem _ ht)) h hf hd
      refine ⟨?_, ?_, ?_⟩
      · rw [openW_kid, write_txt (show isTxt (textL (c :: l)).1.kind = true from txt_is)] at i1
        rw [← i1]
        have := text_inv hx'
        conv => lhs; rw [this]
        simp
      · intro t ht
        rcases List.mem_cons.1 ht with e1 | ht
        · intro k hk
          rw [e1] at hk
          exact i2 _ (List.mem_cons_self ..) k (by show k ∈ top.kids ++ _; exact List.mem_append_left _ hk)
        · exact i2 t (List.mem_cons_of_mem _ ht)
      · obtain ⟨j1, j2⟩ := i3
        refine ⟨?_, j2⟩
        have : deepB (addKid top (textL (c :: l)).1).kids = max (deepB top.kids) (deepB [(textL (c :: l)).1]) := deepB_append _ _
        omega
    · by_cases h93 : (c == 93) = true
      · cases st with
        | nil =>
          have e : roundL c l false top [] = ([], true, [top]) := by unfold roundL; rw [if_neg h34, if_pos h93]
          rw [e] at hx'; cases hx'
        | cons up st =>
          have e : roundL c l false top (up :: st) = (if (closedL (st.length + 1) top).2 then [] else l, false || (closedL (st.length + 1) top).2, addKid up (closedL (st.length + 1) top).1 :: st) := by unfold roundL; rw [if_neg h34, if_pos h93]
          rw [e] at h hx' hn'
          simp only [Bool.false_or] at hx'
          rw [hx'] at h hn'
          simp only [Bool.false_eq_true, if_false] at h hn'
          obtain ⟨i1, i2, i3⟩ := read_inv n _ _ root hn' (by
            intro t ht
            rcases List.mem_cons.1 ht with rfl | ht
            · exact hx up (by simp)
            · exact hx t (by simp [ht])) h hf hd
          have htx := hx top (List.mem_cons_self ..)
          have hcf : formedB (closedL (st.length + 1) top).1 = true := i2 _ (List.mem_cons_self ..) _ (by show _ ∈ up.kids ++ _; simp)
          have hct : (closedL (st.length + 1) top).1.text = ⟨#[]⟩ := by unfold closedL; split <;> exact htx
          obtain ⟨f1, f2⟩ := formed_node hcf hct
          have hdeep : deepB (addKid up (closedL (st.length + 1) top).1).kids = max (deepB up.kids) (deepB [(closedL (st.length + 1) top).1]) := deepB_append _ _
          have hd1 : deepB [(closedL (st.length + 1) top).1] = depthB (closedL (st.length + 1) top).1 := by simp [deepB]
          have hdn : depthB (closedL (st.length + 1) top).1 = deepB (closedL (st.length + 1) top).1.kids + 1 := by
            generalize (closedL (st.length + 1) top).1 = q at *
            obtain ⟨k, x, m, a, l⟩ := q
            simp only [Tree.kind] at f1
            rw [depthB, f1]; simp [Tree.kids]
          obtain ⟨j1, j2⟩ := i3
          have hle : st.length + 1 ≤ 40 := by omega
          have hcl : (closedL (st.length + 1) top).1 = top := by unfold closedL; rw [if_pos hle]
          rw [hcl] at f1 f2 hdeep hd1 hdn i1 j1
          refine ⟨?_, ?_, ?_, ?_, j2⟩
          · rw [openW_kid, wnode_inv f1] at i1
            rw [← i1]
            have e93 : c = 93 := by simpa using h93
            subst e93
            show (openW (up :: st) ++ (top.kind.data.toList ++ (attrsW top.attrs ++ 91 :: writeAllB top.kids))) ++ 93 :: l = _
            simp
          · intro t ht
            rcases List.mem_cons.1 ht with e1 | ht
            · rw [e1]; exact row_all _ none f2
            · rcases List.mem_cons.1 ht with e1 | ht
              · intro k hk
                rw [e1] at hk
                exact i2 _ (List.mem_cons_self ..) k (by show k ∈ up.kids ++ _; exact List.mem_append_left _ hk)
              · exact i2 t (List.mem_cons_of_mem _ ht)
          · show (up :: st).length + deepB top.kids ≤ 40
            simp only [List.length_cons]; omega
          · show st.length + deepB up.kids ≤ 40
            omega
      · have e : roundL c l false top st = ((headL (c :: l)).2.1, false || (headL (c :: l)).2.2, (headL (c :: l)).1 :: top :: st) := by unfold roundL; rw [if_neg h34, if_neg h93]
        rw [e] at h hx' hn'
        simp only [Bool.false_or] at hx'
        simp only at h hn'
        obtain ⟨i1, i2, i3⟩ := read_inv n _ _ root hn' (by
          intro t ht
          rcases List.mem_cons.1 ht with rfl | ht
          · rfl
          · exact hx t ht) h hf hd
        refine ⟨?_, fun t ht => i2 t (List.mem_cons_of_mem _ ht), i3.2⟩
        rw [← i1]
        have := head_inv hx'
        show openW (top :: st) ++ (c :: l) = (openW (top :: st) ++ ((headL (c :: l)).1.kind.data.toList ++ (attrsW (headL (c :: l)).1.attrs ++ 91 :: writeAllB []))) ++ (headL (c :: l)).2.1
        conv => lhs; rw [this]
        simp [writeAllB]
theorem readL_inv {s : List UInt8} {l : List Tree} (h : readL s = (l, true)) (hf : ∀ k ∈ l, formedB k = true) (hd : deepB l ≤ 40) : writeAllB l = s := by
  unfold readL at h
  obtain ⟨h1, h2⟩ := Prod.mk.inj h
  simp only [Bool.and_eq_true, Bool.not_eq_true', beq_iff_eq] at h2
  rcases hq : readN s.length s false [around []] with ⟨st, x⟩
  rw [hq] at h1 h2
  obtain ⟨h2, h3⟩ := h2
  simp only at h1 h2 h3
  subst h2
  match st, h3 with
  | [root], _ =>
    have e : root.kids = l := by simpa using h1
    subst e
    have := (read_inv s.length s [around []] root (Nat.le_refl _) (by intro t ht; simp only [List.mem_singleton] at ht; subst ht; rfl) hq hf hd).1
    rw [← this]
    simp [openW, around, Tree.kids, writeAllB]
/-- What Parse reads is right, and is written as it was. -/
theorem parse_inv {s : List UInt8} {t : Tree} (h : parseB s = (t, 0)) : checkB t = 0 ∧ writeB t = s := by
  unfold parseB at h
  split at h
  · rename_i t' hr
    split at h
    · rename_i hc
      obtain ⟨rfl, _⟩ := Prod.mk.inj h
      refine ⟨hc, ?_⟩
      have hp : formedB t' = true ∧ depthB t' ≤ 40 := by
        unfold checkB at hc
        split at hc
        · rename_i hf
          split at hc
          · cases hc
          · exact ⟨hf, by omega⟩
        · cases hc
      have := readL_inv hr (by intro k hk; simp only [List.mem_singleton] at hk; subst hk; exact hp.1) (by simpa [deepB] using hp.2)
      rw [← this]; simp [writeAllB]
    · rename_i hc
      exact absurd (Prod.mk.inj h).2 hc
  · have := (Prod.mk.inj h).2
    cases this
theorem parseB_zero {s : List UInt8} (h : (parseB s).2 ≠ 0) : (parseB s).1 = noTree := by
  unfold parseB at h ⊢
  split
  · rename_i t hr
    rw [hr] at h
    simp only at h
    split
    · rename_i hc; rw [if_pos hc] at h; exact absurd rfl h
    · rfl
  · rfl
end Go.Proofs.YtggoebbfgkebcaaGreatDoor
