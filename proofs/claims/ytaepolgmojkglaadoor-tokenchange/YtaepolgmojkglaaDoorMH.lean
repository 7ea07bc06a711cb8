/-
  What slices.Clone answers at the three kinds of lists of a node, and what node.Copy answers.
  What node.Copy answers: the node, in memory of its own.
  node.Copy's closure: its first statement leaves this; what stands behind it.
  What node.withoutEmpty answers.
  What node.Copy answers: the node, in memory of its own.
  What node.Copy answers.
  What node.asOne answers.
  What node.Join answers.
  What the document's Same and SameAll answer at nodes that are alike: true.
-/
import Derived.Test.YtaepolgmojkglaaDoorW8
import Derived.Test.YtaepolgmojkglaaDoorShelfC
import Derived.Test.YtaepolgmojkglaaDoorPar
import Derived.Test.YtaepolgmojkglaaDoorME
import Derived.Test.YtaepolgmojkglaaDoorMA
import Derived.Lib.QuietBelow
namespace Go.Proofs.YtaepolgmojkglaaDoor
open Go.RowKit Go.Sort

theorem string_info : (Tryd.prog.info? 9).map (fun i => (i.zero, i.size, i.bytes)) = some (some (.string ⟨#[]⟩), 1, 16) := by kernel_rfl
theorem attr_info : (Tryd.prog.info? 51).map (fun i => (i.zero, i.size, i.bytes)) = some (some (.agg #[.string ⟨#[]⟩, .string ⟨#[]⟩]), 2, 32) := by kernel_rfl

/-- append of nothing, to an empty row. -/
theorem append_nothing {t e ty : TypeId} {i : TypeInfo} (ht : Tryd.prog.underlying t = some (.slice e)) (hi : Tryd.prog.info? e = some i) (hz : 0 < i.size) (w : World) (g : Nat) (A : Option Addr) (c : Nat) :
    (Builtin.append_ #[t, t] ty #[.slice (some ⟨g, 0, none⟩) 0 0, .slice A 0 c]).run Tryd.prog w = .ok (.slice (some ⟨g, 0, none⟩) 0 0) w := by
  have hz' : i.size ≠ 0 := by omega
  cases A with
  | none => simp [Builtin.append_, run_underlying ht, sizeOf, typeInfo, hi, Builtin.lenOf, Builtin.firstCells, storeCells]
  | some a => simp [Builtin.append_, run_underlying ht, sizeOf, typeInfo, hi, Builtin.lenOf, Builtin.firstCells, storeCells, loadCells, loadCellsFrom]

set_option maxHeartbeats 1000000 in
theorem cloneS_nothing (A : Option Addr) (c : Nat) (w : World) :
    Calls Tryd.prog 61 #[.slice A 0 c] w fun e w' => ∃ A', e = .returned (.slice A' 0 0) ∧ Below w.heap.size w w' := by
  obtain ⟨i, hi, hz0, hz1, hz2⟩ := info_parts string_info
  have q : ∀ (w : World) (a : Option Addr) (n c n' c' : Nat), (binOp .eql 44 (.slice a n c) (.slice none n' c')).run Tryd.prog w = .ok (.bool a.isNone) w := fun w a n c n' c' => Lib.run_eql_slice_nil w _ _ a n c n' c' Tryd.underlying44
  have hap : ∀ (ty : TypeId) (w : World) (g c : Nat), (Builtin.append_ #[44, 44] ty #[.slice (some ⟨g, 0, none⟩) 0 0, .slice A 0 c]).run Tryd.prog w = .ok (.slice (some ⟨g, 0, none⟩) 0 0) w := fun ty w g c => append_nothing Tryd.underlying44 hi (by omega) w g A c
  go_enter Tryd.func61, Tryd.ntmps61
  cases A with
  | none =>
    go_wp2
    go_ret
    exact ⟨none, rfl, Below.refl _ _⟩
  | some a =>
    go_wp2
    go_ret
    exact ⟨_, rfl, (Below.refl _ _).alloc (Nat.le_refl _) _⟩

set_option maxHeartbeats 1000000 in
theorem cloneA_nothing (A : Option Addr) (c : Nat) (w : World) :
    Calls Tryd.prog 62 #[.slice A 0 c] w fun e w' => ∃ A', e = .returned (.slice A' 0 0) ∧ Below w.heap.size w w' := by
  obtain ⟨i, hi, hz0, hz1, hz2⟩ := info_parts attr_info
  have q : ∀ (w : World) (a : Option Addr) (n c n' c' : Nat), (binOp .eql 45 (.slice a n c) (.slice none n' c')).run Tryd.prog w = .ok (.bool a.isNone) w := fun w a n c n' c' => Lib.run_eql_slice_nil w _ _ a n c n' c' Tryd.underlying45
  have hap : ∀ (ty : TypeId) (w : World) (g c : Nat), (Builtin.append_ #[45, 45] ty #[.slice (some ⟨g, 0, none⟩) 0 0, .slice A 0 c]).run Tryd.prog w = .ok (.slice (some ⟨g, 0, none⟩) 0 0) w := fun ty w g c => append_nothing Tryd.underlying45 hi (by omega) w g A c
  go_enter Tryd.func62, Tryd.ntmps62
  cases A with
  | none =>
    go_wp2
    go_ret
    exact ⟨none, rfl, Below.refl _ _⟩
  | some a =>
    go_wp2
    go_ret
    exact ⟨_, rfl, (Below.refl _ _).alloc (Nat.le_refl _) _⟩

set_option maxHeartbeats 1000000 in
theorem cloneN_nothing (A : Option Addr) (c : Nat) (w : World) :
    Calls Tryd.prog 63 #[.slice A 0 c] w fun e w' => ∃ A', e = .returned (.slice A' 0 0) ∧ Below w.heap.size w w' := by
  obtain ⟨i, hi, hz0, hz1, hz2⟩ := info_parts node_info
  have q : ∀ (w : World) (a : Option Addr) (n c n' c' : Nat), (binOp .eql 24 (.slice a n c) (.slice none n' c')).run Tryd.prog w = .ok (.bool a.isNone) w := fun w a n c n' c' => Lib.run_eql_slice_nil w _ _ a n c n' c' Tryd.underlying24
  have hap : ∀ (ty : TypeId) (w : World) (g c : Nat), (Builtin.append_ #[24, 24] ty #[.slice (some ⟨g, 0, none⟩) 0 0, .slice A 0 c]).run Tryd.prog w = .ok (.slice (some ⟨g, 0, none⟩) 0 0) w := fun ty w g c => append_nothing Tryd.underlying24 hi (by omega) w g A c
  go_enter Tryd.func63, Tryd.ntmps63
  cases A with
  | none =>
    go_wp2
    go_ret
    exact ⟨none, rfl, Below.refl _ _⟩
  | some a =>
    go_wp2
    go_ret
    exact ⟨_, rfl, (Below.refl _ _).alloc (Nat.le_refl _) _⟩

theorem strs_empty {w : World} {S : Nat → Prop} (A : Option Addr) : Strs w S (.slice A 0 0) [] := ⟨A, 0, rfl, Nat.le_refl _, by unfold maxLen; omega, .inl rfl⟩
theorem pairs_empty {w : World} {S : Nat → Prop} (A : Option Addr) : Pairs w S (.slice A 0 0) [] := ⟨A, 0, rfl, Nat.le_refl _, by unfold maxLen; omega, .inl rfl⟩
theorem kids_empty {w : World} {S : Nat → Prop} (A : Option Addr) : Kids w S (.slice A 0 0) [] := ⟨A, 0, rfl, Nat.le_refl _, by unfold maxLen; omega, .inl rfl⟩

theorem cloneS_any (v : Value) (l : List ByteArray) (S : Nat → Prop) (w : World) (h : Strs w S v l) (hw : l.length ≤ 1000000) :
    Calls Tryd.prog 61 #[v] w fun e w' => ∃ v', e = .returned v' ∧ StrsP w' (From w.heap.size w'.heap.size) v' l ∧ Below w.heap.size w w' := by
  obtain ⟨A, c, rfl, hc, hm, hA⟩ := h
  rcases hA with rfl | ⟨b, o, rfl, hb, hx⟩
  · refine (cloneS_nothing A c w).mono ?_
    rintro e w' ⟨A', rfl, hb⟩
    exact ⟨_, rfl, ⟨strs_empty A', .inl rfl⟩, hb⟩
  · obtain ⟨i, hi, hz0, hz1, hz2⟩ := info_parts string_info
    refine (AnyE.slices_Clone Tryd.laysCloneS i _ 1 16 hi hz0 hz1 hz2 rfl (by omega) Tryd.sizeOf9 b o l.length c (l.map Value.string) w (by simp) (by omega) (by omega) (fun j u hj => ?_) (fun u hu => ?_)).mono ?_
    · rw [List.getElem?_map] at hj
      obtain ⟨s, hs, rfl⟩ := Option.map_eq_some_iff.1 hj
      exact hx j s hs
    · obtain ⟨s, _, rfl⟩ := List.mem_map.1 hu; rfl
    · rintro e w' ⟨v', rfl, ⟨_, ho⟩, _, hb'⟩
      refine ⟨v', rfl, ?_, hb'⟩
      rcases ho with ⟨rfl, hn⟩ | ⟨g, cap, cur, rfl, hge, hg, hnc, hcm, hsz, htk⟩
      · have : l = [] := List.eq_nil_of_length_eq_zero hn
        subst this; exact ⟨strs_empty none, .inl rfl⟩
      · refine ⟨⟨_, cap, rfl, hnc, hcm, .inr ⟨g, 0, rfl, ⟨hge, (Array.getElem?_eq_some_iff.1 hg).1⟩, fun j s hj => ?_⟩⟩, .inr ⟨g, 0, _, _, cur, _, rfl, hg⟩⟩
        have hjl := (List.getElem?_eq_some_iff.1 hj).1
        have h1 : (cur.toList.take (l.length * 1))[j]? = some (.string s) := by rw [htk, List.getElem?_map, hj]; rfl
        rw [List.getElem?_take_of_lt (by omega)] at h1
        simp only [World.cell?, hg]
        simpa using h1

def pairCells : List (ByteArray × ByteArray) → List Value
  | [] => []
  | p :: l => .string p.1 :: .string p.2 :: pairCells l
theorem pairCells_length : ∀ l, (pairCells l).length = l.length * 2
  | [] => rfl
  | p :: l => by simp only [pairCells, List.length_cons, pairCells_length l]; omega
theorem pairCells_one : ∀ l, ∀ u ∈ pairCells l, u.oneCell' = true
  | [], u, h => by cases h
  | p :: l, u, h => by
    simp only [pairCells, List.mem_cons] at h
    rcases h with rfl | rfl | h
    · rfl
    · rfl
    · exact pairCells_one l u h
theorem pairCells_get : ∀ (l : List (ByteArray × ByteArray)) (i : Nat) (p : ByteArray × ByteArray), l[i]? = some p → (pairCells l)[i * 2]? = some (.string p.1) ∧ (pairCells l)[i * 2 + 1]? = some (.string p.2)
  | [], i, p, h => by simp at h
  | q :: l, 0, p, h => by simp at h; subst h; simp [pairCells]
  | q :: l, i + 1, p, h => by
    have := pairCells_get l i p (by simpa using h)
    rw [show (i + 1) * 2 = i * 2 + 1 + 1 by omega]
    simpa [pairCells] using this
theorem pairCells_at {w : World} {b : Nat} : ∀ (l : List (ByteArray × ByteArray)) (o : Nat), (∀ i p, l[i]? = some p → w.cell? ⟨b, o + i * 2, none⟩ = some (.string p.1) ∧ w.cell? ⟨b, o + i * 2 + 1, none⟩ = some (.string p.2)) → ∀ j u, (pairCells l)[j]? = some u → w.cell? ⟨b, o + j, none⟩ = some u
  | [], _, _, j, u, h => by simp [pairCells] at h
  | p :: l, o, hx, j, u, h => by
    have h0 := hx 0 p (by simp)
    match j, h with
    | 0, h => simp [pairCells] at h; subst h; simpa using h0.1
    | 1, h => simp [pairCells] at h; subst h; simpa using h0.2
    | j + 2, h =>
      have := pairCells_at l (o + 2) (fun i q hi => by
        have h := hx (i + 1) q (by simpa using hi)
        rw [show o + (i + 1) * 2 = o + 2 + i * 2 by omega] at h
        exact h) j u (by simpa [pairCells] using h)
      rw [show o + (j + 2) = o + 2 + j by omega]; exact this

theorem cloneA_any (v : Value) (l : List (ByteArray × ByteArray)) (S : Nat → Prop) (w : World) (h : Pairs w S v l) (hw : l.length ≤ 1000000) :
    Calls Tryd.prog 62 #[v] w fun e w' => ∃ v', e = .returned v' ∧ PairsP w' (From w.heap.size w'.heap.size) v' l ∧ Below w.heap.size w w' := by
  obtain ⟨A, c, rfl, hc, hm, hA⟩ := h
  rcases hA with rfl | ⟨b, o, rfl, hb, hx⟩
  · refine (cloneA_nothing A c w).mono ?_
    rintro e w' ⟨A', rfl, hb⟩
    exact ⟨_, rfl, ⟨pairs_empty A', .inl rfl⟩, hb⟩
  · obtain ⟨i, hi, hz0, hz1, hz2⟩ := info_parts attr_info
    refine (AnyE.slices_Clone Tryd.laysCloneA i _ 2 32 hi hz0 hz1 hz2 rfl (by omega) Tryd.sizeOf51 b o l.length c (pairCells l) w (pairCells_length l) (by omega) (by omega) (pairCells_at l o hx) (pairCells_one l)).mono ?_
    rintro e w' ⟨v', rfl, ⟨_, ho⟩, _, hb'⟩
    refine ⟨v', rfl, ?_, hb'⟩
    rcases ho with ⟨rfl, hn⟩ | ⟨g, cap, cur, rfl, hge, hg, hnc, hcm, hsz, htk⟩
    · have : l = [] := List.eq_nil_of_length_eq_zero hn
      subst this; exact ⟨pairs_empty none, .inl rfl⟩
    · refine ⟨⟨_, cap, rfl, hnc, hcm, .inr ⟨g, 0, rfl, ⟨hge, (Array.getElem?_eq_some_iff.1 hg).1⟩, fun j p hj => ?_⟩⟩, .inr ⟨g, 0, _, _, cur, _, rfl, hg⟩⟩
      have hjl := (List.getElem?_eq_some_iff.1 hj).1
      have h1 := pairCells_get l j p hj
      rw [← htk, List.getElem?_take_of_lt (by omega), List.getElem?_take_of_lt (by omega)] at h1
      simp only [World.cell?, hg]
      simpa using h1

theorem cloneN_any (v : Value) (l : List Tree) (S : Nat → Prop) (w : World) (h : Kids w S v l) (hS : ∀ b, S b → b < w.heap.size) (hw : l.length ≤ 1000000) :
    Calls Tryd.prog 63 #[v] w fun e w' => ∃ v', e = .returned v' ∧ ((l = [] ∧ ∃ A, v' = .slice A 0 0) ∨ Own w' w.heap.size S v' l) ∧ Below w.heap.size w w' := by
  obtain ⟨A, c, rfl, hc, hm, hA⟩ := h
  rcases hA with rfl | ⟨b, o, rfl, hb, hr⟩
  · refine (cloneN_nothing A c w).mono ?_
    rintro e w' ⟨A', rfl, hb⟩
    exact ⟨_, rfl, .inl ⟨rfl, A', rfl⟩, hb⟩
  · obtain ⟨i, hi, hz0, hz1, hz2⟩ := info_parts node_info
    obtain ⟨xs, hcs, hx⟩ := hr.cells
    refine (AnyE.slices_Clone Tryd.laysCloneN i _ 5 104 hi hz0 hz1 hz2 rfl (by omega) Tryd.sizeOf47 b o l.length c xs w hcs.length (by omega) (by omega) hx hcs.oneCell).mono ?_
    rintro e w' ⟨v', rfl, ho, _, hb'⟩
    exact ⟨v', rfl, .inr ⟨xs, ho, hcs.keep (fun _ h => h) fun b hb => hb'.block b (hS b hb)⟩, hb'⟩
end Go.Proofs.YtaepolgmojkglaaDoor

namespace Go.Proofs.YtaepolgmojkglaaDoor
open Go.RowKit Go.Sort

theorem frozen_kept {w w' : World} {g o : Nat} {v : Value} (h : w.frozen? ⟨g, o, none⟩ = false) (hc : w.cell? ⟨g, o, none⟩ = some v) (hb : Below w.heap.size w w') : w'.frozen? ⟨g, o, none⟩ = false :=
  (hb.frozen (p := ⟨g, o, none⟩) (cell_lt hc)).trans h
theorem own_form {w : World} {base : Nat} {S : Nat → Prop} {v : Value} {l : List Tree} (h : (l = [] ∧ ∃ A, v = .slice A 0 0) ∨ Own w base S v l) : ∃ A c, v = .slice A l.length c := by
  rcases h with ⟨rfl, A, rfl⟩ | h
  · exact ⟨A, 0, rfl⟩
  · obtain ⟨A, c, rfl, _⟩ := h.form
    exact ⟨A, c, rfl⟩

def CopySaid (t : Tree) : Prop := ∀ (v : Value) (w : World) (p : Nat), Node w (Under w.heap.size) v t → weigh t ≤ 1000000 → SelfAt w 60 p →
    Calls Tryd.prog 60 #[v, .pointer (some ⟨p, 0, none⟩)] w fun e w' => ∃ v', e = .returned v' ∧ NodeP w' t w.heap.size w'.heap.size v' ∧ Below w.heap.size w w'

end Go.Proofs.YtaepolgmojkglaaDoor

namespace Go.Proofs.YtaepolgmojkglaaDoor
open Go.RowKit Go.Sort

def CopyMid (w : World) (k t : ByteArray) (m : List ByteArray) (a : List (ByteArray × ByteArray)) (l : List Tree) (wx : World) : Prop :=
  Below w.heap.size w wx ∧ w.heap.size + 2 ≤ wx.heap.size ∧ wx.heap[w.heap.size + 1]? = some (.cells #[.string ⟨#[]⟩, .string ⟨#[]⟩, .slice none 0 0, .slice none 0 0, .slice none 0 0] 47) ∧
  ∃ A1 d1 A2 d2 A3 d3, wx.cell? ⟨w.heap.size, 0, none⟩ = some (.string k) ∧ wx.cell? ⟨w.heap.size, 1, none⟩ = some (.string t) ∧ wx.cell? ⟨w.heap.size, 2, none⟩ = some (.slice A1 m.length d1) ∧ wx.cell? ⟨w.heap.size, 3, none⟩ = some (.slice A2 a.length d2) ∧
    wx.cell? ⟨w.heap.size, 4, none⟩ = some (.slice A3 l.length d3) ∧ ∃ z, w.heap.size + 2 ≤ z ∧ z ≤ wx.heap.size ∧ StrsP wx (From (w.heap.size + 2) z) (.slice A1 m.length d1) m ∧ PairsP wx (From (w.heap.size + 2) z) (.slice A2 a.length d2) a ∧
    (l = [] ∧ d3 ≤ maxLen ∨ Own wx z (Under w.heap.size) (.slice A3 l.length d3) l)

theorem copyMid_of {w W2 w7 : World} {z : Nat} {k t : ByteArray} {m : List ByteArray} {a : List (ByteArray × ByteArray)} {l : List Tree} {A1 A2 A3 : Option Addr} {d1 d2 d3 : Nat} {u2 u3 u4 : Value} (hB : Below w.heap.size w W2) (hz : W2.heap.size = w.heap.size + 2) (hBW : Below W2.heap.size W2 w7)
    (hr : W2.heap[w.heap.size + 1]? = some (.cells #[.string ⟨#[]⟩, .string ⟨#[]⟩, .slice none 0 0, .slice none 0 0, .slice none 0 0] 47)) (c0 : W2.cell? ⟨w.heap.size, 0, none⟩ = some (.string k)) (c1 : W2.cell? ⟨w.heap.size, 1, none⟩ = some (.string t))
    (c2 : w7.cell? ⟨w.heap.size, 2, none⟩ = some u2) (c3 : w7.cell? ⟨w.heap.size, 3, none⟩ = some u3) (c4 : w7.cell? ⟨w.heap.size, 4, none⟩ = some u4)
    (hz1 : W2.heap.size ≤ z) (hz2 : z ≤ w7.heap.size) (h5 : StrsP w7 (From W2.heap.size z) (.slice A1 m.length d1) m) (h6 : PairsP w7 (From W2.heap.size z) (.slice A2 a.length d2) a) (h7 : (l = [] ∧ ∃ A, (.slice A3 l.length d3 : Value) = .slice A 0 0) ∨ Own w7 z (Under w.heap.size) (.slice A3 l.length d3) l) :
    CopyMid w k t m a l (((w7.setCell ⟨w.heap.size, 2, none⟩ (.slice A1 m.length d1)).setCell ⟨w.heap.size, 3, none⟩ (.slice A2 a.length d2)).setCell ⟨w.heap.size, 4, none⟩ (.slice A3 l.length d3)) := by
  obtain ⟨far1, set1, off1, blk1, sz1, os1⟩ := set_one (w := w7) (g := w.heap.size) (o := 2) (v := .slice A1 m.length d1) c2
  obtain ⟨far2, set2, off2, blk2, sz2, os2⟩ := set_one (w := w7.setCell ⟨w.heap.size, 2, none⟩ (.slice A1 m.length d1)) (g := w.heap.size) (o := 3) (v := .slice A2 a.length d2) ((off1 3 (by omega)).trans c3)
  obtain ⟨far3, set3, off3, blk3, sz3, os3⟩ := set_one (w := (w7.setCell ⟨w.heap.size, 2, none⟩ (.slice A1 m.length d1)).setCell ⟨w.heap.size, 3, none⟩ (.slice A2 a.length d2)) (g := w.heap.size) (o := 4) (v := .slice A3 l.length d3) ((off2 4 (by omega)).trans ((off1 4 (by omega)).trans c4))
  generalize ((w7.setCell ⟨w.heap.size, 2, none⟩ (.slice A1 m.length d1)).setCell ⟨w.heap.size, 3, none⟩ (.slice A2 a.length d2)).setCell ⟨w.heap.size, 4, none⟩ (.slice A3 l.length d3) = W9 at *
  generalize (w7.setCell ⟨w.heap.size, 2, none⟩ (.slice A1 m.length d1)).setCell ⟨w.heap.size, 3, none⟩ (.slice A2 a.length d2) = W8 at *
  generalize w7.setCell ⟨w.heap.size, 2, none⟩ (.slice A1 m.length d1) = W7 at *
  have blk : ∀ b, b ≠ w.heap.size → W9.heap[b]? = w7.heap[b]? := fun b hb => (blk3 b hb).trans ((blk2 b hb).trans (blk1 b hb))
  have szz : W9.heap.size = w7.heap.size := sz3.trans (sz2.trans sz1)
  have hs := hBW.size
  have kb : ∀ b, From W2.heap.size z b → W9.heap[b]? = w7.heap[b]? := fun b hb => blk b (by have := hb.1; omega)
  have kf : ∀ b, From W2.heap.size z b → From (w.heap.size + 2) z b := fun b hb => ⟨by have := hb.1; omega, by have := hb.2; omega⟩
  refine ⟨⟨os3.1.trans (os2.1.trans (os1.1.trans (hBW.os.trans hB.os))), os3.2.1.trans (os2.2.1.trans (os1.2.1.trans (hBW.tape.trans hB.tape))), os3.2.2.trans (os2.2.2.trans (os1.2.2.trans (hBW.output.trans hB.output))), by omega, fun b hb => (blk b (by omega)).trans ((hBW.block b (by omega)).trans (hB.block b hb))⟩, by omega,
    (blk _ (by omega)).trans ((hBW.block _ (by omega)).trans hr), A1, d1, A2, d2, A3, d3, ?_, ?_, ?_, ?_, set3, z, by omega, by omega, h5.keep kf kb, h6.keep kf kb, ?_⟩
  · exact (off3 0 (by omega)).trans ((off2 0 (by omega)).trans ((off1 0 (by omega)).trans (cell_kept c0 hBW)))
  · exact (off3 1 (by omega)).trans ((off2 1 (by omega)).trans ((off1 1 (by omega)).trans (cell_kept c1 hBW)))
  · exact (off3 2 (by omega)).trans ((off2 2 (by omega)).trans set1)
  · exact (off3 3 (by omega)).trans set2
  · rcases h7 with ⟨h, A, hA⟩ | ⟨xs, ho, hc⟩
    · injection hA with _ _ hA
      exact .inl ⟨h, by rw [hA]; exact Nat.zero_le _⟩
    · refine .inr ⟨xs, ⟨ho.1, ?_⟩, hc.keep (fun _ h => h) fun b hb => blk b (by unfold Under at hb; omega)⟩
      rcases ho.2 with h | ⟨g, cap, cur, hv, hg, hh, rest⟩
      · exact .inl h
      · exact .inr ⟨g, cap, cur, hv, hg, (blk g (by omega)).trans hh, rest⟩

/-- One more cell of a row set, its block as it lies. -/
theorem heap_set {w : World} {g o : Nat} {cur : Array Value} {T : TypeId} (hh : w.heap[g]? = some (.cells cur T)) (v : Value) : (w.setCell ⟨g, o, none⟩ v).heap[g]? = some (.cells (cur.setIfInBounds o v) T) := by
  simp [World.setCell, Array.getElem?_modify, hh]

/-- A node put into a row: the others of the row stand, and it stands there. -/
theorem row_put {w : World} {g i : Nat} {l : List Tree} {S : Nat → Nat → Prop} {S' : Nat → Prop} {y : Tree} {vm va vk : Value} (hy : l[i]? = some y)
    (hrow : ∀ j x, l[j]? = some x → NodeAt w (S j) x g (j * 5)) (hS : ∀ j b, S j b → b ≠ g) (hS' : ∀ b, S' b → b ≠ g) (hm : Strs w S' vm y.marks) (ha : Pairs w S' va y.attrs) (hk : Kids w S' vk y.kids) (W : World) (hWb : ∀ b, b ≠ g → W.heap[b]? = w.heap[b]?)
    (hW : ∀ o, W.cell? ⟨g, o, none⟩ = if o = i * 5 then some (.string y.kind) else if o = i * 5 + 1 then some (.string y.text) else if o = i * 5 + 2 then some vm else if o = i * 5 + 3 then some va else if o = i * 5 + 4 then some vk else w.cell? ⟨g, o, none⟩) :
    ∀ j x, l[j]? = some x → NodeAt W (fun b => if j = i then S' b else S j b) x g (j * 5) := by
  intro j x hj
  by_cases hji : j = i
  · subst hji
    rw [hy] at hj; injection hj with hj; subst hj
    have e : (fun b => if j = j then S' b else S j b) = S' := by funext b; simp
    rw [e]
    refine (nodeAt_iff y g (j * 5)).2 ⟨vm, va, vk, ?_, ?_, ?_, ?_, ?_, hm.keep (fun _ h => h) fun b hb => hWb b (hS' b hb), ha.keep (fun _ h => h) fun b hb => hWb b (hS' b hb), hk.keep (fun _ h => h) fun b hb => hWb b (hS' b hb)⟩
    · rw [hW, if_pos rfl]
    · rw [hW, if_neg (by omega), if_pos rfl]
    · rw [hW, if_neg (by omega), if_neg (by omega), if_pos rfl]
    · rw [hW, if_neg (by omega), if_neg (by omega), if_neg (by omega), if_pos rfl]
    · rw [hW, if_neg (by omega), if_neg (by omega), if_neg (by omega), if_neg (by omega), if_pos rfl]
  · have e : (fun b => if j = i then S' b else S j b) = S j := by funext b; simp [hji]
    rw [e]
    obtain ⟨xm, xa, xk, c0, c1, c2, c3, c4, h1, h2, h3⟩ := (nodeAt_iff x g (j * 5)).1 (hrow j x hj)
    have same : ∀ d, d < 5 → W.cell? ⟨g, j * 5 + d, none⟩ = w.cell? ⟨g, j * 5 + d, none⟩ := fun d hd => by
      rw [hW, if_neg (by omega), if_neg (by omega), if_neg (by omega), if_neg (by omega), if_neg (by omega)]
    exact (nodeAt_iff x g (j * 5)).2 ⟨xm, xa, xk, (same 0 (by omega)).trans c0, (same 1 (by omega)).trans c1, (same 2 (by omega)).trans c2, (same 3 (by omega)).trans c3, (same 4 (by omega)).trans c4,
      h1.keep (fun _ h => h) fun b hb => hWb b (hS j b hb), h2.keep (fun _ h => h) fun b hb => hWb b (hS j b hb), h3.keep (fun _ h => h) fun b hb => hWb b (hS j b hb)⟩

/-- What the row of the copies is behind k of them. -/
def CopyRow (w : World) (g : Nat) (l : List Tree) (k : Nat) (wr : World) : Prop :=
  (∃ cur, wr.heap[g]? = some (.cells cur 47) ∧ l.length * 5 ≤ cur.size) ∧ ∀ j x, l[j]? = some x → NodeAt wr (fun b => if j < k then (w.heap.size + 2 ≤ b ∧ b < wr.heap.size ∧ b ≠ g) else b < w.heap.size) x g (j * 5)

theorem CopyRow.below {w wr w2 : World} {g k : Nat} {l : List Tree} (h : CopyRow w g l k wr) (hw : w.heap.size ≤ wr.heap.size) (hb : Below wr.heap.size wr w2) : CopyRow w g l k w2 := by
  obtain ⟨⟨cur, hc, hs⟩, hr⟩ := h
  have hg : g < wr.heap.size := (Array.getElem?_eq_some_iff.1 hc).1
  refine ⟨⟨cur, (hb.block g hg).trans hc, hs⟩, fun j x hj => ?_⟩
  refine nodeAt_keep (fun b hb' => ?_) (fun b hb' => hb.block b ?_) x g (j * 5) (hb.block g hg) (hr j x hj)
  · by_cases hjk : j < k
    · simp only [hjk, if_true] at hb' ⊢
      exact ⟨hb'.1, Nat.lt_of_lt_of_le hb'.2.1 hb.size, hb'.2.2⟩
    · simp only [hjk, if_false] at hb' ⊢
      exact hb'
  · by_cases hjk : j < k
    · simp only [hjk, if_true] at hb'; exact hb'.2.1
    · simp only [hjk, if_false] at hb'; omega

theorem copyRow_put {w w2 : World} {g i : Nat} {l : List Tree} {y : Tree} {vm va vk : Value} (h : CopyRow w g l i w2) (hwg : w.heap.size ≤ g) (hy : l[i]? = some y) {n : Nat} (hn : w.heap.size + 2 ≤ n) (hgn : g < n) (hN : Strs w2 (From n w2.heap.size) vm y.marks ∧ Pairs w2 (From n w2.heap.size) va y.attrs ∧ Kids w2 (From n w2.heap.size) vk y.kids) :
    CopyRow w g l (i + 1) (((((w2.setCell ⟨g, i * 5, none⟩ (.string y.kind)).setCell ⟨g, i * 5 + 1, none⟩ (.string y.text)).setCell ⟨g, i * 5 + 2, none⟩ vm).setCell ⟨g, i * 5 + 3, none⟩ va).setCell ⟨g, i * 5 + 4, none⟩ vk) := by
  obtain ⟨⟨cur, hc, hs⟩, hr⟩ := h
  have hi : i < l.length := (List.getElem?_eq_some_iff.1 hy).1
  have h1 := heap_set (o := i * 5) hc (.string y.kind)
  have h2 := heap_set (o := i * 5 + 1) h1 (.string y.text)
  have h3 := heap_set (o := i * 5 + 2) h2 vm
  have h4 := heap_set (o := i * 5 + 3) h3 va
  have h5 := heap_set (o := i * 5 + 4) h4 vk
  have hblk : ∀ b, b ≠ g → (((((w2.setCell ⟨g, i * 5, none⟩ (.string y.kind)).setCell ⟨g, i * 5 + 1, none⟩ (.string y.text)).setCell ⟨g, i * 5 + 2, none⟩ vm).setCell ⟨g, i * 5 + 3, none⟩ va).setCell ⟨g, i * 5 + 4, none⟩ vk).heap[b]? = w2.heap[b]? := fun b hb => by
    rw [Below.heap_setCell _ _ _ _ hb, Below.heap_setCell _ _ _ _ hb, Below.heap_setCell _ _ _ _ hb, Below.heap_setCell _ _ _ _ hb, Below.heap_setCell _ _ _ _ hb]
  have hsz : (((((w2.setCell ⟨g, i * 5, none⟩ (.string y.kind)).setCell ⟨g, i * 5 + 1, none⟩ (.string y.text)).setCell ⟨g, i * 5 + 2, none⟩ vm).setCell ⟨g, i * 5 + 3, none⟩ va).setCell ⟨g, i * 5 + 4, none⟩ vk).heap.size = w2.heap.size := by simp [World.setCell]
  generalize ((((w2.setCell ⟨g, i * 5, none⟩ (.string y.kind)).setCell ⟨g, i * 5 + 1, none⟩ (.string y.text)).setCell ⟨g, i * 5 + 2, none⟩ vm).setCell ⟨g, i * 5 + 3, none⟩ va).setCell ⟨g, i * 5 + 4, none⟩ vk = W at *
  refine ⟨⟨_, h5, by simp; omega⟩, fun j x hj => ?_⟩
  have hput := row_put (S := fun j b => if j < i then (w.heap.size + 2 ≤ b ∧ b < w2.heap.size ∧ b ≠ g) else b < w.heap.size) (S' := From n w2.heap.size) hy hr
    (fun j b hb => by
      by_cases hji : j < i
      · simp only [hji, if_true] at hb; exact hb.2.2
      · simp only [hji, if_false] at hb; omega)
    (fun b hb => by have := hb.1; omega) hN.1 hN.2.1 hN.2.2 W hblk (fun o => by
      simp only [World.cell?, h5, hc]
      simp only [Array.getElem?_setIfInBounds, Array.size_setIfInBounds]
      by_cases e0 : o = i * 5
      · subst e0; simp; omega
      · by_cases e1 : o = i * 5 + 1
        · subst e1; simp; omega
        · by_cases e2 : o = i * 5 + 2
          · subst e2; simp; omega
          · by_cases e3 : o = i * 5 + 3
            · subst e3; simp; omega
            · by_cases e4 : o = i * 5 + 4
              · subst e4; simp; omega
              · simp [e0, e1, e2, e3, e4, Ne.symm e0, Ne.symm e1, Ne.symm e2, Ne.symm e3, Ne.symm e4]) j x hj
  refine nodeAt_keep (fun b hb => ?_) (fun _ _ => rfl) x g (j * 5) rfl hput
  by_cases hji : j = i
  · subst hji
    simp only [if_true] at hb
    simp only [Nat.lt_succ_self, if_true, hsz]
    exact ⟨Nat.le_trans hn hb.1, hb.2, by have := hb.1; omega⟩
  · simp only [hji, if_false] at hb
    by_cases hj2 : j < i
    · simp only [hj2, if_true] at hb
      simp only [show j < i + 1 by omega, if_true, hsz]
      exact hb
    · simp only [hj2, if_false] at hb
      simp only [show ¬ j < i + 1 by omega, if_false]
      exact hb

/-- The copies that are made, each in blocks of its own, one behind the other. -/
def RowPart (w : World) (g : Nat) (l : List Tree) (k n : Nat) : Prop := ∃ cur, w.heap[g]? = some (.cells cur 47) ∧ l.length * 5 ≤ cur.size ∧ RowP w (l.take k) (g + 1) n cur 0
theorem RowPart.keep {w w' : World} {g k n n' : Nat} {l : List Tree} (h : RowPart w g l k n) (hg : w'.heap[g]? = w.heap[g]?) (hb : ∀ b, b < n → b ≠ g → w'.heap[b]? = w.heap[b]?) (hn : n ≤ n') : RowPart w' g l k n' := by
  obtain ⟨cur, hc, hs, hr⟩ := h
  exact ⟨cur, hg.trans hc, hs, RowP.keep _ _ _ _ _ _ hn (fun b hb' => hb b hb'.2 (by have := hb'.1; omega)) hr⟩
theorem RowPart.start {w : World} {g n : Nat} {l : List Tree} {cur : Array Value} (hc : w.heap[g]? = some (.cells cur 47)) (hs : l.length * 5 ≤ cur.size) (hg : g < n) : RowPart w g l 0 n :=
  ⟨cur, hc, hs, by rw [List.take_zero, RowP]; omega⟩
theorem rowPart_put {w2 : World} {g i n : Nat} {l : List Tree} {y : Tree} {vm va vk : Value} (h : RowPart w2 g l i n) (hy : l[i]? = some y) (hgn : g < n) (hn : n ≤ w2.heap.size) (hN : NodeP w2 y n w2.heap.size (.agg #[.string y.kind, .string y.text, vm, va, vk])) :
    RowPart (((((w2.setCell ⟨g, i * 5, none⟩ (.string y.kind)).setCell ⟨g, i * 5 + 1, none⟩ (.string y.text)).setCell ⟨g, i * 5 + 2, none⟩ vm).setCell ⟨g, i * 5 + 3, none⟩ va).setCell ⟨g, i * 5 + 4, none⟩ vk) g l (i + 1)
      (((((w2.setCell ⟨g, i * 5, none⟩ (.string y.kind)).setCell ⟨g, i * 5 + 1, none⟩ (.string y.text)).setCell ⟨g, i * 5 + 2, none⟩ vm).setCell ⟨g, i * 5 + 3, none⟩ va).setCell ⟨g, i * 5 + 4, none⟩ vk).heap.size := by
  obtain ⟨cur, hc, hs, hr⟩ := h
  have hi : i < l.length := (List.getElem?_eq_some_iff.1 hy).1
  have h1 := heap_set (o := i * 5) hc (.string y.kind)
  have h2 := heap_set (o := i * 5 + 1) h1 (.string y.text)
  have h3 := heap_set (o := i * 5 + 2) h2 vm
  have h4 := heap_set (o := i * 5 + 3) h3 va
  have h5 := heap_set (o := i * 5 + 4) h4 vk
  have hblk : ∀ b, b ≠ g → (((((w2.setCell ⟨g, i * 5, none⟩ (.string y.kind)).setCell ⟨g, i * 5 + 1, none⟩ (.string y.text)).setCell ⟨g, i * 5 + 2, none⟩ vm).setCell ⟨g, i * 5 + 3, none⟩ va).setCell ⟨g, i * 5 + 4, none⟩ vk).heap[b]? = w2.heap[b]? := fun b hb => by
    rw [Below.heap_setCell _ _ _ _ hb, Below.heap_setCell _ _ _ _ hb, Below.heap_setCell _ _ _ _ hb, Below.heap_setCell _ _ _ _ hb, Below.heap_setCell _ _ _ _ hb]
  have hsz : (((((w2.setCell ⟨g, i * 5, none⟩ (.string y.kind)).setCell ⟨g, i * 5 + 1, none⟩ (.string y.text)).setCell ⟨g, i * 5 + 2, none⟩ vm).setCell ⟨g, i * 5 + 3, none⟩ va).setCell ⟨g, i * 5 + 4, none⟩ vk).heap.size = w2.heap.size := by simp [World.setCell]
  generalize ((((w2.setCell ⟨g, i * 5, none⟩ (.string y.kind)).setCell ⟨g, i * 5 + 1, none⟩ (.string y.text)).setCell ⟨g, i * 5 + 2, none⟩ vm).setCell ⟨g, i * 5 + 3, none⟩ va).setCell ⟨g, i * 5 + 4, none⟩ vk = W at *
  refine ⟨_, h5, by simp; omega, ?_⟩
  have ht : l.take (i + 1) = l.take i ++ [y] := by
    rw [List.take_succ_eq_append_getElem hi]
    rw [(List.getElem?_eq_some_iff.1 hy).2]
  have hlen : (l.take i).length = i := by rw [List.length_take]; omega
  rw [ht, hsz]
  refine RowP.snoc (mid := n) (l.take i) (g + 1) 0 ?_ hn (NodeP.keep y n w2.heap.size n w2.heap.size _ (Nat.le_refl _) (Nat.le_refl _) (fun b hb => hblk b (by have := hb.1; omega)) hN) ⟨_, _, _, _, _, rfl, ?_, ?_, ?_, ?_, ?_⟩
  · refine RowP.cur _ _ _ cur _ _ (fun j _ hj => ?_) (RowP.keep _ _ n n _ _ (Nat.le_refl _) (fun b hb => hblk b (by have := hb.1; omega)) hr)
    rw [hlen] at hj
    rw [Array.getElem?_setIfInBounds_ne (by omega), Array.getElem?_setIfInBounds_ne (by omega), Array.getElem?_setIfInBounds_ne (by omega), Array.getElem?_setIfInBounds_ne (by omega), Array.getElem?_setIfInBounds_ne (by omega)]
  all_goals
    rw [hlen, Nat.zero_add]
    simp only [Array.getElem?_setIfInBounds, Array.size_setIfInBounds]
    simp
    try omega
end Go.Proofs.YtaepolgmojkglaaDoor

namespace Go.Proofs.YtaepolgmojkglaaDoor
open Go.RowKit Go.Sort

set_option maxHeartbeats 2000000 in
theorem withoutEmpty_any (v : Value) (l : List Tree) (S : Nat → Prop) (w : World) (h : Kids w S v l) (hS : ∀ b, S b → b < w.heap.size) (hw : weighAll l ≤ 1000000) :
    Calls Tryd.prog 30 #[v] w (JoinPost w S (l.filter keepB)) := by
  have hlen : l.length ≤ 1000000 := by have := length_le_weigh l; omega
  obtain ⟨A, c, rfl, hlc⟩ := h.form
  have HL := Lib.hid h
  have HS := Lib.hid hS
  clear h hS
  go_enter Tryd.func30, Tryd.ntmps30
  go_wp2
  go_loopw [3, 8] (fun v i wr => ∃ k : Nat, k ≤ l.length ∧ i = .int .i64 k ∧ JoinRel w S ((l.take k).filter keepB) v wr) (fun _ i _ => l.length - (intOf i).toNat)
  case atStart => exact ⟨0, by omega, rfl, own_nil _ _ _, Below.refl _ _⟩
  case round =>
    obtain ⟨i, hi, rfl, hown, hbr⟩ := hrel
    by_cases hlt : i < l.length
    · obtain ⟨b, o, rfl, hub, hrow⟩ := HL.out.get hlt
      have hub := HS.out b hub
      have hlx : l[i]? = some l[i] := List.getElem?_eq_getElem hlt
      have HTK : Hid (l.take (i + 1) = l.take i ++ [l[i]]) := Lib.hid (List.take_succ_eq_append_getElem hlt)
      generalize hx : l[i] = x at *
      obtain ⟨xm, xa, xk, e0, e1, e2, e3, e4, exm, exa, exk⟩ := hrow.node hlx
      have f0 := (hbr.cell (p := ⟨b, o + i * 5, none⟩) hub).trans e0
      have f1 := (hbr.cell (p := ⟨b, o + i * 5 + 1, none⟩) hub).trans e1
      have f2 := (hbr.cell (p := ⟨b, o + i * 5 + 2, none⟩) hub).trans e2
      have f3 := (hbr.cell (p := ⟨b, o + i * 5 + 3, none⟩) hub).trans e3
      have f4 := (hbr.cell (p := ⟨b, o + i * 5 + 4, none⟩) hub).trans e4
      have HXP := Lib.hid (And.intro (exm.stay hbr HS.out) (And.intro (exa.stay hbr HS.out) (exk.stay hbr HS.out)))
      obtain ⟨A1, c1, rfl, _⟩ := exm.form
      obtain ⟨A2, c2, rfl, _⟩ := exa.form
      obtain ⟨A3, c3, rfl, _⟩ := exk.form
      have hjl : ((l.take i).filter keepB).length ≤ i := by have := List.length_filter_le keepB (l.take i); have := List.length_take_le i l; omega
      have HJ : Hid ((l.take (i + 1)).filter keepB = (l.take i).filter keepB ++ [x].filter keepB) := Lib.hid (by rw [HTK.out, List.filter_append])
      generalize (l.take i).filter keepB = out at *
      obtain ⟨Ao, co, rfl, hoc, hao⟩ := hown.form
      have HO := Lib.hid hown
      clear e0 e1 e2 e3 e4 exm exa exk hx hlx hrow hown hao
      have hbl := cell_lt f0
      have key : Hid (∀ W, Below wr.heap.size wr W → _) := Lib.hid fun W hb2 => own_push (W := W) HS.out HO.out hbr hb2 HXP.out.1 HXP.out.2.1 HXP.out.2.2
      go_wp2_with fail
      refine (isText_any _ _ _ _ _ _).mono ?_
      rintro e W2 ⟨rfl, hb2⟩
      obtain ⟨x0, x1, x2, x3, x4, hbw, hzw⟩ := box5 hb2
      clear hb2 f0 f1 f2 f3 f4
      have HLT := Lib.hid (key.out W2 hbw)
      cases hk : isTxt x.kind with
      | false =>
        have HST : Hid ([x].filter keepB = [x]) := Lib.hid (by simp [keepB, hk])
        clear hk
        go_wp2_with (at_builtin; refine wpList_append_nodes rfl (.tmp 20) (.tmp 22) rfl w.heap.size S _ _ out [x] rfl rfl HLT.out.1 HLT.out.2.1 HLT.out.2.2.1 (by simp only [List.length_cons, List.length_nil]; omega) HLT.out.2.2.2.1 ?_; intro v' w3 hown' hg hat; have hB3 := HLT.out.2.2.2.2 w3 hg; clear hg hat)
        exact ⟨⟨i + 1, by omega, by go_num, by rw [HJ.out, HST.out]; exact hown', hB3⟩, by simp [intOf]; omega⟩
      | true =>
        cases ht : x.text.toList.isEmpty with
        | true =>
          have HST : Hid ([x].filter keepB = []) := Lib.hid (by simp [keepB, hk, ht])
          clear hk
          go_wp2
          exact ⟨⟨i + 1, by omega, by go_num, by rw [HJ.out, HST.out, List.append_nil]; exact HO.out.later hbw (fun b hb' => Nat.lt_of_lt_of_le (HS.out b hb') hbr.size), belowNext hbr hbw⟩, by simp [intOf]; omega⟩
        | false =>
          have HST : Hid ([x].filter keepB = [x]) := Lib.hid (by simp [keepB, hk, ht])
          clear hk
          go_wp2_with (at_builtin; refine wpList_append_nodes rfl (.tmp 20) (.tmp 22) rfl w.heap.size S _ _ out [x] rfl rfl HLT.out.1 HLT.out.2.1 HLT.out.2.2.1 (by simp only [List.length_cons, List.length_nil]; omega) HLT.out.2.2.2.1 ?_; intro v' w3 hown' hg hat; have hB3 := HLT.out.2.2.2.2 w3 hg; clear hg hat)
          exact ⟨⟨i + 1, by omega, by go_num, by rw [HJ.out, HST.out]; exact hown', hB3⟩, by simp [intOf]; omega⟩
    · go_wp2
      go_ret
      refine ⟨_, rfl, ?_, hbr⟩
      rw [List.take_of_length_le (by omega)] at hown
      exact hown

theorem set5_os (w : World) (g : Nat) (v0 v1 v2 v3 v4 : Value) : (((((w.setCell ⟨g, 0, none⟩ v0).setCell ⟨g, 1, none⟩ v1).setCell ⟨g, 2, none⟩ v2).setCell ⟨g, 3, none⟩ v3).setCell ⟨g, 4, none⟩ v4).os = w.os ∧
    (((((w.setCell ⟨g, 0, none⟩ v0).setCell ⟨g, 1, none⟩ v1).setCell ⟨g, 2, none⟩ v2).setCell ⟨g, 3, none⟩ v3).setCell ⟨g, 4, none⟩ v4).tape = w.tape ∧
    (((((w.setCell ⟨g, 0, none⟩ v0).setCell ⟨g, 1, none⟩ v1).setCell ⟨g, 2, none⟩ v2).setCell ⟨g, 3, none⟩ v3).setCell ⟨g, 4, none⟩ v4).output = w.output := by
  have h (W : World) (i : Nat) (v : Value) : (W.setCell ⟨g, i, none⟩ v).os = W.os ∧ (W.setCell ⟨g, i, none⟩ v).tape = W.tape ∧ (W.setCell ⟨g, i, none⟩ v).output = W.output := ⟨rfl, rfl, rfl⟩
  refine ⟨?_, ?_, ?_⟩
  · rw [(h _ _ _).1, (h _ _ _).1, (h _ _ _).1, (h _ _ _).1, (h _ _ _).1]
  · rw [(h _ _ _).2.1, (h _ _ _).2.1, (h _ _ _).2.1, (h _ _ _).2.1, (h _ _ _).2.1]
  · rw [(h _ _ _).2.2, (h _ _ _).2.2, (h _ _ _).2.2, (h _ _ _).2.2, (h _ _ _).2.2]
end Go.Proofs.YtaepolgmojkglaaDoor

namespace Go.Proofs.YtaepolgmojkglaaDoor
open Go.RowKit Go.Sort

set_option maxHeartbeats 10000000 in
theorem copy_walk : ∀ t, CopySaid t := by
  intro t
  induction t using Tree.induct_one with
  | h k t m a l ih =>
    have IH := Lib.hid ih
    clear ih
    intro v w p hN hw hp
    have hwt : weigh (.mk k t m a l) = k.size + t.size + weighL m + weighP a + weighAll l + 2 := by simp only [weigh]
    have hml := length_le_weighL m
    have hal := length_le_weighP a
    have hkl := length_le_weigh l
    obtain ⟨vm, va, vk, rfl, hm, ha, hl⟩ := hN
    have HP := Lib.hid hp
    have HM := Lib.hid hm
    have HA := Lib.hid ha
    have HL := Lib.hid hl
    obtain ⟨A1, d1, rfl, _⟩ := hm.form
    obtain ⟨A2, d2, rfl, _⟩ := ha.form
    obtain ⟨A3, d3, rfl, _⟩ := hl.form
    clear hm ha hl hp
    simp only [Tree.kind, Tree.text, Tree.kids, Tree.marks, Tree.attrs] at *
    go_enter Tryd.func60, Tryd.ntmps60
    go_wp2_with fail
    generalize hW2 : (w.alloc _).alloc _ = W2
    obtain ⟨hB, c0, c1', c2, c3, c4, q2, q3, q4⟩ : Below w.heap.size w W2 ∧ W2.cell? ⟨w.heap.size, 0, none⟩ = some (.string k) ∧ W2.cell? ⟨w.heap.size, 1, none⟩ = some (.string t) ∧ W2.cell? ⟨w.heap.size, 2, none⟩ = some (.slice A1 m.length d1) ∧ W2.cell? ⟨w.heap.size, 3, none⟩ = some (.slice A2 a.length d2) ∧
        W2.cell? ⟨w.heap.size, 4, none⟩ = some (.slice A3 l.length d3) ∧ W2.frozen? ⟨w.heap.size, 2, none⟩ = false ∧ W2.frozen? ⟨w.heap.size, 3, none⟩ = false ∧ W2.frozen? ⟨w.heap.size, 4, none⟩ = false := by
      subst hW2
      exact ⟨((Below.refl _ _).alloc (Nat.le_refl _) _).alloc (by simp) _, by simp [go_sem], by simp [go_sem], by simp [go_sem], by simp [go_sem], by simp [go_sem], by simp [go_sem], by simp [go_sem], by simp [go_sem]⟩
    have hr : W2.heap[w.heap.size + 1]? = some (.cells #[.string ⟨#[]⟩, .string ⟨#[]⟩, .slice none 0 0, .slice none 0 0, .slice none 0 0] 47) := by subst hW2; exact heap_new' _ _ (by simp)
    have hzz : W2.heap.size = w.heap.size + 2 := by subst hW2; simp
    have HX := Lib.hid (And.intro hB (And.intro hzz (And.intro hr (And.intro c0 c1'))))
    have hBW := Below.refl W2.heap.size W2
    clear hW2 hr hzz c0 c1'
    go_cut [] (fun wx => CopyMid w k t m a l wx)
    case first =>
      go_region_with (first
      | (go_at_call 61; refine (cloneS_any _ m (Under w.heap.size) _ (by exact (HM.out.below hB).keep (fun _ h => h) (fun _ _ => rfl)) (by omega)).mono ?_; rintro e w5 ⟨v5, rfl, hv5, hb5⟩; obtain ⟨E1, g1, rfl, _⟩ := hv5.form; have HV5 : Hid (StrsP w5 (From W2.heap.size w5.heap.size) (.slice E1 m.length g1) m) := Lib.hid hv5; replace q2 := frozen_kept q2 c2 (by first | exact hb5 | exact undrew hb5); replace q3 := frozen_kept q3 c3 (by first | exact hb5 | exact undrew hb5); replace q4 := frozen_kept q4 c4 (by first | exact hb5 | exact undrew hb5); replace c2 := cell_kept c2 (by first | exact hb5 | exact undrew hb5); replace c3 := cell_kept c3 (by first | exact hb5 | exact undrew hb5); replace c4 := cell_kept c4 (by first | exact hb5 | exact undrew hb5); replace hB := belowNext hB (by first | exact hb5 | exact undrew hb5); replace hBW := belowNext hBW (by first | exact hb5 | exact undrew hb5); clear hv5 hb5)
      | (go_at_call 62; refine (cloneA_any _ a (Under w.heap.size) _ (by exact (HA.out.below hB).keep (fun _ h => h) (fun _ _ => rfl)) (by omega)).mono ?_; rintro e w6 ⟨v6, rfl, hv6, hb6⟩; obtain ⟨E2, g2, rfl, _⟩ := hv6.form; have HV6 : Hid (PairsP w6 (From W2.heap.size w6.heap.size) (.slice E2 a.length g2) a ∧ StrsP w6 (From W2.heap.size w6.heap.size) (.slice E1 m.length g1) m) := Lib.hid ⟨hv6.keep (fun _ h => ⟨Nat.le_trans hBW.size h.1, h.2⟩) (fun _ _ => rfl), HV5.out.keep (fun _ h => ⟨h.1, Nat.lt_of_lt_of_le h.2 hb6.size⟩) (fun b h => hb6.block b h.2)⟩; replace q2 := frozen_kept q2 c2 (by first | exact hb6 | exact undrew hb6); replace q3 := frozen_kept q3 c3 (by first | exact hb6 | exact undrew hb6); replace q4 := frozen_kept q4 c4 (by first | exact hb6 | exact undrew hb6); replace c2 := cell_kept c2 (by first | exact hb6 | exact undrew hb6); replace c3 := cell_kept c3 (by first | exact hb6 | exact undrew hb6); replace c4 := cell_kept c4 (by first | exact hb6 | exact undrew hb6); replace hB := belowNext hB (by first | exact hb6 | exact undrew hb6); replace hBW := belowNext hBW (by first | exact hb6 | exact undrew hb6); clear hv6 hb6)
      | (go_at_call 63; refine (cloneN_any _ l (Under w.heap.size) _ (by exact (HL.out.below hB).keep (fun _ h => h) (fun _ _ => rfl)) (by exact fun _ h => Nat.lt_of_lt_of_le h hB.size) (by omega)).mono ?_; rintro e w7 ⟨v7, rfl, hv7, hb7⟩; obtain ⟨E3, g3, hv7s⟩ := own_form hv7; subst hv7s; have HV7 := Lib.hid (And.intro hv7 (And.intro (HV6.out.1.keep (fun _ h => h) (fun b h => hb7.block b h.2)) (And.intro (HV6.out.2.keep (fun _ h => h) (fun b h => hb7.block b h.2)) (And.intro hBW.size hb7.size)))); replace q2 := frozen_kept q2 c2 (by first | exact hb7 | exact undrew hb7); replace q3 := frozen_kept q3 c3 (by first | exact hb7 | exact undrew hb7); replace q4 := frozen_kept q4 c4 (by first | exact hb7 | exact undrew hb7); replace c2 := cell_kept c2 (by first | exact hb7 | exact undrew hb7); replace c3 := cell_kept c3 (by first | exact hb7 | exact undrew hb7); replace c4 := cell_kept c4 (by first | exact hb7 | exact undrew hb7); replace hB := belowNext hB (by first | exact hb7 | exact undrew hb7); replace hBW := belowNext hBW (by first | exact hb7 | exact undrew hb7); clear hv7 hb7))
      all_goals
        go_wp2_with fail
        go_meet
        exact copyMid_of HX.out.1 HX.out.2.1 hBW HX.out.2.2.1 HX.out.2.2.2.1 HX.out.2.2.2.2 c2 c3 c4 HV7.out.2.2.2.1 HV7.out.2.2.2.2 HV7.out.2.2.1 HV7.out.2.1 HV7.out.1
    case rest =>
      clear hB c2 c3 c4 q2 q3 q4 hBW HX
      obtain ⟨hB, hz2, hr, E1, g1, E2, g2, E3, g3, c0, c1, c2, c3, c4, z, hz, hzw, hsm, hsa, hown⟩ := hcut
      have r0 : wc.cell? ⟨w.heap.size + 1, 0, none⟩ = some (.string ⟨#[]⟩) := by simp only [World.cell?, hr]; rfl
      have HS := Lib.hid (And.intro hsm hsa)
      have HO := Lib.hid hown
      have HR := Lib.hid hr
      clear hsm hsa hown hr
      have HP1 := Lib.hid (cell_kept HP.out hB)
      have hpl := cell_lt HP.out
      have HC := Lib.hid (And.intro c0 (And.intro c1 (And.intro c2 (And.intro c3 c4))))
      rcases Nat.eq_zero_or_pos l.length with h0 | h0
      · have hl0 : l = [] := List.eq_nil_of_length_eq_zero h0
        have hcap : g3 ≤ maxLen := by
          rcases HO.out with ⟨_, h⟩ | ⟨xs, ⟨_, ho⟩, _⟩
          · exact h
          · rcases ho with ⟨h, _⟩ | ⟨g, cap, cur, hv, _, _, _, hcm, _⟩
            · injection h with _ _ h; rw [h]; exact Nat.zero_le _
            · injection hv with _ _ hv; rw [hv]; exact hcm
        subst hl0
        simp only [List.length_nil] at c4 HC
        clear r0 h0 HO HL
        go_wp2
        go_loopw [21] (fun i wr => i = .int .i64 0 ∧ wr = wc) (fun _ _ => 0)
        case atStart => exact ⟨rfl, rfl⟩
        case round =>
          obtain ⟨rfl, rfl⟩ := hrel
          have y0 := HC.out.1
          have y1 := HC.out.2.1
          have y2 := HC.out.2.2.1
          have y3 := HC.out.2.2.2.1
          have y4 := HC.out.2.2.2.2
          have hrr : wr.heap[w.heap.size + 1]? = _ := HR.out
          have p0 : wr.cell? ⟨w.heap.size + 1, 0, none⟩ = some (.string ⟨#[]⟩) := by simp only [World.cell?, hrr]; rfl
          have p1 : wr.cell? ⟨w.heap.size + 1, 1, none⟩ = some (.string ⟨#[]⟩) := by simp only [World.cell?, hrr]; rfl
          have p2 : wr.cell? ⟨w.heap.size + 1, 2, none⟩ = some (.slice none 0 0) := by simp only [World.cell?, hrr]; rfl
          have p3 : wr.cell? ⟨w.heap.size + 1, 3, none⟩ = some (.slice none 0 0) := by simp only [World.cell?, hrr]; rfl
          have p4 : wr.cell? ⟨w.heap.size + 1, 4, none⟩ = some (.slice none 0 0) := by simp only [World.cell?, hrr]; rfl
          have q : ∀ o, wr.frozen? ⟨w.heap.size + 1, o, none⟩ = false := fun o => by simp [World.frozen?, hrr]
          have q0 := q 0
          have q1 := q 1
          have q2 := q 2
          have q3 := q 3
          have q4 := q 4
          obtain ⟨s0, s1, s2, s3, s4, hbl, hzz⟩ := set5 (v0 := .string k) (v1 := .string t) (v2 := .slice E1 m.length g1) (v3 := .slice E2 a.length g2) (v4 := .slice E3 0 g3) p0 p1 p2 p3 p4
          have HBL := Lib.hid hbl
          have HQ := Lib.hid (And.intro s0 (And.intro s1 (And.intro s2 (And.intro s3 s4))))
          have HZ := Lib.hid hzz
          have HZO := Lib.hid (set5_os wr (w.heap.size + 1) (.string k) (.string t) (.slice E1 m.length g1) (.slice E2 a.length g2) (.slice E3 0 g3))
          clear q hbl s0 s1 s2 s3 s4 hzz hrr
          go_wp2
          generalize ((((wr.setCell ⟨w.heap.size + 1, 0, none⟩ (.string k)).setCell ⟨w.heap.size + 1, 1, none⟩ (.string t)).setCell ⟨w.heap.size + 1, 2, none⟩ (.slice E1 m.length g1)).setCell ⟨w.heap.size + 1, 3, none⟩ (.slice E2 a.length g2)).setCell ⟨w.heap.size + 1, 4, none⟩ (.slice E3 0 g3) = W9 at *
          obtain ⟨s0, s1, s2, s3, s4⟩ := HQ.out
          refine bodyPost_ret (v := .agg #[.string k, .string t, .slice E1 m.length g1, .slice E2 a.length g2, .slice E3 0 g3]) (by simp [results, Tryd.results60, go_sem, s0, s1, s2, s3, s4]) rfl ⟨_, rfl, ?_, ?_⟩
          · rw [NodeP]
            exact ⟨_, _, _, g3, rfl, Nat.zero_le _, hcap, z, by omega, by have := HZ.out; omega, HS.out.1.keep (fun b hb => ⟨by have := hb.1; omega, hb.2⟩) (fun b hb => HBL.out b (by have := hb.1; omega)), HS.out.2.keep (fun b hb => ⟨by have := hb.1; omega, hb.2⟩) (fun b hb => HBL.out b (by have := hb.1; omega)), .inl rfl⟩
          · exact ⟨HZO.out.1.trans hB.os, HZO.out.2.1.trans hB.tape, HZO.out.2.2.trans hB.output, by have := HZ.out; have := hB.size; omega, fun b hb => (HBL.out b (by omega)).trans (hB.block b hb)⟩
      · obtain ⟨g, cur, rfl, hcap, hgz, hgh, hcur, hrw⟩ : ∃ g cur, E3 = some ⟨g, 0, none⟩ ∧ (l.length ≤ g3 ∧ g3 ≤ maxLen) ∧ z ≤ g ∧ wc.heap[g]? = some (.cells cur 47) ∧ l.length * 5 ≤ cur.size ∧ RowAt wc (Under w.heap.size) l g 0 := by
          rcases HO.out with ⟨h, _⟩ | ⟨xs, ⟨_, ho⟩, hc⟩
          · subst h; simp at h0
          · rcases ho with ⟨_, hn⟩ | ⟨g, cap, cur, hv, hg, hh, hnc, hcm, hsz, htk⟩
            · omega
            · injection hv with hv _ hcp
              subst hv
              subst hcp
              refine ⟨g, cur, rfl, ⟨hnc, hcm⟩, hg, hh, by rw [hsz]; omega, rowAt_cells hc fun j u hj => ?_⟩
              subst htk
              have hj' : j < l.length * 5 := by
                have := (List.getElem?_eq_some_iff.1 hj).1
                simp at this; omega
              rw [List.getElem?_take_of_lt hj'] at hj
              simp only [World.cell?, hh]
              simpa using hj
        have HRW := Lib.hid (And.intro hgh (And.intro hcur hrw))
        have hgl : g < wc.heap.size := (Array.getElem?_eq_some_iff.1 hgh).1
        clear hgh hcur hrw r0
        go_wp2
        go_loopw [21] (fun i wr => ∃ k : Nat, k ≤ l.length ∧ i = .int .i64 k ∧ Only g wc wr ∧ Hid (CopyRow w g l k wr) ∧ Hid (RowPart wr g l k wr.heap.size)) (fun i _ => l.length - (intOf i).toNat)
        case atStart =>
          refine ⟨0, by omega, rfl, Only.refl _ _, Lib.hid ⟨⟨cur, HRW.out.1, HRW.out.2.1⟩, fun j x hj => ?_⟩, Lib.hid (RowPart.start HRW.out.1 HRW.out.2.1 hgl)⟩
          have h := rowAt_get l g 0 HRW.out.2.2 j x hj
          rw [Nat.zero_add] at h
          exact nodeAt_keep (S := Under w.heap.size) (fun b hb => by simp only [Nat.not_lt_zero, if_false]; exact hb) (fun _ _ => rfl) x g (j * 5) rfl h
        case round =>
          obtain ⟨i, hi, rfl, hor, hrow, hprt⟩ := hrel
          by_cases hlt : i < l.length
          · have hlx : l[i]? = some l[i] := List.getElem?_eq_getElem hlt
            generalize hx : l[i] = x at *
            have HIH := Lib.hid (IH.out x (List.mem_of_getElem? hlx))
            have hwx := weigh_mem (List.mem_of_getElem? hlx)
            have hat := hrow.out.2 i x hlx
            simp only [Nat.lt_irrefl, if_false] at hat
            obtain ⟨xm, xa, xk, f0, f1, f2, f3, f4, exm, exa, exk⟩ := (nodeAt_iff x g (i * 5)).1 hat
            have hos := hor.size
            have HXN : Hid (Node wr (Under wr.heap.size) (.agg #[.string x.kind, .string x.text, xm, xa, xk]) x) := Lib.hid (Node.keep (S := fun b => b < w.heap.size) ⟨_, _, _, rfl, exm, exa, exk⟩ (fun b hb => by unfold Under; omega) (fun _ _ => rfl))
            obtain ⟨A4, c4', rfl, _⟩ := exm.form
            obtain ⟨A5, c5', rfl, _⟩ := exa.form
            obtain ⟨A6, c6', rfl, _⟩ := exk.form
            have hfp : SelfAt wr 60 p := hor.cell HP1.out (by omega)
            have HFP := Lib.hid hfp
            have b4 := hor.cell c4 (by omega)
            have hgr := cell_lt f0
            have hpr := cell_lt hfp
            unfold SelfAt at hfp
            clear exm exa exk hat hx c0 c1 c2 c3 c4
            go_wp2_with fail
            generalize hW5 : wr.alloc _ = W5
            have hBA : Below wr.heap.size wr W5 := by subst hW5; exact (Below.refl _ _).alloc (Nat.le_refl _) _
            have hz5 : W5.heap.size = wr.heap.size + 1 := by subst hW5; simp
            have x0 : W5.cell? ⟨wr.heap.size, 0, none⟩ = some (.string x.kind) := by subst hW5; simp [go_sem]
            have x1 : W5.cell? ⟨wr.heap.size, 1, none⟩ = some (.string x.text) := by subst hW5; simp [go_sem]
            have x2 : W5.cell? ⟨wr.heap.size, 2, none⟩ = some (.slice A4 x.marks.length c4') := by subst hW5; simp [go_sem]
            have x3 : W5.cell? ⟨wr.heap.size, 3, none⟩ = some (.slice A5 x.attrs.length c5') := by subst hW5; simp [go_sem]
            have x4 : W5.cell? ⟨wr.heap.size, 4, none⟩ = some (.slice A6 x.kids.length c6') := by subst hW5; simp [go_sem]
            clear hW5
            replace b4 := cell_kept b4 hBA
            replace hfp := cell_kept hfp hBA
            replace f0 := cell_kept f0 hBA
            replace f1 := cell_kept f1 hBA
            replace f2 := cell_kept f2 hBA
            replace f3 := cell_kept f3 hBA
            replace f4 := cell_kept f4 hBA
            have HR5 := Lib.hid (hrow.out.below (by omega) hBA)
            have HPR5 : Hid (RowPart W5 g l i W5.heap.size) := Lib.hid (hprt.out.keep (hBA.block g hgr) (fun b hb _ => hBA.block b hb) hBA.size)
            have HN5 := Lib.hid ((HXN.out.below hBA).more hBA.size)
            have HF5 : Hid (SelfAt W5 60 p) := Lib.hid hfp
            have q : ∀ o, W5.frozen? ⟨g, o, none⟩ = false := fun o => by obtain ⟨⟨cu, hcu, _⟩, _⟩ := HR5.out; simp [World.frozen?, hcu]
            have q0 := q (i * 5)
            have q1 := q (i * 5 + 1)
            have q2 := q (i * 5 + 2)
            have q3 := q (i * 5 + 3)
            have q4 := q (i * 5 + 4)
            have ho5 := hor.trans (Only.of_below hBA)
            clear q
            go_region_with ((go_at_call 60; refine (HIH.out _ _ p (by exact HN5.out.keep (fun _ h => h) (fun _ _ => rfl)) (by omega) (by exact HF5.out)).mono ?_; rintro e w6 ⟨v6, rfl, hv6, hb6⟩; have HP6 : Hid (NodeP w6 x W5.heap.size w6.heap.size v6) := Lib.hid hv6; obtain ⟨nm, na, nk, rfl, hnm, hna, hnk⟩ := NodeP.node _ _ _ _ hv6; have hb7 := undrew hb6; have HN6 : Hid (Strs w6 (From W5.heap.size w6.heap.size) nm x.marks ∧ Pairs w6 (From W5.heap.size w6.heap.size) na x.attrs ∧ Kids w6 (From W5.heap.size w6.heap.size) nk x.kids) := Lib.hid ⟨hnm, hna, hnk⟩; obtain ⟨B4, e4', rfl, _⟩ := hnm.form; obtain ⟨B5, e5', rfl, _⟩ := hna.form; obtain ⟨B6, e6', rfl, _⟩ := hnk.form; replace q0 := frozen_kept q0 f0 hb7; replace q1 := frozen_kept q1 f1 hb7; replace q2 := frozen_kept q2 f2 hb7; replace q3 := frozen_kept q3 f3 hb7; replace q4 := frozen_kept q4 f4 hb7; replace b4 := cell_kept b4 hb7; replace f0 := cell_kept f0 hb7; replace f1 := cell_kept f1 hb7; replace f2 := cell_kept f2 hb7; replace f3 := cell_kept f3 hb7; replace f4 := cell_kept f4 hb7; clear hnm hna hnk hb6 hv6))
            all_goals go_wp2
            all_goals exact ⟨⟨i + 1, by omega, by go_num, (((((ho5.trans (Only.of_below hb7)).set _ _).set _ _).set _ _).set _ _).set _ _, Lib.hid (copyRow_put (HR5.out.below (by omega) hb7) (by omega) hlx (n := W5.heap.size) (by omega) (by omega) HN6.out), Lib.hid (rowPart_put (HPR5.out.keep ((show Below W5.heap.size W5 w6 from hb7).block g (by omega)) (fun b hb _ => hb7.block b hb) (Nat.le_refl _)) hlx (by omega) hb7.size HP6.out)⟩, by simp [intOf]; omega⟩
          · have y0 := hor.cell HC.out.1 (by omega)
            have y1 := hor.cell HC.out.2.1 (by omega)
            have y2 := hor.cell HC.out.2.2.1 (by omega)
            have y3 := hor.cell HC.out.2.2.2.1 (by omega)
            have y4 := hor.cell HC.out.2.2.2.2 (by omega)
            have hrr : wr.heap[w.heap.size + 1]? = _ := (hor.block (w.heap.size + 1) (by omega) (fun e => by have := Option.some.inj e; omega)).trans HR.out
            have p0 : wr.cell? ⟨w.heap.size + 1, 0, none⟩ = some (.string ⟨#[]⟩) := by simp only [World.cell?, hrr]; rfl
            have p1 : wr.cell? ⟨w.heap.size + 1, 1, none⟩ = some (.string ⟨#[]⟩) := by simp only [World.cell?, hrr]; rfl
            have p2 : wr.cell? ⟨w.heap.size + 1, 2, none⟩ = some (.slice none 0 0) := by simp only [World.cell?, hrr]; rfl
            have p3 : wr.cell? ⟨w.heap.size + 1, 3, none⟩ = some (.slice none 0 0) := by simp only [World.cell?, hrr]; rfl
            have p4 : wr.cell? ⟨w.heap.size + 1, 4, none⟩ = some (.slice none 0 0) := by simp only [World.cell?, hrr]; rfl
            have q : ∀ o, wr.frozen? ⟨w.heap.size + 1, o, none⟩ = false := fun o => by simp [World.frozen?, hrr]
            have q0 := q 0
            have q1 := q 1
            have q2 := q 2
            have q3 := q 3
            have q4 := q 4
            have hos := hor.size
            obtain ⟨s0, s1, s2, s3, s4, hbl, hzz⟩ := set5 (v0 := .string k) (v1 := .string t) (v2 := .slice E1 m.length g1) (v3 := .slice E2 a.length g2) (v4 := .slice (some ⟨g, 0, none⟩) l.length g3) p0 p1 p2 p3 p4
            have HBL := Lib.hid hbl
            have HQ := Lib.hid (And.intro s0 (And.intro s1 (And.intro s2 (And.intro s3 s4))))
            have HZ := Lib.hid hzz
            have HZO := Lib.hid (set5_os wr (w.heap.size + 1) (.string k) (.string t) (.slice E1 m.length g1) (.slice E2 a.length g2) (.slice (some ⟨g, 0, none⟩) l.length g3))
            clear q hbl s0 s1 s2 s3 s4 hzz hrr
            go_wp2
            generalize ((((wr.setCell ⟨w.heap.size + 1, 0, none⟩ (.string k)).setCell ⟨w.heap.size + 1, 1, none⟩ (.string t)).setCell ⟨w.heap.size + 1, 2, none⟩ (.slice E1 m.length g1)).setCell ⟨w.heap.size + 1, 3, none⟩ (.slice E2 a.length g2)).setCell ⟨w.heap.size + 1, 4, none⟩ (.slice (some ⟨g, 0, none⟩) l.length g3) = W9 at *
            obtain ⟨s0, s1, s2, s3, s4⟩ := HQ.out
            have hik : i = l.length := by omega
            refine bodyPost_ret (v := .agg #[.string k, .string t, .slice E1 m.length g1, .slice E2 a.length g2, .slice (some ⟨g, 0, none⟩) l.length g3]) (by simp [results, Tryd.results60, go_sem, s0, s1, s2, s3, s4]) rfl ⟨_, rfl, ?_, ?_⟩
            · subst hik
              obtain ⟨cu, hcu, hcs, hrp⟩ := hprt.out
              rw [List.take_length] at hrp
              rw [NodeP]
              refine ⟨_, _, _, g3, rfl, hcap.1, hcap.2, z, by omega, by have := HZ.out; omega, ?_, ?_, .inr ⟨g, cu, rfl, hgz, by have := HZ.out; omega, (HBL.out g (by omega)).trans hcu, hcs, RowP.keep _ _ _ _ _ _ (by have := HZ.out; omega) (fun b hb => HBL.out b (by have := hb.1; omega)) hrp⟩⟩
              · exact HS.out.1.keep (fun b hb => ⟨by have := hb.1; omega, hb.2⟩) (fun b hb => (HBL.out b (by have := hb.1; omega)).trans (hor.block b (by have := hb.2; omega) (fun e => by have := Option.some.inj e; have := hb.2; omega)))
              · exact HS.out.2.keep (fun b hb => ⟨by have := hb.1; omega, hb.2⟩) (fun b hb => (HBL.out b (by have := hb.1; omega)).trans (hor.block b (by have := hb.2; omega) (fun e => by have := Option.some.inj e; have := hb.2; omega)))
            · exact ⟨HZO.out.1.trans (hor.os.trans hB.os), HZO.out.2.1.trans (hor.tape.trans hB.tape), HZO.out.2.2.trans (hor.output.trans hB.output), by have := HZ.out; have := hB.size; omega, fun b hb => (HBL.out b (by omega)).trans ((hor.block b (by have := hB.size; omega) (fun e => by have := Option.some.inj e; omega)).trans (hB.block b hb))⟩
end Go.Proofs.YtaepolgmojkglaaDoor

namespace Go.Proofs.YtaepolgmojkglaaDoor
open Go.RowKit Go.Sort

set_option maxHeartbeats 2000000 in
theorem copyP_any (v : Value) (t : Tree) (w : World) (h : Node w (Under w.heap.size) v t) (hw : weigh t ≤ 1000000) :
    Calls Tryd.prog 44 #[v] w fun e w' => ∃ v', e = .returned v' ∧ NodeP w' t w.heap.size w'.heap.size v' ∧ Below w.heap.size w w' := by
  have hmf : ∀ (fn : Fn) (first cap : Array Value) (w : World), (Instr.makeFunc fn first cap).run Tryd.prog w = .ok (.func fn first cap) w := fun _ _ _ _ => rfl
  have HN := Lib.hid h
  obtain ⟨vm, va, vk, rfl, hm, ha, hl⟩ := h
  clear hm ha hl
  generalize hW1 : ((w.alloc (.cells #[.string t.kind, .string t.text, vm, va, vk] 47)).alloc (.cells #[.string ⟨#[]⟩, .string ⟨#[]⟩, .slice none 0 0, .slice none 0 0, .slice none 0 0] 47)).alloc (.cells #[.func (.func 60) #[] #[.pointer (some ⟨w.heap.size + 1 + 1, 0, none⟩)]] 81) = W1
  have HB : Hid (Below w.heap.size w W1) := Lib.hid (by subst hW1; exact (((Below.refl _ _).alloc (Nat.le_refl _) _).alloc (by simp) _).alloc (by simp; omega) _)
  have HZ : Hid (W1.heap.size = w.heap.size + 3) := Lib.hid (by subst hW1; simp)
  have HS : Hid (SelfAt W1 60 (w.heap.size + 1 + 1)) := Lib.hid (by subst hW1; simp [SelfAt, go_sem])
  have HR : Hid (W1.heap[w.heap.size + 1]? = some (.cells #[.string ⟨#[]⟩, .string ⟨#[]⟩, .slice none 0 0, .slice none 0 0, .slice none 0 0] 47)) := Lib.hid (by subst hW1; exact heap_old _ _ _ (heap_new' _ _ (by simp)))
  have HW1 := Lib.hid hW1
  clear hW1
  go_enter Tryd.func44, Tryd.ntmps44
  go_wp2_with fail
  rw [HW1.out]
  refine (copy_walk t _ W1 _ ((HN.out.below HB.out).more HB.out.size) hw HS.out).mono ?_
  rintro e w2 ⟨v2, rfl, hn2, hb2⟩
  have HN2 := Lib.hid hn2
  obtain ⟨nm, na, nk, rfl, hnm, hna, hnk⟩ := NodeP.node _ _ _ _ hn2
  obtain ⟨B4, e4', rfl, _⟩ := hnm.form
  obtain ⟨B5, e5', rfl, _⟩ := hna.form
  obtain ⟨B6, e6', rfl, _⟩ := hnk.form
  have HB2 := Lib.hid (belowNext HB.out hb2)
  have hz := HZ.out
  have hrr : w2.heap[w.heap.size + 1]? = _ := (hb2.block _ (by omega)).trans HR.out
  have hzz := hb2.size
  have p0 : w2.cell? ⟨w.heap.size + 1, 0, none⟩ = some (.string ⟨#[]⟩) := by simp only [World.cell?, hrr]; rfl
  have p1 : w2.cell? ⟨w.heap.size + 1, 1, none⟩ = some (.string ⟨#[]⟩) := by simp only [World.cell?, hrr]; rfl
  have p2 : w2.cell? ⟨w.heap.size + 1, 2, none⟩ = some (.slice none 0 0) := by simp only [World.cell?, hrr]; rfl
  have p3 : w2.cell? ⟨w.heap.size + 1, 3, none⟩ = some (.slice none 0 0) := by simp only [World.cell?, hrr]; rfl
  have p4 : w2.cell? ⟨w.heap.size + 1, 4, none⟩ = some (.slice none 0 0) := by simp only [World.cell?, hrr]; rfl
  have q : ∀ o, w2.frozen? ⟨w.heap.size + 1, o, none⟩ = false := fun o => by simp [World.frozen?, hrr]
  have q0 := q 0
  have q1 := q 1
  have q2 := q 2
  have q3 := q 3
  have q4 := q 4
  obtain ⟨s0, s1, s2, s3, s4, hbl, hzs⟩ := set5 (v0 := .string t.kind) (v1 := .string t.text) (v2 := .slice B4 t.marks.length e4') (v3 := .slice B5 t.attrs.length e5') (v4 := .slice B6 t.kids.length e6') p0 p1 p2 p3 p4
  have HBL := Lib.hid hbl
  have HQ := Lib.hid (And.intro s0 (And.intro s1 (And.intro s2 (And.intro s3 s4))))
  have HZS := Lib.hid hzs
  have HZO := Lib.hid (set5_os w2 (w.heap.size + 1) (.string t.kind) (.string t.text) (.slice B4 t.marks.length e4') (.slice B5 t.attrs.length e5') (.slice B6 t.kids.length e6'))
  clear q hbl s0 s1 s2 s3 s4 hzs hrr hb2 hnm hna hnk hz hn2
  go_wp2
  generalize ((((w2.setCell ⟨w.heap.size + 1, 0, none⟩ (.string t.kind)).setCell ⟨w.heap.size + 1, 1, none⟩ (.string t.text)).setCell ⟨w.heap.size + 1, 2, none⟩ (.slice B4 t.marks.length e4')).setCell ⟨w.heap.size + 1, 3, none⟩ (.slice B5 t.attrs.length e5')).setCell ⟨w.heap.size + 1, 4, none⟩ (.slice B6 t.kids.length e6') = W9 at *
  obtain ⟨s0, s1, s2, s3, s4⟩ := HQ.out
  refine bodyPost_ret (v := .agg #[.string t.kind, .string t.text, .slice B4 t.marks.length e4', .slice B5 t.attrs.length e5', .slice B6 t.kids.length e6']) (by simp [results, Tryd.results44, go_sem, s0, s1, s2, s3, s4]) rfl ⟨_, rfl, ?_, ?_⟩
  · exact NodeP.keep _ _ _ _ _ _ (by have := HZ.out; omega) (by have := HZS.out; omega) (fun b hb => HBL.out b (by have := hb.1; have := HZ.out; omega)) HN2.out
  · exact ⟨HZO.out.1.trans HB2.out.os, HZO.out.2.1.trans HB2.out.tape, HZO.out.2.2.trans HB2.out.output, by have := HZS.out; have := HB2.out.size; omega, fun b hb => (HBL.out b (by omega)).trans (HB2.out.block b hb)⟩
theorem copy_any (v : Value) (t : Tree) (w : World) (h : Node w (Under w.heap.size) v t) (hw : weigh t ≤ 1000000) :
    Calls Tryd.prog 44 #[v] w fun e w' => ∃ v', e = .returned v' ∧ Node w' (From w.heap.size w'.heap.size) v' t ∧ Below w.heap.size w w' :=
  (copyP_any v t w h hw).mono fun _ _ ⟨v', he, hn, hb⟩ => ⟨v', he, NodeP.node _ _ _ _ hn, hb⟩
end Go.Proofs.YtaepolgmojkglaaDoor

namespace Go.Proofs.YtaepolgmojkglaaDoor
open Go.RowKit Go.Sort

/-- A builder whose row of bytes lies at g. -/
def BuilAt (w : World) (b g : Nat) (l : List UInt8) : Prop := ∃ p cap cur fz, w.heap[b]? = some (.cells #[p, .slice (some ⟨g, 0, none⟩) l.length cap] 57 (0, 0)) ∧ w.heap[g]? = some (.cells cur 5 fz) ∧ l.length ≤ cap ∧ cap ≤ maxLen ∧ cur.size = cap ∧ cur.toList.take l.length = Lib.byteCells l
theorem BuilAt.below {w w' : World} {b g : Nat} {l : List UInt8} (h : BuilAt w b g l) (hb : Below w.heap.size w w') : BuilAt w' b g l := by
  obtain ⟨p, cap, cur, fz, h1, h2, rest⟩ := h
  exact ⟨p, cap, cur, fz, (hb.block b (Array.getElem?_eq_some_iff.1 h1).1).trans h1, (hb.block g (Array.getElem?_eq_some_iff.1 h2).1).trans h2, rest⟩
theorem Buil.row {w : World} {B b : Nat} {l : List UInt8} (h : Buil w B b l) (h0 : l ≠ []) : ∃ g, B ≤ g ∧ g < w.heap.size ∧ BuilAt w b g l := by
  have key : ∀ p, Lib.BuilderAtF 57 5 B b p (Lib.byteCells l) w → ∃ g, B ≤ g ∧ g < w.heap.size ∧ BuilAt w b g l := fun p hp => by
    obtain ⟨hB, v, hbk, hown, hne⟩ := hp
    rw [Lib.byteCells_length] at hown
    rcases hown.2 with ⟨_, hz⟩ | ⟨g, cap, cur, fz, rfl, hbg, hg, hfz, hnc, hcm, hcs, htk⟩
    · exact absurd (List.eq_nil_of_length_eq_zero hz) h0
    · exact ⟨g, hbg, (Array.getElem?_eq_some_iff.1 hg).1, p, cap, cur, fz, hbk, hg, hnc, hcm, by omega, by rw [Nat.mul_one] at htk; exact htk⟩
  rcases h with h | h
  · exact key _ h
  · exact key _ h

set_option maxHeartbeats 1000000 in
theorem string_at (b g : Nat) (l : List UInt8) (w : World) (h0 : l ≠ []) (h : BuilAt w b g l) :
    Calls Tryd.prog 25 #[.pointer (some ⟨b, 0, none⟩)] w fun e w' => e = .returned (.string ⟨l.toArray⟩) ∧ w' = w.drew.freeze ⟨g, 0, none⟩ l.length := by
  obtain ⟨p, cap, cur, fz, hbk, hg, hlc, hcm, hcs, htk⟩ := h
  have hl0 : l.length ≠ 0 := by simpa using h0
  have c1 : w.drew.cell? ⟨b, 1, none⟩ = some (.slice (some ⟨g, 0, none⟩) l.length cap) := by
    have h : w.drew.heap[b]? = some (.cells #[p, .slice (some ⟨g, 0, none⟩) l.length cap] 57 (0, 0)) := hbk
    simp only [World.cell?, h]; rfl
  have hSD : (Builtin.unsafeSliceData_ #[55] 80 #[.slice (some ⟨g, 0, none⟩) l.length cap]).run Tryd.prog w.drew = .ok (.pointer (some ⟨g, 0, none⟩)) w.drew := Lib.run_unsafeSliceData_row _ _ _ _ _ _ (by omega)
  have hUS : (Builtin.unsafeString_ #[80, 3] 9 #[.pointer (some ⟨g, 0, none⟩), .int .i64 l.length]).run Tryd.prog w.drew = .ok (.string ⟨l.toArray⟩) (w.drew.freeze ⟨g, 0, none⟩ l.length) := by
    have h : w.drew.heap[g]? = some (.cells cur 5 fz) := hg
    refine Lib.run_unsafeString_row w.drew 80 3 9 5 Tryd.underlying80 extraString.cellsByte g cur.size (by simp [World.shape?, h]) l h0 (by omega) (by unfold maxLen at hcm; omega) ?_
    intro j x hx
    have hj := (List.getElem?_eq_some_iff.1 hx).1
    have h1 : (cur.toList.take l.length)[j]? = some (.int .u8 x.toNat) := by rw [htk]; simp [Lib.byteCells, hx]
    rw [List.getElem?_take_of_lt hj] at h1
    rw [add_cell]
    simp only [World.cell?, h]
    simpa using h1
  have HZ := Lib.hid hl0
  have mixed := laysString.mixed
  clear hbk hg hlc hcm hcs htk hl0
  go_enter Tryd.func25, Tryd.ntmps25
  go_wp2
  go_region_o
  all_goals (go_wp2; go_ret; exact ⟨rfl, rfl⟩)

theorem freeze_only (w : World) (g n : Nat) : Only g w (w.drew.freeze ⟨g, 0, none⟩ n) := by
  unfold World.freeze
  split
  · exact ⟨rfl, rfl, rfl, Nat.le_refl _, fun _ _ _ => rfl⟩
  · refine ⟨rfl, rfl, rfl, ?_, fun i hi hn => ?_⟩
    · show w.heap.size ≤ (w.drew.heap.modify g _).size
      rw [Array.size_modify]; exact Nat.le_refl _
    · have hne : i ≠ g := fun e => hn (by rw [e])
      show (w.drew.heap.modify g _)[i]? = _
      rw [Array.getElem?_modify, if_neg (Ne.symm hne)]; rfl

theorem string_only (b g : Nat) (l : List UInt8) (w : World) (h0 : l ≠ []) (h : BuilAt w b g l) :
    Calls Tryd.prog 25 #[.pointer (some ⟨b, 0, none⟩)] w fun e w' => e = .returned (.string ⟨l.toArray⟩) ∧ Only g w w' :=
  (string_at b g l w h0 h).mono fun _ _ ⟨he, hw⟩ => ⟨he, by rw [hw]; exact freeze_only w g _⟩

def OnePost (w : World) (S : Nat → Prop) (l : List Tree) (e : Ending) (w' : World) : Prop := ∃ v', e = .returned v' ∧ Node w' (fun b => S b ∨ From w.heap.size w'.heap.size b) v' (asOneB l) ∧ Below w.heap.size w w'

set_option maxHeartbeats 1000000 in
theorem asOne_one (v : Value) (x : Tree) (S : Nat → Prop) (w : World) (h : Kids w S v [x]) (hS : ∀ b, S b → b < w.heap.size) :
    Calls Tryd.prog 32 #[v] w (OnePost w S [x]) := by
  obtain ⟨A, c, rfl, hlc⟩ := h.form
  obtain ⟨b, o, rfl, hub, hrow⟩ := h.get (k := 0) (by simp)
  have hub := hS b hub
  obtain ⟨xm, xa, xk, e0, e1, e2, e3, e4, exm, exa, exk⟩ := hrow.node (i := 0) (t := x) rfl
  simp only [Nat.zero_mul, Nat.add_zero] at e0 e1 e2 e3 e4
  have HS := Lib.hid hS
  have HXP := Lib.hid (And.intro exm (And.intro exa exk))
  obtain ⟨A1, c1, rfl, _⟩ := exm.form
  obtain ⟨A2, c2, rfl, _⟩ := exa.form
  obtain ⟨A3, c3, rfl, _⟩ := exk.form
  clear exm exa exk hrow h hS
  go_enter Tryd.func32, Tryd.ntmps32
  go_wp2
  generalize hW : (w.alloc _).alloc _ = W
  have hB : Below w.heap.size w W := by subst hW; exact ((Below.refl _ _).alloc (Nat.le_refl _) _).alloc (by simp) _
  refine bodyPost_ret (v := .agg #[.string x.kind, .string x.text, .slice A1 x.marks.length c1, .slice A2 x.attrs.length c2, .slice A3 x.kids.length c3]) (by subst hW; simp [results, Tryd.results32, go_sem]) rfl ⟨_, rfl, ⟨_, _, _, rfl, ?_, ?_, ?_⟩, hB⟩
  · exact HXP.out.1.keep (fun b hb => .inl hb) (fun b hb => hB.block b (HS.out b hb))
  · exact HXP.out.2.1.keep (fun b hb => .inl hb) (fun b hb => hB.block b (HS.out b hb))
  · exact HXP.out.2.2.keep (fun b hb => .inl hb) (fun b hb => hB.block b (HS.out b hb))

set_option maxHeartbeats 2000000 in
theorem asOne_many (v : Value) (l : List Tree) (S : Nat → Prop) (w : World) (h : Kids w S v l) (hS : ∀ b, S b → b < w.heap.size) (h2 : 2 ≤ l.length) (hne : textsB l ≠ []) (hw : weighAll l ≤ 1000000) :
    Calls Tryd.prog 32 #[v] w (OnePost w S l) := by
  have hlen : l.length ≤ 1000000 := by have := length_le_weigh l; omega
  obtain ⟨A, c, rfl, hlc⟩ := h.form
  obtain ⟨b, o, rfl, hub, hrow⟩ := h.get (k := l.length - 1) (by omega)
  have hub := hS b hub
  have hly : l[l.length - 1]? = some (l[l.length - 1]'(by omega)) := List.getElem?_eq_getElem (by omega)
  generalize hy : l[l.length - 1]'(by omega) = y at *
  have HONE : Hid (asOneB l = setText y ⟨(textsB l).toArray⟩) := Lib.hid (asOneB_many l y (by omega) (by rw [List.getLast?_eq_getElem?]; exact hly))
  have hwy := weigh_mem (List.mem_of_getElem? hly)
  obtain ⟨ym, ya, yk, e0, e1, e2, e3, e4, eym, eya, eyk⟩ := hrow.node hly
  have HS := Lib.hid hS
  have HR := Lib.hid hrow
  have HYN : Hid (Node w (Under w.heap.size) (.agg #[.string y.kind, .string y.text, ym, ya, yk]) y) := Lib.hid (Node.keep (S := S) ⟨_, _, _, rfl, eym, eya, eyk⟩ (fun b hb => hS b hb) (fun _ _ => rfl))
  obtain ⟨A1, c1, rfl, _⟩ := eym.form
  obtain ⟨A2, c2, rfl, _⟩ := eya.form
  obtain ⟨A3, c3, rfl, _⟩ := eyk.form
  have HNE := Lib.hid hne
  have g1 : ((l.length : Int) - 1).toNat = l.length - 1 := by omega
  have g2 : ((l.length : Int) == 1) = false := by rw [beq_eq_false_iff_ne]; omega
  clear eym eya eyk hrow h hS hy hly hne
  go_enter Tryd.func32, Tryd.ntmps32
  go_wp2
  generalize hW0 : ((w.alloc _).alloc _).alloc _ = W0
  have HB0 : Hid (Below w.heap.size w W0) := Lib.hid (by subst hW0; exact (((Below.refl _ _).alloc (Nat.le_refl _) _).alloc (by simp) _).alloc (by simp; omega) _)
  have hz0 : W0.heap.size = w.heap.size + 3 := by subst hW0; simp
  have HRES : Hid (W0.heap[w.heap.size]? = some (.cells #[.string ⟨#[]⟩, .string ⟨#[]⟩, .slice none 0 0, .slice none 0 0, .slice none 0 0] 47)) := Lib.hid (by subst hW0; exact heap_old _ _ _ (heap_old _ _ _ (heap_new _ _)))
  have HLST : Hid (W0.heap[w.heap.size + 1]? = some (.cells #[.string y.kind, .string y.text, .slice A1 y.marks.length c1, .slice A2 y.attrs.length c2, .slice A3 y.kids.length c3] 47)) := Lib.hid (by subst hW0; exact heap_old _ _ _ (heap_new' _ _ (by simp)))
  have HI : Hid (Buil W0 (w.heap.size + 2) (w.heap.size + 2) []) := Lib.hid (by
    subst hW0
    have h := Lib.IsBuilderF.of (Lib.fresh_isBuilder 57 5 ((w.alloc (.cells #[.string ⟨#[]⟩, .string ⟨#[]⟩, .slice none 0 0, .slice none 0 0, .slice none 0 0] 47)).alloc (.cells #[.string y.kind, .string y.text, .slice A1 y.marks.length c1, .slice A2 y.attrs.length c2, .slice A3 y.kids.length c3] 47)))
    rw [show ((w.alloc (.cells #[.string ⟨#[]⟩, .string ⟨#[]⟩, .slice none 0 0, .slice none 0 0, .slice none 0 0] 47)).alloc (.cells #[.string y.kind, .string y.text, .slice A1 y.marks.length c1, .slice A2 y.attrs.length c2, .slice A3 y.kids.length c3] 47)).heap.size = w.heap.size + 2 by simp] at h
    exact h)
  have HZ0 := Lib.hid hz0
  clear hW0 hz0 e0 e1 e2 e3 e4
  go_loopw [20] (fun i wr => ∃ k : Nat, k ≤ l.length ∧ i = .int .i64 k ∧ Below (w.heap.size + 2) W0 wr ∧ Hid (Buil wr (w.heap.size + 2) (w.heap.size + 2) (textsB (l.take k)))) (fun i _ => l.length - (intOf i).toNat)
  case atStart => exact ⟨0, by omega, rfl, Below.refl _ _, Lib.hid (by simpa [textsB] using HI.out)⟩
  case round =>
    obtain ⟨i, hi, rfl, hbr, hcr⟩ := hrel
    have hws := hbr.size
    have hz := HZ0.out
    have hbw : Below w.heap.size w wr := HB0.out.trans (hbr.mono (by omega))
    by_cases hlt : i < l.length
    · have hlx : l[i]? = some l[i] := List.getElem?_eq_getElem hlt
      have HTK : Hid (l.take (i + 1) = l.take i ++ [l[i]]) := Lib.hid (List.take_succ_eq_append_getElem hlt)
      generalize hx : l[i] = x at *
      have hwx := weighAll_take_get l i x HTK.out
      obtain ⟨xm, xa, xk, e0, e1, e2, e3, e4, exm, exa, exk⟩ := HR.out.node hlx
      have f0 := (hbw.cell (p := ⟨b, o + i * 5, none⟩) hub).trans e0
      have f1 := (hbw.cell (p := ⟨b, o + i * 5 + 1, none⟩) hub).trans e1
      have f2 := (hbw.cell (p := ⟨b, o + i * 5 + 2, none⟩) hub).trans e2
      have f3 := (hbw.cell (p := ⟨b, o + i * 5 + 3, none⟩) hub).trans e3
      have f4 := (hbw.cell (p := ⟨b, o + i * 5 + 4, none⟩) hub).trans e4
      obtain ⟨A4, c4, rfl, _⟩ := exm.form
      obtain ⟨A5, c5, rfl, _⟩ := exa.form
      obtain ⟨A6, c6, rfl, _⟩ := exk.form
      have hbl := cell_lt f0
      have htl := textsB_le (l.take i)
      have hxt := text_le_weigh x
      clear e0 e1 e2 e3 e4 exm exa exk hx hlx hz
      go_wp2_with fail
      generalize hW2 : wr.alloc _ = W2 at *
      have HA : Hid (Below wr.heap.size wr W2) := Lib.hid (by subst hW2; exact (Below.refl _ _).alloc (Nat.le_refl _) _)
      clear hW2
      refine (write_any (w.heap.size + 2) (w.heap.size + 2) (textsB (l.take i)) x.text W2 (hcr.out.below HA.out) (by omega) (by have := HA.out.size; have := HZ0.out; omega)).mono ?_
      rintro e w2 ⟨rfl, hb2, hB2, _⟩
      have HC := Lib.hid hb2
      have HO := Lib.hid (hbr.trans ((HA.out.mono (by have := HZ0.out; omega)).trans hB2))
      clear hb2 hB2 f0 f1 f2 f3 f4
      go_wp2
      refine ⟨⟨i + 1, by omega, by go_num, HO.out, Lib.hid ?_⟩, by simp [intOf]; omega⟩
      have h := HC.out
      rw [HTK.out, textsB_append, textsB_one]
      exact h
    · have hfull : l.take i = l := List.take_of_length_le (by omega)
      rw [hfull] at hcr
      obtain ⟨g, hg2, hgl, hbat⟩ := hcr.out.row HNE.out
      have HBA := Lib.hid hbat
      have hls : wr.heap[w.heap.size + 1]? = _ := (hbr.block _ (by omega)).trans HLST.out
      have y0 : wr.cell? ⟨w.heap.size + 1, 0, none⟩ = some (.string y.kind) := by simp only [World.cell?, hls]; rfl
      have y1 : wr.cell? ⟨w.heap.size + 1, 1, none⟩ = some (.string y.text) := by simp only [World.cell?, hls]; rfl
      have y2 : wr.cell? ⟨w.heap.size + 1, 2, none⟩ = some (.slice A1 y.marks.length c1) := by simp only [World.cell?, hls]; rfl
      have y3 : wr.cell? ⟨w.heap.size + 1, 3, none⟩ = some (.slice A2 y.attrs.length c2) := by simp only [World.cell?, hls]; rfl
      have y4 : wr.cell? ⟨w.heap.size + 1, 4, none⟩ = some (.slice A3 y.kids.length c3) := by simp only [World.cell?, hls]; rfl
      clear hls hbat hfull hcr
      go_wp2_with fail
      refine (copy_any _ y wr ((HYN.out.below hbw).more hbw.size) (by omega)).mono ?_
      rintro e w5 ⟨v5, rfl, hn5, hb5⟩
      obtain ⟨nm, na, nk, rfl, hnm, hna, hnk⟩ := hn5
      have HN5 := Lib.hid (And.intro hnm (And.intro hna hnk))
      obtain ⟨B4, e4', rfl, _⟩ := hnm.form
      obtain ⟨B5, e5', rfl, _⟩ := hna.form
      obtain ⟨B6, e6', rfl, _⟩ := hnk.form
      have HB5 := Lib.hid hb5
      clear hnm hna hnk y0 y1 y2 y3 y4 hb5
      go_wp2_with fail
      generalize hW6 : w5.alloc _ = W6 at *
      have HA6 : Hid (Below w5.heap.size w5 W6) := Lib.hid (by subst hW6; exact (Below.refl _ _).alloc (Nat.le_refl _) _)
      have HONE6 : Hid (W6.heap[w5.heap.size]? = some (.cells #[.string y.kind, .string y.text, .slice B4 y.marks.length e4', .slice B5 y.attrs.length e5', .slice B6 y.kids.length e6'] 47)) := Lib.hid (by subst hW6; exact heap_new _ _)
      have hz6 : W6.heap.size = w5.heap.size + 1 := by subst hW6; simp
      clear hW6
      have hB6 := belowNext HB5.out HA6.out
      refine (string_only (w.heap.size + 2) g (textsB l) W6 HNE.out (HBA.out.below hB6)).mono ?_
      rintro e w7 ⟨rfl, ho7⟩
      have h5s := HB5.out.size
      have hr7 : w7.heap[w5.heap.size]? = _ := (ho7.block _ (by omega) (fun e => by have := Option.some.inj e; omega)).trans HONE6.out
      have hr0 : w7.heap[w.heap.size]? = _ := (ho7.block _ (by omega) (fun e => by have := Option.some.inj e; omega)).trans ((hB6.block _ (by omega)).trans ((hbr.block _ (by omega)).trans HRES.out))
      have x0 : w7.cell? ⟨w5.heap.size, 0, none⟩ = some (.string y.kind) := by simp only [World.cell?, hr7]; rfl
      have x1 : w7.cell? ⟨w5.heap.size, 1, none⟩ = some (.string y.text) := by simp only [World.cell?, hr7]; rfl
      have x2 : w7.cell? ⟨w5.heap.size, 2, none⟩ = some (.slice B4 y.marks.length e4') := by simp only [World.cell?, hr7]; rfl
      have x3 : w7.cell? ⟨w5.heap.size, 3, none⟩ = some (.slice B5 y.attrs.length e5') := by simp only [World.cell?, hr7]; rfl
      have x4 : w7.cell? ⟨w5.heap.size, 4, none⟩ = some (.slice B6 y.kids.length e6') := by simp only [World.cell?, hr7]; rfl
      have xq : w7.frozen? ⟨w5.heap.size, 1, none⟩ = false := by simp [World.frozen?, hr7]
      have p0 : w7.cell? ⟨w.heap.size, 0, none⟩ = some (.string ⟨#[]⟩) := by simp only [World.cell?, hr0]; rfl
      have p1 : w7.cell? ⟨w.heap.size, 1, none⟩ = some (.string ⟨#[]⟩) := by simp only [World.cell?, hr0]; rfl
      have p2 : w7.cell? ⟨w.heap.size, 2, none⟩ = some (.slice none 0 0) := by simp only [World.cell?, hr0]; rfl
      have p3 : w7.cell? ⟨w.heap.size, 3, none⟩ = some (.slice none 0 0) := by simp only [World.cell?, hr0]; rfl
      have p4 : w7.cell? ⟨w.heap.size, 4, none⟩ = some (.slice none 0 0) := by simp only [World.cell?, hr0]; rfl
      have q : ∀ o, w7.frozen? ⟨w.heap.size, o, none⟩ = false := fun o => by simp [World.frozen?, hr0]
      have q0 := q 0
      have q1 := q 1
      have q2 := q 2
      have q3 := q 3
      have q4 := q 4
      have HO7 := Lib.hid ho7
      have HB6 := Lib.hid hB6
      have hzw5 : w.heap.size < w5.heap.size := by omega
      obtain ⟨_, _, _, blk8, sz8, os8⟩ := set_one (w := w7) (g := w5.heap.size) (o := 1) (v := .string ⟨(textsB l).toArray⟩) x1
      have hn5 : w.heap.size ≠ w5.heap.size := by omega
      have r8 : ∀ j, (w7.setCell ⟨w5.heap.size, 1, none⟩ (.string ⟨(textsB l).toArray⟩)).cell? ⟨w.heap.size, j, none⟩ = w7.cell? ⟨w.heap.size, j, none⟩ := fun j => World.cell?_of_block (a := ⟨w.heap.size, j, none⟩) (blk8 _ hn5)
      obtain ⟨s0, s1, s2, s3, s4, hbl, hzs⟩ := set5 (w := w7.setCell ⟨w5.heap.size, 1, none⟩ (.string ⟨(textsB l).toArray⟩)) (v0 := .string y.kind) (v1 := .string ⟨(textsB l).toArray⟩) (v2 := .slice B4 y.marks.length e4') (v3 := .slice B5 y.attrs.length e5') (v4 := .slice B6 y.kids.length e6') ((r8 0).trans p0) ((r8 1).trans p1) ((r8 2).trans p2) ((r8 3).trans p3) ((r8 4).trans p4)
      have HBL := Lib.hid (fun b (h1 : b ≠ w.heap.size) (h2 : b ≠ w5.heap.size) => (hbl b h1).trans (blk8 b h2))
      have HQ := Lib.hid (And.intro s0 (And.intro s1 (And.intro s2 (And.intro s3 s4))))
      have HZS := Lib.hid (hzs.trans sz8)
      have hzo := set5_os (w7.setCell ⟨w5.heap.size, 1, none⟩ (.string ⟨(textsB l).toArray⟩)) w.heap.size (.string y.kind) (.string ⟨(textsB l).toArray⟩) (.slice B4 y.marks.length e4') (.slice B5 y.attrs.length e5') (.slice B6 y.kids.length e6')
      have HZO := Lib.hid (And.intro (hzo.1.trans os8.1) (And.intro (hzo.2.1.trans os8.2.1) (hzo.2.2.trans os8.2.2)))
      clear hr7 hr0 q ho7 hB6 hbl s0 s1 s2 s3 s4 hzs hzo blk8 sz8 os8 r8 hn5
      go_wp2
      generalize (((((w7.setCell ⟨w5.heap.size, 1, none⟩ (.string ⟨(textsB l).toArray⟩)).setCell ⟨w.heap.size, 0, none⟩ (.string y.kind)).setCell ⟨w.heap.size, 1, none⟩ (.string ⟨(textsB l).toArray⟩)).setCell ⟨w.heap.size, 2, none⟩ (.slice B4 y.marks.length e4')).setCell ⟨w.heap.size, 3, none⟩ (.slice B5 y.attrs.length e5')).setCell ⟨w.heap.size, 4, none⟩ (.slice B6 y.kids.length e6') = W9 at *
      obtain ⟨s0, s1, s2, s3, s4⟩ := HQ.out
      have kb : ∀ b, From wr.heap.size w5.heap.size b → W9.heap[b]? = w5.heap[b]? := fun b hb => by
        have h1 := hb.1
        have h2 := hb.2
        exact (HBL.out b (by omega) (by omega)).trans ((HO7.out.block b (by omega) (fun e => by have := Option.some.inj e; omega)).trans (HA6.out.block b h2))
      have hz7 := HO7.out.size
      have hz9 := HZS.out
      have kf : ∀ b, From wr.heap.size w5.heap.size b → S b ∨ From w.heap.size W9.heap.size b := fun b hb => .inr ⟨by have := hb.1; omega, by have := hb.2; omega⟩
      refine bodyPost_ret (v := .agg #[.string y.kind, .string ⟨(textsB l).toArray⟩, .slice B4 y.marks.length e4', .slice B5 y.attrs.length e5', .slice B6 y.kids.length e6']) (by simp [results, Tryd.results32, go_sem, s0, s1, s2, s3, s4]) rfl ⟨_, rfl, ?_, ?_⟩
      · rw [HONE.out]
        exact ⟨_, _, _, rfl, HN5.out.1.keep kf kb, HN5.out.2.1.keep kf kb, HN5.out.2.2.keep kf kb⟩
      · refine ⟨HZO.out.1.trans (HO7.out.os.trans (HB6.out.os.trans hbw.os)), HZO.out.2.1.trans (HO7.out.tape.trans (HB6.out.tape.trans hbw.tape)), HZO.out.2.2.trans (HO7.out.output.trans (HB6.out.output.trans hbw.output)), by omega, fun b hb => ?_⟩
        exact (HBL.out b (by omega) (by omega)).trans ((HO7.out.block b (by omega) (fun e => by have := Option.some.inj e; omega)).trans ((HB6.out.block b (by omega)).trans (hbw.block b hb)))

theorem asOne_any (v : Value) (l : List Tree) (S : Nat → Prop) (w : World) (h : Kids w S v l) (hS : ∀ b, S b → b < w.heap.size) (h0 : l ≠ []) (hne : l.length ≠ 1 → textsB l ≠ []) (hw : weighAll l ≤ 1000000) :
    Calls Tryd.prog 32 #[v] w (OnePost w S l) := by
  have hp : 0 < l.length := List.length_pos_iff.2 h0
  by_cases h1 : l.length = 1
  · obtain ⟨x, rfl⟩ := List.length_eq_one_iff.1 h1
    exact asOne_one v x S w h hS
  · exact asOne_many v l S w h hS (by omega) (hne h1) hw
end Go.Proofs.YtaepolgmojkglaaDoor

namespace Go.Proofs.YtaepolgmojkglaaDoor
open Go.RowKit Go.Sort

theorem Own.widen {w : World} {base : Nat} {S S' : Nat → Prop} {v : Value} {l : List Tree} (h : Own w base S v l) (hS : ∀ b, S b → S' b) : Own w base S' v l := by
  obtain ⟨xs, ho, hc⟩ := h
  exact ⟨xs, ho, hc.keep hS fun _ _ => rfl⟩
theorem Own.block_ge {w : World} {base : Nat} {S : Nat → Prop} {v : Value} {l : List Tree} (h : Own w base S v l) : ∀ k, v.ownBlock = some k → base ≤ k ∧ k < w.heap.size := fun k hk => by
  obtain ⟨A, c, rfl, _, hA⟩ := h.form
  rcases hA with ⟨rfl, _⟩ | ⟨g, rfl, hg, hl⟩
  · cases hk
  · simp [Value.ownBlock] at hk; omega

theorem Kids.front {w : World} {S : Nat → Prop} {b o n c : Nat} {l : List Tree} (h : Kids w S (.slice (some ⟨b, o, none⟩) n c) l) {k : Nat} (hk : k ≤ l.length) : Kids w S (.slice (some ⟨b, o, none⟩) k c) (l.take k) := by
  obtain ⟨A, c', hv, hlc, hcm, h⟩ := h
  injection hv with hA _ hc
  subst hA; subst hc
  refine ⟨_, c, by rw [List.length_take, Nat.min_eq_left hk], by rw [List.length_take]; omega, hcm, ?_⟩
  rcases h with h | ⟨b', o', hA, hS, hr⟩
  · left; subst h; simp
  · injection hA with hA
    injection hA with h1 h2 _
    subst h1; subst h2
    refine .inr ⟨b, o, rfl, hS, rowAt_of _ b o fun i t hi => ?_⟩
    rw [List.getElem?_take] at hi
    split at hi
    · exact rowAt_get l b o hr i t hi
    · cases hi
theorem Kids.back {w : World} {S : Nat → Prop} {b o n c : Nat} {l : List Tree} (h : Kids w S (.slice (some ⟨b, o, none⟩) n c) l) {k : Nat} (hk : k ≤ l.length) : Kids w S (.slice (some ⟨b, o + k * 5, none⟩) (l.length - k) (c - k)) (l.drop k) := by
  obtain ⟨A, c', hv, hlc, hcm, h⟩ := h
  injection hv with hA _ hc
  subst hA; subst hc
  refine ⟨_, c - k, by rw [List.length_drop], by rw [List.length_drop]; omega, by omega, ?_⟩
  rcases h with h | ⟨b', o', hA, hS, hr⟩
  · left; subst h; simp
  · injection hA with hA
    injection hA with h1 h2 _
    subst h1; subst h2
    refine .inr ⟨b, o + k * 5, rfl, hS, rowAt_of _ b _ fun i t hi => ?_⟩
    rw [List.getElem?_drop] at hi
    have := rowAt_get l b o hr (k + i) t hi
    rw [show o + k * 5 + i * 5 = o + (k + i) * 5 by omega]
    exact this

def NJPost (w : World) (l : List Tree) (e : Ending) (w' : World) : Prop := ∃ v', e = .returned v' ∧ Kids w' (Under w'.heap.size) v' (joinB l) ∧ Below w.heap.size w w'

def NSPost (w : World) (S : Nat → Prop) (l : List Tree) (e : Ending) (w' : World) : Prop := ∃ v', e = .returned v' ∧ Kids w' (fun b => S b ∨ From w.heap.size w'.heap.size b) v' (joinB l) ∧ Below w.heap.size w w'
def sliceLen : Value → Nat | .slice _ n _ => n | _ => 0
/-- Blocks that S lets, or new ones, that are there. -/
def Wide (S : Nat → Prop) (n : Nat) (w : World) : Nat → Prop := fun b => (S b ∨ n ≤ b) ∧ b < w.heap.size
/-- What a round of Join holds. -/
def JoinInv (S0 : Nat → Prop) (n0 : Nat) (W1 : World) (kept : List Tree) (k : Nat) (vj vr : Value) (wr : World) : Prop :=
  (∃ S, Own wr W1.heap.size S vj ((kept.take k).foldl joinStep []) ∧ (∀ b, S b → b < wr.heap.size ∧ some b ≠ vj.ownBlock) ∧ ∀ b, S b → S0 b ∨ n0 ≤ b) ∧ Below W1.heap.size W1 wr ∧ Kids W1 (Wide S0 n0 W1) vr (kept.drop k) ∧
    ∀ z x, ((kept.take k).foldl joinStep []).getLast? = some z → (kept.drop k).head? = some x → alikeB z x = false

theorem join_push {W1 wr W2 w3 : World} {vj : Value} {J : List Tree} {x : Tree} {xm xa xk : Value} {S T : Nat → Prop} (ho : Own wr W1.heap.size S vj J) (hS : ∀ b, S b → b < wr.heap.size ∧ some b ≠ vj.ownBlock) (hT : ∀ b, T b → b < W1.heap.size) (hbr : Below W1.heap.size W1 wr)
    (hb2 : Below wr.heap.size wr W2) (hb3 : Below W2.heap.size W2 w3) (hm : Strs w3 (fun b => T b ∨ From W2.heap.size w3.heap.size b) xm x.marks) (ha : Pairs w3 (fun b => T b ∨ From W2.heap.size w3.heap.size b) xa x.attrs) (hk : Kids w3 (fun b => T b ∨ From W2.heap.size w3.heap.size b) xk x.kids) :
    ∃ S', (∀ b, S' b → S b ∨ T b ∨ W2.heap.size ≤ b) ∧ Own (w3.alloc (.cells #[.string x.kind, .string x.text, xm, xa, xk] 47)) W1.heap.size S' vj J ∧ Src (w3.alloc (.cells #[.string x.kind, .string x.text, xm, xa, xk] 47)) S' (.slice (some ⟨w3.heap.size, 0, none⟩) 1 1) [x] ∧
      (∀ b, S' b → b < (w3.alloc (.cells #[.string x.kind, .string x.text, xm, xa, xk] 47)).heap.size ∧ some b ≠ vj.ownBlock) ∧ W1.heap.size ≤ (w3.alloc (.cells #[.string x.kind, .string x.text, xm, xa, xk] 47)).heap.size ∧
      (∀ (v' : Value) (w' : World), (w3.alloc (.cells #[.string x.kind, .string x.text, xm, xa, xk] 47)).grownBy w' vj.ownBlock → (v'.ownBlock = vj.ownBlock ∨ v'.ownBlock = some (w3.alloc (.cells #[.string x.kind, .string x.text, xm, xa, xk] 47)).heap.size) →
        Below W1.heap.size W1 w' ∧ ∀ b, S' b → b < w'.heap.size ∧ some b ≠ v'.ownBlock) := by
  have hs1 := hbr.size
  have hs2 := hb2.size
  have hs3 := hb3.size
  have hb23 : Below wr.heap.size wr w3 := belowNext hb2 hb3
  obtain ⟨c0, c1, c2, c3, c4, hb4, _⟩ := box5 (w := w3) (Below.refl _ (w3.alloc (.cells #[.string x.kind, .string x.text, xm, xa, xk] 47)))
  have hz : (w3.alloc (.cells #[.string x.kind, .string x.text, xm, xa, xk] 47)).heap.size = w3.heap.size + 1 := by simp
  have hbB : Below wr.heap.size wr (w3.alloc (.cells #[.string x.kind, .string x.text, xm, xa, xk] 47)) := belowNext hb23 hb4
  have hge := ho.block_ge
  generalize w3.alloc (.cells #[.string x.kind, .string x.text, xm, xa, xk] 47) = W4 at *
  have kS : ∀ b, (T b ∨ From W2.heap.size w3.heap.size b) → b < w3.heap.size := fun b hb => by
    rcases hb with hb | hb
    · have := hT b hb; omega
    · exact hb.2
  have kO : ∀ b, (T b ∨ From W2.heap.size w3.heap.size b) → some b ≠ vj.ownBlock := fun b hb e => by
    have h1 := hge b e.symm
    rcases hb with hb | hb
    · have := hT b hb; omega
    · have := hb.1; omega
  refine ⟨fun b => S b ∨ (T b ∨ From W2.heap.size w3.heap.size b), fun b hb => hb.imp (fun h => h) (fun h => h.imp (fun h => h) (fun h => h.1)), (ho.later hbB (fun b hb => (hS b hb).1)).widen (fun b hb => .inl hb), src_one (hm.keep (fun b hb => .inr hb) fun b hb => hb4.block b (kS b hb)) (ha.keep (fun b hb => .inr hb) fun b hb => hb4.block b (kS b hb)) (hk.keep (fun b hb => .inr hb) fun b hb => hb4.block b (kS b hb)) c0 c1 c2 c3 c4, ?_, by omega, ?_⟩
  · rintro b (hb | hb)
    · exact ⟨by have := (hS b hb).1; omega, (hS b hb).2⟩
    · exact ⟨by have := kS b hb; omega, kO b hb⟩
  · intro v' w' hg hv
    have hsz := hg.size
    refine ⟨(hbr.trans (hbB.mono hs1)).grown hg (by omega) (fun k hk => (hge k hk).1), fun b hb => ?_⟩
    have hlt : b < W4.heap.size ∧ some b ≠ vj.ownBlock := by
      rcases hb with hb | hb
      · exact ⟨by have := (hS b hb).1; omega, (hS b hb).2⟩
      · exact ⟨by have := kS b hb; omega, kO b hb⟩
    refine ⟨by omega, ?_⟩
    rcases hv with hv | hv
    · rw [hv]; exact hlt.2
    · rw [hv]; intro e; have := Option.some.inj e; omega

theorem weighAll_filter (p : Tree → Bool) : ∀ l : List Tree, weighAll (l.filter p) ≤ weighAll l
  | [] => by simp
  | x :: l => by
    have := weighAll_filter p l
    rw [List.filter_cons]; split <;> simp only [weighAll] <;> omega
theorem weighAll_dropLe (l : List Tree) (k : Nat) : weighAll (l.drop k) ≤ weighAll l := by
  have := weighAll_append (l.take k) (l.drop k)
  rw [List.take_append_drop] at this; omega
theorem texts_run {r : List Tree} (hr0 : r ≠ []) (hk : ∀ x ∈ r, keepB x = true) : (r.take (runB r)).length ≠ 1 → textsB (r.take (runB r)) ≠ [] := by
  intro hl he
  rcases r with _ | ⟨x, r⟩
  · exact absurd rfl hr0
  · rcases r with _ | ⟨y, r⟩
    · simp [runB] at hl
    · rw [runB] at hl he
      cases ha : alikeB x y with
      | false => simp [ha] at hl
      | true =>
        simp only [alikeB, Bool.and_eq_true] at ha
        have h1 := keepB_text (hk x (by simp)) ha.1
        simp only [alikeB, ha, Bool.and_self, if_true, List.take_succ_cons] at he
        have h2 : textsB (x :: (y :: r).take (runB (y :: r))) = x.text.data.toList ++ textsB ((y :: r).take (runB (y :: r))) := by simp [textsB]
        rw [h2] at he
        have h3 := (List.append_eq_nil_iff.1 he).1
        rw [empty_data.2 h3] at h1
        cases h1

set_option maxHeartbeats 2000000 in
theorem joinS_any (v : Value) (l : List Tree) (S0 : Nat → Prop) (w : World) (h : Kids w S0 v l) (hS0 : ∀ b, S0 b → b < w.heap.size) (hw : weighAll l ≤ 1000000) :
    Calls Tryd.prog 15 #[v] w (NSPost w S0 l) := by
  obtain ⟨A, c, rfl, hlc⟩ := h.form
  have HL := Lib.hid h
  have HS0 := Lib.hid hS0
  have hwk := weighAll_filter keepB l
  have HFIN : Hid ((l.filter keepB).foldl joinStep [] = joinB l) := Lib.hid (join_filter l [])
  have HKP : Hid (∀ x ∈ l.filter keepB, keepB x = true) := Lib.hid (fun x hx => (List.mem_filter.1 hx).2)
  clear h hS0
  go_enter Tryd.func15, Tryd.ntmps15
  go_wp2_with fail
  refine (withoutEmpty_any _ l S0 w HL.out HS0.out hw).mono ?_
  rintro e W1 ⟨v1, rfl, hown1, hb1⟩
  have HK1 := Lib.hid (hown1.kids (S' := Wide S0 w.heap.size W1) (fun b hb => ⟨.inl hb, Nat.lt_of_lt_of_le (HS0.out b hb) hb1.size⟩) (fun g hg => ⟨.inr (hown1.block_ge g hg).1, (hown1.block_ge g hg).2⟩))
  obtain ⟨A1, c1, rfl, hc1, _⟩ := hown1.form
  have HB1 := Lib.hid hb1
  clear hown1 hb1
  generalize l.filter keepB = kept at *
  go_wp2
  go_loopw [3, 4] (fun vj vr wr => ∃ k : Nat, k ≤ kept.length ∧ JoinInv S0 w.heap.size W1 kept k vj vr wr) (fun _ vr _ => sliceLen vr)
  case atStart => exact ⟨0, by omega, ⟨fun _ => False, own_nil _ _ _, fun _ h => h.elim, fun _ h => h.elim⟩, Below.refl _ _, HK1.out, fun z x hz _ => by simp at hz⟩
  case round =>
    obtain ⟨k, hk, ⟨S, hown, hS, hSS⟩, hbr, hkr, hbd⟩ := hrel
    have hdl : (kept.drop k).length = kept.length - k := List.length_drop
    have hwd := weighAll_dropLe kept k
    have hll := length_le_weigh (kept.drop k)
    by_cases hlt : k < kept.length
    · obtain ⟨Ar, cr, rfl, hcr⟩ := hkr.form
      obtain ⟨b, o, rfl, hub, hrow⟩ := hkr.get (k := 0) (by omega)
      have hne : kept.drop k ≠ [] := fun e => by rw [e] at hdl; simp at hdl; omega
      have hrl := runB_le (kept.drop k) hne
      have hrp := runB_pos (kept.drop k)
      have HRUN := Lib.hid (join_run ((kept.take k).foldl joinStep []) (kept.drop k) hne (fun x hx => HKP.out x (List.mem_of_mem_drop hx)) hbd)
      have HTX := Lib.hid (texts_run (r := kept.drop k) hne (fun x hx => HKP.out x (List.mem_of_mem_drop hx)))
      have HNE := Lib.hid hne
      have HKR := Lib.hid hkr
      have HDR : Hid (∀ n, (kept.drop k).drop n = kept.drop (k + n)) := Lib.hid (fun n => List.drop_drop)
      have HTK : Hid (∀ n, kept.take (k + n) = kept.take k ++ (kept.drop k).take n) := Lib.hid (fun n => List.take_add)
      have HOW := Lib.hid (And.intro hown (And.intro hS hSS))
      obtain ⟨Aj, cj, rfl, hjc, _⟩ := hown.form
      generalize hJ : (kept.take k).foldl joinStep [] = J at *
      generalize hR : kept.drop k = R at *
      have HJ := Lib.hid hJ
      have hd1 : R.length ≤ kept.length - k := by omega
      have hd2 : kept.length - k ≤ R.length := by omega
      clear hJ hR hne hkr hrow hown hS hSS hbd hdl
      have hp0 : decide (0 < R.length) = true := by simp; omega
      go_wp2_with fail
      refine (runLength_any _ R wr (HKR.out.keep (fun b hb => Nat.lt_of_lt_of_le hb.2 hbr.size) (fun b hb => hbr.block b hb.2)) HNE.out (by omega)).mono ?_
      rintro e W2 ⟨rfl, hb2⟩
      go_wp2_with fail
      refine (asOne_any _ (R.take (runB R)) (Wide S0 w.heap.size W1) W2 ((HKR.out.keep (S' := Wide S0 w.heap.size W1) (fun _ h => h) (fun b hb => (hb2.block b (Nat.lt_of_lt_of_le hb.2 hbr.size)).trans (hbr.block b hb.2))).front hrl) (fun b hb => Nat.lt_of_lt_of_le hb.2 (Nat.le_trans hbr.size hb2.size)) (fun e => by have h := congrArg List.length e; rw [List.length_take, List.length_nil] at h; omega) HTX.out (by have := weighAll_take R (runB R); omega)).mono ?_
      rintro e w3 ⟨v3, rfl, hn3, hb3⟩
      obtain ⟨HR1, HR2⟩ : Hid ((R.take (runB R)).foldl joinStep J = J ++ [asOneB (R.take (runB R))]) ∧ Hid (∀ x, (R.drop (runB R)).head? = some x → alikeB (asOneB (R.take (runB R))) x = false) := ⟨Lib.hid HRUN.out.1, Lib.hid HRUN.out.2⟩
      generalize asOneB (R.take (runB R)) = x at *
      generalize hrun : runB R = run at *
      obtain ⟨xm, xa, xk, rfl, hxm, hxa, hxk⟩ := hn3
      obtain ⟨S', hSS', HP⟩ := join_push HOW.out.1 HOW.out.2.1 (fun b hb => hb.2) hbr hb2 hb3 hxm hxa hxk
      have HSN : Hid (∀ b, S' b → S0 b ∨ w.heap.size ≤ b) := Lib.hid (fun b hb => by
        rcases hSS' b hb with h | h | h
        · exact HOW.out.2.2 b h
        · exact h.1
        · exact .inr (Nat.le_trans HB1.out.size (Nat.le_trans hbr.size (Nat.le_trans hb2.size h))))
      clear hSS'
      have HP := Lib.hid HP
      obtain ⟨A4, c4, rfl, _⟩ := hxm.form
      obtain ⟨A5, c5, rfl, _⟩ := hxa.form
      obtain ⟨A6, c6, rfl, _⟩ := hxk.form
      have hJl : J.length + 1 ≤ 1000000 := by
        have h1 := joinFold_weigh (kept.take k) []
        have h2 := length_le_weigh ((kept.take k).foldl joinStep [])
        have h3 := weighAll_append (kept.take k) (kept.drop k)
        rw [List.take_append_drop] at h3
        have h4 := HJ.out
        rw [h4] at h2
        rw [h4] at h1
        simp only [weighAll] at h1
        omega
      clear hxm hxa hxk hrun HRUN HTX
      by_cases hrc : run = cr
      · subst hrc
        go_wp2_with (at_builtin; refine wpList_append_nodes rfl (.tmp 13) (.tmp 18) rfl W1.heap.size S' _ _ J [x] rfl rfl HP.out.1 HP.out.2.1 HP.out.2.2.1 (by simp only [List.length_cons, List.length_nil]; omega) HP.out.2.2.2.1 ?_; intro v' w4 hown' hg hat; have hB4 := HP.out.2.2.2.2 v' w4 hg hat; clear hg hat)
        have hfold : (kept.take (k + run)).foldl joinStep [] = J ++ [x] := by rw [HTK.out, List.foldl_append, HJ.out, HR1.out]
        refine ⟨⟨k + run, by omega, ⟨S', by rw [hfold]; exact hown', hB4.2, HSN.out⟩, hB4.1, ?_, fun z x' hz hx' => ?_⟩, by simp [sliceLen]; omega⟩
        · rw [← HDR.out]
          rw [List.drop_of_length_le (by omega)]; exact kids_empty _
        · rw [hfold] at hz
          simp at hz
          rw [← HDR.out] at hx'
          rw [← hz]; exact HR2.out x' hx'
      · have hrc' : run < cr := by omega
        go_wp2_with (at_builtin; refine wpList_append_nodes rfl (.tmp 13) (.tmp 18) rfl W1.heap.size S' _ _ J [x] rfl rfl HP.out.1 HP.out.2.1 HP.out.2.2.1 (by simp only [List.length_cons, List.length_nil]; omega) HP.out.2.2.2.1 ?_; intro v' w4 hown' hg hat; have hB4 := HP.out.2.2.2.2 v' w4 hg hat; clear hg hat)
        have hfold : (kept.take (k + run)).foldl joinStep [] = J ++ [x] := by rw [HTK.out, List.foldl_append, HJ.out, HR1.out]
        refine ⟨⟨k + run, by omega, ⟨S', by rw [hfold]; exact hown', hB4.2, HSN.out⟩, hB4.1, ?_, fun z x' hz hx' => ?_⟩, by simp [sliceLen]; omega⟩
        · rw [← HDR.out]
          exact HKR.out.back hrl
        · rw [hfold] at hz
          simp at hz
          rw [← HDR.out] at hx'
          rw [← hz]; exact HR2.out x' hx'
    · have hkk : k = kept.length := by omega
      subst hkk
      have hr0 : kept.drop kept.length = [] := List.drop_length
      rw [hr0] at hkr hdl
      obtain ⟨Ar, cr, rfl, hcr⟩ := hkr.form
      have HKJ := Lib.hid (hown.kids (S' := fun b => S0 b ∨ From w.heap.size wr.heap.size b) (fun b hb => (hSS b hb).imp (fun h => h) (fun h => ⟨h, (hS b hb).1⟩)) (fun g hg => .inr ⟨Nat.le_trans HB1.out.size (hown.block_ge g hg).1, (hown.block_ge g hg).2⟩))
      obtain ⟨Aj, cj, rfl, hjc, _⟩ := hown.form
      have HBR := Lib.hid hbr
      clear hkr hdl hown hS hSS hbd hr0
      go_wp2
      go_ret
      refine ⟨_, rfl, ?_, belowNext HB1.out HBR.out⟩
      have h := HKJ.out
      rw [List.take_length, HFIN.out] at h
      rw [List.take_length, HFIN.out]
      exact h

theorem join_any (v : Value) (l : List Tree) (w : World) (h : Kids w (Under w.heap.size) v l) (hw : weighAll l ≤ 1000000) :
    Calls Tryd.prog 15 #[v] w (NJPost w l) :=
  (joinS_any v l (Under w.heap.size) w h (fun _ h => h) hw).mono fun _ _ ⟨v', he, hk, hb⟩ => ⟨v', he, hk.keep (fun _ h => h.elim (fun h => Nat.lt_of_lt_of_le h hb.size) (fun h => h.2)) (fun _ _ => rfl), hb⟩
end Go.Proofs.YtaepolgmojkglaaDoor

namespace Go.Proofs.YtaepolgmojkglaaDoor
open Go.RowKit Go.Sort

theorem sameL_refl (l : List ByteArray) : sameL l l = true := by
  simp [sameL]

def SameSaid (n : Nat) : Prop := ∀ (l : List Tree) (va vb : Value) (w : World), weighAll l ≤ n → weighAll l ≤ 1000000 → Kids w (Under w.heap.size) va l → Kids w (Under w.heap.size) vb l →
    Calls Tryd.prog 10 #[va, vb] w fun e w' => e = .returned (.bool true) ∧ Below w.heap.size w w'

set_option maxHeartbeats 2000000 in
theorem same_of (n : Nat) (IH : Hid (SameSaid n)) (t : Tree) (va vb : Value) (w : World) (hn : weighAll t.kids ≤ n) (hw : weigh t ≤ 1000000) (ha : Node w (Under w.heap.size) va t) (hb : Node w (Under w.heap.size) vb t) :
    Calls Tryd.prog 26 #[va, vb] w fun e w' => e = .returned (.bool true) ∧ Below w.heap.size w w' := by
  obtain ⟨am, aa, ak, rfl, ham, haa, hak⟩ := ha
  obtain ⟨bm, ba, bk, rfl, hbm, hba, hbk⟩ := hb
  obtain ⟨A1, c1, rfl, _⟩ := ham.form
  obtain ⟨A2, c2, rfl, _⟩ := haa.form
  obtain ⟨A3, c3, rfl, _⟩ := hak.form
  obtain ⟨B1, e1, rfl, _⟩ := hbm.form
  obtain ⟨B2, e2, rfl, _⟩ := hba.form
  obtain ⟨B3, e3, rfl, _⟩ := hbk.form
  have HM := Lib.hid (And.intro ham hbm)
  have HA := Lib.hid (And.intro haa hba)
  have HK := Lib.hid (And.intro hak hbk)
  clear ham haa hak hbm hba hbk
  generalize hW2 : (w.alloc (.cells #[.string t.kind, .string t.text, .slice A1 t.marks.length c1, .slice A2 t.attrs.length c2, .slice A3 t.kids.length c3] 47)).alloc (.cells #[.string t.kind, .string t.text, .slice B1 t.marks.length e1, .slice B2 t.attrs.length e2, .slice B3 t.kids.length e3] 47) = W2
  obtain ⟨z0, z1, z2, z3, z4, hz, hzz⟩ := box5 (w := w) (T := 47) (v0 := .string t.kind) (v1 := .string t.text) (v2 := .slice A1 t.marks.length c1) (v3 := .slice A2 t.attrs.length c2) (v4 := .slice A3 t.kids.length c3) (Below.refl _ _)
  obtain ⟨y0, y1, y2, y3, y4, hy, hyy⟩ := box5 (w := w.alloc (.cells #[.string t.kind, .string t.text, .slice A1 t.marks.length c1, .slice A2 t.attrs.length c2, .slice A3 t.kids.length c3] 47)) (T := 47) (v0 := .string t.kind) (v1 := .string t.text) (v2 := .slice B1 t.marks.length e1) (v3 := .slice B2 t.attrs.length e2) (v4 := .slice B3 t.kids.length e3) (Below.refl _ _)
  rw [hW2] at y0 y1 y2 y3 y4 hy hyy
  rw [show (w.alloc (.cells #[.string t.kind, .string t.text, .slice A1 t.marks.length c1, .slice A2 t.attrs.length c2, .slice A3 t.kids.length c3] 47)).heap.size = w.heap.size + 1 by simp] at y0 y1 y2 y3 y4 hyy
  replace z0 := cell_kept z0 hy
  replace z1 := cell_kept z1 hy
  replace z2 := cell_kept z2 hy
  replace z3 := cell_kept z3 hy
  replace z4 := cell_kept z4 hy
  have HB2 := Lib.hid (belowNext hz hy)
  have HC := Lib.hid (And.intro (And.intro z0 (And.intro z1 (And.intro z2 (And.intro z3 z4)))) (And.intro y0 (And.intro y1 (And.intro y2 (And.intro y3 y4)))))
  have HW2 := Lib.hid hW2
  clear hW2 z0 z1 z2 z3 z4 y0 y1 y2 y3 y4 hz hzz hy hyy
  have hwm : weighL t.marks + weighP t.attrs + weighAll t.kids ≤ weigh t := by obtain ⟨k, t, m, a, l⟩ := t; simp only [weigh, Tree.marks, Tree.attrs, Tree.kids]; omega
  have hal := length_le_weighP t.attrs
  go_enter Tryd.func26, Tryd.ntmps26
  go_wp2_with fail
  rw [HW2.out]
  refine (sameNames_any _ _ t.marks t.marks _ _ W2 (HM.out.1.below HB2.out) (HM.out.2.below HB2.out) (by omega)).mono ?_
  rintro e w1 ⟨rfl, n1, hn1⟩
  rw [sameL_refl]
  have hb1 : Below W2.heap.size W2 w1 := by subst hn1; exact ⟨rfl, rfl, rfl, Nat.le_refl _, fun _ _ => rfl⟩
  clear hn1
  obtain ⟨⟨z0, z1, z2, z3, z4⟩, y0, y1, y2, y3, y4⟩ := HC.out
  replace z0 := cell_kept z0 hb1
  replace z1 := cell_kept z1 hb1
  replace z2 := cell_kept z2 hb1
  replace z3 := cell_kept z3 hb1
  replace z4 := cell_kept z4 hb1
  replace y0 := cell_kept y0 hb1
  replace y1 := cell_kept y1 hb1
  replace y2 := cell_kept y2 hb1
  replace y3 := cell_kept y3 hb1
  replace y4 := cell_kept y4 hb1
  have hB1 := belowNext HB2.out hb1
  have hl1 := cell_lt z0
  have hl2 := cell_lt y0
  clear hb1
  go_wp2
  have HC1 := Lib.hid (And.intro z3 (And.intro z4 (And.intro y3 y4)))
  clear z0 z1 z2 z3 z4 y0 y1 y2 y3 y4
  go_loopw [5] (fun i wr => ∃ k n : Nat, k ≤ t.attrs.length ∧ i = .int .i64 k ∧ wr = w1.drewN n) (fun i _ => t.attrs.length - (intOf i).toNat)
  case atStart => exact ⟨0, 0, by omega, rfl, rfl⟩
  case round =>
    obtain ⟨i, n2, hi, rfl, rfl⟩ := hrel
    obtain ⟨z3, z4, y3, y4⟩ := HC1.out
    by_cases hlt : i < t.attrs.length
    · obtain ⟨b, o, rfl, hub, hcell⟩ := HA.out.1.get hlt
      obtain ⟨b', o', rfl, hub', hcell'⟩ := HA.out.2.get hlt
      have f0 := cell_kept (hcell i hlt).1 hB1
      have f1 := cell_kept (hcell i hlt).2 hB1
      have f2 := cell_kept (hcell' i hlt).1 hB1
      have f3 := cell_kept (hcell' i hlt).2 hB1
      have g1 := cell_lt f0
      have g2 := cell_lt f2
      generalize (pairAt t.attrs i) = pr at *
      clear hcell hcell' z4 y4
      go_wp2
      go_quiet (fail)
      go_wp2
      exact ⟨⟨i + 1, _, by omega, by go_num, rfl⟩, by simp [intOf]; omega⟩
    · go_wp2_with fail
      have HBD : Hid (Below w1.heap.size w1 (w1.drewN n2)) := Lib.hid ⟨rfl, rfl, rfl, Nat.le_refl _, fun _ _ => rfl⟩
      have hB2 := belowNext hB1 HBD.out
      refine (IH.out t.kids _ _ _ hn (by omega) ((HK.out.1.below hB2).more hB2.size) ((HK.out.2.below hB2).more hB2.size)).mono ?_
      rintro e w3 ⟨rfl, hb3⟩
      have hB3 := belowNext hB2 hb3
      clear z3 z4 y3 y4
      go_wp2
      go_ret
      exact ⟨rfl, hB3⟩

set_option maxHeartbeats 2000000 in
theorem sameAll_all : ∀ n, SameSaid n := by
  intro n
  induction n using Nat.strongRecOn with
  | ind n ih =>
    have IH := Lib.hid ih
    clear ih
    intro l va vb w hn hw ha hb
    have hlen : l.length ≤ 1000000 := by have := length_le_weigh l; omega
    have HA := Lib.hid ha
    have HB := Lib.hid hb
    obtain ⟨A, c, rfl, _⟩ := ha.form
    obtain ⟨B, d, rfl, _⟩ := hb.form
    clear ha hb
    go_enter Tryd.func10, Tryd.ntmps10
    go_wp2
    go_loopw [5] (fun i wr => ∃ k : Nat, k ≤ l.length ∧ i = .int .i64 k ∧ Below w.heap.size w wr) (fun i _ => l.length - (intOf i).toNat)
    case atStart => exact ⟨0, by omega, rfl, Below.refl _ _⟩
    case round =>
      obtain ⟨i, hi, rfl, hbr⟩ := hrel
      by_cases hlt : i < l.length
      · obtain ⟨b, o, rfl, hub, hrow⟩ := HA.out.get hlt
        obtain ⟨b', o', rfl, hub', hrow'⟩ := HB.out.get hlt
        have hlx : l[i]? = some l[i] := List.getElem?_eq_getElem hlt
        generalize hx : l[i] = x at *
        have hwx := weigh_mem (List.mem_of_getElem? hlx)
        have hkx := kids_weigh x
        obtain ⟨xm, xa, xk, e0, e1, e2, e3, e4, exm, exa, exk⟩ := hrow.node hlx
        obtain ⟨ym, ya, yk, d0, d1, d2, d3, d4, dxm, dxa, dxk⟩ := hrow'.node hlx
        have HXN : Hid (Node w (Under w.heap.size) (.agg #[.string x.kind, .string x.text, xm, xa, xk]) x) := Lib.hid ⟨_, _, _, rfl, exm, exa, exk⟩
        have HYN : Hid (Node w (Under w.heap.size) (.agg #[.string x.kind, .string x.text, ym, ya, yk]) x) := Lib.hid ⟨_, _, _, rfl, dxm, dxa, dxk⟩
        obtain ⟨A1, c1, rfl, _⟩ := exm.form
        obtain ⟨A2, c2, rfl, _⟩ := exa.form
        obtain ⟨A3, c3, rfl, _⟩ := exk.form
        obtain ⟨A4, c4, rfl, _⟩ := dxm.form
        obtain ⟨A5, c5, rfl, _⟩ := dxa.form
        obtain ⟨A6, c6, rfl, _⟩ := dxk.form
        have f0 := cell_kept e0 hbr
        have f1 := cell_kept e1 hbr
        have f2 := cell_kept e2 hbr
        have f3 := cell_kept e3 hbr
        have f4 := cell_kept e4 hbr
        have g0 := cell_kept d0 hbr
        have g1 := cell_kept d1 hbr
        have g2 := cell_kept d2 hbr
        have g3 := cell_kept d3 hbr
        have g4 := cell_kept d4 hbr
        have h1 := cell_lt f0
        have h2 := cell_lt g0
        clear e0 e1 e2 e3 e4 d0 d1 d2 d3 d4 exm exa exk dxm dxa dxk hx hlx hrow hrow'
        have HIH := Lib.hid (IH.out (weighAll x.kids) (by omega))
        have HS := Lib.hid (regrown_any (w := wr) fun W hW => same_of (weighAll x.kids) HIH x _ _ W (Nat.le_refl _) (by omega) ((HXN.out.below (hbr.trans (hW.mono hbr.size))).more (Nat.le_trans hbr.size hW.size)) ((HYN.out.below (hbr.trans (hW.mono hbr.size))).more (Nat.le_trans hbr.size hW.size)))
        have k0 := cell_regrown f0
        have k1 := cell_regrown f1
        have k2 := cell_regrown f2
        have k3 := cell_regrown f3
        have k4 := cell_regrown f4
        have m0 := cell_regrown g0
        have m1 := cell_regrown g1
        have m2 := cell_regrown g2
        have m3 := cell_regrown g3
        have m4 := cell_regrown g4
        go_wp2_with fail
        clear f0 f1 f2 f3 f4 g0 g1 g2 g3 g4
        refine wp_region_quiet_below (by kernel_rfl) (by kernel_rfl) ?_
        repeat (first | go_big_quiet_step (exact HS.out _ _) | quiet_step (exact HS.out _ _))
        refine wpQuiet_nil ?_
        intro _ hw'
        obtain ⟨⟨dq, osq⟩, hw''⟩ := hw'
        subst hw''
        have HQ := Lib.hid (below_regrown wr dq osq)
        clear k0 k1 k2 k3 k4 m0 m1 m2 m3 m4
        go_wp2
        exact ⟨⟨i + 1, by omega, by go_num, belowNext hbr HQ.out⟩, by simp [intOf]; omega⟩
      · go_wp2
        go_ret
        exact ⟨rfl, hbr⟩

theorem sameAll_any (va vb : Value) (l : List Tree) (w : World) (ha : Kids w (Under w.heap.size) va l) (hb : Kids w (Under w.heap.size) vb l) (hw : weighAll l ≤ 1000000) :
    Calls Tryd.prog 10 #[va, vb] w fun e w' => e = .returned (.bool true) ∧ Below w.heap.size w w' :=
  sameAll_all (weighAll l) l va vb w (Nat.le_refl _) hw ha hb
end Go.Proofs.YtaepolgmojkglaaDoor
