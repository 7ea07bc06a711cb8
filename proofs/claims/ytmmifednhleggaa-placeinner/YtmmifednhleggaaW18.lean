/-
  What slices.Clone answers at the three kinds of lists of a node, and what node.Copy answers.
-/
import Derived.Test.YtmmifednhleggaaW8
import Derived.Test.YtmmifednhleggaaShelfC
import Derived.Test.YtmmifednhleggaaPar
namespace Go.Proofs.Ytmmifednhleggaa
open Go.RowKit Go.Sort

theorem string_info : (Try.prog.info? 9).map (fun i => (i.zero, i.size, i.bytes)) = some (some (.string ⟨#[]⟩), 1, 16) := by kernel_rfl
theorem attr_info : (Try.prog.info? 67).map (fun i => (i.zero, i.size, i.bytes)) = some (some (.agg #[.string ⟨#[]⟩, .string ⟨#[]⟩]), 2, 32) := by kernel_rfl

/-- append of nothing, to an empty row. -/
theorem append_nothing {t e ty : TypeId} {i : TypeInfo} (ht : Try.prog.underlying t = some (.slice e)) (hi : Try.prog.info? e = some i) (hz : 0 < i.size) (w : World) (g : Nat) (A : Option Addr) (c : Nat) :
    (Builtin.append_ #[t, t] ty #[.slice (some ⟨g, 0, none⟩) 0 0, .slice A 0 c]).run Try.prog w = .ok (.slice (some ⟨g, 0, none⟩) 0 0) w := by
  have hz' : i.size ≠ 0 := by omega
  cases A with
  | none => simp [Builtin.append_, run_underlying ht, sizeOf, typeInfo, hi, Builtin.lenOf, Builtin.firstCells, storeCells]
  | some a => simp [Builtin.append_, run_underlying ht, sizeOf, typeInfo, hi, Builtin.lenOf, Builtin.firstCells, storeCells, loadCells, loadCellsFrom]

set_option maxHeartbeats 1000000 in
theorem cloneS_nothing (A : Option Addr) (c : Nat) (w : World) :
    Calls Try.prog 40 #[.slice A 0 c] w fun e w' => ∃ A', e = .returned (.slice A' 0 0) ∧ Below w.heap.size w w' := by
  obtain ⟨i, hi, hz0, hz1, hz2⟩ := info_parts string_info
  have q : ∀ (w : World) (a : Option Addr) (n c n' c' : Nat), (binOp .eql 27 (.slice a n c) (.slice none n' c')).run Try.prog w = .ok (.bool a.isNone) w := fun w a n c n' c' => Lib.run_eql_slice_nil w _ _ a n c n' c' Try.underlying27
  have hap : ∀ (ty : TypeId) (w : World) (g c : Nat), (Builtin.append_ #[27, 27] ty #[.slice (some ⟨g, 0, none⟩) 0 0, .slice A 0 c]).run Try.prog w = .ok (.slice (some ⟨g, 0, none⟩) 0 0) w := fun ty w g c => append_nothing Try.underlying27 hi (by omega) w g A c
  go_enter Try.func40, Try.ntmps40
  cases A with
  | none =>
    go_wp2
    go_ret
    exact ⟨none, rfl, Below.refl _ _⟩
  | some a =>
    go_wp2
    go_ret
    exact ⟨_, rfl, (Below.refl _ _).alloc (Nat.le_refl _) _⟩

set_option maxHeartbeats 1000000 in
theorem cloneA_nothing (A : Option Addr) (c : Nat) (w : World) :
    Calls Try.prog 41 #[.slice A 0 c] w fun e w' => ∃ A', e = .returned (.slice A' 0 0) ∧ Below w.heap.size w w' := by
  obtain ⟨i, hi, hz0, hz1, hz2⟩ := info_parts attr_info
  have q : ∀ (w : World) (a : Option Addr) (n c n' c' : Nat), (binOp .eql 28 (.slice a n c) (.slice none n' c')).run Try.prog w = .ok (.bool a.isNone) w := fun w a n c n' c' => Lib.run_eql_slice_nil w _ _ a n c n' c' Try.underlying28
  have hap : ∀ (ty : TypeId) (w : World) (g c : Nat), (Builtin.append_ #[28, 28] ty #[.slice (some ⟨g, 0, none⟩) 0 0, .slice A 0 c]).run Try.prog w = .ok (.slice (some ⟨g, 0, none⟩) 0 0) w := fun ty w g c => append_nothing Try.underlying28 hi (by omega) w g A c
  go_enter Try.func41, Try.ntmps41
  cases A with
  | none =>
    go_wp2
    go_ret
    exact ⟨none, rfl, Below.refl _ _⟩
  | some a =>
    go_wp2
    go_ret
    exact ⟨_, rfl, (Below.refl _ _).alloc (Nat.le_refl _) _⟩

set_option maxHeartbeats 1000000 in
theorem cloneN_nothing (A : Option Addr) (c : Nat) (w : World) :
    Calls Try.prog 42 #[.slice A 0 c] w fun e w' => ∃ A', e = .returned (.slice A' 0 0) ∧ Below w.heap.size w w' := by
  obtain ⟨i, hi, hz0, hz1, hz2⟩ := info_parts node_info
  have q : ∀ (w : World) (a : Option Addr) (n c n' c' : Nat), (binOp .eql 29 (.slice a n c) (.slice none n' c')).run Try.prog w = .ok (.bool a.isNone) w := fun w a n c n' c' => Lib.run_eql_slice_nil w _ _ a n c n' c' Try.underlying29
  have hap : ∀ (ty : TypeId) (w : World) (g c : Nat), (Builtin.append_ #[29, 29] ty #[.slice (some ⟨g, 0, none⟩) 0 0, .slice A 0 c]).run Try.prog w = .ok (.slice (some ⟨g, 0, none⟩) 0 0) w := fun ty w g c => append_nothing Try.underlying29 hi (by omega) w g A c
  go_enter Try.func42, Try.ntmps42
  cases A with
  | none =>
    go_wp2
    go_ret
    exact ⟨none, rfl, Below.refl _ _⟩
  | some a =>
    go_wp2
    go_ret
    exact ⟨_, rfl, (Below.refl _ _).alloc (Nat.le_refl _) _⟩

theorem strs_empty {w : World} {S : Nat → Prop} (A : Option Addr) : Strs w S (.slice A 0 0) [] := ⟨A, 0, rfl, Nat.le_refl _, by unfold maxLen; omega, .inl rfl⟩
theorem pairs_empty {w : World} {S : Nat → Prop} (A : Option Addr) : Pairs w S (.slice A 0 0) [] := ⟨A, 0, rfl, Nat.le_refl _, by unfold maxLen; omega, .inl rfl⟩
theorem kids_empty {w : World} {S : Nat → Prop} (A : Option Addr) : Kids w S (.slice A 0 0) [] := ⟨A, 0, rfl, Nat.le_refl _, by unfold maxLen; omega, .inl rfl⟩

theorem cloneS_any (v : Value) (l : List ByteArray) (S : Nat → Prop) (w : World) (h : Strs w S v l) (hw : l.length ≤ 1000000) :
    Calls Try.prog 40 #[v] w fun e w' => ∃ v', e = .returned v' ∧ StrsP w' (From w.heap.size w'.heap.size) v' l ∧ Below w.heap.size w w' := by
  obtain ⟨A, c, rfl, hc, hm, hA⟩ := h
  rcases hA with rfl | ⟨b, o, rfl, hb, hx⟩
  · refine (cloneS_nothing A c w).mono ?_
    rintro e w' ⟨A', rfl, hb⟩
    exact ⟨_, rfl, ⟨strs_empty A', .inl rfl⟩, hb⟩
  · obtain ⟨i, hi, hz0, hz1, hz2⟩ := info_parts string_info
    refine (AnyE.slices_Clone Try.laysCloneS i _ 1 16 hi hz0 hz1 hz2 rfl (by omega) Try.sizeOf9 b o l.length c (l.map Value.string) w (by simp) (by omega) (by omega) (fun j u hj => ?_) (fun u hu => ?_)).mono ?_
    · rw [List.getElem?_map] at hj
      obtain ⟨s, hs, rfl⟩ := Option.map_eq_some_iff.1 hj
      exact hx j s hs
    · obtain ⟨s, _, rfl⟩ := List.mem_map.1 hu; rfl
    · rintro e w' ⟨v', rfl, ⟨_, ho⟩, _, hb'⟩
      refine ⟨v', rfl, ?_, hb'⟩
      rcases ho with ⟨rfl, hn⟩ | ⟨g, cap, cur, rfl, hge, hg, hnc, hcm, hsz, htk⟩
      · have : l = [] := List.eq_nil_of_length_eq_zero hn
        subst this; exact ⟨strs_empty none, .inl rfl⟩
      · refine ⟨⟨_, cap, rfl, hnc, hcm, .inr ⟨g, 0, rfl, ⟨hge, (Array.getElem?_eq_some_iff.1 hg).1⟩, fun j s hj => ?_⟩⟩, .inr ⟨g, 0, _, _, cur, _, rfl, hg⟩⟩
        have hjl := (List.getElem?_eq_some_iff.1 hj).1
        have h1 : (cur.toList.take (l.length * 1))[j]? = some (.string s) := by rw [htk, List.getElem?_map, hj]; rfl
        rw [List.getElem?_take_of_lt (by omega)] at h1
        simp only [World.cell?, hg]
        simpa using h1

def pairCells : List (ByteArray × ByteArray) → List Value
  | [] => []
  | p :: l => .string p.1 :: .string p.2 :: pairCells l
theorem pairCells_length : ∀ l, (pairCells l).length = l.length * 2
  | [] => rfl
  | p :: l => by simp only [pairCells, List.length_cons, pairCells_length l]; omega
theorem pairCells_one : ∀ l, ∀ u ∈ pairCells l, u.oneCell' = true
  | [], u, h => by cases h
  | p :: l, u, h => by
    simp only [pairCells, List.mem_cons] at h
    rcases h with rfl | rfl | h
    · rfl
    · rfl
    · exact pairCells_one l u h
theorem pairCells_get : ∀ (l : List (ByteArray × ByteArray)) (i : Nat) (p : ByteArray × ByteArray), l[i]? = some p → (pairCells l)[i * 2]? = some (.string p.1) ∧ (pairCells l)[i * 2 + 1]? = some (.string p.2)
  | [], i, p, h => by simp at h
  | q :: l, 0, p, h => by simp at h; subst h; simp [pairCells]
  | q :: l, i + 1, p, h => by
    have := pairCells_get l i p (by simpa using h)
    rw [show (i + 1) * 2 = i * 2 + 1 + 1 by omega]
    simpa [pairCells] using this
theorem pairCells_at {w : World} {b : Nat} : ∀ (l : List (ByteArray × ByteArray)) (o : Nat), (∀ i p, l[i]? = some p → w.cell? ⟨b, o + i * 2, none⟩ = some (.string p.1) ∧ w.cell? ⟨b, o + i * 2 + 1, none⟩ = some (.string p.2)) → ∀ j u, (pairCells l)[j]? = some u → w.cell? ⟨b, o + j, none⟩ = some u
  | [], _, _, j, u, h => by simp [pairCells] at h
  | p :: l, o, hx, j, u, h => by
    have h0 := hx 0 p (by simp)
    match j, h with
    | 0, h => simp [pairCells] at h; subst h; simpa using h0.1
    | 1, h => simp [pairCells] at h; subst h; simpa using h0.2
    | j + 2, h =>
      have := pairCells_at l (o + 2) (fun i q hi => by
        have h := hx (i + 1) q (by simpa using hi)
        rw [show o + (i + 1) * 2 = o + 2 + i * 2 by omega] at h
        exact h) j u (by simpa [pairCells] using h)
      rw [show o + (j + 2) = o + 2 + j by omega]; exact this

theorem cloneA_any (v : Value) (l : List (ByteArray × ByteArray)) (S : Nat → Prop) (w : World) (h : Pairs w S v l) (hw : l.length ≤ 1000000) :
    Calls Try.prog 41 #[v] w fun e w' => ∃ v', e = .returned v' ∧ PairsP w' (From w.heap.size w'.heap.size) v' l ∧ Below w.heap.size w w' := by
  obtain ⟨A, c, rfl, hc, hm, hA⟩ := h
  rcases hA with rfl | ⟨b, o, rfl, hb, hx⟩
  · refine (cloneA_nothing A c w).mono ?_
    rintro e w' ⟨A', rfl, hb⟩
    exact ⟨_, rfl, ⟨pairs_empty A', .inl rfl⟩, hb⟩
  · obtain ⟨i, hi, hz0, hz1, hz2⟩ := info_parts attr_info
    refine (AnyE.slices_Clone Try.laysCloneA i _ 2 32 hi hz0 hz1 hz2 rfl (by omega) Try.sizeOf67 b o l.length c (pairCells l) w (pairCells_length l) (by omega) (by omega) (pairCells_at l o hx) (pairCells_one l)).mono ?_
    rintro e w' ⟨v', rfl, ⟨_, ho⟩, _, hb'⟩
    refine ⟨v', rfl, ?_, hb'⟩
    rcases ho with ⟨rfl, hn⟩ | ⟨g, cap, cur, rfl, hge, hg, hnc, hcm, hsz, htk⟩
    · have : l = [] := List.eq_nil_of_length_eq_zero hn
      subst this; exact ⟨pairs_empty none, .inl rfl⟩
    · refine ⟨⟨_, cap, rfl, hnc, hcm, .inr ⟨g, 0, rfl, ⟨hge, (Array.getElem?_eq_some_iff.1 hg).1⟩, fun j p hj => ?_⟩⟩, .inr ⟨g, 0, _, _, cur, _, rfl, hg⟩⟩
      have hjl := (List.getElem?_eq_some_iff.1 hj).1
      have h1 := pairCells_get l j p hj
      rw [← htk, List.getElem?_take_of_lt (by omega), List.getElem?_take_of_lt (by omega)] at h1
      simp only [World.cell?, hg]
      simpa using h1

theorem cloneN_any (v : Value) (l : List Tree) (S : Nat → Prop) (w : World) (h : Kids w S v l) (hS : ∀ b, S b → b < w.heap.size) (hw : l.length ≤ 1000000) :
    Calls Try.prog 42 #[v] w fun e w' => ∃ v', e = .returned v' ∧ ((l = [] ∧ ∃ A, v' = .slice A 0 0) ∨ Own w' w.heap.size S v' l) ∧ Below w.heap.size w w' := by
  obtain ⟨A, c, rfl, hc, hm, hA⟩ := h
  rcases hA with rfl | ⟨b, o, rfl, hb, hr⟩
  · refine (cloneN_nothing A c w).mono ?_
    rintro e w' ⟨A', rfl, hb⟩
    exact ⟨_, rfl, .inl ⟨rfl, A', rfl⟩, hb⟩
  · obtain ⟨i, hi, hz0, hz1, hz2⟩ := info_parts node_info
    obtain ⟨xs, hcs, hx⟩ := hr.cells
    refine (AnyE.slices_Clone Try.laysCloneN i _ 5 104 hi hz0 hz1 hz2 rfl (by omega) Try.sizeOf31 b o l.length c xs w hcs.length (by omega) (by omega) hx hcs.oneCell).mono ?_
    rintro e w' ⟨v', rfl, ho, _, hb'⟩
    exact ⟨v', rfl, .inr ⟨xs, ho, hcs.keep (fun _ h => h) fun b hb => hb'.block b (hS b hb)⟩, hb'⟩
end Go.Proofs.Ytmmifednhleggaa
