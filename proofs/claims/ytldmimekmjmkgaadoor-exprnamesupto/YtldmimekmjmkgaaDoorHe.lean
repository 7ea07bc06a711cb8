/-
  Names: what is told of an expression's names.
-/
import Derived.Test.YtldmimekmjmkgaaDoorHd
import Derived.Test.YtldmimekmjmkgaaDoorShelfN
import Derived.Sort.OwnSorted
import Derived.Sort.Grow
import Derived.Lib.OwnBridge
import Derived.Lib.RowBridge
import Derived.Sort.EveryDepth
namespace Go.Proofs.YtldmimekmjmkgaaDoor
open Go.RowKit Go.Sort Go.Maps Go.WideMaps

/-- The names: each once, in order. -/
def NamesOk (e : Ex) (L : List ByteArray) : Prop := (∀ s, s ∈ L ↔ s ∈ namesE e) ∧ L.Pairwise (fun a b => a.data.toList < b.data.toList)
def NmPost (w : World) (e : Ex) (x : Ending) (w' : World) : Prop := ∃ v L, x = .returned v ∧ SRowE w' w.heap.size v L ∧ Below w.heap.size w w' ∧ NamesOk e L
def bytesL (l : List (List UInt8)) : List ByteArray := l.map fun x => ⟨x.toArray⟩
theorem bytesL_string (l : List (List UInt8)) : (bytesL l).map Value.string = l.map Proofs.encStr := by
  unfold bytesL
  rw [List.map_map]
  rfl
def namesB (e : Ex) : List (List UInt8) := (namesE e).map fun s : ByteArray => s.data.toList
/-- From what the library's contracts leave. -/
theorem names_fin {w w1 : World} {e : Ex} {g cap nn q n : Nat} {os : Array Obj} (hown : w1.ownsRow w.heap.size 9 1 (.slice (some ⟨g, 0, none⟩) n cap) n ((namesB e).map Proofs.encStr)) (hbel : Below w.heap.size w w1) (hbg : w.heap.size ≤ g) (hlen : (namesB e).length = n) :
    NmPost w e (.returned (.slice (some ⟨g, 0, none⟩) (Lib.compact ((namesB e).mergeSort fun x y => decide (x ≤ y))).length cap))
      (putRow Proofs.encStr (Sort.ahead (grow (putRow Proofs.encStr (Sort.ahead w1 nn) g 0 ((namesB e).mergeSort fun x y => decide (x ≤ y)).toArray) os) q) g 0 (Lib.compact ((namesB e).mergeSort fun x y => decide (x ≤ y)) ++ List.replicate (n - (Lib.compact ((namesB e).mergeSort fun x y => decide (x ≤ y))).length) []).toArray) := by
  obtain ⟨hm, hp⟩ := sorted_names (namesB e)
  have hmem : ∀ s : ByteArray, s.data.toList ∈ namesB e ↔ s ∈ namesE e := fun s => by
    unfold namesB
    rw [List.mem_map]
    constructor
    · rintro ⟨t, ht, he⟩; rwa [← bytesE_of he]
    · exact fun h => ⟨s, h, rfl⟩
  generalize namesB e = ss at *
  have hl2 : (ss.mergeSort fun x y => decide (x ≤ y)).length = ss.length := List.length_mergeSort ss
  have hle := Lib.compact_length_le (ss.mergeSort fun x y => decide (x ≤ y))
  subst hlen
  rcases hown.2 with ⟨h0, _⟩ | ⟨g', cap', cur, hv, hbase, hb, h1, h2, h3, h4⟩
  · cases h0
  cases hv
  have hs := ownsRow_sorted (n := nn) (os := os) (ts := ss.mergeSort fun x y => decide (x ≤ y)) hl2 hbase hb h1 h2 h3
  have hc := Lib.ownsRow_putRow (q := q) (k := (Lib.compact (ss.mergeSort fun x y => decide (x ≤ y))).length) (ys := Lib.compact (ss.mergeSort fun x y => decide (x ≤ y)) ++ List.replicate (ss.length - (Lib.compact (ss.mergeSort fun x y => decide (x ≤ y))).length) []) hs (by simp; omega) (by omega)
  rw [List.take_left] at hc
  refine ⟨_, bytesL (Lib.compact (ss.mergeSort fun x y => decide (x ≤ y))), rfl, ?_, Lib.below_putRow (hbel.grown (grownBy_sorted _) hbel.size (fun j hj => by cases hj; exact hbase)) hbg, fun s => ?_, ?_⟩
  · unfold SRowE
    rw [bytesL_string, show (bytesL (Lib.compact (ss.mergeSort fun x y => decide (x ≤ y)))).length = (Lib.compact (ss.mergeSort fun x y => decide (x ≤ y))).length by simp [bytesL]]
    exact hc
  · rw [← hmem, ← hm]
    unfold bytesL
    rw [List.mem_map]
    constructor
    · rintro ⟨t, ht, rfl⟩; exact ht
    · exact fun h => ⟨_, h, rfl⟩
  · unfold bytesL
    rw [List.pairwise_map]
    exact hp

set_option maxRecDepth 100000 in
set_option maxHeartbeats 4000000 in
theorem names_any (e : Ex) (A : Option Addr) (n c : Nat) (w : World) (hl : Exs w (Under w.heap.size) (.slice A n c) e.kids) (hlen : (namesE e).length ≤ 2000000) :
    Calls Tryd.prog 19 #[.agg #[.int .u8 (e.op : Int), .string e.name, .slice A n c]] w (NmPost w e) := by
  have hn1 : (w.alloc (.cells #[.int .u8 (e.op : Int), .string e.name, .slice A n c] 24)).heap[w.heap.size]? = some (.cells #[.int .u8 (e.op : Int), .string e.name, .slice A n c] 24) := heap_new _ _
  have HN1 := Lib.hid hn1
  have HB1 : Hid (Below w.heap.size w (w.alloc (.cells #[.int .u8 (e.op : Int), .string e.name, .slice A n c] 24))) := Lib.hid ((Below.refl _ _).alloc (Nat.le_refl _) _)
  have HA := Lib.hid hl
  have HLN := Lib.hid hlen
  clear hl hn1 hlen
  go_enter Tryd.func19, Tryd.ntmps19
  obtain ⟨d0, d1, d2⟩ := three_cells HN1.out
  have hzl := cell_lt d0
  go_wp2_with fail
  generalize w.alloc (.cells #[.int .u8 (e.op : Int), .string e.name, .slice A n c] 24) = w1 at *
  refine (addNames_walk e A n c w.heap.size w.heap.size (.slice none 0 0) [] w1 (HA.out.keep (fun _ h => h) fun b hb => HB1.out.block b hb) (Nat.le_refl _) HB1.out.size (World.ownsRow_nil _ _ _ _) (by simpa using HLN.out)).mono ?_
  rintro x w2 ⟨v, rfl, hr2, hb2⟩
  rw [List.nil_append] at hr2
  have HB2 : Hid (Below w.heap.size w w2) := Lib.hid (HB1.out.trans hb2)
  clear hb2 d0 d1 d2 hzl
  by_cases hv : v = .slice none 0 0
  · subst hv
    have h0 : namesE e = [] := by
      rcases hr2.2 with ⟨_, h⟩ | ⟨g, cap, cur, hv, _⟩
      · exact List.eq_nil_of_length_eq_zero h
      · cases hv
    have H0 := Lib.hid h0
    clear hr2 h0
    have HC1 : Hid (∀ W, Calls Tryd.prog 34 #[.slice none 0 0] W fun x w' => x = .returned (.tuple #[]) ∧ w' = W) := Lib.hid fun W => Any.slices_Sort_string_none Tryd.laysSort none 0 W
    have HC2 : Hid (∀ W, Calls Tryd.prog 35 #[.slice none 0 0] W fun x w' => x = .returned (.slice none 0 0) ∧ w' = W) := Lib.hid fun W => Any.slices_Compact_string_empty Tryd.laysCompact none 0 W
    go_wp2_with fail
    refine (HC1.out _).mono ?_
    rintro x w3 ⟨rfl, rfl⟩
    go_wp2_with fail
    refine (HC2.out _).mono ?_
    rintro x w4 ⟨rfl, rfl⟩
    go_wp2
    go_ret
    exact ⟨_, [], rfl, World.ownsRow_nil _ _ _ _, HB2.out, fun s => by rw [H0.out], List.Pairwise.nil⟩
  · have hr3 : w2.ownsRow w.heap.size 9 1 v (namesE e).length ((namesB e).map Proofs.encStr) := by unfold namesB; rw [Lib.map_encStr]; exact hr2
    obtain ⟨g, cap, rfl, hbg, hgl, hncap, hcm, hlz, hH⟩ := Lib.holds_of_ownsRow hr3 hv
    have HOWN := Lib.hid hr3
    have HLZ := Lib.hid hlz
    have HH := Lib.hid hH
    have hN : (namesE e).length ≤ 2000000 := HLN.out
    generalize hNe : (namesE e).length = N at *
    have HNE := Lib.hid hNe
    have HFIN := Lib.hid (fun nn os q => names_fin (nn := nn) (os := os) (q := q) HOWN.out HB2.out hbg HLZ.out)
    generalize namesB e = ss at *
    have HS : Hid (Calls Tryd.prog 34 #[.slice (some ⟨g, 0, none⟩) N cap] w2 fun x w' => x = .returned (.tuple #[]) ∧ ∃ nn os, w' = grow (putRow Proofs.encStr (Sort.ahead w2 nn) g 0 (ss.mergeSort fun x y => decide (x ≤ y)).toArray) os) := Lib.hid (by
      have h := calls_of_every_depth fun D => AnyS.slices_Sort_string_alone Tryd.laysSort D g 0 cap ss w2 HH.out hgl (by rw [HLZ.out]; omega)
      rw [HLZ.out] at h
      exact h)
    have HC : Hid (∀ nn os, Calls Tryd.prog 35 #[.slice (some ⟨g, 0, none⟩) N cap] (grow (putRow Proofs.encStr (Sort.ahead w2 nn) g 0 (ss.mergeSort fun x y => decide (x ≤ y)).toArray) os) fun x w' => x = .returned (.slice (some ⟨g, 0, none⟩) (Lib.compact (ss.mergeSort fun x y => decide (x ≤ y))).length cap) ∧ ∃ q, w' = putRow Proofs.encStr (Sort.ahead (grow (putRow Proofs.encStr (Sort.ahead w2 nn) g 0 (ss.mergeSort fun x y => decide (x ≤ y)).toArray) os) q) g 0 (Lib.compact (ss.mergeSort fun x y => decide (x ≤ y)) ++ List.replicate (N - (Lib.compact (ss.mergeSort fun x y => decide (x ≤ y))).length) []).toArray) := Lib.hid (fun nn os => by
      have hl2 : (ss.mergeSort fun x y => decide (x ≤ y)).length = N := by rw [List.length_mergeSort]; exact HLZ.out
      have hH2 : Holds Proofs.encStr (grow (putRow Proofs.encStr (Sort.ahead w2 nn) g 0 (ss.mergeSort fun x y => decide (x ≤ y)).toArray) os) g 0 (ss.mergeSort fun x y => decide (x ≤ y)).toArray :=
        holds_grow Proofs.encStr _ os g 0 _ (by simpa [putRow, mapBlock, Sort.ahead] using hgl) (holds_putRow Proofs.encStr _ g 0 _ _ (holds_ahead Proofs.encStr w2 nn g 0 _ HH.out) (by simp))
      have h := Any.slices_Compact_string Tryd.laysCompact g 0 cap (ss.mergeSort fun x y => decide (x ≤ y)) _ hH2 (by omega) (by omega)
      rw [hl2] at h
      exact h)
    clear hr2 hr3 hv hlz hH hNe
    go_wp2_with fail
    refine HS.out.mono ?_
    rintro x w3 ⟨rfl, nn, os, rfl⟩
    go_wp2_with fail
    refine (HC.out nn os).mono ?_
    rintro x w4 ⟨rfl, q, rfl⟩
    go_wp2
    go_ret
    exact HFIN.out nn os q
end Go.Proofs.YtldmimekmjmkgaaDoor
