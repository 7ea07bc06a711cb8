/-
  What slices.Grow answers of nil, and slices.Concat of rows of nodes.
  What With answers: the tree with another node where a path leads, or that there is none.
  A tree with another node where a path leads: what leads where, sizes, and back again (no program is named here).
  What Put answers, where all is well.
  What Cut answers, where all is well.
  The code points of a text, and the text of code points: plain facts, and what both conversions give.
  Nodes parted into code points, and joined again; parts joined and joined again: plain facts.
  Rows that are split, and joined again: plain facts (no program is named here).
  Where a split comes on a tree: positions, paths, and the tree with other kids there (no program is named here).
  What made and doc give is right: plain facts (no program is named here).
-/
import Derived.Test.YtamoklceekeheaaDoorW26
import Derived.Lib.AppendZerosOnto
import Derived.Test.YtamoklceekeheaaDoorPlB
import Derived.Test.YtamoklceekeheaaDoorPlV
import Derived.Test.YtamoklceekeheaaDoorW23
import Derived.Test.YtamoklceekeheaaDoorMA
import Derived.Deep.DrawnRows
import Derived.Test.YtamoklceekeheaaDoorJoinP
import Derived.Laws.Cover4
import Derived.Laws.IdiomStrings
import Derived.Lib.MapLaws
import Derived.Lib.TrimUEq
import Derived.Test.YtamoklceekeheaaDoorW9
import Derived.Test.YtamoklceekeheaaDoorQd
import Derived.Test.YtamoklceekeheaaDoorW13a
import Derived.Test.YtamoklceekeheaaDoorRightA
namespace Go.Proofs.YtamoklceekeheaaDoor
open Go.RowKit Go.Sort

theorem zeroCells_size (cs : Array Value) (k : Nat) : (Builtin.zeroCells cs k).size = k * cs.size := by
  unfold Builtin.zeroCells
  simp
set_option maxHeartbeats 4000000 in
set_option maxRecDepth 100000 in
theorem grow_nil (n : Nat) (S : Nat → Prop) (w : World) (hn : n ≤ 1000000) :
    Calls Tryd.prog 58 #[.slice none 0 0, .int .i64 (n : Int)] w fun e w' => ∃ v, e = .returned v ∧ Own w' w.heap.size S v [] ∧ Below w.heap.size w w' := by
  rcases Nat.eq_zero_or_pos n with h0 | h0
  · subst h0
    go_enter Tryd.func58, Tryd.ntmps58
    go_wp2
    go_ret
    exact ⟨_, rfl, own_nil _ _ _, Below.refl _ _⟩
  · obtain ⟨i, hi, hz0, hz1, hz2⟩ := info_parts node_info
    have hrz : ∀ ty, (Builtin.append_ #[26, 3] ty #[.slice none 0 0, .int .i64 (n : Int)]).run Tryd.prog w = _ := fun ty =>
      Lib.run_append_grow_zeros w 26 3 ty 28 i _ .i64 .i64 Tryd.underlying26 Tryd.underlying3 hi hz0 none 0 0 [] (run_firstCells_none w.drew i.size 0 0 0) n h0 (by omega) (by omega) (by omega) (by rw [hz2]; omega) (by rw [Nat.zero_add]; exact growslice_fits (by omega) (by rw [hz2]; omega))
    simp only [Nat.zero_add] at hrz
    have hge := grownCap_ge w n 0 28
    have hle := grownCap_le_maxLen w n 0 28 (by unfold maxLen; omega)
    generalize grownCap w n 0 28 = G at *
    have hle' := hle
    unfold maxLen at hle'
    have hn1 : ¬ ((n : Int) < 0) := by omega
    have hn2 : (0 : Int) < (n : Int) := by omega
    go_enter Tryd.func58, Tryd.ntmps58
    go_wp2_with (at_builtin; refine Lib.wpList_append_run _ rfl _ _ _ _ rfl _ _ rfl rfl _ _ (hrz _) ?_)
    all_goals
      go_ret
      refine ⟨_, rfl, ⟨[], ⟨rfl, .inr ⟨w.heap.size, G, _, rfl, Nat.le_refl _, by first | exact heap_new _ _ | exact heap_new' _ _ rfl, Nat.zero_le _, hle, ?_, by simp⟩⟩, rfl⟩, by first | exact ((Below.refl _ _).alloc (Nat.le_refl _) _).drew | exact (Below.refl _ _).drew.alloc (Nat.le_refl _) _⟩
      simp only [Array.size_append, zeroCells_size]
      simp
      omega

/-- A row of rows of nodes. -/
def Rows2 (w : World) (S : Nat → Prop) (g : Nat) (L : List (List Tree)) : Prop := ∀ i l, L[i]? = some l → ∃ A c, w.cell? ⟨g, i, none⟩ = some (.slice A l.length c) ∧ Kids w S (.slice A l.length c) l
def lenAll (L : List (List Tree)) : Nat := L.flatten.length
theorem lenAll_take (L : List (List Tree)) {k : Nat} {l : List Tree} (h : L[k]? = some l) : lenAll (L.take (k + 1)) = lenAll (L.take k) + l.length := by
  unfold lenAll
  rw [List.take_add_one, h]
  simp
theorem flat_take (L : List (List Tree)) {k : Nat} {l : List Tree} (h : L[k]? = some l) : (L.take (k + 1)).flatten = (L.take k).flatten ++ l := by
  rw [List.take_add_one, h]
  simp
theorem lenAll_le (L : List (List Tree)) (k : Nat) : lenAll (L.take k) ≤ lenAll L := by
  unfold lenAll
  conv => rhs; rw [← List.take_append_drop k L, List.flatten_append, List.length_append]
  omega

set_option maxHeartbeats 4000000 in
set_option maxRecDepth 100000 in
theorem concat_any (g c : Nat) (L : List (List Tree)) (S : Nat → Prop) (w : World) (h : Rows2 w S g L) (hS : ∀ b, S b → b < w.heap.size) (hg : g < w.heap.size) (hc2 : L.length ≤ 1000) (hn : lenAll L ≤ 1000000) :
    Calls Tryd.prog 32 #[.slice (some ⟨g, 0, none⟩) L.length c] w fun e w' => ∃ v, e = .returned v ∧ Own w' w.heap.size S v L.flatten ∧ Below w.heap.size w w' := by
  have HR := Lib.hid h
  have HS := Lib.hid hS
  have HLT := Lib.hid (lenAll_le L)
  clear h hS
  go_enter Tryd.func32, Tryd.ntmps32
  go_wp2
  go_loopw [3, 11] (fun s i wr => ∃ k : Nat, k ≤ L.length ∧ i = .int .i64 k ∧ s = .int .i64 (lenAll (L.take k) : Nat) ∧ wr = w) (fun _ i _ => L.length - (intOf i).toNat)
  case atStart => exact ⟨0, by omega, rfl, rfl, rfl⟩
  case round =>
    obtain ⟨k, hk, rfl, rfl, hww⟩ := hrel
    obtain rfl : w = wr := hww.symm
    have hlk := HLT.out k
    by_cases hlt : k < L.length
    · have hlx : L[k]? = some L[k] := List.getElem?_eq_getElem hlt
      generalize L[k] = l at *
      obtain ⟨A, c1, hcell, hkd⟩ := HR.out k l hlx
      have HST := Lib.hid (lenAll_take L hlx)
      have hl1 := HLT.out (k + 1)
      have hst := HST.out
      have hpos : ¬ ((lenAll (L.take k) : Int) + (l.length : Int) < 0) := by omega
      generalize lenAll (L.take k) = a at *
      clear hkd hlx
      go_wp2
      exact ⟨⟨k + 1, by omega, by go_num, by rw [HST.out]; go_num, by first | rfl | trivial⟩, by simp [intOf]; omega⟩
    · obtain rfl : k = L.length := by omega
      rw [List.take_length] at hlk
      go_wp2_with fail
      refine (grow_nil (lenAll L) S w hn).mono ?_
      rintro e w1 ⟨v1, rfl, ho1, hb1⟩
      have HO1 := Lib.hid ho1
      have HB1 := Lib.hid hb1
      clear ho1 hb1
      go_wp2
      go_loopw [6, 27] (fun v i wq => ∃ k : Nat, k ≤ L.length ∧ i = .int .i64 k ∧ Hid (Own wq w.heap.size S v (L.take k).flatten) ∧ Below w.heap.size w wq) (fun _ i _ => L.length - (intOf i).toNat)
      case atStart => exact ⟨0, by omega, rfl, Lib.hid (by simpa using HO1.out), HB1.out⟩
      case round =>
        obtain ⟨k, hk, rfl, hown, hbq⟩ := hrel
        by_cases hlt2 : k < L.length
        · have hlx : L[k]? = some L[k] := List.getElem?_eq_getElem hlt2
          generalize L[k] = l at *
          obtain ⟨A, c1, hcell, hkd⟩ := HR.out k l hlx
          have f0 := (hbq.cell (p := ⟨g, k, none⟩) hg).trans hcell
          have HFT := Lib.hid (flat_take L hlx)
          have hl1 : (L.take k).flatten.length + l.length ≤ 1000000 := by have h1 := lenAll_take L hlx; have h2 := HLT.out (k + 1); unfold lenAll at h1 h2 hn; omega
          have HSR := Lib.hid (hkd.keep (w' := wr) (fun _ h => h) (fun b hb => hbq.block b (HS.out b hb))).src
          have hSS : ∀ b, S b → b < wr.heap.size ∧ some b ≠ _ := fun b hb => ⟨Nat.lt_of_lt_of_le (HS.out b hb) hbq.size, fun e => by have := (hown.out.block_ge b e.symm).1; have := HS.out b hb; omega⟩
          have HSS := Lib.hid hSS
          have hbs := hbq.size
          have HBQ := Lib.hid hbq
          have HGE := Lib.hid (fun k hk => (hown.out.block_ge k hk).1)
          generalize (L.take k).flatten = out at *
          obtain ⟨Ao, co, rfl, hoc, hao⟩ := hown.out.form
          clear hkd hlx hcell hSS hbq hao
          go_wp2_with (at_builtin; refine wpList_append_nodes rfl (.tmp 31) (.tmp 32) rfl w.heap.size S _ _ out l rfl rfl hown.out HSR.out HSS.out hl1 hbs ?_; intro v' w3 hown' hgg hat; have hB3 := HBQ.out.grown hgg hbs HGE.out; clear hgg hat)
          exact ⟨⟨k + 1, by omega, by go_num, Lib.hid (by rw [HFT.out]; exact hown'), hB3⟩, by simp [intOf]; omega⟩
        · obtain rfl : k = L.length := by omega
          have HOF : Hid (Own wr w.heap.size S _ L.flatten) := Lib.hid (by have := hown.out; rw [List.take_length] at this; exact this)
          have HBQ := Lib.hid hbq
          clear hbq
          go_wp2
          go_ret
          exact ⟨_, rfl, HOF.out, HBQ.out⟩
end Go.Proofs.YtamoklceekeheaaDoor

namespace Go.Proofs.YtamoklceekeheaaDoor
open Go.RowKit Go.Sort

/-- What With answers. -/
def WithPost (w : World) (t m : Tree) (p : List Int) (e : Ending) (w' : World) : Prop :=
  ∃ A1 n1 c1 A2 n2 c2 A3 c3 u, ∃ n : Int, e = .returned (.tuple #[.agg #[.string u.kind, .string u.text, .slice A1 n1 c1, .slice A2 n2 c2, .slice A3 u.kids.length c3], .int .i64 n]) ∧
    Node w' (From w.heap.size w'.heap.size) (.agg #[.string u.kind, .string u.text, .slice A1 n1 c1, .slice A2 n2 c2, .slice A3 u.kids.length c3]) u ∧
    ((followB t p ≠ none ∧ n = 0 ∧ u = withB t p m) ∨ (followB t p = none ∧ n = 9 ∧ u = .mk ⟨#[]⟩ ⟨#[]⟩ [] [] [])) ∧ Below w.heap.size w w'

set_option maxHeartbeats 8000000 in
set_option maxRecDepth 100000 in
theorem with_any (v vp vm : Value) (t m : Tree) (p : List Int) (w : World) (h : Node w (Under w.heap.size) v t) (hm : Node w (Under w.heap.size) vm m) (hp : Ints w (Under w.heap.size) vp p) (hpr : ∀ x ∈ p, -9223372036854775808 ≤ x ∧ x ≤ 9223372036854775807) (hw : weigh t ≤ 1000000) (hwm : weigh m ≤ 1000000) :
    Calls Tryd.prog 33 #[v, vp, vm] w (WithPost w t m p) := by
  have HP := Lib.hid hp
  have HPR := Lib.hid hpr
  have HN := Lib.hid h
  have HM := Lib.hid hm
  obtain ⟨A1, n1, c1, A2, n2, c2, A3, c3, rfl⟩ := h.forms
  obtain ⟨M1, i1, j1, M2, i2, j2, M3, j3, rfl⟩ := hm.forms
  obtain ⟨Ap, cp, rfl, hpc⟩ := hp.form
  have hpm := hp.len.2.2
  unfold maxLen at hpm
  clear hp hpr h hm
  go_enter Tryd.func33, Tryd.ntmps33
  go_wp2_with fail
  generalize hW1 : ((w.alloc (.cells #[.string t.kind, .string t.text, .slice A1 n1 c1, .slice A2 n2 c2, .slice A3 t.kids.length c3] 28)).alloc (.cells #[.string m.kind, .string m.text, .slice M1 i1 j1, .slice M2 i2 j2, .slice M3 m.kids.length j3] 28)).alloc (.cells #[.string ⟨#[]⟩, .string ⟨#[]⟩, .slice none 0 0, .slice none 0 0, .slice none 0 0] 28) = W1
  have HB0 : Hid (Below w.heap.size w W1) := Lib.hid (by subst hW1; exact (((Below.refl _ _).alloc (Nat.le_refl _) _).alloc (by simp) _).alloc (by simp; omega) _)
  have HC1 : Hid (W1.heap[w.heap.size]? = some (.cells #[.string t.kind, .string t.text, .slice A1 n1 c1, .slice A2 n2 c2, .slice A3 t.kids.length c3] 28) ∧ W1.heap[w.heap.size + 1]? = some (.cells #[.string m.kind, .string m.text, .slice M1 i1 j1, .slice M2 i2 j2, .slice M3 m.kids.length j3] 28) ∧ W1.heap[w.heap.size + 2]? = some (.cells #[.string ⟨#[]⟩, .string ⟨#[]⟩, .slice none 0 0, .slice none 0 0, .slice none 0 0] 28) ∧ W1.heap.size = w.heap.size + 3) := Lib.hid (by
    subst hW1; exact ⟨heap_old _ _ _ (heap_old _ _ _ (heap_new _ _)), heap_old _ _ _ (heap_new' _ _ (by simp)), heap_new' _ _ (by simp), by simp⟩)
  clear hW1
  have HPK : Hid (∀ W, Below w.heap.size w W → Ints W (Under W.heap.size) (.slice Ap p.length cp) p) := Lib.hid fun W hW => HP.out.keep (fun b hb => Nat.lt_of_lt_of_le hb hW.size) (fun b hb => hW.block b hb)
  refine (follow_any _ _ t p W1 ((HN.out.below HB0.out).more HB0.out.size) (HPK.out W1 HB0.out) HPR.out hw).mono ?_
  rintro e w2 ⟨B1, m1, d1, B2, m2, d2, B3, d3, u, b, rfl, hnu, hfol, hb2⟩
  have hz1 := HC1.out.2.2.2
  have hz2 := hb2.size
  have HB2 := Lib.hid (belowNext HB0.out hb2)
  have HF := Lib.hid hfol
  generalize hob : (Obj.cells #[.string u.kind, .string u.text, .slice B1 m1 d1, .slice B2 m2 d2, .slice B3 u.kids.length d3] 28) = ob
  have hb3 : Below w2.heap.size w2 (w2.alloc ob) := (Below.refl _ _).alloc (Nat.le_refl _) _
  have hn3 := (hb3.block w.heap.size (by omega)).trans ((hb2.block w.heap.size (by omega)).trans HC1.out.1)
  have hm3 := (hb3.block (w.heap.size + 1) (by omega)).trans ((hb2.block (w.heap.size + 1) (by omega)).trans HC1.out.2.1)
  have hr3 := (hb3.block (w.heap.size + 2) (by omega)).trans ((hb2.block (w.heap.size + 2) (by omega)).trans HC1.out.2.2.1)
  have HB3 := Lib.hid (belowNext HB2.out hb3)
  have hz3 : (w2.alloc ob).heap.size = w2.heap.size + 1 := by simp
  have HZ3 := Lib.hid hz3
  have HN3 := Lib.hid hn3
  have HM3 := Lib.hid hm3
  have HR3 := Lib.hid hr3
  subst hob
  clear hb2 hnu hfol HC1 hb3 hz3 hn3 hm3 hr3
  cases b with
  | false =>
    have HE : Hid (followB t p = none) := Lib.hid HF.out
    obtain ⟨a0, a1, a2, a3, a4⟩ := cells5 HR3.out
    have f0 := frozen_of_row _ _ 0 _ _ HR3.out
    have f1 := frozen_of_row _ _ 1 _ _ HR3.out
    have f2 := frozen_of_row _ _ 2 _ _ HR3.out
    have f3 := frozen_of_row _ _ 3 _ _ HR3.out
    have f4 := frozen_of_row _ _ 4 _ _ HR3.out
    go_wp2
    obtain ⟨q0, q1, q2, q3, q4⟩ := cells5 (put5z_block (v0 := .string ⟨#[]⟩) (v1 := .string ⟨#[]⟩) (v2 := .slice none 0 0) (v3 := .slice none 0 0) (v4 := .slice none 0 0) HR3.out)
    have HBE := Lib.hid (put5z_below (g := w.heap.size + 2) (v0 := .string ⟨#[]⟩) (v1 := .string ⟨#[]⟩) (v2 := .slice none 0 0) (v3 := .slice none 0 0) (v4 := .slice none 0 0) (by omega) HB3.out)
    unfold put5z at q0 q1 q2 q3 q4
    refine bodyPost_ret (v := .tuple #[.agg #[.string ⟨#[]⟩, .string ⟨#[]⟩, .slice none 0 0, .slice none 0 0, .slice none 0 0], .int .i64 9]) (by simp [results, Tryd.results33, go_sem, q0, q1, q2, q3, q4]) rfl ?_
    exact ⟨none, 0, 0, none, 0, 0, none, 0, .mk ⟨#[]⟩ ⟨#[]⟩ [] [] [], 9, rfl, ⟨_, _, _, rfl, strs_nil, pairs_nil, kids_nil⟩, .inr ⟨HE.out, rfl, rfl⟩, HBE.out⟩
  | true =>
    have HE : Hid (followB t p = some u) := Lib.hid HF.out
    clear HF
    have HND : Hid (∀ W, Below w.heap.size w W → Node W (Under W.heap.size) (.agg #[.string t.kind, .string t.text, .slice A1 n1 c1, .slice A2 n2 c2, .slice A3 t.kids.length c3]) t) := Lib.hid fun W hW => (HN.out.below hW).more hW.size
    have HMD : Hid (∀ W, Below w.heap.size w W → Node W (Under W.heap.size) (.agg #[.string m.kind, .string m.text, .slice M1 i1 j1, .slice M2 i2 j2, .slice M3 m.kids.length j3]) m) := Lib.hid fun W hW => (HM.out.below hW).more hW.size
    obtain ⟨x0, x1, x2, x3, x4⟩ := cells5 HN3.out
    go_wp2_with fail
    refine (copyP_any _ t _ (HND.out _ HB3.out) hw).mono ?_
    rintro e w4 ⟨v4, rfl, hn4, hb4⟩
    obtain ⟨E1, l1, e1, E2, l2, e2, E3, e3, rfl⟩ := (NodeP.node _ _ _ _ hn4).forms
    have hz3 := HZ3.out
    have hz4 := hb4.size
    have hb5 : Below w4.heap.size w4 (w4.alloc (.cells #[.string t.kind, .string t.text, .slice E1 l1 e1, .slice E2 l2 e2, .slice E3 t.kids.length e3] 28)) := (Below.refl _ _).alloc (Nat.le_refl _) _
    have HA5 : Hid ((w4.alloc (.cells #[.string t.kind, .string t.text, .slice E1 l1 e1, .slice E2 l2 e2, .slice E3 t.kids.length e3] 28)).heap[w4.heap.size]? = some (.cells #[.string t.kind, .string t.text, .slice E1 l1 e1, .slice E2 l2 e2, .slice E3 t.kids.length e3] 28)) := Lib.hid (heap_new _ _)
    have HM5 := Lib.hid ((hb5.block (w.heap.size + 1) (by omega)).trans ((hb4.block (w.heap.size + 1) (by omega)).trans HM3.out))
    have HR5 := Lib.hid ((hb5.block (w.heap.size + 2) (by omega)).trans ((hb4.block (w.heap.size + 2) (by omega)).trans HR3.out))
    have HB5 := Lib.hid (belowNext (belowNext HB3.out hb4) hb5)
    have HN5 := Lib.hid (NodeP.keep (w' := w4.alloc (.cells #[.string t.kind, .string t.text, .slice E1 l1 e1, .slice E2 l2 e2, .slice E3 t.kids.length e3] 28)) _ _ _ (w.heap.size + 3) w4.heap.size _ (by omega) (Nat.le_refl _) (fun b hb => hb5.block b hb.2) hn4)
    have HZ5 : Hid ((w4.alloc (.cells #[.string t.kind, .string t.text, .slice E1 l1 e1, .slice E2 l2 e2, .slice E3 t.kids.length e3] 28)).heap.size = w4.heap.size + 1) := Lib.hid (by simp)
    have HLO : Hid (w.heap.size + 3 ≤ w4.heap.size) := Lib.hid (by omega)
    clear hb4 hb5 hn4 x0 x1 x2 x3 x4 HN3 HM3 HR3 HB3 HZ3 hz1 hz2 hz3 hz4 HB2
    go_wp2
    generalize w4.alloc (.cells #[.string t.kind, .string t.text, .slice E1 l1 e1, .slice E2 l2 e2, .slice E3 t.kids.length e3] 28) = W5 at *
    generalize w4.heap.size = ga at *
    have HGO : Hid (goB t p = some u) := Lib.hid (followB_some HE.out).1
    go_loopw [11, 27] (fun s11 i wr => ∃ (k : Nat) (y : Tree) (g o a b : Nat) (vv : Value), k ≤ p.length ∧ i = .int .i64 k ∧ s11 = .pointer (some ⟨g, o, none⟩) ∧ wr = W5 ∧ weigh y ≤ 1000000 ∧ Hid (goB y (p.drop k) = some u) ∧ Hid (WithAt W5 (w.heap.size + 3) ga t (p.take k) y g o a b vv)) (fun _ i _ => p.length - (intOf i).toNat)
    case atStart =>
      exact ⟨0, t, ga, 0, _, _, _, by omega, rfl, rfl, rfl, hw, Lib.hid HGO.out, Lib.hid (WithAt.start HN5.out HA5.out ⟨_, _, _, _, _, rfl, rfl, rfl, rfl, rfl, rfl⟩)⟩
    case round =>
      obtain ⟨k, y, g, o, a, b, vv, hk, rfl, rfl, rfl, hwy, hgo, hat⟩ := hrel
      by_cases hlt : k < p.length
      · have hpx : p[k]? = some p[k] := List.getElem?_eq_getElem hlt
        generalize p[k] = x at *
        have HTK : Hid (p.take (k + 1) = p.take k ++ [x]) := Lib.hid (by rw [List.take_add_one, hpx]; rfl)
        have HD := Lib.hid (drop_cons hpx)
        obtain ⟨bp, op, rfl, hup, hcx⟩ := HP.out.get hpx
        have z0 := (HB5.out.cell (p := ⟨bp, op + k, none⟩) hup).trans hcx
        have hgo' := hgo.out
        rw [HD.out, goB] at hgo'
        cases hka : kidAt y x with
        | none => rw [hka] at hgo'; cases hgo'
        | some y' =>
          rw [hka] at hgo'
          obtain ⟨hT, hx0, hyk⟩ := kidAt_some hka
          obtain ⟨j, rfl⟩ : ∃ j : Nat, x = (j : Int) := ⟨x.toNat, by omega⟩
          rw [Int.toNat_natCast] at hyk
          have hjl := (List.getElem?_eq_some_iff.1 hyk).1
          have hl2 : y.kids.length ≤ 1000000 := by have := length_le_weigh y.kids; have := kids_weigh y; omega
          have hwk := weigh_kid hyk
          obtain ⟨g2, c2', vm', va', a', b', v', rfl, hcc, hnext⟩ := hat.out.next hT hyk
          obtain ⟨_, _, _, _, y4⟩ := hat.out.cells
          have HNX := Lib.hid hnext
          have HGO' := Lib.hid hgo'
          clear hgo' hnext hT hka hyk hcx hpx hgo hat
          go_wp2
          exact ⟨⟨k + 1, y', g2, j * 5, a', b', v', by omega, by go_num, by simp, by first | rfl | trivial, by omega, HGO', Lib.hid (by rw [HTK.out]; exact HNX.out)⟩, by simp [intOf]; omega⟩
      · obtain rfl : k = p.length := by omega
        have HAT : Hid (WithAt wr (w.heap.size + 3) ga t p y g o a b vv) := Lib.hid (by have := hat.out; rw [List.take_length] at this; exact this)
        obtain ⟨h1, h2, h3, h4, h5⟩ := hat.out.bounds
        obtain ⟨cur, hcur, v0, v1, v2, v3, v4, rfl, f0, f1, f2, f3, f4⟩ := hat.out.row
        obtain ⟨y0, y1, y2, y3, y4⟩ := HAT.out.cells
        obtain ⟨x0, x1, x2, x3, x4⟩ := cells5 HM5.out
        have hzz := HZ5.out
        have HCU := Lib.hid hcur
        clear hat hgo f0 f1 f2 f3 f4 hcur h5
        go_upto_region 11 with fail
        go_cut [] (fun wx => Below w.heap.size w wx ∧ w.heap.size + 3 ≤ wx.heap.size ∧ Hid (wx.heap[w.heap.size + 2]? = some (.cells #[.string ⟨#[]⟩, .string ⟨#[]⟩, .slice none 0 0, .slice none 0 0, .slice none 0 0] 28)) ∧ Hid (NodeAt wx (From (w.heap.size + 3) wx.heap.size) (withB t p m) ga 0))
        case first =>
          go_wp2_with fail
          refine (copy_any _ m _ (HMD.out _ HB5.out) hwm).mono ?_
          rintro e w6 ⟨v6, rfl, hn6, hb6⟩
          obtain ⟨F1, k1, g1, F2, k2, g2, F3, g3, rfl⟩ := hn6.forms
          have HN6 := Lib.hid hn6
          have hz6 := hb6.size
          replace y0 := cell_kept y0 hb6
          replace y1 := cell_kept y1 hb6
          replace y2 := cell_kept y2 hb6
          replace y3 := cell_kept y3 hb6
          replace y4 := cell_kept y4 hb6
          have hc6 := (hb6.block g (by omega)).trans HCU.out
          have q0 := frozen_of_row _ _ o _ _ hc6
          have q1 := frozen_of_row _ _ (o + 1) _ _ hc6
          have q2 := frozen_of_row _ _ (o + 2) _ _ hc6
          have q3 := frozen_of_row _ _ (o + 3) _ _ hc6
          have q4 := frozen_of_row _ _ (o + 4) _ _ hc6
          have HB6 := Lib.hid hb6
          have HR6 := Lib.hid ((hb6.block (w.heap.size + 2) (by omega)).trans HR5.out)
          clear hb6 hn6 hc6 x0 x1 x2 x3 x4
          go_wp2_with fail
          go_meet
          have hs := put5o_size (w := w6) (g := g) (o := o) (v0 := .string m.kind) (v1 := .string m.text) (v2 := .slice F1 k1 g1) (v3 := .slice F2 k2 g2) (v4 := .slice F3 m.kids.length g3)
          unfold put5o at hs
          refine ⟨put5o_below (by omega) (belowNext HB5.out HB6.out), by omega, Lib.hid ((put5o_other (by omega)).trans HR6.out), Lib.hid ?_⟩
          rw [hs]
          exact HAT.out.done HB6.out (by omega) HN6.out (fun d hd => ⟨hd.1, by have := hd.2; omega⟩) (fun d hd => ⟨by have := hd.1; omega, hd.2⟩)
        case rest =>
          obtain ⟨hbc, hzc, hrc, hnc⟩ := hcut
          have HBC := Lib.hid hbc
          clear y0 y1 y2 y3 y4 x0 x1 x2 x3 x4 hbc
          generalize hr : withB t p m = r at *
          obtain ⟨xm, xa, xk, e0, e1', e2', e3', e4, hxm, hxa, hxk⟩ := (nodeAt_iff r ga 0).1 hnc.out
          rw [Nat.zero_add] at e1' e2' e3' e4
          have HX := Lib.hid (And.intro hxm (And.intro hxa hxk))
          obtain ⟨G1, s1, rfl, _⟩ := hxm.form
          obtain ⟨G2, s2, rfl, _⟩ := id hxa
          obtain ⟨G3, s3, rfl, _⟩ := hxk.form
          obtain ⟨a0, a1, a2, a3, a4⟩ := cells5 hrc.out
          have f0 := frozen_of_row _ _ 0 _ _ hrc.out
          have f1 := frozen_of_row _ _ 1 _ _ hrc.out
          have f2 := frozen_of_row _ _ 2 _ _ hrc.out
          have f3 := frozen_of_row _ _ 3 _ _ hrc.out
          have f4 := frozen_of_row _ _ 4 _ _ hrc.out
          have hlo := HLO.out
          clear hxm hxa hxk
          go_wp2
          obtain ⟨q0, q1, q2, q3, q4⟩ := cells5 (put5z_block (v0 := .string r.kind) (v1 := .string r.text) (v2 := .slice G1 r.marks.length s1) (v3 := .slice G2 r.attrs.length s2) (v4 := .slice G3 r.kids.length s3) hrc.out)
          have HBE := Lib.hid (put5z_below (g := w.heap.size + 2) (v0 := .string r.kind) (v1 := .string r.text) (v2 := .slice G1 r.marks.length s1) (v3 := .slice G2 r.attrs.length s2) (v4 := .slice G3 r.kids.length s3) (by omega) HBC.out)
          have hsz := put5z_size (w := wc) (g := w.heap.size + 2) (v0 := .string r.kind) (v1 := .string r.text) (v2 := .slice G1 r.marks.length s1) (v3 := .slice G2 r.attrs.length s2) (v4 := .slice G3 r.kids.length s3)
          have hot : ∀ d, From (w.heap.size + 3) wc.heap.size d → (put5z wc (w.heap.size + 2) (.string r.kind) (.string r.text) (.slice G1 r.marks.length s1) (.slice G2 r.attrs.length s2) (.slice G3 r.kids.length s3)).heap[d]? = wc.heap[d]? := fun d hd => put5z_other (by have := hd.1; omega)
          have hfr : ∀ d, From (w.heap.size + 3) wc.heap.size d → From w.heap.size (put5z wc (w.heap.size + 2) (.string r.kind) (.string r.text) (.slice G1 r.marks.length s1) (.slice G2 r.attrs.length s2) (.slice G3 r.kids.length s3)).heap.size d := fun d hd => ⟨by have := hd.1; omega, by rw [hsz]; exact hd.2⟩
          unfold put5z at q0 q1 q2 q3 q4
          refine bodyPost_ret (v := .tuple #[.agg #[.string r.kind, .string r.text, .slice G1 r.marks.length s1, .slice G2 r.attrs.length s2, .slice G3 r.kids.length s3], .int .i64 0]) (by simp [results, Tryd.results33, go_sem, q0, q1, q2, q3, q4]) rfl ?_
          exact ⟨G1, _, s1, G2, _, s2, G3, s3, r, 0, rfl, ⟨_, _, _, rfl, HX.out.1.keep hfr hot, HX.out.2.1.keep hfr hot, HX.out.2.2.keep hfr hot⟩, .inl ⟨by rw [HE.out]; simp, rfl, hr.symm⟩, HBE.out⟩
end Go.Proofs.YtamoklceekeheaaDoor

namespace Go.Proofs.YtamoklceekeheaaDoor
open Go.RowKit Go.Sort

theorem setKid_kids (t : Tree) (i : Nat) (y : Tree) : (setKid t i y).kids = t.kids.set i y := rfl
theorem setKid_kind (t : Tree) (i : Nat) (y : Tree) : (setKid t i y).kind = t.kind := rfl
theorem set_same {α : Type} {l : List α} {i : Nat} {x : α} (h : l[i]? = some x) : l.set i x = l := by
  obtain ⟨hl, he⟩ := List.getElem?_eq_some_iff.1 h
  rw [← he]; exact List.set_getElem_self hl
theorem setKid_back {t v y : Tree} {i : Nat} (h : t.kids[i]? = some v) : setKid (setKid t i y) i v = t := by
  obtain ⟨k, x, m, a, l⟩ := t
  simp only [setKid, Tree.kind, Tree.text, Tree.marks, Tree.attrs, Tree.kids, List.set_set] at *
  rw [set_same h]
theorem kidAt_set {t v y : Tree} {i : Int} (h : kidAt t i = some v) : kidAt (setKid t i.toNat y) i = some y := by
  obtain ⟨hT, h0, hv⟩ := kidAt_some h
  refine kidAt_of (by rw [setKid_kind]; exact hT) h0 ?_
  rw [setKid_kids, List.getElem?_set_self (List.getElem?_eq_some_iff.1 hv).1]
theorem goB_with : ∀ (p : List Int) (t u m : Tree), goB t p = some u → goB (withB t p m) p = some m
  | [], t, u, m, h => rfl
  | i :: p, t, u, m, h => by
    rw [goB] at h
    cases hk : kidAt t i with
    | none => rw [hk] at h; cases h
    | some v =>
      rw [hk] at h
      have hv := (kidAt_some hk).2.2
      simp only [withB, hv, goB]
      rw [kidAt_set hk]
      exact goB_with p v u m h
theorem with_with : ∀ (p : List Int) (t u m : Tree), goB t p = some u → withB (withB t p m) p u = t
  | [], t, u, m, h => by simp only [goB, Option.some.injEq] at h; subst h; rfl
  | i :: p, t, u, m, h => by
    rw [goB] at h
    cases hk : kidAt t i with
    | none => rw [hk] at h; cases h
    | some v =>
      rw [hk] at h
      have hv := (kidAt_some hk).2.2
      simp only [withB, hv]
      have hg : (setKid t i.toNat (withB v p m)).kids[i.toNat]? = some (withB v p m) := by
        rw [setKid_kids, List.getElem?_set_self (List.getElem?_eq_some_iff.1 hv).1]
      rw [hg]
      simp only
      rw [with_with p v u m h, setKid_back hv]
theorem total_set : ∀ (l : List Tree) (i : Nat) (v y : Tree), l[i]? = some v → totalB (l.set i y) + sizeB v = totalB l + sizeB y
  | [], i, v, y, h => by simp at h
  | x :: l, 0, v, y, h => by simp at h; subst h; simp only [List.set_cons_zero, totalB]; omega
  | x :: l, i + 1, v, y, h => by
    have := total_set l i v y (by simpa using h)
    simp only [List.set_cons_succ, totalB]; omega
theorem weigh_set : ∀ (l : List Tree) (i : Nat) (v y : Tree), l[i]? = some v → weighAll (l.set i y) + weigh v = weighAll l + weigh y
  | [], i, v, y, h => by simp at h
  | x :: l, 0, v, y, h => by simp at h; subst h; simp only [List.set_cons_zero, weighAll]; omega
  | x :: l, i + 1, v, y, h => by
    have := weigh_set l i v y (by simpa using h)
    simp only [List.set_cons_succ, weighAll]; omega
theorem size_with : ∀ (p : List Int) (t u m : Tree), goB t p = some u → sizeB (withB t p m) + sizeB u = sizeB t + sizeB m
  | [], t, u, m, h => by simp only [goB, Option.some.injEq] at h; subst h; simp only [withB]; omega
  | i :: p, t, u, m, h => by
    rw [goB] at h
    cases hk : kidAt t i with
    | none => rw [hk] at h; cases h
    | some v =>
      rw [hk] at h
      obtain ⟨hT, h0, hv⟩ := kidAt_some hk
      simp only [withB, hv]
      have h1 := size_with p v u m h
      have h2 := total_set t.kids i.toNat v (withB v p m) hv
      rw [sizeB_node (x := setKid t i.toNat (withB v p m)) hT, setKid_kids, sizeB_node hT]
      omega
theorem weigh_with : ∀ (p : List Int) (t u m : Tree), goB t p = some u → weigh (withB t p m) + weigh u = weigh t + weigh m
  | [], t, u, m, h => by simp only [goB, Option.some.injEq] at h; subst h; simp only [withB]; omega
  | i :: p, t, u, m, h => by
    rw [goB] at h
    cases hk : kidAt t i with
    | none => rw [hk] at h; cases h
    | some v =>
      rw [hk] at h
      obtain ⟨hT, h0, hv⟩ := kidAt_some hk
      simp only [withB, hv]
      have h1 := weigh_with p v u m h
      have h2 := weigh_set t.kids i.toNat v (withB v p m) hv
      obtain ⟨k, x, ms, a, l⟩ := t
      simp only [setKid, Tree.kind, Tree.text, Tree.marks, Tree.attrs, Tree.kids, weigh] at *
      omega
end Go.Proofs.YtamoklceekeheaaDoor

namespace Go.Proofs.YtamoklceekeheaaDoor
open Go.RowKit Go.Sort Go.Maps
attribute [local go_sem ↓] Go.wp_at_zero Go.wp_at_succ

/-- Put's deferred function, where nothing is wrong. -/
theorem put_well (g9 g8 : Nat) (u : FrameMode) (w : World) (h9 : w.cell? ⟨g9, 0, none⟩ = some (.int .i64 0)) :
    CallsD Tryd.prog 30 #[.pointer (some ⟨g9, 0, none⟩), .pointer (some ⟨g8, 0, none⟩)] u w fun e u' w' => u' = u ∧ (e = .returned (.tuple #[]) ∧ w' = w) := by
  go_enter_d Tryd.func30, Tryd.ntmps30
  go_wp2
  go_end0
  exact ⟨rfl, rfl⟩

section
variable {w : World} {ops : Array Oper} {o : Oper} {a : Act} {K : Act → World → Prop} {Q : Exit → Act → World → Prop} {E : Prop}
/-- Check, in a region that draws its order. -/
theorem step_check {v : Value} {t : Tree} (hgd : o.guard = none) (p : Operand) (ho : o.op = .call { callee := .value (.func 34), args := #[p], argTypes := #[28] })
    (hp : a.eval p = v) (hn : Node w (Under w.heap.size) v t) (hw : weigh t ≤ 1000000) (hT : Tabs w) (h : ∀ w', Below w.heap.size w w' → K (a.put o.dst (.int .i64 (checkB t))) w') :
    if Region.wanted o (yielded ops a.tmps) = true then Oper.wp Tryd.prog o a w K Q else E := by
  have hwn : Region.wanted o (yielded ops a.tmps) = true := by simp [Region.wanted, hgd]
  rw [if_pos hwn]
  have hrun : (execOp a.eval o).run Tryd.prog w = .ok (.enter 34 #[v]) w := by
    have hf : a.eval (.func 34) = .func (.func 34) #[] #[] := rfl
    obtain ⟨c, hc⟩ : ∃ c, Tryd.f34.body = some c := Option.isSome_iff_exists.1 (by kernel_rfl)
    have hne : ¬ Tryd.f34.name = "runtime.NumGoroutine" := of_decide_eq_false (by kernel_rfl)
    simp [execOp, ho, resolve, invoke, hp, hf, Deferred.ofValue, callFunc, hne, hc]
  unfold Oper.wp
  rw [hrun, Oper.upon_enter]
  refine (check_any v t w hn hw hT).mono fun e w'' hh => ?_
  obtain ⟨rfl, h1⟩ := hh
  exact h w'' h1
end
/-- What Put answers. -/
def PutPost (w : World) (m : Tree) (e : Ending) (w' : World) : Prop :=
  ∃ A1 n1 c1 A2 n2 c2 A3 c3, e = .returned (.tuple #[.agg #[.string m.kind, .string m.text, .slice A1 n1 c1, .slice A2 n2 c2, .slice A3 m.kids.length c3], .int .i64 0]) ∧
    Node w' (From w.heap.size w'.heap.size) (.agg #[.string m.kind, .string m.text, .slice A1 n1 c1, .slice A2 n2 c2, .slice A3 m.kids.length c3]) m ∧ Below w.heap.size w w'
set_option maxRecDepth 100000 in
theorem put_door {w wd : World} {tmps : Array Value} {m : Tree} {A1 A2 A3 : Option Addr} {n1 c1 n2 c2 c3 : Nat} (h8 : wd.heap[w.heap.size + 1]? = some (.cells #[.string m.kind, .string m.text, .slice A1 n1 c1, .slice A2 n2 c2, .slice A3 m.kids.length c3] 28)) (h9 : wd.heap[w.heap.size + 1 + 1]? = some (.cells #[.int .i64 0] 32))
    (t8 : tmps[8]? = some (.pointer (some ⟨w.heap.size + 1, 0, none⟩))) (t9 : tmps[9]? = some (.pointer (some ⟨w.heap.size + 1 + 1, 0, none⟩))) (hn : Node wd (From w.heap.size wd.heap.size) (.agg #[.string m.kind, .string m.text, .slice A1 n1 c1, .slice A2 n2 c2, .slice A3 m.kids.length c3]) m) (hb : Below w.heap.size w wd) :
    bodyPostD Tryd.prog Tryd.f14 (PutPost w m) Exit.ret { tmps := tmps, defers := [{ target := Target.fn (Fn.func 30) #[.pointer (some ⟨w.heap.size + 1 + 1, 0, none⟩), .pointer (some ⟨w.heap.size + 1, 0, none⟩)], args := #[] }] } wd := by
  obtain ⟨x0, x1, x2, x3, x4⟩ := cells5 h8
  obtain ⟨c9, f9⟩ := cells1 h9
  refine leaves_cons (f := 30) (args := #[.pointer (some ⟨w.heap.size + 1 + 1, 0, none⟩), .pointer (some ⟨w.heap.size + 1, 0, none⟩)]) (by simp) (by simp [go_sem]) ?_
  refine (put_well _ _ _ wd c9).mono ?_
  rintro e u' w'' ⟨rfl, rfl, rfl⟩
  simp [Leaves, settle, results, Tryd.results14, go_sem, t8, t9, x0, x1, x2, x3, x4, c9]
  exact ⟨A1, n1, c1, A2, n2, c2, A3, c3, rfl, hn, hb⟩

/-- What the last stores leave. -/
theorem put_end {w W : World} {m : Tree} {A1 A2 A3 : Option Addr} {n1 c1 n2 c2 c3 : Nat} (h8 : W.heap[w.heap.size + 1]? = some (.cells #[.string m.kind, .string m.text, .slice A1 n1 c1, .slice A2 n2 c2, .slice A3 m.kids.length c3] 28)) (h9 : W.heap[w.heap.size + 1 + 1]? = some (.cells #[.int .i64 0] 32))
    (hn : Node W (From (w.heap.size + 3) W.heap.size) (.agg #[.string m.kind, .string m.text, .slice A1 n1 c1, .slice A2 n2 c2, .slice A3 m.kids.length c3]) m) (hb : Below w.heap.size w W) :
    ((put5z W (w.heap.size + 1) (.string m.kind) (.string m.text) (.slice A1 n1 c1) (.slice A2 n2 c2) (.slice A3 m.kids.length c3)).setCell ⟨w.heap.size + 1 + 1, 0, none⟩ (.int .i64 0)).heap[w.heap.size + 1]? = some (.cells #[.string m.kind, .string m.text, .slice A1 n1 c1, .slice A2 n2 c2, .slice A3 m.kids.length c3] 28) ∧
    ((put5z W (w.heap.size + 1) (.string m.kind) (.string m.text) (.slice A1 n1 c1) (.slice A2 n2 c2) (.slice A3 m.kids.length c3)).setCell ⟨w.heap.size + 1 + 1, 0, none⟩ (.int .i64 0)).heap[w.heap.size + 1 + 1]? = some (.cells #[.int .i64 0] 32) ∧
    Node ((put5z W (w.heap.size + 1) (.string m.kind) (.string m.text) (.slice A1 n1 c1) (.slice A2 n2 c2) (.slice A3 m.kids.length c3)).setCell ⟨w.heap.size + 1 + 1, 0, none⟩ (.int .i64 0)) (From w.heap.size ((put5z W (w.heap.size + 1) (.string m.kind) (.string m.text) (.slice A1 n1 c1) (.slice A2 n2 c2) (.slice A3 m.kids.length c3)).setCell ⟨w.heap.size + 1 + 1, 0, none⟩ (.int .i64 0)).heap.size) (.agg #[.string m.kind, .string m.text, .slice A1 n1 c1, .slice A2 n2 c2, .slice A3 m.kids.length c3]) m ∧
    Below w.heap.size w ((put5z W (w.heap.size + 1) (.string m.kind) (.string m.text) (.slice A1 n1 c1) (.slice A2 n2 c2) (.slice A3 m.kids.length c3)).setCell ⟨w.heap.size + 1 + 1, 0, none⟩ (.int .i64 0)) := by
  have b8 := put5z_block (v0 := .string m.kind) (v1 := .string m.text) (v2 := .slice A1 n1 c1) (v3 := .slice A2 n2 c2) (v4 := .slice A3 m.kids.length c3) h8
  have b9 : (put5z W (w.heap.size + 1) (.string m.kind) (.string m.text) (.slice A1 n1 c1) (.slice A2 n2 c2) (.slice A3 m.kids.length c3)).heap[w.heap.size + 1 + 1]? = some (.cells #[.int .i64 0] 32) := (put5z_other (by omega)).trans h9
  have bb := put5z_below (g := w.heap.size + 1) (v0 := .string m.kind) (v1 := .string m.text) (v2 := .slice A1 n1 c1) (v3 := .slice A2 n2 c2) (v4 := .slice A3 m.kids.length c3) (Nat.le_succ _) hb
  have bo : ∀ b, w.heap.size + 3 ≤ b → (put5z W (w.heap.size + 1) (.string m.kind) (.string m.text) (.slice A1 n1 c1) (.slice A2 n2 c2) (.slice A3 m.kids.length c3)).heap[b]? = W.heap[b]? := fun b hb => put5z_other (by omega)
  have bz : (put5z W (w.heap.size + 1) (.string m.kind) (.string m.text) (.slice A1 n1 c1) (.slice A2 n2 c2) (.slice A3 m.kids.length c3)).heap.size = W.heap.size := put5z_size
  generalize put5z W (w.heap.size + 1) (.string m.kind) (.string m.text) (.slice A1 n1 c1) (.slice A2 n2 c2) (.slice A3 m.kids.length c3) = V at *
  have hz : (V.setCell ⟨w.heap.size + 1 + 1, 0, none⟩ (.int .i64 0)).heap.size = V.heap.size := by simp [World.setCell]
  refine ⟨(Below.heap_setCell _ _ _ _ (show w.heap.size + 1 ≠ w.heap.size + 1 + 1 by omega)).trans b8, heap_setCell_same _ _ 0 _ _ _ b9, hn.keep (fun b hb => ⟨by have := hb.1; omega, by have := hb.2; omega⟩) (fun b hb => (Below.heap_setCell _ _ _ _ (show b ≠ w.heap.size + 1 + 1 by have := hb.1; omega)).trans (bo b hb.1)), set_below (by omega) bb⟩

set_option maxHeartbeats 20000000 in
set_option maxRecDepth 100000 in
theorem put_ok (v vl : Value) (t u : Tree) (l : List Tree) (a b : Nat) (p : List Int) (j1 o1 j2 o2 : Nat) (w : World) (h : Node w (Under w.heap.size) v t) (hw : weigh t ≤ 100000) (hT : Tabs w) (hl : Kids w (Under w.heap.size) vl l) (hwl : weighAll l ≤ 100000) (hwj : weighAll (joinB l) ≤ 900000)
    (hdoc : isDocB t = true) (hkids : areKidsB l = true) (ha : resolveB t (a : Int) = some (p, j1, o1)) (hb : resolveB t (b : Int) = some (p, j2, o2)) (hab : a ≤ b) (ha1 : SpotOk t a (p, j1, o1) u) (hb1 : SpotOk t b (p, j2, o2) u) (hb9 : b ≤ 1000000)
    (hgood : checkB (withB t p (withKids u (joinB ((splitB (splitB u.kids (b - startB t p)).2.1 (a - startB t p)).2.1 ++ (l ++ (splitB u.kids (b - startB t p)).2.2))))) = 0)
    (hwk : weighAll (joinB ((splitB (splitB u.kids (b - startB t p)).2.1 (a - startB t p)).2.1 ++ (l ++ (splitB u.kids (b - startB t p)).2.2))) ≤ 800000) :
    Calls Tryd.prog 14 #[v, .int .i64 (a : Int), .int .i64 (b : Int), vl] w (PutPost w (withB t p (withKids u (joinB ((splitB (splitB u.kids (b - startB t p)).2.1 (a - startB t p)).2.1 ++ (l ++ (splitB u.kids (b - startB t p)).2.2)))))) := by
  have hmf : ∀ (fn : Fn) (first cap : Array Value) (w : World), (Instr.makeFunc fn first cap).run Tryd.prog w = .ok (.func fn first cap) w := fun _ _ _ _ => rfl
  have HN := Lib.hid h
  have HLK := Lib.hid hl
  have HT := Lib.hid hT
  have HSP := Lib.hid (And.intro ha (And.intro hb (And.intro ha1 hb1)))
  have HPR := Lib.hid (path_range p t u ha1.go (by omega))
  obtain ⟨A1, n1, c1, A2, n2, c2, A3, c3, rfl⟩ := h.forms
  obtain ⟨Al, cl, rfl, _⟩ := hl.form
  clear h hl ha hb ha1 hb1 hT
  generalize hW1 : ((w.alloc (.cells #[.string t.kind, .string t.text, .slice A1 n1 c1, .slice A2 n2 c2, .slice A3 t.kids.length c3] 28)).alloc (.cells #[.string ⟨#[]⟩, .string ⟨#[]⟩, .slice none 0 0, .slice none 0 0, .slice none 0 0] 28)).alloc (.cells #[.int .i64 0] 32) = W1
  have HB1 : Hid (Below w.heap.size w W1) := Lib.hid (by subst hW1; exact (((Below.refl _ _).alloc (Nat.le_refl _) _).alloc (by simp) _).alloc (by simp; omega) _)
  have HC1 : Hid (W1.heap[w.heap.size]? = some (.cells #[.string t.kind, .string t.text, .slice A1 n1 c1, .slice A2 n2 c2, .slice A3 t.kids.length c3] 28) ∧ W1.heap[w.heap.size + 1]? = some (.cells #[.string ⟨#[]⟩, .string ⟨#[]⟩, .slice none 0 0, .slice none 0 0, .slice none 0 0] 28) ∧ W1.heap[w.heap.size + 1 + 1]? = some (.cells #[.int .i64 0] 32) ∧ W1.heap.size = w.heap.size + 3) := Lib.hid (by
    subst hW1; exact ⟨heap_old _ _ _ (heap_old _ _ _ (heap_new _ _)), heap_old _ _ _ (heap_new' _ _ (by simp)), heap_new' _ _ (by simp), by simp⟩)
  have HW1 := Lib.hid hW1
  clear hW1
  go_enter_defers Tryd.func14, Tryd.ntmps14
  go_upto_region 2 with fail
  rw [HW1.out]
  clear HW1
  obtain ⟨x0, x1, x2, x3, x4⟩ := cells5 HC1.out.1
  go_wp2_with fail
  refine (isDocument_any _ t W1 ((HN.out.below HB1.out).more HB1.out.size) (by omega) (HT.out.below HB1.out)).mono ?_
  rintro e w2 ⟨rfl, hb2⟩
  have HB2 := Lib.hid hb2
  have HC2 := Lib.hid (belowNext HB1.out hb2)
  rw [hdoc]
  clear hb2 x0 x1 x2 x3 x4
  go_wp2_with fail
  refine (areKids_any _ l w2 ((HLK.out.below HC2.out).more HC2.out.size) (by omega) hwj (HT.out.below HC2.out)).mono ?_
  rintro e w3 ⟨rfl, hb3⟩
  have HB3 := Lib.hid (belowNext HB2.out hb3)
  have HC3 := Lib.hid (belowNext HC2.out hb3)
  rw [hkids]
  clear hb3
  have hz1 := HC1.out.2.2.2
  have HX3 := Lib.hid ((HB3.out.block w.heap.size (by omega)).trans HC1.out.1)
  have HM3 := Lib.hid ((HB3.out.block (w.heap.size + 1) (by omega)).trans HC1.out.2.1)
  have HE3 := Lib.hid ((HB3.out.block (w.heap.size + 1 + 1) (by omega)).trans HC1.out.2.2.1)
  have HZ3 : Hid (w.heap.size + 3 ≤ w3.heap.size) := Lib.hid (by have := HB3.out.size; omega)
  clear hz1
  obtain ⟨x0, x1, x2, x3, x4⟩ := cells5 HX3.out
  go_upto_region 4 with fail
  go_wp2_with fail
  refine (span_ok _ t u a b p j1 o1 j2 o2 w3 ((HN.out.below HC3.out).more HC3.out.size) (by omega) (HT.out.below HC3.out) HSP.out.1 HSP.out.2.1 hab HSP.out.2.2.1 HSP.out.2.2.2 hb9).mono ?_
  rintro e w4 ⟨P, q, B1, m1, d1, B2, m2, d2, B3, d3, E1, k1, z1, E2, k2, z2, E3, k3, z3, rfl, hip, hnu, hk1, hk2, hk3, hb4⟩
  have HB4 := Lib.hid hb4
  have hz4 := hb4.size
  have hz3 := HZ3.out
  obtain ⟨ha5, hs5, hl5⟩ := new_box w4 (.cells #[.slice P p.length q, .string u.kind, .string u.text, .slice B1 m1 d1, .slice B2 m2 d2, .slice B3 u.kids.length d3, .slice E1 k1 z1, .slice E2 k2 z2, .slice E3 k3 z3] 62)
  have HX5 := Lib.hid ((ha5.block _ (by omega)).trans ((hb4.block w.heap.size (by omega)).trans HX3.out))
  have HM5 := Lib.hid ((ha5.block _ (by omega)).trans ((hb4.block (w.heap.size + 1) (by omega)).trans HM3.out))
  have HE5 := Lib.hid ((ha5.block _ (by omega)).trans ((hb4.block (w.heap.size + 1 + 1) (by omega)).trans HE3.out))
  have HS5 := Lib.hid hs5
  have HB5 := Lib.hid (belowNext hb4 ha5)
  have HL5 := Lib.hid hl5
  have HA5 := Lib.hid ha5
  have HIP := Lib.hid hip
  have HNU := Lib.hid hnu
  have HK1 := Lib.hid hk1
  have HK3 := Lib.hid hk3
  obtain ⟨e9, fz9⟩ := cells1 HE5.out
  clear hb4 ha5 hs5 hl5 hip hnu hk1 hk2 hk3 x0 x1 x2 x3 x4 hz3 hz4
  go_upto_region 5 with fail
  clear e9 fz9
  have HO6 : Hid (∀ b, b ≠ w.heap.size + 1 + 1 → ((w4.alloc (.cells #[.slice P p.length q, .string u.kind, .string u.text, .slice B1 m1 d1, .slice B2 m2 d2, .slice B3 u.kids.length d3, .slice E1 k1 z1, .slice E2 k2 z2, .slice E3 k3 z3] 62)).setCell ⟨w.heap.size + 1 + 1, 0, none⟩ (.int .i64 0)).heap[b]? = (w4.alloc (.cells #[.slice P p.length q, .string u.kind, .string u.text, .slice B1 m1 d1, .slice B2 m2 d2, .slice B3 u.kids.length d3, .slice E1 k1 z1, .slice E2 k2 z2, .slice E3 k3 z3] 62)).heap[b]?) := Lib.hid fun b hb => Below.heap_setCell _ _ _ _ hb
  have HE6 : Hid (((w4.alloc (.cells #[.slice P p.length q, .string u.kind, .string u.text, .slice B1 m1 d1, .slice B2 m2 d2, .slice B3 u.kids.length d3, .slice E1 k1 z1, .slice E2 k2 z2, .slice E3 k3 z3] 62)).setCell ⟨w.heap.size + 1 + 1, 0, none⟩ (.int .i64 0)).heap[w.heap.size + 1 + 1]? = some (.cells #[.int .i64 0] 32)) := Lib.hid (heap_setCell_same _ _ 0 _ _ _ HE5.out)
  have HZ6 : Hid (((w4.alloc (.cells #[.slice P p.length q, .string u.kind, .string u.text, .slice B1 m1 d1, .slice B2 m2 d2, .slice B3 u.kids.length d3, .slice E1 k1 z1, .slice E2 k2 z2, .slice E3 k3 z3] 62)).setCell ⟨w.heap.size + 1 + 1, 0, none⟩ (.int .i64 0)).heap.size = (w4.alloc (.cells #[.slice P p.length q, .string u.kind, .string u.text, .slice B1 m1 d1, .slice B2 m2 d2, .slice B3 u.kids.length d3, .slice E1 k1 z1, .slice E2 k2 z2, .slice E3 k3 z3] 62)).heap.size) := Lib.hid (by simp [World.setCell])
  have HB6 : Hid (Below w.heap.size w ((w4.alloc (.cells #[.slice P p.length q, .string u.kind, .string u.text, .slice B1 m1 d1, .slice B2 m2 d2, .slice B3 u.kids.length d3, .slice E1 k1 z1, .slice E2 k2 z2, .slice E3 k3 z3] 62)).setCell ⟨w.heap.size + 1 + 1, 0, none⟩ (.int .i64 0))) := Lib.hid (set_below (by omega) (belowNext HC3.out HB5.out))
  have hz4 := HB4.out.size
  have hz3 := HZ3.out
  have HI5 := Lib.hid (HIP.out.keep (S' := From (w.heap.size + 3) w4.heap.size) (fun b hb => ⟨by have := hb.1; omega, hb.2⟩) (fun b hb => HA5.out.block b hb.2))
  have HU5 := Lib.hid (HNU.out.keep (S' := From (w.heap.size + 3) w4.heap.size) (fun b hb => ⟨by have := hb.1; omega, hb.2⟩) (fun b hb => HA5.out.block b hb.2))
  have HK15 := Lib.hid (HK1.out.keep (S' := From (w.heap.size + 3) w4.heap.size) (fun b hb => ⟨by have := hb.1; omega, hb.2⟩) (fun b hb => HA5.out.block b hb.2))
  have HK35 := Lib.hid (HK3.out.keep (S' := From (w.heap.size + 3) w4.heap.size) (fun b hb => ⟨by have := hb.1; omega, hb.2⟩) (fun b hb => HA5.out.block b hb.2))
  generalize (w4.alloc (.cells #[.slice P p.length q, .string u.kind, .string u.text, .slice B1 m1 d1, .slice B2 m2 d2, .slice B3 u.kids.length d3, .slice E1 k1 z1, .slice E2 k2 z2, .slice E3 k3 z3] 62)).setCell ⟨w.heap.size + 1 + 1, 0, none⟩ (.int .i64 0) = w6 at *
  generalize w4.alloc (.cells #[.slice P p.length q, .string u.kind, .string u.text, .slice B1 m1 d1, .slice B2 m2 d2, .slice B3 u.kids.length d3, .slice E1 k1 z1, .slice E2 k2 z2, .slice E3 k3 z3] 62) = w5 at *
  generalize w4.heap.size = gs at *
  have hl5 := HL5.out
  have hz6 := HZ6.out
  have hgs : w.heap.size + 3 ≤ gs := by omega
  have HGS := Lib.hid hgs
  have HX6 := Lib.hid ((HO6.out _ (by omega)).trans HX5.out)
  have HM6 := Lib.hid ((HO6.out _ (by omega)).trans HM5.out)
  have HS6 := Lib.hid ((HO6.out gs (by omega)).trans HS5.out)
  have HL6 : Hid (gs < w6.heap.size) := Lib.hid (by omega)
  have hoo : ∀ b, From (w.heap.size + 3) gs b → w6.heap[b]? = w5.heap[b]? := fun b hb => HO6.out b (by have := hb.1; omega)
  have HI6 := Lib.hid (HI5.out.keep (S' := From (w.heap.size + 3) gs) (fun _ h => h) hoo)
  have HU6 := Lib.hid (HU5.out.keep (S' := From (w.heap.size + 3) gs) (fun _ h => h) hoo)
  have HK16 := Lib.hid (HK15.out.keep (S' := From (w.heap.size + 3) gs) (fun _ h => h) hoo)
  have HK36 := Lib.hid (HK35.out.keep (S' := From (w.heap.size + 3) gs) (fun _ h => h) hoo)
  have HLL6 := Lib.hid (HLK.out.below HB6.out)
  clear hoo hz3 hz4 hl5 hz6 hgs HI5 HU5 HK15 HK35 HX5 HM5 HE5 HS5 HB5 HL5 HA5 HIP HNU HK1 HK3 HZ6 HO6 HB4
  obtain ⟨e9, fz9⟩ := cells1 HE6.out
  have s6 : w6.cell? ⟨gs, 6, none⟩ = some (.slice E1 k1 z1) := by simp [World.cell?, HS6.out]
  have s8 : w6.cell? ⟨gs, 8, none⟩ = some (.slice E3 k3 z3) := by simp [World.cell?, HS6.out]
  go_upto_region 7 with fail
  go_wp2_with fail
  have hwu : weigh u ≤ 100000 := Nat.le_trans (goB_weigh p t u HSP.out.2.2.1.go) hw
  have hku := kids_weigh u
  have hs1 := splitB_weigh u.kids (b - startB t p)
  have hs2 := splitB_weigh (splitB u.kids (b - startB t p)).2.1 (a - startB t p)
  generalize hah : (splitB (splitB u.kids (b - startB t p)).2.1 (a - startB t p)).2.1 = ahd at *
  generalize hbh : (splitB u.kids (b - startB t p)).2.2 = bhd at *
  have hla := length_le_weigh ahd
  have hlb := length_le_weigh bhd
  have hll := length_le_weigh l
  obtain ⟨rfl, _, _⟩ := HK16.out.len
  obtain ⟨rfl, _, _⟩ := HK36.out.len
  obtain ⟨ha7, hg7, hl7⟩ := new_box w6 (.cells #[.slice E1 ahd.length z1, .slice Al l.length cl, .slice E3 bhd.length z3] 26)
  have HA7 := Lib.hid ha7
  have HG7 := Lib.hid hg7
  have HL7 := Lib.hid hl7
  have hgs := HGS.out
  have hl6 := HL6.out
  have HR7 : Hid (Rows2 (w6.alloc (.cells #[.slice E1 ahd.length z1, .slice Al l.length cl, .slice E3 bhd.length z3] 26)) (Under gs) w6.heap.size [ahd, l, bhd]) := Lib.hid (by
    intro i x hx
    have hc : ∀ j, (w6.alloc (.cells #[.slice E1 ahd.length z1, .slice Al l.length cl, .slice E3 bhd.length z3] 26)).cell? ⟨w6.heap.size, j, none⟩ = (#[.slice E1 ahd.length z1, .slice Al l.length cl, .slice E3 bhd.length z3] : Array Value)[j]? := fun j => by
      generalize w6.alloc (.cells #[.slice E1 ahd.length z1, .slice Al l.length cl, .slice E3 bhd.length z3] 26) = W at hg7 ⊢
      simp [World.cell?, hg7]
    match i, hx with
    | 0, hx => simp at hx; subst hx; exact ⟨E1, z1, hc 0, HK16.out.keep (fun b hb => by have := hb.2; unfold Under; omega) (fun b hb => ha7.block b (by have := hb.2; omega))⟩
    | 1, hx => simp at hx; subst hx; exact ⟨Al, cl, hc 1, HLL6.out.keep (fun b hb => by unfold Under at *; omega) (fun b hb => ha7.block b (by unfold Under at hb; omega))⟩
    | 2, hx => simp at hx; subst hx; exact ⟨E3, z3, hc 2, HK36.out.keep (fun b hb => by have := hb.2; unfold Under; omega) (fun b hb => ha7.block b (by have := hb.2; omega))⟩
    | i + 3, hx => simp at hx)
  have HLN : Hid (lenAll [ahd, l, bhd] ≤ 1000000) := Lib.hid (by unfold lenAll; simp; omega)
  clear ha7 hg7 hl7
  generalize w6.alloc (.cells #[.slice E1 ahd.length z1, .slice Al l.length cl, .slice E3 bhd.length z3] 26) = w7 at *
  have HCC : Hid (Calls Tryd.prog 32 #[.slice (some ⟨w6.heap.size, 0, none⟩) 3 3] w7 fun e w' => ∃ v, e = .returned v ∧ Own w' w7.heap.size (Under gs) v [ahd, l, bhd].flatten ∧ Below w7.heap.size w7 w') := Lib.hid (concat_any w6.heap.size 3 [ahd, l, bhd] (Under gs) w7 HR7.out (fun b hb => Nat.lt_of_lt_of_le hb (Nat.le_trans (Nat.le_of_lt HL6.out) HA7.out.size)) HL7.out (by simp) HLN.out)
  refine HCC.out.mono ?_
  rintro e w8 ⟨v8, rfl, ho8, hb8⟩
  have HK8 : Hid (Kids w8 (fun b => b < w8.heap.size ∧ b ≠ gs) v8 (ahd ++ (l ++ bhd))) := Lib.hid (by
    have h7 := HA7.out.size
    have h8 := hb8.size
    have h1 := ho8.kids (S' := fun b => b < w8.heap.size ∧ b ≠ gs) (fun b hb => ⟨by unfold Under at hb; omega, by unfold Under at hb; omega⟩) (fun g hg => ⟨(ho8.block_ge g hg).2, by have := (ho8.block_ge g hg).1; omega⟩)
    simpa using h1)
  have HWC : Hid (weighAll (ahd ++ (l ++ bhd)) ≤ 1000000) := Lib.hid (by rw [weighAll_append, weighAll_append]; omega)
  generalize hX : ahd ++ (l ++ bhd) = X at *
  obtain ⟨A8, c8, rfl, _⟩ := HK8.out.form
  have HB8 := Lib.hid (belowNext HA7.out hb8)
  clear ho8 hb8
  go_wp2_with fail
  refine (joinS_any _ X (fun b => b < w8.heap.size ∧ b ≠ gs) w8 HK8.out (fun _ h => h.1) HWC.out).mono ?_
  rintro e w9 ⟨v9, rfl, hk9, hb9'⟩
  obtain ⟨A9, c9, rfl, _⟩ := hk9.form
  have HB9 := Lib.hid (belowNext HB8.out hb9')
  have hz89 := hb9'.size
  have HK9 := Lib.hid hk9
  have hs9 := (HB9.out.block gs HL6.out).trans HS6.out
  have HS9 := Lib.hid hs9
  have s5 : w9.cell? ⟨gs, 5, none⟩ = some (.slice B3 u.kids.length d3) := by simp [World.cell?, hs9]
  have f5 : w9.frozen? ⟨gs, 5, none⟩ = false := frozen_of_row _ _ 5 _ _ hs9
  generalize hK : joinB X = K at *
  clear hk9 hb9' hs9 e9 fz9 s6 s8
  go_upto_region 8 with fail
  have hz8 := HB8.out.size
  have HS10 : Hid ((w9.setCell ⟨gs, 5, none⟩ (.slice A9 K.length c9)).heap[gs]? = some (.cells #[.slice P p.length q, .string u.kind, .string u.text, .slice B1 m1 d1, .slice B2 m2 d2, .slice A9 K.length c9, .slice E1 ahd.length z1, .slice E2 k2 z2, .slice E3 bhd.length z3] 62)) := Lib.hid (heap_setCell_same _ gs 5 _ _ _ HS9.out)
  have HO10 : Hid (∀ b, b ≠ gs → (w9.setCell ⟨gs, 5, none⟩ (.slice A9 K.length c9)).heap[b]? = w9.heap[b]?) := Lib.hid fun b hb => Below.heap_setCell _ _ _ _ hb
  have HZ10 : Hid ((w9.setCell ⟨gs, 5, none⟩ (.slice A9 K.length c9)).heap.size = w9.heap.size) := Lib.hid (by simp [World.setCell])
  have HB10 : Hid (Below w.heap.size w (w9.setCell ⟨gs, 5, none⟩ (.slice A9 K.length c9))) := Lib.hid (set_below (by omega) (belowNext HB6.out HB9.out))
  clear s5 f5
  generalize w9.setCell ⟨gs, 5, none⟩ (.slice A9 K.length c9) = w10 at *
  have hz9 := HB9.out.size
  have hz10 := HZ10.out
  have hoo : ∀ b, b < gs → w10.heap[b]? = w6.heap[b]? := fun b hb => (HO10.out b (by omega)).trans (HB9.out.block b (by omega))
  have HX10 := Lib.hid ((hoo _ (by omega)).trans HX6.out)
  have HM10 := Lib.hid ((hoo _ (by omega)).trans HM6.out)
  have HE10 := Lib.hid ((hoo _ (by omega)).trans HE6.out)
  have HI10 : Hid (Ints w10 (Under w10.heap.size) (.slice P p.length q) p) := Lib.hid (HI6.out.keep (fun b hb => by have := hb.2; unfold Under; omega) (fun b hb => hoo b hb.2))
  have HN10 : Hid (Node w10 (Under w10.heap.size) (.agg #[.string t.kind, .string t.text, .slice A1 n1 c1, .slice A2 n2 c2, .slice A3 t.kids.length c3]) t) := Lib.hid ((HN.out.below HB10.out).more HB10.out.size)
  have HU10 : Hid (Node w10 (Under w10.heap.size) (.agg #[.string u.kind, .string u.text, .slice B1 m1 d1, .slice B2 m2 d2, .slice A9 K.length c9]) (withKids u K)) := Lib.hid (by
    obtain ⟨vm, va, vk, he, g1, g2, g3⟩ := HU6.out
    injection he with he
    have h4 : (.slice B1 m1 d1 : Value) = vm ∧ (.slice B2 m2 d2 : Value) = va ∧ (.slice B3 u.kids.length d3 : Value) = vk := by simpa using he
    obtain ⟨rfl, rfl, rfl⟩ := h4
    refine ⟨_, _, _, rfl, g1.keep (fun b hb => by have := hb.2; unfold Under; omega) (fun b hb => hoo b hb.2), g2.keep (fun b hb => by have := hb.2; unfold Under; omega) (fun b hb => hoo b hb.2), HK9.out.keep (fun b hb => ?_) (fun b hb => HO10.out b ?_)⟩
    · unfold Under
      rcases hb with hb | hb
      · have := hb.1; omega
      · have := hb.2; omega
    · rcases hb with hb | hb
      · exact hb.2
      · have := hb.1; omega)
  have HWK : Hid (weigh (withKids u K) ≤ 1000000) := Lib.hid (by
    obtain ⟨uk, ut, um, ua, ul⟩ := u
    simp only [withKids, Tree.kind, Tree.text, Tree.marks, Tree.attrs, weigh] at *; omega)
  clear hoo
  obtain ⟨x0, x1, x2, x3, x4⟩ := cells5 HX10.out
  have hc : ∀ j, w10.cell? ⟨gs, j, none⟩ = (#[.slice P p.length q, .string u.kind, .string u.text, .slice B1 m1 d1, .slice B2 m2 d2, .slice A9 K.length c9, .slice E1 ahd.length z1, .slice E2 k2 z2, .slice E3 bhd.length z3] : Array Value)[j]? := fun j => by simp [World.cell?, HS10.out]
  have y0 := hc 0
  have y1 := hc 1
  have y2 := hc 2
  have y3 := hc 3
  have y4 := hc 4
  have y5 := hc 5
  simp at y0 y1 y2 y3 y4 y5
  clear hc hz8 hz9 hz10
  go_wp2_with fail
  refine (with_any _ _ _ t (withKids u K) p w10 HN10.out HU10.out HI10.out HPR.out (by omega) HWK.out).mono ?_
  rintro e w11 ⟨C1, i1, e1, C2, i2, e2, C3, e3, r, nn, rfl, hnr, hfo, hb11⟩
  rw [HSP.out.2.2.1.follow] at hfo
  obtain ⟨hr, rfl⟩ : r = withB t p (withKids u K) ∧ nn = 0 := by
    rcases hfo with ⟨_, h0, h1⟩ | ⟨hfo, _⟩
    · exact ⟨h1, h0⟩
    · cases hfo
  have HR := Lib.hid hr
  clear hr
  have hl10 : w.heap.size + 1 + 1 < w10.heap.size := (Array.getElem?_eq_some_iff.1 HE10.out).1
  have hm11 := (hb11.block (w.heap.size + 1) (by omega)).trans HM10.out
  have HM11 := Lib.hid hm11
  have HE11 := Lib.hid ((hb11.block (w.heap.size + 1 + 1) hl10).trans HE10.out)
  have HB11 := Lib.hid (belowNext HB10.out hb11)
  have HNR := Lib.hid hnr
  obtain ⟨p0, p1, p2, p3, p4⟩ := cells5 hm11
  have q0 := frozen_of_row _ _ 0 _ _ hm11
  have q1 := frozen_of_row _ _ 1 _ _ hm11
  have q2 := frozen_of_row _ _ 2 _ _ hm11
  have q3 := frozen_of_row _ _ 3 _ _ hm11
  have q4 := frozen_of_row _ _ 4 _ _ hm11
  clear hm11 hb11 hnr hfo x0 x1 x2 x3 x4 y0 y1 y2 y3 y4 y5
  go_upto_region 9 with fail
  have HM12 : Hid ((put5z w11 (w.heap.size + 1) (.string r.kind) (.string r.text) (.slice C1 i1 e1) (.slice C2 i2 e2) (.slice C3 r.kids.length e3)).heap[w.heap.size + 1]? = some (.cells #[.string r.kind, .string r.text, .slice C1 i1 e1, .slice C2 i2 e2, .slice C3 r.kids.length e3] 28)) := Lib.hid (put5z_block HM11.out)
  have HE12 : Hid ((put5z w11 (w.heap.size + 1) (.string r.kind) (.string r.text) (.slice C1 i1 e1) (.slice C2 i2 e2) (.slice C3 r.kids.length e3)).heap[w.heap.size + 1 + 1]? = some (.cells #[.int .i64 0] 32)) := Lib.hid ((put5z_other (by omega)).trans HE11.out)
  have HB12 : Hid (Below w.heap.size w (put5z w11 (w.heap.size + 1) (.string r.kind) (.string r.text) (.slice C1 i1 e1) (.slice C2 i2 e2) (.slice C3 r.kids.length e3))) := Lib.hid (put5z_below (Nat.le_succ _) HB11.out)
  have HN12 : Hid (Node (put5z w11 (w.heap.size + 1) (.string r.kind) (.string r.text) (.slice C1 i1 e1) (.slice C2 i2 e2) (.slice C3 r.kids.length e3)) (From (w.heap.size + 3) (put5z w11 (w.heap.size + 1) (.string r.kind) (.string r.text) (.slice C1 i1 e1) (.slice C2 i2 e2) (.slice C3 r.kids.length e3)).heap.size) (.agg #[.string r.kind, .string r.text, .slice C1 i1 e1, .slice C2 i2 e2, .slice C3 r.kids.length e3]) r) := Lib.hid (HNR.out.keep (fun b hb => ⟨by have := hb.1; omega, by rw [put5z_size]; exact hb.2⟩) (fun b hb => put5z_other (by have := hb.1; omega)))
  unfold put5z at HM12 HE12 HB12 HN12
  clear p0 p1 p2 p3 p4 q0 q1 q2 q3 q4
  generalize ((((w11.setCell ⟨w.heap.size + 1, 0, none⟩ (.string r.kind)).setCell ⟨w.heap.size + 1, 1, none⟩ (.string r.text)).setCell ⟨w.heap.size + 1, 2, none⟩ (.slice C1 i1 e1)).setCell ⟨w.heap.size + 1, 3, none⟩ (.slice C2 i2 e2)).setCell ⟨w.heap.size + 1, 4, none⟩ (.slice C3 r.kids.length e3) = w12 at *
  have HWR : Hid (weigh r ≤ 1000000) := Lib.hid (by
    have h1 := weigh_with p t u (withKids u K) HSP.out.2.2.1.go
    rw [← HR.out] at h1
    have h2 : weigh (withKids u K) ≤ weigh u + weighAll K := by
      obtain ⟨uk, ut, um, ua, ul⟩ := u
      simp only [withKids, Tree.kind, Tree.text, Tree.marks, Tree.attrs, weigh]; omega
    omega)
  have HGD : Hid (checkB r = 0) := Lib.hid (by rw [HR.out]; exact hgood)
  have HT12 : Hid (Tabs w12.drew) := Lib.hid (HT.out.below HB12.out.drew)
  have HND : Hid (Node w12.drew (Under w12.drew.heap.size) (.agg #[.string r.kind, .string r.text, .slice C1 i1 e1, .slice C2 i2 e2, .slice C3 r.kids.length e3]) r) := Lib.hid (HN12.out.keep (w' := w12.drew) (fun b hb => hb.2) (fun _ _ => rfl))
  obtain ⟨x0, x1, x2, x3, x4⟩ := cells5 HM12.out
  refine wp_region_noPanic ?_
  go_region_law (first
    | ((with_reducible refine step_check (v := .agg #[.string r.kind, .string r.text, .slice C1 i1 e1, .slice C2 i2 e2, .slice C3 r.kids.length e3]) (t := r) (w := w12.drew) rfl (.tmp 52) rfl rfl HND.out HWR.out HT12.out ?_); intro w13 hb13; rw [HGD.out]; have HB13 : Hid (Below w12.heap.size w12 w13) := Lib.hid (undrew hb13); have h1 : w.heap.size + 1 + 1 < w12.heap.size := (Array.getElem?_eq_some_iff.1 HE12.out).1; have HM13 := Lib.hid ((HB13.out.block (w.heap.size + 1) (by omega)).trans HM12.out); have HE13 := Lib.hid ((HB13.out.block (w.heap.size + 1 + 1) h1).trans HE12.out); have HN13 := Lib.hid (HN12.out.keep (w' := w13) (S' := From (w.heap.size + 3) w13.heap.size) (fun b hb => ⟨hb.1, Nat.lt_of_lt_of_le hb.2 HB13.out.size⟩) (fun b hb => HB13.out.block b hb.2)); have HC13 := Lib.hid (belowNext HB12.out HB13.out); obtain ⟨p0, p1, p2, p3, p4⟩ := cells5 HM13.out; have q0 := frozen_of_row _ _ 0 _ _ HM13.out; have q1 := frozen_of_row _ _ 1 _ _ HM13.out; have q2 := frozen_of_row _ _ 2 _ _ HM13.out; have q3 := frozen_of_row _ _ 3 _ _ HM13.out; have q4 := frozen_of_row _ _ 4 _ _ HM13.out; obtain ⟨p5, q5⟩ := cells1 HE13.out; clear hb13 h1)
    | fail)
  all_goals
    refine NoPanic.normal ?_
    go_wp2
    rw [← HR.out]
    obtain ⟨a1, a2, a3, a4⟩ := put_end HM13.out HE13.out HN13.out HC13.out
    unfold put5z at a1 a2 a3 a4
    exact put_door a1 a2 rfl rfl a3 a4
end Go.Proofs.YtamoklceekeheaaDoor

namespace Go.Proofs.YtamoklceekeheaaDoor
open Go.RowKit Go.Sort Go.Maps
attribute [local go_sem ↓] Go.wp_at_zero Go.wp_at_succ

theorem set_ne {w : World} {g b : Nat} {v : Value} (h : b ≠ g) : (w.setCell ⟨g, 0, none⟩ v).heap[b]? = w.heap[b]? := Below.heap_setCell _ _ _ _ h
/-- Cut's deferred function, where nothing is wrong. -/
theorem cut_well (g7 g6 : Nat) (u : FrameMode) (w : World) (h7 : w.cell? ⟨g7, 0, none⟩ = some (.int .i64 0)) :
    CallsD Tryd.prog 27 #[.pointer (some ⟨g7, 0, none⟩), .pointer (some ⟨g6, 0, none⟩)] u w fun e u' w' => u' = u ∧ (e = .returned (.tuple #[]) ∧ w' = w) := by
  go_enter_d Tryd.func27, Tryd.ntmps27
  go_wp2
  go_end0
  exact ⟨rfl, rfl⟩
/-- What Cut answers. -/
def CutPost (w : World) (M : List Tree) (e : Ending) (w' : World) : Prop :=
  ∃ A c, e = .returned (.tuple #[.slice A M.length c, .int .i64 0]) ∧ Kids w' (From w.heap.size w'.heap.size) (.slice A M.length c) M ∧ Below w.heap.size w w'
set_option maxRecDepth 100000 in
theorem cut_door {w wd : World} {tmps : Array Value} {M : List Tree} {A : Option Addr} {c : Nat} (h6 : wd.heap[w.heap.size + 1]? = some (.cells #[.slice A M.length c] 26)) (h7 : wd.heap[w.heap.size + 1 + 1]? = some (.cells #[.int .i64 0] 32))
    (t6 : tmps[6]? = some (.pointer (some ⟨w.heap.size + 1, 0, none⟩))) (t7 : tmps[7]? = some (.pointer (some ⟨w.heap.size + 1 + 1, 0, none⟩))) (hn : Kids wd (From w.heap.size wd.heap.size) (.slice A M.length c) M) (hb : Below w.heap.size w wd) :
    bodyPostD Tryd.prog Tryd.f13 (CutPost w M) Exit.ret { tmps := tmps, defers := [{ target := Target.fn (Fn.func 27) #[.pointer (some ⟨w.heap.size + 1 + 1, 0, none⟩), .pointer (some ⟨w.heap.size + 1, 0, none⟩)], args := #[] }] } wd := by
  obtain ⟨c6, f6⟩ := cells1 h6
  obtain ⟨c7, f7⟩ := cells1 h7
  refine leaves_cons (f := 27) (args := #[.pointer (some ⟨w.heap.size + 1 + 1, 0, none⟩), .pointer (some ⟨w.heap.size + 1, 0, none⟩)]) (by simp) (by simp [go_sem]) ?_
  refine (cut_well _ _ _ wd c7).mono ?_
  rintro e u' w'' ⟨rfl, rfl, rfl⟩
  simp [Leaves, settle, results, Tryd.results13, go_sem, t6, t7, c6, c7]
  exact ⟨A, c, rfl, hn, hb⟩

set_option maxHeartbeats 20000000 in
set_option maxRecDepth 100000 in
theorem cut_ok (v : Value) (t u : Tree) (a b : Nat) (p : List Int) (j1 o1 j2 o2 : Nat) (w : World) (h : Node w (Under w.heap.size) v t) (hw : weigh t ≤ 100000) (hT : Tabs w)
    (hdoc : isDocB t = true) (ha : resolveB t (a : Int) = some (p, j1, o1)) (hb : resolveB t (b : Int) = some (p, j2, o2)) (hab : a ≤ b) (ha1 : SpotOk t a (p, j1, o1) u) (hb1 : SpotOk t b (p, j2, o2) u) (hb9 : b ≤ 1000000) :
    Calls Tryd.prog 13 #[v, .int .i64 (a : Int), .int .i64 (b : Int)] w (CutPost w (splitB (splitB u.kids (b - startB t p)).2.1 (a - startB t p)).2.2) := by
  have hmf : ∀ (fn : Fn) (first cap : Array Value) (w : World), (Instr.makeFunc fn first cap).run Tryd.prog w = .ok (.func fn first cap) w := fun _ _ _ _ => rfl
  have HN := Lib.hid h
  have HT := Lib.hid hT
  have HSP := Lib.hid (And.intro ha (And.intro hb (And.intro ha1 hb1)))
  obtain ⟨A1, n1, c1, A2, n2, c2, A3, c3, rfl⟩ := h.forms
  clear h ha hb ha1 hb1 hT
  generalize hW1 : ((w.alloc (.cells #[.string t.kind, .string t.text, .slice A1 n1 c1, .slice A2 n2 c2, .slice A3 t.kids.length c3] 28)).alloc (.cells #[.slice none 0 0] 26)).alloc (.cells #[.int .i64 0] 32) = W1
  have HB1 : Hid (Below w.heap.size w W1) := Lib.hid (by subst hW1; exact (((Below.refl _ _).alloc (Nat.le_refl _) _).alloc (by simp) _).alloc (by simp; omega) _)
  have HC1 : Hid (W1.heap[w.heap.size]? = some (.cells #[.string t.kind, .string t.text, .slice A1 n1 c1, .slice A2 n2 c2, .slice A3 t.kids.length c3] 28) ∧ W1.heap[w.heap.size + 1]? = some (.cells #[.slice none 0 0] 26) ∧ W1.heap[w.heap.size + 1 + 1]? = some (.cells #[.int .i64 0] 32) ∧ W1.heap.size = w.heap.size + 3) := Lib.hid (by
    subst hW1; exact ⟨heap_old _ _ _ (heap_old _ _ _ (heap_new _ _)), heap_old _ _ _ (heap_new' _ _ (by simp)), heap_new' _ _ (by simp), by simp⟩)
  have HW1 := Lib.hid hW1
  clear hW1
  go_enter_defers Tryd.func13, Tryd.ntmps13
  go_upto_region 2 with fail
  rw [HW1.out]
  clear HW1
  obtain ⟨x0, x1, x2, x3, x4⟩ := cells5 HC1.out.1
  go_wp2_with fail
  refine (isDocument_any _ t W1 ((HN.out.below HB1.out).more HB1.out.size) (by omega) (HT.out.below HB1.out)).mono ?_
  rintro e w3 ⟨rfl, hb2⟩
  have HB3 := Lib.hid hb2
  have HC3 := Lib.hid (belowNext HB1.out hb2)
  rw [hdoc]
  clear hb2 x0 x1 x2 x3 x4
  have hz1 := HC1.out.2.2.2
  have HX3 := Lib.hid ((HB3.out.block w.heap.size (by omega)).trans HC1.out.1)
  have HM3 := Lib.hid ((HB3.out.block (w.heap.size + 1) (by omega)).trans HC1.out.2.1)
  have HE3 := Lib.hid ((HB3.out.block (w.heap.size + 1 + 1) (by omega)).trans HC1.out.2.2.1)
  have HZ3 : Hid (w.heap.size + 3 ≤ w3.heap.size) := Lib.hid (by have := HB3.out.size; omega)
  clear hz1
  obtain ⟨x0, x1, x2, x3, x4⟩ := cells5 HX3.out
  go_upto_region 4 with fail
  go_wp2_with fail
  refine (span_ok _ t u a b p j1 o1 j2 o2 w3 ((HN.out.below HC3.out).more HC3.out.size) (by omega) (HT.out.below HC3.out) HSP.out.1 HSP.out.2.1 hab HSP.out.2.2.1 HSP.out.2.2.2 hb9).mono ?_
  rintro e w4 ⟨P, q, B1, m1, d1, B2, m2, d2, B3, d3, E1, k1, z1, E2, k2, z2, E3, k3, z3, rfl, hip, hnu, hk1, hk2, hk3, hb4⟩
  obtain ⟨rfl, _, _⟩ := hk2.len
  have HB4 := Lib.hid hb4
  have HK2 := Lib.hid hk2
  have hz4 := hb4.size
  have hz3 := HZ3.out
  obtain ⟨ha5, hs5, hl5⟩ := new_box w4 (.cells #[.slice P p.length q, .string u.kind, .string u.text, .slice B1 m1 d1, .slice B2 m2 d2, .slice B3 u.kids.length d3, .slice E1 k1 z1, .slice E2 (splitB (splitB u.kids (b - startB t p)).2.1 (a - startB t p)).2.2.length z2, .slice E3 k3 z3] 62)
  have HM5 := Lib.hid ((ha5.block _ (by omega)).trans ((hb4.block (w.heap.size + 1) (by omega)).trans HM3.out))
  have HE5 := Lib.hid ((ha5.block _ (by omega)).trans ((hb4.block (w.heap.size + 1 + 1) (by omega)).trans HE3.out))
  have HS5 := Lib.hid hs5
  have HB5 := Lib.hid (belowNext hb4 ha5)
  have HL5 := Lib.hid hl5
  have HA5 := Lib.hid ha5
  have HK5 := Lib.hid (HK2.out.keep (S' := From (w.heap.size + 3) w4.heap.size) (fun b hb => ⟨by have := hb.1; omega, hb.2⟩) (fun b hb => ha5.block b hb.2))
  generalize (splitB (splitB u.kids (b - startB t p)).2.1 (a - startB t p)).2.2 = M at *
  obtain ⟨e9, fz9⟩ := cells1 HE5.out
  clear hb4 ha5 hs5 hl5 hip hnu hk1 hk2 hk3 x0 x1 x2 x3 x4 hz3 hz4 HK2
  go_upto_region 5 with fail
  clear e9 fz9
  generalize hw5 : w4.alloc (.cells #[.slice P p.length q, .string u.kind, .string u.text, .slice B1 m1 d1, .slice B2 m2 d2, .slice B3 u.kids.length d3, .slice E1 k1 z1, .slice E2 M.length z2, .slice E3 k3 z3] 62) = w5 at *
  clear hw5
  have HO6 : Hid (∀ b, b ≠ w.heap.size + 1 + 1 → (w5.setCell ⟨w.heap.size + 1 + 1, 0, none⟩ (.int .i64 0)).heap[b]? = w5.heap[b]?) := Lib.hid fun b hb => Below.heap_setCell _ _ _ _ hb
  have HE6 : Hid ((w5.setCell ⟨w.heap.size + 1 + 1, 0, none⟩ (.int .i64 0)).heap[w.heap.size + 1 + 1]? = some (.cells #[.int .i64 0] 32)) := Lib.hid (heap_setCell_same _ _ 0 _ _ _ HE5.out)
  have HZ6 : Hid ((w5.setCell ⟨w.heap.size + 1 + 1, 0, none⟩ (.int .i64 0)).heap.size = w5.heap.size) := Lib.hid (by simp [World.setCell])
  have HB6 : Hid (Below w.heap.size w (w5.setCell ⟨w.heap.size + 1 + 1, 0, none⟩ (.int .i64 0))) := Lib.hid (set_below (by omega) (belowNext HC3.out HB5.out))
  generalize w5.setCell ⟨w.heap.size + 1 + 1, 0, none⟩ (.int .i64 0) = w6 at *
  have hz4 := HB4.out.size
  have hz3 := HZ3.out
  have HG4 : Hid (w.heap.size + 3 ≤ w4.heap.size) := Lib.hid (by omega)
  generalize w4.heap.size = gs at *
  have hgs := HG4.out
  have HM6 := Lib.hid ((HO6.out _ (by omega)).trans HM5.out)
  have HS6 := Lib.hid ((HO6.out gs (by omega)).trans HS5.out)
  have HK6 := Lib.hid (HK5.out.keep (w' := w6) (S' := From (w.heap.size + 3) gs) (fun _ h => h) (fun b hb => HO6.out b (by have := hb.1; omega)))
  have HL6 : Hid (gs < w6.heap.size) := Lib.hid (by rw [HZ6.out]; exact HL5.out)
  obtain ⟨e6, g6⟩ := cells1 HM6.out
  obtain ⟨e7, g7⟩ := cells1 HE6.out
  have s7 : w6.cell? ⟨gs, 7, none⟩ = some (.slice E2 M.length z2) := by simp [World.cell?, HS6.out]
  have hend : ∀ W : World, (W = (w6.setCell ⟨w.heap.size + 1, 0, none⟩ (.slice E2 M.length z2)).setCell ⟨w.heap.size + 1 + 1, 0, none⟩ (.int .i64 0) ∨ W = (w6.setCell ⟨w.heap.size + 1 + 1, 0, none⟩ (.int .i64 0)).setCell ⟨w.heap.size + 1, 0, none⟩ (.slice E2 M.length z2)) →
      W.heap[w.heap.size + 1]? = some (.cells #[.slice E2 M.length z2] 26) ∧ W.heap[w.heap.size + 1 + 1]? = some (.cells #[.int .i64 0] 32) ∧ Kids W (From w.heap.size W.heap.size) (.slice E2 M.length z2) M ∧ Below w.heap.size w W := by
    intro W hW
    have hl6 := HL6.out
    have hgs := HG4.out
    rcases hW with rfl | rfl
    · refine ⟨(set_ne (by omega)).trans (heap_setCell_same _ _ 0 _ _ _ HM6.out), heap_setCell_same _ _ 0 _ _ _ ((set_ne (by omega)).trans HE6.out), HK6.out.keep (fun b hb => ⟨by have := hb.1; omega, by have := hb.2; simp [World.setCell]; omega⟩) (fun b hb => (set_ne (by have := hb.1; omega)).trans (set_ne (by have := hb.1; omega))), set_below (by omega) (set_below (by omega) HB6.out)⟩
    · refine ⟨heap_setCell_same _ _ 0 _ _ _ ((set_ne (by omega)).trans HM6.out), (set_ne (by omega)).trans (heap_setCell_same _ _ 0 _ _ _ HE6.out), HK6.out.keep (fun b hb => ⟨by have := hb.1; omega, by have := hb.2; simp [World.setCell]; omega⟩) (fun b hb => (set_ne (by have := hb.1; omega)).trans (set_ne (by have := hb.1; omega))), set_below (by omega) (set_below (by omega) HB6.out)⟩
  have HEND := Lib.hid hend
  clear hend hgs hz3 hz4
  refine wp_region_noPanic ?_
  go_region
  all_goals
    refine NoPanic.normal ?_
    go_wp2
    obtain ⟨a1, a2, a3, a4⟩ := HEND.out _ (by first | exact .inl rfl | exact .inr rfl)
    exact cut_door a1 a2 rfl rfl (a3.keep (fun _ h => h) (fun _ _ => rfl)) a4.drew
end Go.Proofs.YtamoklceekeheaaDoor

namespace Go.Proofs.YtamoklceekeheaaDoor
open Go.RowKit Go.Sort

/-- The code points of bytes. -/
def ptsF : Nat → List UInt8 → List Nat
  | 0, _ => []
  | n + 1, l => if l = [] then [] else (Lib.decodeL l).1 :: ptsF n (l.drop (Lib.decodeL l).2)
def pts (l : List UInt8) : List Nat := ptsF l.length l
theorem ptsF_more : ∀ (n m : Nat) (l : List UInt8), l.length ≤ n → l.length ≤ m → ptsF n l = ptsF m l
  | 0, m, l, h, _ => by
    have : l = [] := List.eq_nil_of_length_eq_zero (by omega)
    subst this; cases m <;> simp [ptsF]
  | n + 1, 0, l, _, h => by
    have : l = [] := List.eq_nil_of_length_eq_zero (by omega)
    subst this; simp [ptsF]
  | n + 1, m + 1, l, h1, h2 => by
    simp only [ptsF]
    split
    · rfl
    · rename_i hne
      have hw := Lib.decodeL_width l
      have hl : 0 < l.length := List.length_pos_iff.2 hne
      rw [ptsF_more n m _ (by rw [List.length_drop]; omega) (by rw [List.length_drop]; omega)]
theorem pts_nil : pts [] = [] := rfl
theorem pts_step (l : List UInt8) (h : l ≠ []) : pts l = (Lib.decodeL l).1 :: pts (l.drop (Lib.decodeL l).2) := by
  have hw := Lib.decodeL_width l
  have hl : 0 < l.length := List.length_pos_iff.2 h
  obtain ⟨n, hn⟩ : ∃ n, l.length = n + 1 := ⟨l.length - 1, by omega⟩
  unfold pts
  rw [hn, ptsF, if_neg h, ptsF_more n _ _ (by rw [List.length_drop]; omega) (Nat.le_refl _)]
theorem ptsF_count : ∀ (n : Nat) (l : List UInt8), l.length ≤ n → (pts l).length = Lib.runeCountL l
  | 0, l, h => by
    have : l = [] := List.eq_nil_of_length_eq_zero (by omega)
    subst this; rfl
  | n + 1, l, h => by
    by_cases hne : l = []
    · subst hne; rfl
    · have hw := Lib.decodeL_width l
      have hl : 0 < l.length := List.length_pos_iff.2 hne
      rw [pts_step l hne, rc_step l hne, List.length_cons, ptsF_count n _ (by rw [List.length_drop]; omega)]; omega
theorem pts_count (l : List UInt8) : (pts l).length = Lib.runeCountL l := ptsF_count _ l (Nat.le_refl _)

/-- The model's own code points are these. -/
theorem runesFrom_eq (s : ByteArray) : ∀ (n i : Nat) (acc : Array Value), s.size - i ≤ n → Conv.runesFrom s n i acc = acc ++ ((pts (s.data.toList.drop i)).map fun r : Nat => Value.int .i32 (r : Int)).toArray
  | 0, i, acc, h => by
    have : s.data.toList.drop i = [] := List.drop_of_length_le (by have := Lib.size_eq s; omega)
    rw [this, pts_nil]; simp [Conv.runesFrom]
  | n + 1, i, acc, h => by
    unfold Conv.runesFrom
    have hsz := Lib.size_eq s
    split
    · rename_i hi
      have hne : s.data.toList.drop i ≠ [] := fun e => by
        have := congrArg List.length e
        rw [List.length_drop] at this; simp at this; omega
      have hw := Lib.decodeL_width (s.data.toList.drop i)
      rw [Lib.decodeL_drop] at hw
      show Conv.runesFrom s n (i + (Utf8.decode s i).2) (acc.push (.int .i32 (Int.ofNat (Utf8.decode s i).1))) = _
      rw [runesFrom_eq s n _ _ (by omega), pts_step _ hne, Lib.decodeL_drop, List.drop_drop]
      simp
    · rename_i hi
      have : s.data.toList.drop i = [] := List.drop_of_length_le (by omega)
      rw [this, pts_nil]; simp

/-! ### the text of code points -/
theorem runeError_eq : Utf8.runeError = 65533 := rfl
theorem encode_eq (r : Nat) (h : Utf8.valid (r : Int) = true) : (Utf8.encode (r : Int)).data.toList = Lib.encodeRune (r : Int) := by
  have hv : ((0 : Int) ≤ r ∧ (r : Int) < 55296) ∨ (57344 ≤ (r : Int) ∧ (r : Int) ≤ 1114111) := by simpa [Utf8.valid] using h
  unfold Utf8.encode Lib.encodeRune
  simp only [h, if_true, Int.toNat_natCast]
  by_cases h1 : r < 128
  · rw [if_pos h1, Lib.encodeRuneZ_one (by omega) (by omega)]; simp
  · rw [if_neg h1]
    by_cases h2 : r < 2048
    · rw [if_pos h2, Lib.encodeRuneZ_two (by omega) (by omega)]
      simp only [List.map_cons, List.map_nil]
      rw [show (192 + (r : Int) / 64).toNat = 192 + r / 64 by omega, show (128 + (r : Int) % 64).toNat = 128 + r % 64 by omega]
    · rw [if_neg h2]
      by_cases h3 : r < 65536
      · rw [if_pos h3, Lib.encodeRuneZ_three (by omega)]
        simp only [List.map_cons, List.map_nil]
        rw [show (224 + (r : Int) / 4096).toNat = 224 + r / 4096 by omega, show (128 + (r : Int) / 64 % 64).toNat = 128 + r / 64 % 64 by omega, show (128 + (r : Int) % 64).toNat = 128 + r % 64 by omega]
      · rw [if_neg h3, Lib.encodeRuneZ_four (by omega) (by omega)]
        simp only [List.map_cons, List.map_nil]
        rw [show (240 + (r : Int) / 262144).toNat = 240 + r / 262144 by omega, show (128 + (r : Int) / 4096 % 64).toNat = 128 + r / 4096 % 64 by omega, show (128 + (r : Int) / 64 % 64).toNat = 128 + r / 64 % 64 by omega, show (128 + (r : Int) % 64).toNat = 128 + r % 64 by omega]
theorem valid_of (r : Nat) (h : r < 55296 ∨ (57344 ≤ r ∧ r ≤ 1114111)) : Utf8.valid (r : Int) = true := by
  simp only [Utf8.valid, Bool.or_eq_true, Bool.and_eq_true, decide_eq_true_eq]
  omega
theorem ok1 (x : Nat) (h : x < 55296) : x < 55296 ∨ (57344 ≤ x ∧ x ≤ 1114111) := .inl h
theorem ok3 (x : Nat) (h : x ≤ 65535) (h2 : x < 55296 ∨ 57344 ≤ x) : x < 55296 ∨ (57344 ≤ x ∧ x ≤ 1114111) := by omega
theorem ok4 (x : Nat) (h : 65536 ≤ x) (h2 : x ≤ 1114111) : x < 55296 ∨ (57344 ≤ x ∧ x ≤ 1114111) := by omega
theorem ok5 (x : Nat) (h : x = 65533) : x < 55296 ∨ (57344 ≤ x ∧ x ≤ 1114111) := by omega
theorem decodeN_valid (n b0 b1 b2 b3 : Nat) : (Lib.decodeN n b0 b1 b2 b3).1 < 55296 ∨ (57344 ≤ (Lib.decodeN n b0 b1 b2 b3).1 ∧ (Lib.decodeN n b0 b1 b2 b3).1 ≤ 1114111) := by
  generalize hx : (Lib.decodeN n b0 b1 b2 b3).1 = x
  rcases Lib.decodeN_shape n b0 b1 b2 b3 with ⟨c, e⟩ | ⟨d1, d2, d3, dv, e⟩ | ⟨d1, d2, d3, d4, dv, ds, e⟩ | ⟨d1, d2, d3, d4, d5, dv, dw, e⟩ | e
  · exact ok1 x (by rw [e] at hx; simp only at hx; omega)
  · exact ok1 x (by rw [e] at hx; simp only at hx; omega)
  · rw [e] at hx; simp only at hx
    rw [hx] at ds dv
    exact ok3 x (by omega) ds
  · rw [e] at hx; simp only at hx
    rw [hx] at dv dw
    exact ok4 x dv dw
  · exact ok5 x (by rw [e] at hx; simp only at hx; exact hx.symm)
theorem decode_valid (l : List UInt8) : Utf8.valid ((Lib.decodeL l).1 : Int) = true := by
  rw [Lib.decodeL_N]
  exact valid_of _ (decodeN_valid _ _ _ _ _)
def encZ (r : Int) : List UInt8 := (Utf8.encode r).data.toList
theorem encZ_eq (r : Int) : encZ r = (Utf8.encode r).data.toList := rfl
def encL (r : Nat) : List UInt8 := encZ (r : Int)
theorem encL_eq (r : Nat) : encL r = encZ (r : Int) := rfl
theorem encL_dec (l : List UInt8) (h : l ≠ []) (hv : ¬ ((Lib.decodeL l).1 = 65533 ∧ (Lib.decodeL l).2 = 1)) : encL (Lib.decodeL l).1 = l.take (Lib.decodeL l).2 := by
  rw [encL_eq, encZ_eq, encode_eq _ (decode_valid l), Lib.encode_decode l h hv]
theorem encL_bad : (encL 65533).length = 3 := by decide +kernel
/-- The text of the code points of a text. -/
def backB (l : List UInt8) : List UInt8 := ((pts l).map encL).flatten
theorem back_step (l : List UInt8) (h : l ≠ []) : backB l = encL (Lib.decodeL l).1 ++ backB (l.drop (Lib.decodeL l).2) := by
  unfold backB; rw [pts_step l h]; simp
theorem back_le : ∀ (n : Nat) (l : List UInt8), l.length ≤ n → l.length ≤ (backB l).length
  | 0, l, h => by omega
  | n + 1, l, h => by
    by_cases hne : l = []
    · subst hne; simp
    · have hw := Lib.decodeL_width l
      have hle := Lib.decodeL_le l hne
      have hl : 0 < l.length := List.length_pos_iff.2 hne
      have ih := back_le n (l.drop (Lib.decodeL l).2) (by rw [List.length_drop]; omega)
      rw [List.length_drop] at ih
      rw [back_step l hne, List.length_append]
      by_cases hv : (Lib.decodeL l).1 = 65533 ∧ (Lib.decodeL l).2 = 1
      · rw [hv.1, encL_bad]; omega
      · rw [encL_dec l hne hv, List.length_take]; omega
theorem back_valid : ∀ (n : Nat) (l : List UInt8), l.length ≤ n → Lib.validD l = true → backB l = l
  | 0, l, h, _ => by
    have : l = [] := List.eq_nil_of_length_eq_zero (by omega)
    subst this; rfl
  | n + 1, l, h, hv => by
    by_cases hne : l = []
    · subst hne; rfl
    · rw [Lib.validD_step l hne] at hv
      split at hv
      · cases hv
      · rename_i he
        have hw := Lib.decodeL_width l
        have hl : 0 < l.length := List.length_pos_iff.2 hne
        rw [back_step l hne, encL_dec l hne he, back_valid n _ (by rw [List.length_drop]; omega) hv, List.take_append_drop]
theorem back_invalid : ∀ (n : Nat) (l : List UInt8), l.length ≤ n → Lib.validD l = false → l.length < (backB l).length
  | 0, l, h, hv => by
    have : l = [] := List.eq_nil_of_length_eq_zero (by omega)
    subst this; exact absurd hv (by decide +kernel)
  | n + 1, l, h, hv => by
    by_cases hne : l = []
    · subst hne; exact absurd hv (by decide +kernel)
    · have hw := Lib.decodeL_width l
      have hle := Lib.decodeL_le l hne
      have hl : 0 < l.length := List.length_pos_iff.2 hne
      have hd : (l.drop (Lib.decodeL l).2).length = l.length - (Lib.decodeL l).2 := List.length_drop
      rw [Lib.validD_step l hne] at hv
      rw [back_step l hne, List.length_append]
      split at hv
      · rename_i he
        have := back_le _ (l.drop (Lib.decodeL l).2) (Nat.le_refl _)
        rw [he.1, encL_bad]; omega
      · rename_i he
        have := back_invalid n (l.drop (Lib.decodeL l).2) (by omega) hv
        rw [encL_dec l hne he, List.length_take]; omega
theorem back_same (l : List UInt8) : (backB l == l) = Lib.validD l := by
  cases hv : Lib.validD l with
  | true => rw [back_valid _ l (Nat.le_refl _) hv]; simp
  | false =>
    have := back_invalid _ l (Nat.le_refl _) hv
    rw [beq_eq_false_iff_ne]
    intro e; rw [e] at this; omega

theorem foldl_runes : ∀ (ns : List Int) (s : ByteArray), (ns.foldl (fun r n => r ++ Utf8.encode n) s).data.toList = s.data.toList ++ (ns.map encZ).flatten
  | [], s => by simp
  | n :: ns, s => by rw [List.foldl_cons, foldl_runes ns, ByteArray.data_append, Array.toList_append, List.map_cons, List.flatten_cons, encZ_eq, List.append_assoc]
theorem runesBytes_data (ps : List Nat) : (runesBytes (ps.map fun r : Nat => (r : Int))).data.toList = (ps.map encL).flatten := by
  have h1 : (ps.map fun r : Nat => (r : Int)).map encZ = ps.map encL := by
    rw [List.map_map]
    exact List.map_congr_left fun r _ => by rw [Function.comp_apply, encL_eq]
  have h2 : ByteArray.empty.data.toList = [] := rfl
  unfold runesBytes
  rw [foldl_runes, h1, h2, List.nil_append]

/-! ### what the conversions give, in memory -/
/-- A slice of code points. -/
def Pts (w : World) (S : Nat → Prop) (v : Value) (ps : List Nat) : Prop :=
  ∃ g c, v = .slice (some ⟨g, 0, none⟩) ps.length c ∧ ps.length ≤ c ∧ S g ∧ ∀ i (r : Nat), ps[i]? = some r → w.cell? ⟨g, i, none⟩ = some (.int .i32 (r : Int))
end Go.Proofs.YtamoklceekeheaaDoor

namespace Go.Proofs.YtamoklceekeheaaDoor
open Go.RowKit Go.Sort

/-! ### joined parts, joined -/
theorem isTxt_eq {k : ByteArray} (h : isTxt k = true) : k = TEXT := by
  unfold isTxt at h
  rw [beq_iff_eq, Lib.toList_data] at h
  exact ByteArray.ext (Array.ext' h)
theorem text_app_ne {a b : ByteArray} (h : b.toList.isEmpty = false) : (a ++ b).toList.isEmpty = false := by
  cases h2 : (a ++ b).toList.isEmpty with
  | false => rfl
  | true =>
    have h3 := empty_data.1 h2
    rw [ByteArray.data_append, Array.toList_append] at h3
    rw [empty_data.2 (List.append_eq_nil_iff.1 h3).2] at h
    cases h
theorem set_kind (x : Tree) (s : ByteArray) : (setText x s).kind = x.kind := rfl
theorem set_text (x : Tree) (s : ByteArray) : (setText x s).text = s := rfl
theorem set_marks (x : Tree) (s : ByteArray) : (setText x s).marks = x.marks := rfl
theorem set_set (x : Tree) (s t : ByteArray) : setText (setText x s) t = setText x t := rfl
theorem keepB_of {x : Tree} (h : ¬ (isTxt x.kind && x.text.toList.isEmpty) = true) : keepB x = true := by
  unfold keepB
  cases hb : (isTxt x.kind && x.text.toList.isEmpty) with
  | false => rfl
  | true => exact absurd hb h
theorem keepB_ne {x : Tree} (h : x.text.toList.isEmpty = false) : keepB x = true := by unfold keepB; rw [h, Bool.and_false]; rfl
theorem step_keeps (out : List Tree) (x : Tree) (h : ∀ z ∈ out, keepB z = true) : ∀ z ∈ joinStep out x, keepB z = true := by
  unfold joinStep
  intro z hz
  split at hz
  · exact h z hz
  · rename_i hx
    have hxk : keepB x = true := keepB_of hx
    split at hz
    · rename_i y hy
      split at hz
      · rename_i hj
        simp only [Bool.and_eq_true] at hj
        rcases List.mem_append.1 hz with hz | hz
        · exact h z (List.dropLast_subset _ hz)
        · simp only [List.mem_singleton] at hz
          subst hz
          have h1 := keepB_text hxk hj.1
          exact keepB_ne (by rw [set_text]; exact text_app_ne h1)
      · rcases List.mem_append.1 hz with hz | hz
        · exact h z hz
        · simp only [List.mem_singleton] at hz; subst hz; exact hxk
    · rcases List.mem_append.1 hz with hz | hz
      · exact h z hz
      · simp only [List.mem_singleton] at hz; subst hz; exact hxk
theorem fold_keeps : ∀ (l out : List Tree), (∀ z ∈ out, keepB z = true) → ∀ z ∈ l.foldl joinStep out, keepB z = true
  | [], _, h => h
  | x :: l, out, h => fold_keeps l _ (step_keeps out x h)
theorem joinB_keeps (l : List Tree) : ∀ z ∈ joinB l, keepB z = true := fold_keeps l [] (by simp)

theorem sameL_trans {a b c : List ByteArray} (h : sameL b c = true) : sameL a b = sameL a c := by rw [sameL_eq h]
theorem step_step (O : List Tree) (z x : Tree) (hz : keepB z = true) (hx : keepB x = true) (hkx : isTxt x.kind = true) (hj : joinsOn z x = true) :
    joinStep (joinStep O z) x = joinStep O (setText x (z.text ++ x.text)) := by
  have hj' := hj
  simp only [joinsOn, Bool.and_eq_true] at hj'
  obtain ⟨hkz, hm⟩ := hj'
  have ez := keepB_text hz hkz
  have ex := keepB_text hx hkx
  have es : (setText x (z.text ++ x.text)).text.toList.isEmpty = false := text_app_ne ex
  cases hO : O.getLast? with
  | none =>
    have : O = [] := List.getLast?_eq_none_iff.1 hO
    subst this
    rw [joinStep_first ez, joinStep_first es, joinStep_on (z := z) (by simp) hkx ex hj]; rfl
  | some y =>
    cases hy : joinsOn y z with
    | false =>
      have hy' : joinsOn y (setText x (z.text ++ x.text)) = false := by
        rw [← hy]; unfold joinsOn; rw [set_marks, sameL_trans hm]
      rw [joinStep_other hO ez hy, joinStep_other hO es hy', joinStep_on (z := z) (by simp) hkx ex hj]; simp
    | true =>
      have hy' : joinsOn y (setText x (z.text ++ x.text)) = true := by
        rw [← hy]; unfold joinsOn; rw [set_marks, sameL_trans hm]
      rw [joinStep_on hO hkz ez hy, joinStep_on (n := setText x (z.text ++ x.text)) hO hkx es hy', joinStep_on (z := setText z (y.text ++ z.text)) (by simp) hkx ex (by unfold joinsOn at hj ⊢; rw [set_kind, set_marks]; exact hj)]
      rw [set_text, set_set, set_text, ByteArray.append_assoc]; simp

theorem fold_join_snoc (J b : List Tree) (x : Tree) (ih : (joinB b).foldl joinStep J = b.foldl joinStep J) : (joinB (b ++ [x])).foldl joinStep J = (b ++ [x]).foldl joinStep J := by
  rw [joinB_snoc, List.foldl_append, ← ih]
  simp only [List.foldl_cons, List.foldl_nil]
  cases hx : keepB x with
  | false => rw [join_skip _ x hx, join_skip _ x hx]
  | true =>
    cases hk : isTxt x.kind with
    | false => rw [joinStep_plain hk, List.foldl_append]; rfl
    | true =>
      have ex := keepB_text hx hk
      cases hB : (joinB b).getLast? with
      | none =>
        have : joinB b = [] := List.getLast?_eq_none_iff.1 hB
        rw [this, joinStep_first ex]; rfl
      | some z =>
        cases hj : joinsOn z x with
        | false => rw [joinStep_other hB ex hj, List.foldl_append]; rfl
        | true =>
          have hz := joinB_keeps b z (List.mem_of_getLast? hB)
          have e := dropLast_getLast? hB
          rw [joinStep_on hB hk ex hj, List.foldl_append]
          conv => rhs; rw [e, List.foldl_append]
          simp only [List.foldl_cons, List.foldl_nil]
          exact (step_step _ z x hz hx hk hj).symm
theorem fold_join (J : List Tree) : ∀ (n : Nat) (b : List Tree), b.length = n → (joinB b).foldl joinStep J = b.foldl joinStep J
  | 0, b, h => by
    have : b = [] := List.eq_nil_of_length_eq_zero h
    subst this; rfl
  | n + 1, b, h => by
    have hne : b ≠ [] := fun e => by subst e; simp at h
    rw [← List.dropLast_concat_getLast hne]
    exact fold_join_snoc J _ _ (fold_join J n _ (by rw [List.length_dropLast]; omega))
theorem joinB_parts (a b : List Tree) : joinB (joinB a ++ joinB b) = joinB (a ++ b) := by
  have h1 := fold_join [] _ a rfl
  have h2 := fold_join (joinB a) _ b rfl
  unfold joinB at *
  rw [List.foldl_append, h1, h2, List.foldl_append]

/-! ### code points -/
theorem encZ_ne (r : Int) : encZ r ≠ [] := by
  rw [encZ_eq]
  unfold Utf8.encode
  dsimp only
  repeat' split
  all_goals simp
theorem encL_ne (r : Nat) : encL r ≠ [] := by rw [encL_eq]; exact encZ_ne _
theorem encL_le (r : Nat) : (encL r).length ≤ 4 := by
  rw [encL_eq, encZ_eq]
  have h := encode_size_le (r : Int)
  have h2 := Lib.size_eq (Utf8.encode (r : Int))
  omega
def pieceT (m : List ByteArray) (r : Nat) : Tree := .mk TEXT ⟨(encL r).toArray⟩ m [] []
def cutOne (x : Tree) : List Tree := if isTxt x.kind then (pts x.text.data.toList).map (pieceT x.marks) else [x]
def cutB (ks : List Tree) : List Tree := ks.flatMap cutOne
theorem cutB_snoc (ks : List Tree) (x : Tree) : cutB (ks ++ [x]) = cutB ks ++ cutOne x := by simp [cutB]
theorem isTxt_TEXT : isTxt TEXT = true := by decide +kernel
theorem piece_marks (m : List ByteArray) (r : Nat) : (pieceT m r).marks = m := rfl
theorem back_arr (a b : List UInt8) (t : ByteArray) (h : a ++ b = t.data.toList) : (⟨((⟨a.toArray⟩ : ByteArray).data.toList ++ b).toArray⟩ : ByteArray) = t := ByteArray.ext (Array.ext' (by simpa using h))
theorem piece_text (m : List ByteArray) (r : Nat) : (pieceT m r).text.toList.isEmpty = false := by
  cases h : (pieceT m r).text.toList.isEmpty with
  | false => rfl
  | true => exact absurd (empty_data.1 h) (by simpa [pieceT, Tree.text] using encL_ne r)
theorem cut_fold (J : List Tree) (m : List ByteArray) : ∀ (ps : List Nat) (t : ByteArray), (ps.map (pieceT m)).foldl joinStep (J ++ [.mk TEXT t m [] []]) = J ++ [.mk TEXT ⟨(t.data.toList ++ (ps.map encL).flatten).toArray⟩ m [] []]
  | [], t => by simp
  | r :: ps, t => by
    have hs : joinStep (J ++ [.mk TEXT t m [] []]) (pieceT m r) = J ++ [.mk TEXT (t ++ ⟨(encL r).toArray⟩) m [] []] := by
      have hon : joinsOn (.mk TEXT t m [] []) (pieceT m r) = true := by
        show (isTxt TEXT && sameL m m) = true
        rw [isTxt_TEXT, sameL_all rfl fun _ _ => by simp]; rfl
      have hst := joinStep_on (out := J ++ [Tree.mk TEXT t m [] []]) (n := pieceT m r) (z := Tree.mk TEXT t m [] []) (by simp) isTxt_TEXT (piece_text m r) hon
      rw [hst, List.dropLast_concat]
      rfl
    rw [List.map_cons, List.foldl_cons, hs, cut_fold J m ps]
    simp [ByteArray.data_append]

theorem text_form {x : Tree} (hk : isTxt x.kind = true) (hf : formedB x = true) : ∃ t m, x = .mk TEXT t m [] [] ∧ t.data.toList ≠ [] ∧ Lib.validD t.data.toList = true := by
  rw [formed_text hk] at hf
  obtain ⟨h1, h2, _, h4, h5⟩ := textB_parts hf
  obtain ⟨k, t, m, a, l⟩ := x
  simp only [Tree.kind, Tree.text, Tree.attrs, Tree.kids] at *
  exact ⟨t, m, by rw [isTxt_eq hk, List.eq_nil_of_length_eq_zero h4, List.eq_nil_of_length_eq_zero h5], h1, h2⟩
theorem cut_stays : ∀ (l out : List Tree), rowB out.getLast? l = true → (cutB l).foldl joinStep out = out ++ l
  | [], out, _ => by simp [cutB]
  | x :: l, out, h => by
    have h' := h
    simp only [rowB, Bool.and_eq_true, Bool.not_eq_true'] at h
    obtain ⟨ha, hf, hr⟩ := h
    have hc : cutB (x :: l) = cutOne x ++ cutB l := by simp [cutB]
    have hs : (cutOne x).foldl joinStep out = out ++ [x] := by
      cases hk : isTxt x.kind with
      | false => simp only [cutOne, hk, Bool.false_eq_true, if_false, List.foldl_cons, List.foldl_nil]; exact joinStep_plain hk
      | true =>
        obtain ⟨t, m, rfl, hne, hv⟩ := text_form hk hf
        have hb : backB t.data.toList = t.data.toList := back_valid _ _ (Nat.le_refl _) hv
        simp only [cutOne, hk, if_true, Tree.text, Tree.marks]
        unfold backB at hb
        rw [pts_step _ hne] at hb ⊢
        have h1 : joinStep out (pieceT m (Lib.decodeL t.data.toList).1) = out ++ [pieceT m (Lib.decodeL t.data.toList).1] := by
          cases hz : out.getLast? with
          | none =>
            have : out = [] := List.getLast?_eq_none_iff.1 hz
            subst this; exact joinStep_first (piece_text m _)
          | some z =>
            rw [hz] at ha
            simp only [alikeO, alikeB, hk, Bool.true_and] at ha
            have hj : joinsOn z (pieceT m (Lib.decodeL t.data.toList).1) = false := by unfold joinsOn; rw [piece_marks]; exact ha
            exact joinStep_other hz (piece_text m _) hj
        rw [List.map_cons, List.foldl_cons, h1]
        have h3 := cut_fold out m (pts (t.data.toList.drop (Lib.decodeL t.data.toList).2)) ⟨(encL (Lib.decodeL t.data.toList).1).toArray⟩
        have h4 : pieceT m (Lib.decodeL t.data.toList).1 = .mk TEXT ⟨(encL (Lib.decodeL t.data.toList).1).toArray⟩ m [] [] := by rw [pieceT]
        rw [h4, h3]
        rw [List.map_cons, List.flatten_cons] at hb
        rw [back_arr _ _ t hb]
    rw [hc, List.foldl_append, hs, cut_stays l _ (by simpa using hr), List.append_assoc]; rfl
theorem cutB_join (ks : List Tree) (h : rowB none ks = true) : joinB (cutB ks) = ks := by
  have := cut_stays ks [] (by simpa using h)
  simpa [joinB] using this

/-! ### how much -/
theorem pieces_weigh (m : List ByteArray) (ps : List Nat) : weighAll (ps.map (pieceT m)) ≤ ps.length * (weighL m + 10) := by
  induction ps with
  | nil => simp [weighAll]
  | cons r ps ih =>
    have h4 : TEXT.size = 4 := by decide +kernel
    have h5 := encL_le r
    have h6 : (⟨(encL r).toArray⟩ : ByteArray).size = (encL r).length := by simp [ByteArray.size]
    have h7 : weigh (pieceT m r) ≤ weighL m + 10 := by
      simp only [pieceT, weigh, weighP, weighAll, List.map_nil, List.sum_nil, h4, h6]; omega
    simp only [List.map_cons, weighAll, List.length_cons]
    rw [Nat.succ_mul]; omega
theorem pts_le (l : List UInt8) : (pts l).length ≤ l.length := by
  rw [pts_count]
  have := Lib.runeCount_le ⟨l.toArray⟩
  unfold Lib.runeCountL
  simpa [ByteArray.size] using this
theorem cutOne_weigh (x : Tree) : weighAll (cutOne x) ≤ weigh x * (weigh x + 10) := by
  unfold cutOne
  split
  · have h1 := pieces_weigh x.marks (pts x.text.data.toList)
    have h2 := pts_le x.text.data.toList
    have h3 := Lib.size_eq x.text
    have h4 : x.text.size ≤ weigh x := text_le_weigh x
    have h5 : weighL x.marks ≤ weigh x := by obtain ⟨k, t, m, a, l⟩ := x; simp only [weigh, Tree.marks]; omega
    exact Nat.le_trans h1 (Nat.mul_le_mul (by omega) (by omega))
  · simp only [weighAll, Nat.add_zero]
    have : weigh x * 1 ≤ weigh x * (weigh x + 10) := Nat.mul_le_mul_left _ (by omega)
    omega
theorem cutB_weigh (W : Nat) : ∀ ks : List Tree, weighAll ks ≤ W → weighAll (cutB ks) ≤ weighAll ks * (W + 10)
  | [], _ => by simp [cutB, weighAll]
  | x :: l, h => by
    have hc : cutB (x :: l) = cutOne x ++ cutB l := by simp [cutB]
    simp only [weighAll] at h ⊢
    have h1 := cutOne_weigh x
    have h2 := cutB_weigh W l (by omega)
    have h3 : weigh x * (weigh x + 10) ≤ weigh x * (W + 10) := Nat.mul_le_mul_left _ (by omega)
    rw [hc, weighAll_append, Nat.add_mul]; omega
theorem cutB_take (ks : List Tree) (i : Nat) (x : Tree) (h : ks.take (i + 1) = ks.take i ++ [x]) : cutB (ks.take (i + 1)) = cutB (ks.take i) ++ cutOne x := by rw [h, cutB_snoc]
theorem cutB_take_le (ks : List Tree) (i : Nat) : weighAll (cutB (ks.take i)) ≤ weighAll (cutB ks) := by
  have h : cutB ks = cutB (ks.take i) ++ cutB (ks.drop i) := by
    unfold cutB; rw [← List.flatMap_append, List.take_append_drop]
  rw [h, weighAll_append]; omega
end Go.Proofs.YtamoklceekeheaaDoor

namespace Go.Proofs.YtamoklceekeheaaDoor
open Go.RowKit Go.Sort

/-! ### where code points end -/
theorem atB_app : ∀ (k : Nat) (a b : List UInt8), a.length ≤ k → Lib.validD a = true → atB (Lib.runeCountL a) (a ++ b) = a.length
  | 0, a, b, hk, _ => by
    have : a = [] := List.eq_nil_of_length_eq_zero (by omega)
    subst this; simp [rc_nil, atB]
  | k + 1, a, b, hk, h => by
    by_cases hne : a = []
    · subst hne; simp [rc_nil, atB]
    · have hv : ¬ ((Lib.decodeL a).1 = 65533 ∧ (Lib.decodeL a).2 = 1) := fun hh => by rw [Lib.validD_step a hne, if_pos hh] at h; cases h
      have h1 : Lib.validD (a.drop (Lib.decodeL a).2) = true := by rw [Lib.validD_step a hne, if_neg hv] at h; exact h
      have hw := Lib.decodeL_width a
      have hle := Lib.decodeL_le a hne
      have hl : 0 < a.length := List.length_pos_iff.2 hne
      have ih := atB_app k (a.drop (Lib.decodeL a).2) b (by rw [List.length_drop]; omega) h1
      rw [rc_step a hne, Nat.add_comm, atB, if_neg (by simp [hne]), decodeL_app a b hne hv, List.drop_append_of_le_length hle, ih, List.length_drop]
      omega
theorem text_cut (a b : ByteArray) (h : Lib.validD a.data.toList = true) : atB (Lib.runeCount a) (a ++ b).data.toList = a.size := by
  rw [← Lib.runeCountL_eq, ByteArray.data_append, Array.toList_append, atB_app _ _ _ (Nat.le_refl _) h, Lib.size_eq]

/-! ### sizes -/
theorem rc_pos {l : List UInt8} (h : l ≠ []) : 0 < Lib.runeCountL l := by rw [rc_step l h]; omega
theorem size_pos {x : Tree} (h : formedB x = true) : 0 < sizeB x := by
  cases hk : isTxt x.kind with
  | false => rw [sizeB_node hk]; omega
  | true =>
    rw [formed_text hk] at h
    rw [sizeB_text hk, ← Lib.runeCountL_eq]
    exact rc_pos (textB_parts h).1
theorem row_tail {p : Option Tree} {x : Tree} {l : List Tree} (h : rowB p (x :: l) = true) : alikeO p x = false ∧ formedB x = true ∧ rowB (some x) l = true := by
  simpa [rowB] using h
theorem row_of {p : Option Tree} {x : Tree} {l : List Tree} (h1 : alikeO p x = false) (h2 : formedB x = true) (h3 : rowB (some x) l = true) : rowB p (x :: l) = true := by
  simp [rowB, h1, h2, h3]
theorem row_none {p : Option Tree} {l : List Tree} (h : rowB p l = true) : rowB none l = true := by
  cases l with
  | nil => simp [rowB]
  | cons x l => obtain ⟨_, h2, h3⟩ := row_tail h; exact row_of rfl h2 h3
theorem row_like {z y : Tree} {l : List Tree} (hk : z.kind = y.kind) (hm : z.marks = y.marks) (h : rowB (some y) l = true) : rowB (some z) l = true := by
  cases l with
  | nil => simp [rowB]
  | cons x l => obtain ⟨h1, h2, h3⟩ := row_tail h; exact row_of (by simpa [alikeO, alike_like hk hm] using h1) h2 h3
theorem rowFormed {p : Option Tree} {l : List Tree} (h : rowB p l = true) : ∀ x ∈ l, formedB x = true := by
  induction l generalizing p with
  | nil => intro x hx; cases hx
  | cons y l ih =>
    obtain ⟨_, h2, h3⟩ := row_tail h
    intro x hx
    rcases List.mem_cons.1 hx with e | e
    · rw [e]; exact h2
    · exact ih h3 x e

/-! ### a text, cut -/
structure Cuts2 (x : Tree) (n : Nat) : Prop where
  lf : formedB (cutL x n) = true
  rf : formedB (cutR x n) = true
  ls : sizeB (cutL x n) = n
  rs : sizeB (cutR x n) + n = sizeB x
  tx : (cutL x n).text ++ (cutR x n).text = x.text
theorem cutL_kind (x : Tree) (n : Nat) : (cutL x n).kind = x.kind := rfl
theorem cutR_kind (x : Tree) (n : Nat) : (cutR x n).kind = x.kind := rfl
theorem cutL_marks (x : Tree) (n : Nat) : (cutL x n).marks = x.marks := rfl
theorem cutR_marks (x : Tree) (n : Nat) : (cutR x n).marks = x.marks := rfl
theorem ext0 (s : ByteArray) (k : Nat) : (s.extract 0 k).data.toList = s.data.toList.take k := by
  simp [List.extract_eq_take_drop]
theorem ext1 (s : ByteArray) (k : Nat) : (s.extract k s.size).data.toList = s.data.toList.drop k := by
  simp only [ByteArray.data_extract, Array.toList_extract, List.extract_eq_take_drop]
  rw [List.take_of_length_le]
  rw [List.length_drop, Lib.size_eq]; omega
theorem cuts2 {x : Tree} {n : Nat} (hk : isTxt x.kind = true) (h : formedB x = true) (h0 : n ≠ 0) (hn : n < sizeB x) : Cuts2 x n := by
  have hf := h
  rw [formed_text hk] at hf
  obtain ⟨h1, h2, h3, h4, h5⟩ := textB_parts hf
  have hs := sizeB_text hk
  rw [← Lib.runeCountL_eq] at hs
  obtain ⟨c1, c2, c3, c4⟩ := cut_valid n x.text.data.toList h2 (by omega)
  have tl : (cutL x n).text.data.toList = x.text.data.toList.take (atB n x.text.data.toList) := ext0 _ _
  have tr : (cutR x n).text.data.toList = x.text.data.toList.drop (atB n x.text.data.toList) := ext1 _ _
  have sl : sizeB (cutL x n) = n := by rw [sizeB_text (x := cutL x n) hk, ← Lib.runeCountL_eq, tl, c3]
  have sr : sizeB (cutR x n) = Lib.runeCountL (x.text.data.toList.drop (atB n x.text.data.toList)) := by rw [sizeB_text (x := cutR x n) hk, ← Lib.runeCountL_eq, tr]
  refine ⟨?_, ?_, sl, by omega, ?_⟩
  · rw [formed_text (t := cutL x n) hk]
    refine textB_of ?_ (by rw [tl]; exact c1) h3 h4 h5
    intro e; rw [tl] at e; rw [e, rc_nil] at c3; omega
  · rw [formed_text (t := cutR x n) hk]
    refine textB_of ?_ (by rw [tr]; exact c2) h3 h4 h5
    intro e; rw [tr] at e; rw [e, rc_nil] at c4; omega
  · apply ByteArray.ext; apply Array.ext'
    rw [ByteArray.data_append, Array.toList_append, tl, tr, List.take_append_drop]
theorem set_cut {x : Tree} {n : Nat} (h : (cutL x n).text ++ (cutR x n).text = x.text) : setText (cutR x n) ((cutL x n).text ++ (cutR x n).text) = x := by
  rw [h]; obtain ⟨k, t, m, a, l⟩ := x; rfl

/-! ### split, and joined -/
theorem step_new {out : List Tree} {x : Tree} (ha : alikeO out.getLast? x = false) (hf : formedB x = true) : joinStep out x = out ++ [x] := by
  cases hk : isTxt x.kind with
  | false => exact joinStep_plain hk
  | true =>
    rw [formed_text hk] at hf
    have he : x.text.toList.isEmpty = false := by
      cases h : x.text.toList.isEmpty with
      | false => rfl
      | true => exact absurd (empty_data.1 h) (textB_parts hf).1
    cases hz : out.getLast? with
    | none =>
      have : out = [] := List.getLast?_eq_none_iff.1 hz
      subst this; exact joinStep_first he
    | some z =>
      rw [hz] at ha
      simp only [alikeO, alikeB, hk, Bool.true_and] at ha
      exact joinStep_other hz he ha
theorem text_ne {x : Tree} (hk : isTxt x.kind = true) (hf : formedB x = true) : x.text.toList.isEmpty = false := by
  rw [formed_text hk] at hf
  cases h : x.text.toList.isEmpty with
  | false => rfl
  | true => exact absurd (empty_data.1 h) (textB_parts hf).1
theorem step_old {out : List Tree} {z x : Tree} (hz : out.getLast? = some z) (ha : alikeB z x = true) (hf : formedB x = true) : joinStep out x = out.dropLast ++ [setText x (z.text ++ x.text)] := by
  simp only [alikeB, Bool.and_eq_true] at ha
  exact joinStep_on hz ha.2.1 (text_ne ha.2.1 hf) (by simp [joinsOn, ha.1, ha.2.2])

/-- What is split of a row that is right. -/
structure Parts (p : Option Tree) (K : List Tree) (n : Nat) (A C : List Tree) : Prop where
  ahead : rowB p A = true
  behind : rowB none C = true
  total : totalB A = n
  all : totalB A + totalB C = totalB K
  deepA : deepB A ≤ deepB K
  deepC : deepB C ≤ deepB K
  join : ∀ out : List Tree, out.getLast? = p → (A ++ C).foldl joinStep out = out ++ K
theorem depth_text {x : Tree} (h : isTxt x.kind = true) : depthB x = 0 := by obtain ⟨k, t, m, a, l⟩ := x; simp only [Tree.kind] at h; simp [depthB, h]
theorem parts_of : ∀ (K : List Tree) (p : Option Tree) (n : Nat) (A C : List Tree), rowB p K = true → splitB K n = (0, A, C) → Parts p K n A C
  | [], p, n, A, C, hr, h => by
    rw [splitB] at h
    split at h
    · rename_i h0
      simp only [Prod.mk.injEq, true_and] at h
      obtain ⟨rfl, rfl⟩ := h
      subst h0; exact ⟨by simp [rowB], by simp [rowB], rfl, rfl, Nat.le_refl _, Nat.le_refl _, fun out _ => by simp⟩
    · simp at h
  | x :: l, p, n, A, C, hr, h => by
    obtain ⟨ha, hf, hl⟩ := row_tail hr
    rw [splitB] at h
    split at h
    · rename_i hs
      unfold preB at h
      split at h
      · rename_i hc
        simp only [Prod.mk.injEq, true_and] at h
        obtain ⟨rfl, rfl⟩ := h
        have ih := parts_of l (some x) (n - sizeB x) (splitB l (n - sizeB x)).2.1 (splitB l (n - sizeB x)).2.2 hl (Prod.ext hc rfl)
        refine ⟨row_of ha hf ih.ahead, ih.behind, ?_, ?_, ?_, ?_, ?_⟩
        · have := ih.total; simp only [List.cons_append, List.nil_append, totalB]; omega
        · have := ih.all; simp only [List.cons_append, List.nil_append, totalB]; omega
        · have := ih.deepA; simp only [List.cons_append, List.nil_append, deepB]; omega
        · have := ih.deepC; simp only [deepB]; omega
        · intro out ho
          subst ho
          rw [List.cons_append, List.nil_append, List.cons_append, List.foldl_cons, step_new ha hf, ih.join _ (by simp), List.append_assoc]; rfl
      · rename_i hc
        simp only [Prod.mk.injEq] at h
        exact absurd h.1 hc
    · rename_i hs
      split at h
      · rename_i h0
        simp only [Prod.mk.injEq, true_and] at h
        obtain ⟨rfl, rfl⟩ := h
        refine ⟨by simp [rowB], row_none hr, by simp [totalB, h0], by simp [totalB], by simp [deepB], Nat.le_refl _, ?_⟩
        intro out ho
        subst ho
        rw [List.nil_append]; exact row_stays _ _ hr
      · rename_i h0
        split at h
        · rename_i hk
          simp only [Prod.mk.injEq, true_and] at h
          obtain ⟨rfl, rfl⟩ := h
          have hc := cuts2 hk hf h0 (by omega)
          refine ⟨row_of ?_ hc.lf (by simp [rowB]), row_of rfl hc.rf (row_like (y := x) rfl rfl hl), ?_, ?_, ?_, ?_, ?_⟩
          · rw [← ha]
            cases p with
            | none => rfl
            | some y => rfl
          · have := hc.ls; simp only [totalB]; omega
          · have := hc.rs; have := hc.ls; simp only [totalB]; omega
          · simp [deepB, depth_text (x := cutL x n) hk]
          · simp only [deepB, depth_text (x := cutR x n) hk, depth_text hk]; omega
          · intro out ho
            subst ho
            have h1 : joinStep out (cutL x n) = out ++ [cutL x n] := step_new (by
              rw [← ha]
              cases out.getLast? with
              | none => rfl
              | some y => rfl) hc.lf
            have h2 : joinStep (out ++ [cutL x n]) (cutR x n) = out ++ [x] := by
              rw [step_old (z := cutL x n) (by simp) (by simp [alikeB, cutL_kind, cutR_kind, cutL_marks, cutR_marks, hk, sameL_all rfl fun _ _ => by simp]) hc.rf, set_cut hc.tx]
              simp
            rw [List.cons_append, List.nil_append, List.foldl_cons, List.foldl_cons, h1, h2, row_stays l _ (by simpa using hl), List.append_assoc]; rfl
        · simp at h
theorem Parts.joins {K : List Tree} {n : Nat} {A C : List Tree} (h : Parts none K n A C) : joinB (A ++ C) = K := by
  have := h.join [] rfl
  simpa [joinB] using this

/-- How a split ends. -/
theorem split_code : ∀ (K : List Tree) (n : Nat), n ≤ totalB K → (splitB K n).1 = 0 ∨ (splitB K n).1 = 10
  | [], n, h => by
    simp only [totalB] at h
    left; rw [splitB, if_pos (by omega)]
  | x :: l, n, h => by
    simp only [totalB] at h
    rw [splitB]
    split
    · have ih := split_code l (n - sizeB x) (by omega)
      unfold preB
      split
      · exact .inl rfl
      · exact ih
    · split
      · exact .inl rfl
      · split
        · exact .inl rfl
        · exact .inr rfl

/-! ### joined, and split -/
theorem split_pre : ∀ (A R : List Tree) (n : Nat), splitB (A ++ R) (totalB A + n) = preB A (splitB R n)
  | [], R, n => by
    rw [List.nil_append, totalB, Nat.zero_add, preB_nil]
    exact splitB_err R n
  | x :: A, R, n => by
    rw [List.cons_append, splitB, totalB, if_pos (by omega), show sizeB x + totalB A + n - sizeB x = totalB A + n by omega, split_pre A R n, preB_pre]; rfl
theorem split_zero {C : List Tree} (h : rowB none C = true) : splitB C 0 = (0, [], C) := by
  cases C with
  | nil => rw [splitB]; rfl
  | cons c C =>
    have := size_pos (row_tail h).2.1
    rw [splitB, if_neg (by omega), if_pos rfl]
theorem join_two {A C : List Tree} (hA : rowB none A = true) : joinB (A ++ C) = C.foldl joinStep A := by
  have := joinB_stays A hA
  unfold joinB at *
  rw [List.foldl_append, this]
/-- Two rows that are right, joined: one behind the other, or both texts that meet as one. -/
theorem join_forms {A C : List Tree} (hA : rowB none A = true) (hC : rowB none C = true) :
    joinB (A ++ C) = A ++ C ∨ ∃ A0 C0 tz tc m, A = A0 ++ [.mk TEXT tz m [] []] ∧ C = .mk TEXT tc m [] [] :: C0 ∧ joinB (A ++ C) = A0 ++ .mk TEXT (tz ++ tc) m [] [] :: C0 ∧
      tz.data.toList ≠ [] ∧ tc.data.toList ≠ [] ∧ Lib.validD tz.data.toList = true := by
  rw [join_two hA]
  cases C with
  | nil => left; simp
  | cons c C =>
    obtain ⟨_, h2, h3⟩ := row_tail hC
    cases hl : alikeO A.getLast? c with
    | false => exact .inl (row_stays _ A (row_of hl h2 h3))
    | true =>
      right
      cases hz : A.getLast? with
      | none => rw [hz] at hl; cases hl
      | some z =>
        rw [hz] at hl
        simp only [alikeO] at hl
        have hl' := hl
        simp only [alikeB, Bool.and_eq_true] at hl'
        have hzf := rowFormed hA z (List.mem_of_getLast? hz)
        obtain ⟨tz, mz, rfl, z1, z2⟩ := text_form hl'.1 hzf
        obtain ⟨tc, mc, rfl, c1, c2⟩ := text_form hl'.2.1 h2
        have hm : mz = mc := sameL_eq hl'.2.2
        subst hm
        refine ⟨A.dropLast, C, tz, tc, mz, dropLast_getLast? hz, rfl, ?_, z1, c1, z2⟩
        have hr : rowB (A.dropLast ++ [setText (Tree.mk TEXT tc mz [] []) (tz ++ tc)]).getLast? C = true := by
          rw [List.getLast?_concat]; exact row_like (y := Tree.mk TEXT tc mz [] []) rfl rfl h3
        rw [List.foldl_cons, step_old hz hl h2]
        have := row_stays C _ hr
        rw [List.append_assoc] at this
        exact this
theorem split_join {A C : List Tree} (hA : rowB none A = true) (hC : rowB none C = true) : splitB (joinB (A ++ C)) (totalB A) = (0, A, C) := by
  rcases join_forms hA hC with h | ⟨A0, C0, tz, tc, m, rfl, rfl, h, z1, c1, z2⟩
  · rw [h]
    have := split_pre A C 0
    rw [Nat.add_zero, split_zero hC] at this
    rw [this]; simp [preB]
  · rw [h]
    have ht : totalB (A0 ++ [Tree.mk TEXT tz m [] []]) = totalB A0 + Lib.runeCount tz := by
      rw [totalB_append]; simp [totalB, sizeB, isTxt_TEXT]
    have hp : 0 < Lib.runeCount tz := by rw [← Lib.runeCountL_eq]; exact rc_pos z1
    have hq : 0 < Lib.runeCount tc := by rw [← Lib.runeCountL_eq]; exact rc_pos c1
    have hs : sizeB (Tree.mk TEXT (tz ++ tc) m [] []) = Lib.runeCount tz + Lib.runeCount tc := by
      rw [sizeB_text (x := Tree.mk TEXT (tz ++ tc) m [] []) isTxt_TEXT]; exact runeCount_app tz tc z2
    rw [ht, split_pre, splitB, if_neg (by omega), if_neg (by omega), if_pos (show isTxt (Tree.mk TEXT (tz ++ tc) m [] []).kind = true from isTxt_TEXT)]
    have hat : atB (Lib.runeCount tz) (tz ++ tc).data.toList = tz.size := text_cut tz tc z2
    have e1 : cutL (Tree.mk TEXT (tz ++ tc) m [] []) (Lib.runeCount tz) = Tree.mk TEXT tz m [] [] := by
      show Tree.mk TEXT ((tz ++ tc).extract 0 (atB (Lib.runeCount tz) (tz ++ tc).data.toList)) m [] [] = _
      rw [hat]
      congr 1
      apply ByteArray.ext; apply Array.ext'
      rw [ext0, ByteArray.data_append, Array.toList_append, List.take_append_of_le_length (by rw [Lib.size_eq]; exact Nat.le_refl _), List.take_of_length_le (by rw [Lib.size_eq]; exact Nat.le_refl _)]
    have e2 : cutR (Tree.mk TEXT (tz ++ tc) m [] []) (Lib.runeCount tz) = Tree.mk TEXT tc m [] [] := by
      show Tree.mk TEXT ((tz ++ tc).extract (atB (Lib.runeCount tz) (tz ++ tc).data.toList) (tz ++ tc).size) m [] [] = _
      rw [hat]
      congr 1
      apply ByteArray.ext; apply Array.ext'
      rw [ext1, ByteArray.data_append, Array.toList_append, List.drop_append_of_le_length (by rw [Lib.size_eq]; exact Nat.le_refl _), List.drop_of_length_le (by rw [Lib.size_eq]; exact Nat.le_refl _), List.nil_append]
    rw [e1, e2, preB, if_pos rfl]
theorem split_in {A D : List Tree} {n : Nat} (hA : rowB none A = true) (hD : rowB none D = true) (h : (splitB D n).1 ≠ 0) : (splitB (joinB (A ++ D)) (totalB A + n)).1 ≠ 0 := by
  have hpre : ∀ (a : List Tree) (r : Spl), r.1 ≠ 0 → (preB a r).1 ≠ 0 := fun a r hr => by unfold preB; rw [if_neg hr]; exact hr
  rcases join_forms hA hD with e | ⟨A0, C0, tz, tc, m, rfl, rfl, e, z1, c1, z2⟩
  · rw [e, split_pre]; exact hpre _ _ h
  · have ht : totalB (A0 ++ [Tree.mk TEXT tz m [] []]) = totalB A0 + Lib.runeCount tz := by
      rw [totalB_append]; simp [totalB, sizeB, isTxt_TEXT]
    have hs : sizeB (Tree.mk TEXT (tz ++ tc) m [] []) = Lib.runeCount tz + Lib.runeCount tc := by
      rw [sizeB_text (x := Tree.mk TEXT (tz ++ tc) m [] []) isTxt_TEXT]; exact runeCount_app tz tc z2
    have hc : sizeB (Tree.mk TEXT tc m [] []) = Lib.runeCount tc := sizeB_text (x := Tree.mk TEXT tc m [] []) isTxt_TEXT
    rw [e, ht, Nat.add_assoc, split_pre]
    refine hpre _ _ ?_
    rw [splitB] at h
    split at h
    · rename_i hn
      have h2 : (splitB C0 (n - sizeB (Tree.mk TEXT tc m [] []))).1 ≠ 0 := fun e => h (by unfold preB; rw [if_pos e])
      rw [splitB, if_pos (by omega), show Lib.runeCount tz + n - sizeB (Tree.mk TEXT (tz ++ tc) m [] []) = n - sizeB (Tree.mk TEXT tc m [] []) by omega]
      exact hpre _ _ h2
    · split at h
      · exact absurd rfl h
      · rw [if_pos (show isTxt (Tree.mk TEXT tc m [] []).kind = true from isTxt_TEXT)] at h; exact absurd rfl h
/-- Split at two places: the later first, or the earlier. -/
theorem split_three {K A D B C : List Tree} {a b : Nat} (hK : rowB none K = true) (h1 : splitB K a = (0, A, D)) (h2 : splitB K b = (0, B, C)) (hab : a ≤ b) :
    ∃ M, splitB D (b - a) = (0, M, C) ∧ splitB B a = (0, A, M) ∧ rowB none M = true ∧ joinB (A ++ M) = B ∧ joinB (M ++ C) = D ∧ totalB M = b - a ∧ deepB M ≤ deepB K := by
  have pA := parts_of K none a A D hK h1
  have pB := parts_of K none b B C hK h2
  have tA := pA.total
  have aA := pA.all
  have tB := pB.total
  have aB := pB.all
  have key : (splitB D (b - a)).1 = 0 := by
    rcases split_code D (b - a) (by omega) with h | h
    · exact h
    · exfalso
      have := split_in pA.ahead pA.behind (n := b - a) (by rw [h]; decide)
      rw [pA.joins, show totalB A + (b - a) = b by omega, h2] at this
      exact this rfl
  have pM := parts_of D none (b - a) (splitB D (b - a)).2.1 (splitB D (b - a)).2.2 pA.behind (Prod.ext key rfl)
  have hs : splitB D (b - a) = (0, (splitB D (b - a)).2.1, (splitB D (b - a)).2.2) := Prod.ext key rfl
  generalize (splitB D (b - a)).2.1 = M at *
  generalize (splitB D (b - a)).2.2 = C' at *
  have tM := pM.total
  have hfm : ∀ x ∈ A ++ M, formedB x = true := fun x hx => by
    rcases List.mem_append.1 hx with e | e
    · exact rowFormed pA.ahead x e
    · exact rowFormed pM.ahead x e
  have hJ : joinB (joinB (A ++ M) ++ C') = K := by
    have e1 := joinB_parts (A ++ M) C'
    rw [joinB_stays C' pM.behind] at e1
    have e2 := joinB_parts A (M ++ C')
    rw [joinB_stays A pA.ahead, pM.joins] at e2
    rw [e1, List.append_assoc, ← e2]; exact pA.joins
  have hS := split_join (joinB_row _ hfm) pM.behind
  rw [hJ, joinB_total _ hfm, totalB_append, show totalB A + totalB M = b by omega, h2] at hS
  simp only [Prod.mk.injEq, true_and] at hS
  obtain ⟨hB, rfl⟩ := hS
  refine ⟨M, hs, ?_, pM.ahead, hB.symm, pM.joins, tM, Nat.le_trans pM.deepA pA.deepC⟩
  have := split_join pA.ahead pM.ahead
  rw [← hB, tA] at this; exact this
end Go.Proofs.YtamoklceekeheaaDoor

namespace Go.Proofs.YtamoklceekeheaaDoor
open Go.RowKit Go.Sort

/-- A split that cuts no node is where a spot has no path. -/
theorem split_spot : ∀ (K : List Tree) (i n : Nat) (s : Spt), (∀ x ∈ K, formedB x = true) → (spotsB i K)[n]? = some s → (s.1 = [] ↔ (splitB K n).1 = 0)
  | [], i, n, s, _, h => by
    rw [spotsB] at h
    obtain ⟨rfl, rfl⟩ : n = 0 ∧ s = ([], i, 0) := by
      cases n with
      | zero => simp at h; exact ⟨rfl, h.symm⟩
      | succ n => simp at h
    simp [splitB]
  | x :: l, i, n, s, hf, h => by
    rw [spotsB] at h
    by_cases hn : n < sizeB x
    · rw [List.getElem?_append_left (by rw [spotsT_len]; exact hn)] at h
      rw [splitB, if_neg (by omega)]
      cases hk : isTxt x.kind with
      | true =>
        rw [spotsT_text i hk, List.getElem?_map, List.getElem?_range hn] at h
        simp only [Option.map_some, Option.some.injEq] at h
        subst h
        by_cases h0 : n = 0
        · simp [h0]
        · simp [h0]
      | false =>
        rw [spotsT_node i hk] at h
        cases n with
        | zero => simp at h; subst h; simp
        | succ k =>
          simp only [List.getElem?_cons_succ, List.getElem?_map] at h
          obtain ⟨s', hs', rfl⟩ := Option.map_eq_some_iff.1 h
          simp [deeper]
    · rw [List.getElem?_append_right (by rw [spotsT_len]; omega), spotsT_len] at h
      have ih := split_spot l (i + 1) (n - sizeB x) s (fun y hy => hf y (by simp [hy])) h
      rw [splitB, if_pos (by omega), ih]
      unfold preB
      split
      · rename_i hc; simp [hc]
      · rename_i hc; simp [hc]

theorem spots_at : ∀ (l : List Tree) (j i m : Nat) (x : Tree), l[i]? = some x → m < sizeB x → (spotsB j l)[totalB (l.take i) + m]? = (spotsT (j + i) x)[m]?
  | [], j, i, m, x, h, _ => by simp at h
  | y :: l, j, 0, m, x, h, hm => by
    simp at h; subst h
    rw [spotsB, List.take_zero, totalB, Nat.zero_add, List.getElem?_append_left (by rw [spotsT_len]; exact hm)]; rfl
  | y :: l, j, i + 1, m, x, h, hm => by
    have ih := spots_at l (j + 1) i m x (by simpa using h) hm
    rw [spotsB, List.take_succ_cons, totalB, List.getElem?_append_right (by rw [spotsT_len]; omega), spotsT_len, show sizeB y + totalB (l.take i) + m - sizeB y = totalB (l.take i) + m by omega, ih, show j + 1 + i = j + (i + 1) by omega]
theorem spots_down : ∀ (p : List Int) (t u : Tree) (n : Nat) (s : Spt), goB t p = some u → isTxt u.kind = false → (spotsB 0 u.kids)[n]? = some s → (spotsB 0 t.kids)[startB t p + n]? = some (p ++ s.1, s.2)
  | [], t, u, n, s, h, _, hs => by
    simp only [goB, Option.some.injEq] at h; subst h
    simpa [startB] using hs
  | i :: p, t, u, n, s, h, hu, hs => by
    rw [goB] at h
    cases hk : kidAt t i with
    | none => rw [hk] at h; cases h
    | some v =>
      rw [hk] at h
      obtain ⟨hT, h0, hv⟩ := kidAt_some hk
      have hvk : isTxt v.kind = false := by
        cases p with
        | nil => simp only [goB, Option.some.injEq] at h; subst h; exact hu
        | cons j p =>
          have h' : goB v (j :: p) = some u := h
          rw [goB] at h'
          cases hj : kidAt v j with
          | none => rw [hj] at h'; cases h'
          | some y => exact (kidAt_some hj).1
      have ih := spots_down p v u n s h hu hs
      have hl := (List.getElem?_eq_some_iff.1 ih).1
      rw [spotsB_len] at hl
      have hsz := sizeB_node hvk
      rw [startB, hv]
      simp only
      rw [show totalB (t.kids.take i.toNat) + 1 + startB v p + n = totalB (t.kids.take i.toNat) + (startB v p + n + 1) by omega, spots_at t.kids 0 i.toNat _ v hv (by omega), spotsT_node _ hvk, List.getElem?_cons_succ, List.getElem?_map, ih]
      simp [deeper]; omega
theorem spots_some (l : List Tree) (i n : Nat) (h : n ≤ totalB l) : ∃ s, (spotsB i l)[n]? = some s := by
  have : n < (spotsB i l).length := by rw [spotsB_len]; omega
  exact ⟨_, List.getElem?_eq_getElem this⟩
theorem go_plain : ∀ (p : List Int) (t u : Tree), goB t p = some u → isTxt u.kind = false → isTxt t.kind = false
  | [], t, u, h, hu => by simp only [goB, Option.some.injEq] at h; subst h; exact hu
  | i :: p, t, u, h, _ => by
    rw [goB] at h
    cases hk : kidAt t i with
    | none => rw [hk] at h; cases h
    | some v => exact (kidAt_some hk).1
theorem resolve_down {t u : Tree} {p : List Int} {n : Nat} (h : goB t p = some u) (hu : isTxt u.kind = false) (hn : n ≤ totalB u.kids) :
    ∃ s : Spt, (spotsB 0 u.kids)[n]? = some s ∧ resolveB t ((startB t p + n : Nat) : Int) = some (p ++ s.1, s.2) := by
  obtain ⟨s, hs⟩ := spots_some u.kids 0 n hn
  refine ⟨s, hs, ?_⟩
  unfold resolveB
  rw [if_neg (by rw [go_plain p t u h hu]; decide), if_neg (by omega), Int.toNat_natCast]
  exact spots_down p t u n s h hu hs

/-! ### the tree with another node there -/
theorem start_with : ∀ (p : List Int) (t u m : Tree), goB t p = some u → startB (withB t p m) p = startB t p
  | [], _, _, _, _ => rfl
  | i :: p, t, u, m, h => by
    rw [goB] at h
    cases hk : kidAt t i with
    | none => rw [hk] at h; cases h
    | some v =>
      rw [hk] at h
      obtain ⟨hT, h0, hv⟩ := kidAt_some hk
      have ih := start_with p v u m h
      simp only [withB, hv, startB, setKid_kids]
      rw [List.getElem?_set_self (List.getElem?_eq_some_iff.1 hv).1]
      simp only [List.take_set_of_le (Nat.le_refl _), ih]
theorem with_same : ∀ (p : List Int) (t u : Tree), goB t p = some u → withB t p u = t
  | [], t, u, h => by simp only [goB, Option.some.injEq] at h; subst h; rfl
  | i :: p, t, u, h => by
    rw [goB] at h
    cases hk : kidAt t i with
    | none => rw [hk] at h; cases h
    | some v =>
      rw [hk] at h
      obtain ⟨hT, h0, hv⟩ := kidAt_some hk
      simp only [withB, hv]
      rw [with_same p v u h]
      obtain ⟨k, x, m, a, l⟩ := t
      simp only [setKid, Tree.kind, Tree.text, Tree.marks, Tree.attrs, Tree.kids] at *
      rw [set_same hv]
theorem with_twice : ∀ (p : List Int) (t u m m' : Tree), goB t p = some u → withB (withB t p m) p m' = withB t p m'
  | [], _, _, _, _, _ => rfl
  | i :: p, t, u, m, m', h => by
    rw [goB] at h
    cases hk : kidAt t i with
    | none => rw [hk] at h; cases h
    | some v =>
      rw [hk] at h
      obtain ⟨hT, h0, hv⟩ := kidAt_some hk
      simp only [withB, hv, setKid_kids]
      rw [List.getElem?_set_self (List.getElem?_eq_some_iff.1 hv).1]
      simp only [with_twice p v u m m' h]
      obtain ⟨k, x, ms, a, l⟩ := t
      simp only [setKid, Tree.kind, Tree.text, Tree.marks, Tree.attrs, Tree.kids, List.set_set]
theorem with_kind : ∀ (p : List Int) (t u m : Tree), goB t p = some u → m.kind = u.kind → (withB t p m).kind = t.kind
  | [], t, u, m, h, hm => by simp only [goB, Option.some.injEq] at h; subst h; exact hm
  | i :: p, t, u, m, h, hm => by
    rw [goB] at h
    cases hk : kidAt t i with
    | none => rw [hk] at h; cases h
    | some v =>
      obtain ⟨hT, h0, hv⟩ := kidAt_some hk
      simp only [withB, hv, setKid_kind]
theorem go_formed : ∀ (p : List Int) (t u : Tree), goB t p = some u → formedB t = true → formedB u = true
  | [], t, u, h, hf => by simp only [goB, Option.some.injEq] at h; subst h; exact hf
  | i :: p, t, u, h, hf => by
    rw [goB] at h
    cases hk : kidAt t i with
    | none => rw [hk] at h; cases h
    | some v =>
      rw [hk] at h
      obtain ⟨hT, h0, hv⟩ := kidAt_some hk
      refine go_formed p v u h ?_
      obtain ⟨k, x, ms, a, l⟩ := t
      simp only [Tree.kind, Tree.kids] at *
      rw [formedB, if_neg (by simp [hT]), Bool.and_eq_true] at hf
      exact rowFormed hf.2 v (List.mem_of_getElem? hv)
theorem kids_row {t : Tree} (hT : isTxt t.kind = false) (hf : formedB t = true) : rowB none t.kids = true := by
  obtain ⟨k, x, ms, a, l⟩ := t
  simp only [Tree.kind, Tree.kids] at *
  rw [formedB, if_neg (by simp [hT]), Bool.and_eq_true] at hf
  exact hf.2
theorem formed_kids {t : Tree} {K : List Tree} (hT : isTxt t.kind = false) (hf : formedB t = true) (hK : rowB none K = true) : formedB (.mk t.kind t.text t.marks t.attrs K) = true := by
  obtain ⟨k, x, ms, a, l⟩ := t
  simp only [Tree.kind, Tree.text, Tree.marks, Tree.attrs] at *
  rw [formedB, if_neg (by simp [hT]), Bool.and_eq_true] at hf ⊢
  exact ⟨hf.1, hK⟩
theorem alike_plain {x y : Tree} (h : isTxt y.kind = false) : alikeB x y = false := by simp [alikeB, h]
theorem alike_plain' {x y : Tree} (h : isTxt x.kind = false) : alikeB x y = false := by simp [alikeB, h]
theorem row_set : ∀ (l : List Tree) (p : Option Tree) (i : Nat) (v y : Tree), rowB p l = true → l[i]? = some v → isTxt v.kind = false → isTxt y.kind = false → formedB y = true → rowB p (l.set i y) = true
  | [], p, i, v, y, _, h, _, _, _ => by simp at h
  | x :: l, p, 0, v, y, hr, h, hv, hy, hf => by
    simp at h; subst h
    obtain ⟨h1, h2, h3⟩ := row_tail hr
    rw [List.set_cons_zero]
    refine row_of (by cases p with | none => rfl | some z => exact alike_plain hy) hf ?_
    cases l with
    | nil => simp [rowB]
    | cons z l => obtain ⟨_, h5, h6⟩ := row_tail h3; exact row_of (alike_plain' hy) h5 h6
  | x :: l, p, i + 1, v, y, hr, h, hv, hy, hf => by
    obtain ⟨h1, h2, h3⟩ := row_tail hr
    rw [List.set_cons_succ]
    exact row_of h1 h2 (row_set l (some x) i v y h3 (by simpa using h) hv hy hf)
theorem kid_plain {p : List Int} {v u : Tree} (h : goB v p = some u) (hu : isTxt u.kind = false) : isTxt v.kind = false := go_plain p v u h hu
theorem with_formed : ∀ (p : List Int) (t u m : Tree), goB t p = some u → isTxt u.kind = false → isTxt m.kind = false → formedB t = true → formedB m = true → formedB (withB t p m) = true ∧ isTxt (withB t p m).kind = false
  | [], t, u, m, h, _, hm, _, hf => ⟨hf, hm⟩
  | i :: p, t, u, m, h, hu, hm, ht, hf => by
    rw [goB] at h
    cases hk : kidAt t i with
    | none => rw [hk] at h; cases h
    | some v =>
      rw [hk] at h
      obtain ⟨hT, h0, hv⟩ := kidAt_some hk
      have hr := kids_row hT ht
      have hvf := rowFormed hr v (List.mem_of_getElem? hv)
      obtain ⟨i1, i2⟩ := with_formed p v u m h hu hm hvf hf
      simp only [withB, hv]
      refine ⟨formed_kids hT ht (row_set _ none _ v _ hr hv (kid_plain h hu) i2 i1), ?_⟩
      exact hT
theorem deep_mem : ∀ {l : List Tree} {x : Tree}, x ∈ l → depthB x ≤ deepB l
  | [], _, h => by cases h
  | y :: l, x, h => by
    simp only [deepB]
    rcases List.mem_cons.1 h with e | e
    · subst e; omega
    · have := deep_mem e; omega
theorem deep_set : ∀ (l : List Tree) (i : Nat) (y : Tree), deepB (l.set i y) ≤ max (deepB l) (depthB y)
  | [], i, y => by simp [deepB]
  | x :: l, 0, y => by simp only [List.set_cons_zero, deepB]; omega
  | x :: l, i + 1, y => by have := deep_set l i y; simp only [List.set_cons_succ, deepB]; omega
theorem depth_node {x : Tree} (h : isTxt x.kind = false) : depthB x = deepB x.kids + 1 := by
  obtain ⟨k, t, m, a, l⟩ := x; simp only [Tree.kind] at h; simp [depthB, h, Tree.kids]
theorem with_depth : ∀ (p : List Int) (t u m : Tree) (d : Nat), goB t p = some u → depthB m ≤ depthB u + d → depthB (withB t p m) ≤ depthB t + d
  | [], t, u, m, d, h, hd => by simp only [goB, Option.some.injEq] at h; subst h; exact hd
  | i :: p, t, u, m, d, h, hd => by
    rw [goB] at h
    cases hk : kidAt t i with
    | none => rw [hk] at h; cases h
    | some v =>
      rw [hk] at h
      obtain ⟨hT, h0, hv⟩ := kidAt_some hk
      have ih := with_depth p v u m d h hd
      have h1 := deep_mem (List.mem_of_getElem? hv)
      have h2 := deep_set t.kids i.toNat (withB v p m)
      simp only [withB, hv]
      rw [depth_node (x := setKid t i.toNat (withB v p m)) hT, setKid_kids, depth_node hT]
      omega
theorem withKids_self (u : Tree) : withKids u u.kids = u := by obtain ⟨k, t, m, a, l⟩ := u; rfl
theorem withKids_kids (u : Tree) (k : List Tree) : (withKids u k).kids = k := rfl
theorem withKids_kind (u : Tree) (k : List Tree) : (withKids u k).kind = u.kind := rfl
theorem withKids_with (u : Tree) (k l : List Tree) : withKids (withKids u k) l = withKids u l := rfl
/-- How a check comes out. -/
theorem checkIs {t : Tree} (h : checkB t = 0) : formedB t = true ∧ depthB t ≤ 40 ∧ sizeB t ≤ 4000 := by
  unfold checkB at h
  cases hf : formedB t with
  | false => simp [hf] at h
  | true =>
    simp only [hf, if_true] at h
    split at h
    · simp at h
    · split at h
      · simp at h
      · exact ⟨rfl, by omega, by omega⟩
theorem check_of {t : Tree} (h1 : formedB t = true) (h2 : depthB t ≤ 40) (h3 : sizeB t ≤ 4000) : checkB t = 0 := by
  rw [checkB, if_pos h1, if_neg (by omega), if_neg (by omega)]

/-! ### a node's kids, in three parts -/
/-- The kids of the node at p are A, M and C, joined. -/
structure Three (t : Tree) (p : List Int) (u : Tree) (A M C : List Tree) : Prop where
  go : goB t p = some u
  plain : isTxt u.kind = false
  ahead : rowB none A = true
  mid : rowB none M = true
  behind : rowB none C = true
  kids : joinB (A ++ (M ++ C)) = u.kids
theorem row_join {l : List Tree} (h : ∀ x ∈ l, formedB x = true) : rowB none (joinB l) = true := joinB_row l h
theorem joinB_left {A B : List Tree} (hB : rowB none B = true) : joinB (joinB A ++ B) = joinB (A ++ B) := by
  have := joinB_parts A B
  rwa [joinB_stays B hB] at this
theorem joinB_right {A B : List Tree} (hA : rowB none A = true) : joinB (A ++ joinB B) = joinB (A ++ B) := by
  have := joinB_parts A B
  rwa [joinB_stays A hA] at this
theorem joinB_left' (A B : List Tree) : joinB (joinB A ++ B) = joinB (A ++ B) := by
  have h1 := joinB_parts A B
  have h2 := joinB_parts (joinB A) B
  rw [← h1]
  have h3 : joinB (joinB A) = joinB A := by have := joinB_parts A []; simpa [joinB] using this
  rw [h3] at h2; exact h2.symm
theorem joinB_right' (A B : List Tree) : joinB (A ++ joinB B) = joinB (A ++ B) := by
  have h1 := joinB_parts A B
  have h2 := joinB_parts A (joinB B)
  rw [← h1]
  have h3 : joinB (joinB B) = joinB B := by have := joinB_parts B []; simpa [joinB] using this
  rw [h3] at h2; exact h2.symm
theorem formed_app {A B : List Tree} (hA : rowB none A = true) (hB : rowB none B = true) : ∀ x ∈ A ++ B, formedB x = true := by
  intro x hx
  rcases List.mem_append.1 hx with e | e
  · exact rowFormed hA x e
  · exact rowFormed hB x e
namespace Three
variable {t u : Tree} {p : List Int} {A M C : List Tree}
theorem first (h : Three t p u A M C) : splitB u.kids (totalB A + totalB M) = (0, joinB (A ++ M), C) := by
  have h1 := split_join (row_join (formed_app h.ahead h.mid)) h.behind
  rw [joinB_left', joinB_total _ (formed_app h.ahead h.mid), totalB_append, List.append_assoc, h.kids] at h1
  exact h1
theorem second (h : Three t p u A M C) : splitB (joinB (A ++ M)) (totalB A) = (0, A, M) := split_join h.ahead h.mid
theorem total (h : Three t p u A M C) : totalB A + totalB M + totalB C = totalB u.kids := by
  have hMC : ∀ x ∈ M ++ C, formedB x = true := formed_app h.mid h.behind
  have hA : ∀ x ∈ A ++ (M ++ C), formedB x = true := fun x hx => by
    rcases List.mem_append.1 hx with e | e
    · exact rowFormed h.ahead x e
    · exact hMC x e
  rw [← h.kids, joinB_total _ hA, totalB_append, totalB_append]; omega
/-- Both positions lead to the node. -/
theorem spot (h : Three t p u A M C) {n : Nat} {X Y : List Tree} (hs : splitB u.kids n = (0, X, Y)) (hn : n ≤ totalB u.kids) (hf : formedB u = true) : ∃ j o : Nat, resolveB t ((startB t p + n : Nat) : Int) = some (p, j, o) := by
  obtain ⟨s, h1, h2⟩ := resolve_down h.go h.plain hn
  have h3 := (split_spot u.kids 0 n s (rowFormed (kids_row h.plain hf)) h1).2 (by rw [hs])
  refine ⟨s.2.1, s.2.2, ?_⟩
  rw [h2, h3, List.append_nil]
theorem lo (h : Three t p u A M C) : splitB u.kids (totalB A) = (0, A, joinB (M ++ C)) := by
  have h1 := split_join h.ahead (row_join (formed_app h.mid h.behind))
  rwa [joinB_right', h.kids] at h1
end Three
theorem spotOk_of {t : Tree} {a : Nat} {s : Spt} {u : Tree} (hT : isTxt t.kind = false) (h : resolveB t (a : Int) = some s) (hg : goB t s.1 = some u) : SpotOk t a s u := by
  unfold resolveB at h
  rw [if_neg (by rw [hT]; decide), if_neg (by omega), Int.toNat_natCast] at h
  obtain ⟨u', hu⟩ := spots_ok t hT a s h
  have : u' = u := by rw [hu.go] at hg; exact Option.some.inj hg
  subst this; exact hu
/-- A position that has a spot parts the kids of its node in two. -/
theorem two_of {t u : Tree} {a : Nat} {p : List Int} {j o : Nat} (hf : formedB t = true) (h : SpotOk t a (p, j, o) u) (hr : resolveB t (a : Int) = some (p, j, o)) :
    ∃ A C, Three t p u A [] C ∧ a = startB t p + totalB A ∧ Parts none u.kids (totalB A) A C := by
  have hpos := h.pos
  have hfit := h.fit
  simp only at hpos hfit
  have hg : goB t p = some u := h.go
  have huf := go_formed p t u hg hf
  have hkr := kids_row h.plain huf
  have hn : totalB (u.kids.take j) + o ≤ totalB u.kids := hfit
  obtain ⟨s, h1, h2⟩ := resolve_down (n := totalB (u.kids.take j) + o) hg h.plain hn
  rw [show startB t p + (totalB (u.kids.take j) + o) = a by omega, hr] at h2
  simp only [Option.some.injEq, Prod.mk.injEq] at h2
  have h3 : s.1 = [] := by
    have := congrArg List.length h2.1
    rw [List.length_append] at this
    exact List.eq_nil_of_length_eq_zero (by omega)
  have h4 := (split_spot u.kids 0 _ s (rowFormed hkr) h1).1 h3
  have hp := parts_of u.kids none _ (splitB u.kids (totalB (u.kids.take j) + o)).2.1 (splitB u.kids (totalB (u.kids.take j) + o)).2.2 hkr (Prod.ext h4 rfl)
  have ht := hp.total
  refine ⟨_, _, ⟨hg, h.plain, hp.ahead, by simp [rowB], hp.behind, by simpa using hp.joins⟩, by omega, by rw [ht]; exact hp⟩
/-- Two positions with one path part the kids of their node in three. -/
theorem three_of {t u : Tree} {a b : Nat} {p : List Int} {j o j' o' : Nat} (hf : formedB t = true) (ha : SpotOk t a (p, j, o) u) (hra : resolveB t (a : Int) = some (p, j, o)) (hb : SpotOk t b (p, j', o') u) (hrb : resolveB t (b : Int) = some (p, j', o')) (hab : a ≤ b) :
    ∃ A M C, Three t p u A M C ∧ a = startB t p + totalB A ∧ b = startB t p + totalB A + totalB M ∧ deepB M ≤ deepB u.kids := by
  obtain ⟨B, C, h1, h2, h3⟩ := two_of hf hb hrb
  obtain ⟨A, D, h4, h5, h6⟩ := two_of hf ha hra
  have hD : splitB u.kids (totalB A) = (0, A, D) := by
    have := h4.lo
    rwa [List.nil_append, joinB_stays D h4.behind] at this
  have hB : splitB u.kids (totalB B) = (0, B, C) := by
    have := h1.lo
    rwa [List.nil_append, joinB_stays C h1.behind] at this
  have htA := h6.total
  obtain ⟨M, g1, g2, g3, g4, g5, g6, g7⟩ := split_three (kids_row h1.plain (go_formed p t u h1.go hf)) hD hB (by omega)
  refine ⟨A, M, C, ⟨h4.go, h4.plain, h4.ahead, g3, h1.behind, ?_⟩, h5, by omega, g7⟩
  rw [← joinB_right', g5]; exact h6.joins
end Go.Proofs.YtamoklceekeheaaDoor

namespace Go.Proofs.YtamoklceekeheaaDoor
open Go.RowKit Go.Sort

/-! ### made -/
theorem pick_nat (c n : Int) (h : 0 < n) : (pickN c n).toNat < n.toNat := by have h1 := pickN_lo c n h; have h2 := pickN_hi c n h; omega
theorem texts_ok : ∀ i, i < 5 → (textsL.getD i ByteArray.empty).data.toList ≠ [] ∧ Lib.validD (textsL.getD i ByteArray.empty).data.toList = true ∧ (textsL.getD i ByteArray.empty).size ≤ 40 := by decide +kernel
theorem kinds_ok : ∀ i, i < 4 → nameB (kindsL.getD i ByteArray.empty) = true ∧ isTxt (kindsL.getD i ByteArray.empty) = false := by decide +kernel
theorem attrs_ok : ∀ i, i < 5 → attrsB [(ALIGN, textsL.getD i ByteArray.empty)] = true := by decide +kernel
theorem marksOf_ok (c : Cel) : marksB (marksOf c) = true := by
  unfold marksOf; split
  · decide +kernel
  · split <;> decide +kernel
theorem attrsOf_ok (c : Cel) : attrsB (attrsOf c) = true := by
  unfold attrsOf; split
  · exact attrs_ok _ (pick_nat _ 5 (by omega))
  · decide +kernel
theorem made_text_ok (c : Cel) : formedB (.mk TEXT (textOf c) (marksOf c) [] []) = true := by
  have h := texts_ok _ (pick_nat c.a 5 (by omega))
  rw [formedB_text (by decide +kernel)]
  exact textB_of h.1 h.2.1 (marksOf_ok c) rfl rfl
theorem made_node_ok (c : Cel) (l : List Tree) (h : rowB none l = true) : formedB (.mk (kindOf c) ByteArray.empty [] (attrsOf c) l) = true := by
  have hk := kinds_ok _ (pick_nat c.a 4 (by omega))
  have he : ByteArray.empty.toList.isEmpty = true := by decide +kernel
  rw [formedB_node (k := kindOf c) hk.2, h]
  show (nameB (kindOf c) && (ByteArray.empty.toList.isEmpty && (decide (([] : List ByteArray).length = 0) && attrsB (attrsOf c))) && true) = true
  rw [he, attrsOf_ok, show nameB (kindOf c) = true from hk.1]; rfl
theorem madeStep_ok (out : List Tree) (c : Cel) (h : ∀ x ∈ out, formedB x = true) : ∀ x ∈ madeStep out c, formedB x = true := by
  unfold madeStep
  intro x hx
  split at hx
  · rcases List.mem_append.1 hx with hx | hx
    · exact h x hx
    · rw [List.mem_singleton.1 hx]; exact made_text_ok c
  · split at hx
    · rcases List.mem_append.1 hx with hx | hx
      · exact h x (List.mem_of_mem_take hx)
      · rw [List.mem_singleton.1 hx]; exact made_node_ok c _ (joinB_row _ fun y hy => h y (List.mem_of_mem_drop hy))
    · rcases List.mem_append.1 hx with hx | hx
      · exact h x hx
      · rw [List.mem_singleton.1 hx]; exact made_node_ok c _ (by simp [rowB])
theorem madeFold_ok : ∀ (l : List Cel) (out : List Tree), (∀ x ∈ out, formedB x = true) → ∀ x ∈ l.foldl madeStep out, formedB x = true
  | [], _, h => h
  | c :: l, out, h => madeFold_ok l _ (madeStep_ok out c h)
theorem madeTo_ok (l : List Cel) (k : Nat) : ∀ x ∈ madeTo l k, formedB x = true := madeFold_ok _ [] (by simp)
theorem madeB_ok (l : List Cel) : rowB none (madeB l) = true := joinB_row _ (madeTo_ok l 19)
theorem madeStep_deep (out : List Tree) (c : Cel) : deepB (madeStep out c) ≤ deepB out + 1 := by
  have hk := (kinds_ok _ (pick_nat c.a 4 (by omega))).2
  have ht : isTxt TEXT = true := by decide +kernel
  unfold madeStep
  split
  · rw [deepB_append]; simp only [deepB, depthB, ht, if_true]; omega
  · have hk' : isTxt (kindOf c) = false := hk
    split
    · have hj := joinB_deep (out.drop (out.length - manyOf c out.length))
      have hs := deepB_append (out.take (out.length - manyOf c out.length)) (out.drop (out.length - manyOf c out.length))
      rw [List.take_append_drop] at hs
      rw [deepB_append]; simp only [deepB, depthB, hk', Bool.false_eq_true, if_false]; omega
    · rw [deepB_append]; simp only [deepB, depthB, hk', Bool.false_eq_true, if_false]; omega
theorem madeFold_deep : ∀ (l : List Cel) (out : List Tree), deepB (l.foldl madeStep out) ≤ deepB out + l.length
  | [], _ => by simp
  | c :: l, out => by
    have h := madeFold_deep l (madeStep out c)
    have h2 := madeStep_deep out c
    simp only [List.foldl_cons, List.length_cons]; omega
theorem madeB_deep (l : List Cel) : deepB (madeB l) ≤ 19 := by
  have h1 := joinB_deep (madeTo l 19)
  have h2 := madeFold_deep (l.take 19) []
  simp only [deepB, List.length_take] at h2
  unfold madeB
  have h3 : deepB (madeTo l 19) ≤ 19 := by unfold madeTo; omega
  omega
theorem docB_right (l : List Cel) : checkB (docB l) = 0 := by
  have hd := madeB_deep l
  have hw := madeB_weigh l
  have hs := total_le_weigh (madeB l)
  have ht : isTxt DOC = false := by decide +kernel
  have hf : formedB (docB l) = true := by
    unfold docB
    rw [formedB_node ht, madeB_ok l]
    show (nameB DOC && (ByteArray.empty.toList.isEmpty && (decide (([] : List ByteArray).length = 0) && attrsB [])) && true) = true
    decide +kernel
  have h1 : depthB (docB l) = deepB (madeB l) + 1 := by simp [docB, depthB, ht]
  have h2 : sizeB (docB l) = 2 + totalB (madeB l) := by simp [docB, sizeB, ht]
  rw [checkB, if_pos hf, if_neg (by omega), if_neg (by omega)]
end Go.Proofs.YtamoklceekeheaaDoor
