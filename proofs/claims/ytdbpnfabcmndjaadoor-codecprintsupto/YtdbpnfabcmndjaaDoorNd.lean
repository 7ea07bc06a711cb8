/-
  What the law's light answers: a number no greater than what is handed in, and smaller by no more than the node weighs.
-/
import Derived.Test.YtdbpnfabcmndjaaDoorNb
import Derived.Deep.CutBlock
namespace Go.Proofs.YtdbpnfabcmndjaaDoor
open Go.RowKit Go.Sort

theorem weighL_take1 {l : List ByteArray} {k : Nat} (hk : k < l.length) : weighL (l.take (k + 1)) = weighL (l.take k) + ((l.getD k ByteArray.empty).size + 1) := by
  unfold weighL
  rw [List.take_add_one, getD_some ByteArray.empty hk]; simp
theorem weighP_take1 {l : List (ByteArray × ByteArray)} {k : Nat} (hk : k < l.length) : weighP (l.take (k + 1)) = weighP (l.take k) + ((pairAt l k).1.size + (pairAt l k).2.size + 1) := by
  unfold weighP
  rw [List.take_add_one, getD_some (ByteArray.empty, ByteArray.empty) hk]; simp [pairAt]
theorem weighL_part (l : List ByteArray) (k : Nat) : weighL (l.take k) ≤ weighL l := by
  have : weighL l = weighL (l.take k) + weighL (l.drop k) := by
    unfold weighL; rw [← List.sum_append_nat, ← List.map_append, List.take_append_drop]
  omega
theorem weighP_part (l : List (ByteArray × ByteArray)) (k : Nat) : weighP (l.take k) ≤ weighP l := by
  have : weighP l = weighP (l.take k) + weighP (l.drop k) := by
    unfold weighP; rw [← List.sum_append_nat, ← List.map_append, List.take_append_drop]
  omega
theorem weighAll_take1 {l : List Tree} {k : Nat} {x : Tree} (hx : l[k]? = some x) : weighAll (l.take (k + 1)) = weighAll (l.take k) + weigh x := by
  rw [List.take_add_one, hx, weighAll_append]; simp [weighAll]
theorem weigh_eq (t : Tree) : weigh t = t.kind.size + t.text.size + weighL t.marks + weighP t.attrs + weighAll t.kids + 2 := by
  obtain ⟨k, x, m, a, l⟩ := t; simp only [weigh, Tree.kind, Tree.text, Tree.marks, Tree.attrs, Tree.kids]

def LightSaid (t : Tree) : Prop := ∀ (v : Value) (n : Int) (w : World), weigh t ≤ 1100000 → -1000000000 ≤ n → n ≤ 1000000000 → Node w (Under w.heap.size) v t →
  Calls Tryd.prog 6 #[v, .int .i64 n] w fun e w' => (∃ r : Int, e = .returned (.int .i64 r) ∧ n - (weigh t : Int) ≤ r ∧ r ≤ n) ∧ Below w.heap.size w w'

set_option maxHeartbeats 4000000 in
theorem light_of (t : Tree) (ih : ∀ x, x ∈ t.kids → LightSaid x) : LightSaid t := by
  intro v n w hw hn1 hn2 h
  have IH := Lib.hid ih
  have HN := Lib.hid h
  obtain ⟨A1, c1, A2, c2, A3, c3, rfl⟩ := h.forms1
  have hkl := length_le_weigh t.kids
  have hml := length_le_weighL t.marks
  have hal := length_le_weighP t.attrs
  have hwe := weigh_eq t
  clear ih h
  generalize hW1 : w.alloc (.cells #[.string t.kind, .string t.text, .slice A1 t.marks.length c1, .slice A2 t.attrs.length c2, .slice A3 t.kids.length c3] 26) = W1
  have HB : Hid (Below w.heap.size w W1) := Lib.hid (by subst hW1; exact (Below.refl _ _).alloc (Nat.le_refl _) _)
  have HBL : Hid (W1.heap[w.heap.size]? = some (.cells #[.string t.kind, .string t.text, .slice A1 t.marks.length c1, .slice A2 t.attrs.length c2, .slice A3 t.kids.length c3] 26)) := Lib.hid (by
    subst hW1; show (w.heap.push _)[w.heap.size]? = _; simp)
  obtain ⟨hm, ha, hk⟩ := HN.out.kids1
  have HM1 : Hid (Strs W1 (Under W1.heap.size) (.slice A1 t.marks.length c1) t.marks) := Lib.hid ((hm.below HB.out).more HB.out.size)
  have HA1 : Hid (Pairs W1 (Under W1.heap.size) (.slice A2 t.attrs.length c2) t.attrs) := Lib.hid ((ha.below HB.out).more HB.out.size)
  have HK1 : Hid (Kids W1 (Under W1.heap.size) (.slice A3 t.kids.length c3) t.kids) := Lib.hid ((hk.below HB.out).more HB.out.size)
  clear hm ha hk
  obtain ⟨x0, x1, x2, x3, x4⟩ : W1.cell? ⟨w.heap.size, 0, none⟩ = some (.string t.kind) ∧ W1.cell? ⟨w.heap.size, 1, none⟩ = some (.string t.text) ∧ W1.cell? ⟨w.heap.size, 2, none⟩ = some (.slice A1 t.marks.length c1) ∧ W1.cell? ⟨w.heap.size, 3, none⟩ = some (.slice A2 t.attrs.length c2) ∧ W1.cell? ⟨w.heap.size, 4, none⟩ = some (.slice A3 t.kids.length c3) := by
    have := HBL.out; simp [World.cell?, this]
  have HX2 := Lib.hid x2
  have HX3 := Lib.hid x3
  have HX4 := Lib.hid x4
  have HW1 := Lib.hid hW1
  clear hW1
  go_enter Tryd.func6, Tryd.ntmps6
  go_upto_region 1 with fail
  rw [HW1.out]
  -- the marks
  go_upto_block 0 with fail
  go_cut [1] from 18 to 37 (fun s1 wx => ∃ m : Int, s1 = .int .i64 m ∧ n - 1 - (t.kind.size : Int) - (t.text.size : Int) - (weighL t.marks : Int) ≤ m ∧ m ≤ n ∧ Hid (Below W1.heap.size W1 wx))
  case first =>
    go_wp2_with fail
    go_loopg [1, 5] t.marks.length (fun gh s1 s5 wx => ∃ (k : Nat) (m : Int), k + gh = t.marks.length ∧ s5 = .int .i64 (k : Int) ∧ s1 = .int .i64 m ∧ n - 1 - (t.kind.size : Int) - (t.text.size : Int) - (weighL (t.marks.take k) : Int) ≤ m ∧ m ≤ n ∧ Hid (Below W1.heap.size W1 wx))
    case atStart => exact ⟨0, _, by omega, rfl, rfl, by simp [weighL], by omega, Lib.hid (Below.refl _ _)⟩
    case round =>
      obtain ⟨k, m, hkg, rfl, rfl, hm1, hm2, hb⟩ := hrel
      have hpt := weighL_part t.marks k
      have x2 := cell_kept HX2.out hb.out
      by_cases hlt : k < t.marks.length
      · by_cases hm0 : 0 < m
        · obtain ⟨b, o, rfl, hub, hcell⟩ := HM1.out.get hlt
          have r0 := cell_kept (hcell k hlt) hb.out
          have hT1 := weighL_take1 hlt
          have hpt1 := weighL_part t.marks (k + 1)
          generalize t.marks.getD k ByteArray.empty = s at *
          clear hcell
          go_wp2
          go_roundg (t.marks.length - (k + 1))
          case measure => omega
          case rel => exact ⟨k + 1, _, by omega, by go_num, rfl, by omega, by omega, hb⟩
        · go_wp2
          go_meet
          exact ⟨m, rfl, by omega, hm2, hb⟩
      · go_wp2
        go_meet
        exact ⟨m, rfl, by omega, hm2, hb⟩
  case rest =>
    obtain ⟨m1, rfl, hm1, hm2, hb1⟩ := hcut
    have x3' := cell_kept HX3.out hb1.out
    -- the attributes
    go_upto_block 2 with fail
    go_cut [1] from 38 to 66 (fun s1 wx => ∃ m : Int, s1 = .int .i64 m ∧ n - 1 - (t.kind.size : Int) - (t.text.size : Int) - (weighL t.marks : Int) - (weighP t.attrs : Int) ≤ m ∧ m ≤ n ∧ Hid (Below W1.heap.size W1 wx))
    case first =>
      go_wp2_with fail
      go_loopg [1, 6] t.attrs.length (fun gh s1 s6 wx => ∃ (k : Nat) (m : Int), k + gh = t.attrs.length ∧ s6 = .int .i64 (k : Int) ∧ s1 = .int .i64 m ∧ n - 1 - (t.kind.size : Int) - (t.text.size : Int) - (weighL t.marks : Int) - (weighP (t.attrs.take k) : Int) ≤ m ∧ m ≤ n ∧ Hid (Below W1.heap.size W1 wx))
      case atStart => exact ⟨0, _, by omega, rfl, rfl, by simp [weighP]; omega, by omega, hb1⟩
      case round =>
        obtain ⟨k, m, hkg, rfl, rfl, hm1', hm2', hb⟩ := hrel
        have hpt := weighP_part t.attrs k
        have x3 := cell_kept HX3.out hb.out
        by_cases hlt : k < t.attrs.length
        · by_cases hm0 : 0 < m
          · obtain ⟨b, o, rfl, hub, hcell⟩ := HA1.out.get hlt
            obtain ⟨r0', r1'⟩ := hcell k hlt
            have r0 := cell_kept r0' hb.out
            have r1 := cell_kept r1' hb.out
            have hT1 := weighP_take1 hlt
            have hpt1 := weighP_part t.attrs (k + 1)
            generalize (pairAt t.attrs k).1 = s at *
            generalize (pairAt t.attrs k).2 = u at *
            clear hcell r0' r1'
            go_wp2_with fail
            go_quiet (fail)
            have HBN : Hid (Below W1.heap.size W1 (wr.drewN nq)) := Lib.hid ⟨hb.out.os, hb.out.tape, hb.out.output, hb.out.size, hb.out.block⟩
            go_wp2
            go_roundg (t.attrs.length - (k + 1))
            case measure => omega
            case rel => exact ⟨k + 1, _, by omega, by go_num, rfl, by omega, by omega, HBN⟩
          · go_wp2
            go_meet
            exact ⟨m, rfl, by omega, hm2', hb⟩
        · go_wp2
          go_meet
          exact ⟨m, rfl, by omega, hm2', hb⟩
    case rest =>
      obtain ⟨m3, rfl, hm3, hm4, hb2⟩ := hcut
      -- the kids
      go_upto_block 4 with fail
      go_cut [1] from 67 to 84 (fun s1 wx => ∃ m : Int, s1 = .int .i64 m ∧ n - (weigh t : Int) ≤ m ∧ m ≤ n ∧ Hid (Below W1.heap.size W1 wx))
      case first =>
        have x4' := cell_kept HX4.out hb2.out
        go_wp2_with fail
        go_loopg [1, 7] t.kids.length (fun gh s1 s7 wx => ∃ (k : Nat) (m : Int), k + gh = t.kids.length ∧ s7 = .int .i64 (k : Int) ∧ s1 = .int .i64 m ∧ n - 1 - (t.kind.size : Int) - (t.text.size : Int) - (weighL t.marks : Int) - (weighP t.attrs : Int) - (weighAll (t.kids.take k) : Int) ≤ m ∧ m ≤ n ∧ Hid (Below W1.heap.size W1 wx))
        case atStart => exact ⟨0, _, by omega, rfl, rfl, by simp [weighAll]; omega, by omega, hb2⟩
        case round =>
          obtain ⟨k, m, hkg, rfl, rfl, hm1', hm2', hb⟩ := hrel
          have hpt := weighAll_take t.kids k
          have x4 := cell_kept HX4.out hb.out
          by_cases hlt : k < t.kids.length
          · by_cases hm0 : 0 < m
            · have hx : t.kids[k]? = some t.kids[k] := List.getElem?_eq_getElem hlt
              have HIX := Lib.hid (IH.out t.kids[k] (List.getElem_mem hlt))
              have hwx := weigh_mem (List.getElem_mem hlt)
              have hT1 := weighAll_take1 hx
              have hpt1 := weighAll_take t.kids (k + 1)
              generalize t.kids[k] = x at *
              obtain ⟨b, o, E1, l1, e1, E2, l2, e2, E3, e3, rfl, r0, r1, r2, r3, r4, hnx⟩ := HK1.out.late hb.out hx
              have HNX := Lib.hid hnx
              clear hx hnx
              go_wp2_with fail
              refine (HIX.out _ m wr (by omega) (by omega) (by omega) (HNX.out wr hb.out)).mono ?_
              rintro e w4 ⟨⟨r, rfl, hr1, hr2⟩, hb4⟩
              have HB4 := Lib.hid (belowNext hb.out hb4)
              clear hb4 r0 r1 r2 r3 r4
              go_wp2
              go_roundg (t.kids.length - (k + 1))
              case measure => omega
              case rel => exact ⟨k + 1, _, by omega, by go_num, rfl, by omega, by omega, HB4⟩
            · go_wp2
              go_meet
              exact ⟨m, rfl, by omega, hm2', hb⟩
          · go_wp2
            go_meet
            exact ⟨m, rfl, by omega, hm2', hb⟩
      case rest =>
        obtain ⟨m5, rfl, hm5, hm6, hb5⟩ := hcut
        go_wp2
        go_ret
        exact ⟨⟨m5, rfl, hm5, hm6⟩, HB.out.trans (hb5.out.mono HB.out.size)⟩
theorem light_any (t : Tree) : LightSaid t := by
  induction t using Tree.induct_one with
  | h k t m a l ih => exact light_of _ fun x hx => ih x hx
end Go.Proofs.YtdbpnfabcmndjaaDoor
