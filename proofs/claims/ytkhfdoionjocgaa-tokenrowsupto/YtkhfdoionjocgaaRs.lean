/-
  The law's short: is a node small, its kids left out?
-/
import Derived.Test.YtkhfdoionjocgaaR2
import Derived.Lib.QuietBelow
namespace Go.Proofs.Ytkhfdoionjocgaa
open Go.RowKit Go.Sort Go.Maps

/-- What short says: if it is true, the node is small. -/
def ShortPost (t : Tree) (w : World) (e : Ending) (w' : World) : Prop :=
  ∃ r : Bool, e = .returned (.bool r) ∧ (r = true → t.kind.size + t.text.size + weighL t.marks + weighP t.attrs ≤ 500) ∧ Below w.heap.size w w'
theorem weighL_snoc (l : List ByteArray) (s : ByteArray) : weighL (l ++ [s]) = weighL l + (s.size + 1) := by unfold weighL; simp
theorem weighP_snoc (l : List (ByteArray × ByteArray)) (p : ByteArray × ByteArray) : weighP (l ++ [p]) = weighP l + (p.1.size + p.2.size + 1) := by unfold weighP; simp

theorem weighL_take : ∀ (l : List ByteArray) (j : Nat), weighL (l.take j) ≤ weighL l
  | [], j => by simp
  | s :: l, 0 => by simp [weighL]
  | s :: l, j + 1 => by have := weighL_take l j; simp only [weighL, List.take_succ_cons, List.map_cons, List.sum_cons] at *; omega
theorem weighP_take : ∀ (l : List (ByteArray × ByteArray)) (j : Nat), weighP (l.take j) ≤ weighP l
  | [], j => by simp
  | s :: l, 0 => by simp [weighP]
  | s :: l, j + 1 => by have := weighP_take l j; simp only [weighP, List.take_succ_cons, List.map_cons, List.sum_cons] at *; omega

set_option maxHeartbeats 4000000 in
set_option maxRecDepth 100000 in
theorem short_any (t : Tree) (A1 A2 A3 : Option Addr) (c1 c2 n3 c3 : Nat) (w : World) (hm : Strs w (Under w.heap.size) (.slice A1 t.marks.length c1) t.marks) (ha : Pairs w (Under w.heap.size) (.slice A2 t.attrs.length c2) t.attrs)
    (hw : t.kind.size + t.text.size + weighL t.marks + weighP t.attrs ≤ 1048576) :
    Calls Try.prog 5 #[.agg #[.string t.kind, .string t.text, .slice A1 t.marks.length c1, .slice A2 t.attrs.length c2, .slice A3 n3 c3]] w (ShortPost t w) := by
  have HM := Lib.hid hm
  have HA := Lib.hid ha
  have hlm := weighL_len t.marks
  have hla := weighP_len t.attrs
  have HB1 : Hid (Below w.heap.size w (w.alloc (.cells #[.string t.kind, .string t.text, .slice A1 t.marks.length c1, .slice A2 t.attrs.length c2, .slice A3 n3 c3] 27))) := Lib.hid ((Below.refl _ _).alloc (Nat.le_refl _) _)
  have HX : Hid ((w.alloc (.cells #[.string t.kind, .string t.text, .slice A1 t.marks.length c1, .slice A2 t.attrs.length c2, .slice A3 n3 c3] 27)).heap[w.heap.size]? = some (.cells #[.string t.kind, .string t.text, .slice A1 t.marks.length c1, .slice A2 t.attrs.length c2, .slice A3 n3 c3] 27)) := Lib.hid (heap_new _ _)
  obtain ⟨n0, n1, n2, n3', n4⟩ := five_cells HX.out
  clear hm ha
  go_enter Try.func5, Try.ntmps5
  generalize hW1 : w.alloc (.cells #[.string t.kind, .string t.text, .slice A1 t.marks.length c1, .slice A2 t.attrs.length c2, .slice A3 n3 c3] 27) = W1 at *
  go_wp2_with fail
  clear hW1
  have HN := Lib.hid (And.intro n2 n3')
  clear n0 n1 n2 n3' n4
  go_loopw [3, 4] (fun lf i wr => ∃ (j : Nat), j ≤ t.marks.length ∧ i = .int .i64 j ∧ lf = .int .i64 (500 - (t.kind.size : Int) - (t.text.size : Int) - (weighL (t.marks.take j) : Int)) ∧ W1 = wr) (fun _ i _ => t.marks.length - (intOf i).toNat)
  case atStart => exact ⟨0, by omega, rfl, by simp [weighL], rfl⟩
  case round =>
    obtain ⟨j, hj, rfl, rfl, rfl⟩ := hrel
    obtain ⟨n2, n3'⟩ := HN.out
    have hwj := weighL_take t.marks j
    by_cases hlt : j < t.marks.length
    · by_cases hpos : 0 < (500 : Int) - (t.kind.size : Int) - (t.text.size : Int) - (weighL (t.marks.take j) : Int)
      · have hlx : t.marks[j]? = some t.marks[j] := List.getElem?_eq_getElem hlt
        have HTK : Hid (weighL (t.marks.take (j + 1)) = weighL (t.marks.take j) + (t.marks[j].size + 1)) := Lib.hid (by rw [List.take_succ_eq_append_getElem hlt, weighL_snoc])
        have hwj2 := weighL_take t.marks (j + 1)
        generalize t.marks[j] = x at *
        rw [HTK.out] at hwj2
        have HG : Hid (∃ b o, A1 = some ⟨b, o, none⟩ ∧ W1.cell? ⟨b, o + j, none⟩ = some (.string x)) := Lib.hid (by
          obtain ⟨A', c', hv, _, _, h3⟩ := HM.out
          injection hv with hv
          subst hv
          rcases h3 with h0 | ⟨b, o, rfl, hb, hc⟩
          · rw [h0] at hlt; cases hlt
          · exact ⟨b, o, rfl, (HB1.out.cell (p := ⟨b, o + j, none⟩) hb).trans (hc j x hlx)⟩)
        obtain ⟨b, o, rfl, hcx⟩ := HG.out
        generalize hwv : weighL (t.marks.take j) = wv at *
        clear hlx hwv
        go_wp2
        exact ⟨⟨j + 1, by omega, by go_num, by rw [HTK.out]; go_num, by trivial⟩, by simp [intOf]; omega⟩
      · have d1 : decide (0 < (500 : Int) - (t.kind.size : Int) - (t.text.size : Int) - (weighL (t.marks.take j) : Int)) = false := decide_eq_false hpos
        go_wp2
        generalize hlf : (500 : Int) - (t.kind.size : Int) - (t.text.size : Int) - (weighL (t.marks.take j) : Int) = la at *
        go_loopw [3, 5] (fun lf i wr => ∃ (q : Nat), q ≤ t.attrs.length ∧ i = .int .i64 q ∧ lf = .int .i64 (la - (weighP (t.attrs.take q) : Int)) ∧ ∃ m, W1.drewN m = wr) (fun _ i _ => t.attrs.length - (intOf i).toNat)
        case atStart => exact ⟨0, by omega, rfl, by simp [weighP], 0, rfl⟩
        case round =>
          obtain ⟨q, hq, rfl, rfl, m, rfl⟩ := hrel
          have hwq := weighP_take t.attrs q
          by_cases hlt2 : q < t.attrs.length
          · by_cases hpos2 : (weighP (t.attrs.take q) : Int) < la
            · exfalso; omega
            · have HNP := Lib.hid hpos2
              go_wp2
              go_ret
              exact ⟨_, rfl, fun h => by first | exact absurd (of_decide_eq_true h) HNP.out | exact Bool.noConfusion h, HB1.out.trans ⟨rfl, rfl, rfl, Nat.le_refl _, fun _ _ => rfl⟩⟩
          · obtain rfl : q = t.attrs.length := by omega
            rw [List.take_length]
            have HFIN : Hid ((weighP t.attrs : Int) < la → t.kind.size + t.text.size + weighL t.marks + weighP t.attrs ≤ 500) := Lib.hid (fun h => by omega)
            go_wp2
            go_ret
            exact ⟨_, rfl, fun h => HFIN.out (of_decide_eq_true h), HB1.out.trans ⟨rfl, rfl, rfl, Nat.le_refl _, fun _ _ => rfl⟩⟩
    · obtain rfl : j = t.marks.length := by omega
      rw [List.take_length]
      go_wp2
      generalize hlf : (500 : Int) - (t.kind.size : Int) - (t.text.size : Int) - (weighL t.marks : Int) = la at *
      go_loopw [3, 5] (fun lf i wr => ∃ (q : Nat), q ≤ t.attrs.length ∧ i = .int .i64 q ∧ lf = .int .i64 (la - (weighP (t.attrs.take q) : Int)) ∧ ∃ m, W1.drewN m = wr) (fun _ i _ => t.attrs.length - (intOf i).toNat)
      case atStart => exact ⟨0, by omega, rfl, by simp [weighP], 0, rfl⟩
      case round =>
        obtain ⟨q, hq, rfl, rfl, m, rfl⟩ := hrel
        have hwq := weighP_take t.attrs q
        by_cases hlt2 : q < t.attrs.length
        · by_cases hpos2 : (weighP (t.attrs.take q) : Int) < la
          · have hlx : t.attrs[q]? = some t.attrs[q] := List.getElem?_eq_getElem hlt2
            have HTK : Hid (weighP (t.attrs.take (q + 1)) = weighP (t.attrs.take q) + (t.attrs[q].1.size + t.attrs[q].2.size + 1)) := Lib.hid (by rw [List.take_succ_eq_append_getElem hlt2, weighP_snoc])
            have hwq2 := weighP_take t.attrs (q + 1)
            generalize t.attrs[q] = x at *
            rw [HTK.out] at hwq2
            have HG : Hid (∃ b o, A2 = some ⟨b, o, none⟩ ∧ W1.cell? ⟨b, o + q * 2, none⟩ = some (.string x.1) ∧ W1.cell? ⟨b, o + q * 2 + 1, none⟩ = some (.string x.2)) := Lib.hid (by
              obtain ⟨A', c', hv, _, _, h3⟩ := HA.out
              injection hv with hv
              subst hv
              rcases h3 with h0 | ⟨b, o, rfl, hb, hc⟩
              · rw [h0] at hlt2; cases hlt2
              · exact ⟨b, o, rfl, (HB1.out.cell (p := ⟨b, o + q * 2, none⟩) hb).trans (hc q x hlx).1, (HB1.out.cell (p := ⟨b, o + q * 2 + 1, none⟩) hb).trans (hc q x hlx).2⟩)
            obtain ⟨b, o, rfl, hcx, hcy⟩ := HG.out
            generalize hwv : weighP (t.attrs.take q) = wv at *
            clear hlx hwv
            go_wp2
            go_quiet (fail)
            go_wp2
            exact ⟨⟨q + 1, by omega, by go_num, by rw [HTK.out]; go_num, _, rfl⟩, by simp [intOf]; omega⟩
          · have HNP := Lib.hid hpos2
            go_wp2
            go_ret
            exact ⟨_, rfl, fun h => by first | exact absurd (of_decide_eq_true h) HNP.out | exact Bool.noConfusion h, HB1.out.trans ⟨rfl, rfl, rfl, Nat.le_refl _, fun _ _ => rfl⟩⟩
        · obtain rfl : q = t.attrs.length := by omega
          rw [List.take_length]
          have HFIN : Hid ((weighP t.attrs : Int) < la → t.kind.size + t.text.size + weighL t.marks + weighP t.attrs ≤ 500) := Lib.hid (fun h => by omega)
          go_wp2
          go_ret
          exact ⟨_, rfl, fun h => HFIN.out (of_decide_eq_true h), HB1.out.trans ⟨rfl, rfl, rfl, Nat.le_refl _, fun _ _ => rfl⟩⟩
end Go.Proofs.Ytkhfdoionjocgaa
