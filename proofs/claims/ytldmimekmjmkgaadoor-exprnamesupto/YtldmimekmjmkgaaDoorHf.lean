/-
  ExprNames walked: whatever expression and row are handed in, it answers true.
-/
import Derived.Test.YtldmimekmjmkgaaDoorHe
namespace Go.Proofs.YtldmimekmjmkgaaDoor
open Go.RowKit Go.Sort Go.Maps Go.WideMaps

theorem strs_at {W : World} {S : Nat → Prop} {A : Option Addr} {n c : Nat} {l : List ByteArray} (h : Strs W S (.slice A n c) l) {i : Nat} {s : ByteArray} (hi : l[i]? = some s) : ∃ b o, A = some ⟨b, o, none⟩ ∧ S b ∧ W.cell? ⟨b, o + i, none⟩ = some (.string s) := by
  obtain ⟨A', c', hv, _, _, h⟩ := h
  injection hv with hA _ _
  subst hA
  rcases h with h | ⟨b, o, rfl, hb, hx⟩
  · subst h; simp at hi
  · exact ⟨b, o, rfl, hb, hx i s hi⟩
theorem strs_num {W : World} {S : Nat → Prop} {v : Value} {l : List ByteArray} (h : Strs W S v l) : ∃ A n c, v = .slice A n c ∧ l.length = n ∧ n ≤ c ∧ c ≤ maxLen := by
  obtain ⟨A, c, hv, h1, h2, _⟩ := h
  exact ⟨A, l.length, c, hv, rfl, h1, h2⟩
theorem less_not {a b : ByteArray} (h : a.data.toList < b.data.toList) : Op.bytesLess b.toList a.toList = false ∧ (b.toList == a.toList) = false := by
  rw [bytesLess_eq, Lib.toList_data, Lib.toList_data]
  constructor
  · rw [decide_eq_false_iff_not]; exact List.lt_asymm h
  · rw [beq_eq_false_iff_ne]; intro e; rw [e] at h; exact List.lt_irrefl _ h
theorem pair_at {R : ByteArray → ByteArray → Prop} {L : List ByteArray} (h : L.Pairwise R) {i j : Nat} {x y : ByteArray} (hi : L[i]? = some x) (hj : L[j]? = some y) (hij : i < j) : R x y := by
  obtain ⟨h1, rfl⟩ := List.getElem?_eq_some_iff.1 hi
  obtain ⟨h2, rfl⟩ := List.getElem?_eq_some_iff.1 hj
  exact List.pairwise_iff_getElem.1 h i j h1 h2 hij
theorem at_some {L : List ByteArray} {i : Nat} (h : i < L.length) : ∃ x, L[i]? = some x := ⟨_, List.getElem?_eq_getElem h⟩
/-- What the inner loop has met. -/
def MetN (L : List ByteArray) (s : ByteArray) (k : Nat) (m : Bool) : Prop := m = true ↔ ∃ j, j < k ∧ L[j]? = some s
theorem MetN.next {L : List ByteArray} {s t : ByteArray} {k : Nat} {m r : Bool} (h : MetN L s k m) (hk : L[k]? = some t) (hr : m = false → (r = true ↔ t = s)) : MetN L s (k + 1) (m || r) := by
  unfold MetN at *
  cases m with
  | true =>
    simp only [Bool.true_or, true_iff]
    obtain ⟨j, h1, h2⟩ := h.1 rfl
    exact ⟨j, by omega, h2⟩
  | false =>
    rw [Bool.false_or, hr rfl]
    constructor
    · rintro rfl; exact ⟨k, by omega, hk⟩
    · rintro ⟨j, h1, h2⟩
      by_cases hj : j < k
      · exact absurd (h.2 ⟨j, hj, h2⟩) (by decide)
      · obtain rfl : j = k := by omega
        rw [hk] at h2; exact Option.some.inj h2
theorem MetN.all {L : List ByteArray} {s : ByteArray} {k : Nat} {m : Bool} (h : MetN L s k m) (hk : L.length ≤ k) (hs : s ∈ L) : m = true := by
  obtain ⟨j, hj⟩ := List.mem_iff_getElem?.1 hs
  exact h.2 ⟨j, by have := (List.getElem?_eq_some_iff.1 hj).1; omega, hj⟩

set_option maxRecDepth 100000 in
set_option maxHeartbeats 8000000 in
theorem exprNames_walk (e : Ex) (A : Option Addr) (k c : Nat) (va : Value) (a : List ByteArray) (w : World) (he : e.fits) (hl : Exs w (Under w.heap.size) (.slice A k c) e.kids) (hT : TabB w) (ha : Strs w (Under w.heap.size) va a)
    (has : ∀ s ∈ a, s.size ≤ maxLen) (hbulk : (namesE e).length ≤ 2000000) :
    Calls Tryd.prog 9 #[.agg #[.int .u8 e.op, .string e.name, .slice A k c], va] w fun x w' => x = .returned (.bool true) ∧ Below w.heap.size w w' := by
  have HP0 : Hid (Pack w w [] [(va, a)]) := Lib.hid ⟨Below.refl _ _, hT, fun _ h => (nomatch h), fun y hy => by
    rcases List.mem_cons.1 hy with rfl | hy
    · exact ha
    · cases hy⟩
  have HP1 : Hid (Pack w (w.alloc (.cells #[.int .u8 e.op, .string e.name, .slice A k c] 24)) [⟨w.heap.size, e, A, k, c⟩] [(va, a)]) := Lib.hid ((HP0.out.alloc _).add (Lies.new (Below.refl _ _) hl fun _ h => h))
  obtain ⟨Aa, ca, rfl, hca, hcma, _⟩ := id ha
  generalize hNa : a.length = Na at *
  have HNa := Lib.hid hNa
  have HF := Lib.hid he
  have HAS := Lib.hid has
  have HBK := Lib.hid hbulk
  clear hl hT ha he has HP0 hNa hbulk
  unfold maxLen at hcma
  go_enter Tryd.func9, Tryd.ntmps9
  go_wp2_with fail
  refine (shown6_any _ HP1.out.tab).mono ?_
  rintro x W1 ⟨rfl, hb1⟩
  have HP2 := Lib.hid (HP1.out.next hb1)
  clear hb1 HP1
  obtain ⟨d00, d01, d02⟩ := HP2.out.cells (.head _)
  go_wp2_with fail
  refine (light6_any e A k c 300 W1 HF.out (HP2.out.ex _ (.head _)).kids (by decide) (by decide)).mono ?_
  rintro x W2 ⟨⟨q, rfl, hq0, hq1⟩, hb2⟩
  have HP3 := Lib.hid (HP2.out.next hb2)
  clear d00 d01 d02 hb2 HP2
  obtain ⟨d00, d01, d02⟩ := HP3.out.cells (.head _)
  have l0 := cell_lt d00
  by_cases hq : q < 0
  · go_wp2
    go_ret
    exact ⟨rfl, HP3.out.below⟩
  by_cases hlen : 30 < Na
  · go_wp2
    go_ret
    exact ⟨rfl, HP3.out.below⟩
  go_wp2_with fail
  refine (names_any e A k c W2 (HP3.out.ex _ (.head _)).kids HBK.out).mono ?_
  rintro x W3 ⟨vL, L, rfl, hrL, hb3, hok⟩
  have HP4 := Lib.hid (HP3.out.both hb3 hrL)
  obtain ⟨AL, NL, cL, rfl, hNL, hcL, hcmL⟩ := strs_num hrL.strs
  unfold maxLen at hcmL
  have HNL := Lib.hid hNL
  have HOK := Lib.hid hok
  clear d00 d01 d02 l0 hb3 HP3 hrL hNL hok
  have hnl : NL ≤ 9223372036854775807 := by omega
  go_wp2
  go_loopg [7] (NL + 1) (fun g u wx => ∃ i : Nat, u = .int .i64 i ∧ 1 ≤ i ∧ i + g = NL + 2 ∧ Hid (Pack w wx [⟨w.heap.size, e, A, k, c⟩] [(.slice AL NL cL, L), (.slice Aa Na ca, a)]))
  case atStart => exact ⟨1, rfl, by omega, by omega, HP4⟩
  case round =>
    clear HP4
    obtain ⟨i, rfl, hi1, hig, HP5⟩ := hrel
    obtain ⟨d00, d01, d02⟩ := HP5.out.cells (.head _)
    have l0 := cell_lt d00
    by_cases hi : i < NL
    · obtain ⟨g, rfl⟩ : ∃ g, gk = g + 1 := ⟨gk - 1, by omega⟩
      obtain ⟨i, rfl⟩ : ∃ j, i = j + 1 := ⟨i - 1, by omega⟩
      obtain ⟨x, hx⟩ : ∃ x, L[i + 1]? = some x := at_some (by rw [HNL.out]; exact hi)
      obtain ⟨y, hy⟩ : ∃ y, L[i]? = some y := at_some (by rw [HNL.out]; omega)
      have hxy : y.data.toList < x.data.toList := pair_at HOK.out.2 hy hx (by omega)
      obtain ⟨hlt, hle⟩ := less_not hxy
      obtain ⟨bL, oL, rfl, hbL, cx⟩ := strs_at (HP5.out.strs _ (.head _)) hx
      obtain ⟨bL', oL', hee, _, cy⟩ := strs_at (HP5.out.strs _ (.head _)) hy
      injection hee with hee
      injection hee with h1 h2 _
      subst h1 h2
      have kx := cell_regrown cx
      have ky := cell_regrown cy
      clear hx hy hxy
      go_wp2
      refine wp_region_quiet_below (by kernel_rfl) (by kernel_rfl) ?_
      repeat (first | go_big_quiet_step (fail) | quiet_step (fail))
      refine wpQuiet_nil ?_
      intro _ hw'
      obtain ⟨⟨dq, osq⟩, hw''⟩ := hw'
      subst hw''
      have HP6 := Lib.hid (HP5.out.next (below_regrown _ dq osq))
      clear kx ky cx cy d00 d01 d02 l0 HP5 hlt hle
      generalize grow (redrawn _ dq) osq = wn at *
      go_wp2
      go_roundg g
      case measure => omega
      case rel => exact ⟨i + 2, by go_num, by omega, by omega, HP6⟩
    · go_wp2_with fail
      refine (has_pack HP5.out (.head _) HF.out (.tail _ (.head _)) HAS.out).mono ?_
      rintro x W6 ⟨⟨r, rfl, hr⟩, hb6⟩
      have HP6 := Lib.hid (HP5.out.next hb6)
      have HRL := Lib.hid hr
      clear d00 d01 d02 l0 hb6 HP5 hr
      cases r with
      | false =>
        go_wp2
        go_ret
        exact ⟨rfl, HP6.out.below⟩
      | true =>
        have HLL := Lib.hid (HRL.out.1 (by simp))
        clear HRL hi hig hi1
        go_wp2
        go_loopg [8] (Na + 1) (fun g u wx => ∃ i : Nat, u = .int .i64 i ∧ i + g = Na + 1 ∧ Hid (Pack w wx [⟨w.heap.size, e, A, k, c⟩] [(.slice AL NL cL, L), (.slice Aa Na ca, a)]))
        case atStart => exact ⟨0, rfl, by omega, HP6⟩
        case round =>
          clear HP6
          obtain ⟨p, rfl, hpg, HP7⟩ := hrel
          by_cases hp : p < Na
          · obtain ⟨g, rfl⟩ : ∃ g, gk = g + 1 := ⟨gk - 1, by omega⟩
            obtain ⟨s, hs⟩ : ∃ s, a[p]? = some s := at_some (by rw [HNa.out]; exact hp)
            have HSA := Lib.hid hs
            have HSL : Hid (s ∈ L) := Lib.hid ((HOK.out.1 s).2 (lang_names e _ HLL.out.2 s (List.mem_of_getElem? hs)))
            clear hs
            generalize wr = wo at *
            go_wp2
            go_loopg [9, 10] (NL + 1) (fun g2 u v wx => ∃ (t : Nat) (m : Bool), u = .bool m ∧ v = .int .i64 t ∧ t + g2 = NL + 1 ∧ Hid (MetN L s t m) ∧ Hid (Pack w wx [⟨w.heap.size, e, A, k, c⟩] [(.slice AL NL cL, L), (.slice Aa Na ca, a)]))
            case atStart => exact ⟨0, false, rfl, rfl, by omega, Lib.hid ⟨fun h => (nomatch h), fun ⟨j, h, _⟩ => absurd h (by omega)⟩, HP7⟩
            case round =>
              clear HP7
              obtain ⟨t, m, rfl, rfl, htg, HM, HP8⟩ := hrel
              by_cases ht : t < NL
              · obtain ⟨g2, rfl⟩ : ∃ g2, gk = g2 + 1 := ⟨gk - 1, by omega⟩
                obtain ⟨x, hx⟩ : ∃ x, L[t]? = some x := at_some (by rw [HNL.out]; exact ht)
                have HX := Lib.hid hx
                obtain ⟨bL, oL, rfl, hbL, cx⟩ := strs_at (HP8.out.strs _ (.head _)) hx
                obtain ⟨bA, oA, rfl, hbA, cy⟩ := strs_at (HP8.out.strs _ (.tail _ (.head _))) HSA.out
                have kx := cell_regrown cx
                have ky := cell_regrown cy
                clear hx hbL hbA
                cases m with
                | true =>
                  go_wp2
                  refine wp_region_quiet_below (by kernel_rfl) (by kernel_rfl) ?_
                  repeat (first | go_big_quiet_step (fail) | quiet_step (fail))
                  refine wpQuiet_nil ?_
                  intro _ hw'
                  obtain ⟨⟨dq, osq⟩, hw''⟩ := hw'
                  subst hw''
                  have HP9 := Lib.hid (HP8.out.next (below_regrown _ dq osq))
                  clear kx ky cx cy HP8
                  generalize grow (redrawn _ dq) osq = wn at *
                  go_wp2
                  go_roundg g2
                  case measure => omega
                  case rel => exact ⟨t + 1, _, rfl, by go_num, by omega, Lib.hid (HM.out.next (r := true) HX.out (fun h => (nomatch h))), HP9⟩
                | false =>
                  by_cases hts : x = s
                  · have hse : (x.toList == s.toList) = true := by rw [hts]; simp
                    have HTS := Lib.hid hts
                    clear hts
                    go_wp2
                    refine wp_region_quiet_below (by kernel_rfl) (by kernel_rfl) ?_
                    repeat (first | go_big_quiet_step (fail) | quiet_step (fail))
                    refine wpQuiet_nil ?_
                    intro _ hw'
                    obtain ⟨⟨dq, osq⟩, hw''⟩ := hw'
                    subst hw''
                    have HP9 := Lib.hid (HP8.out.next (below_regrown _ dq osq))
                    clear kx ky cx cy HP8
                    generalize grow (redrawn _ dq) osq = wn at *
                    go_wp2
                    go_roundg g2
                    case measure => omega
                    case rel => exact ⟨t + 1, _, rfl, by go_num, by omega, Lib.hid (HM.out.next (r := true) HX.out (fun _ => ⟨fun _ => HTS.out, fun _ => rfl⟩)), HP9⟩
                  · have hse : (x.toList == s.toList) = false := by
                      rw [beq_eq_false_iff_ne]; intro h; rw [Lib.toList_data, Lib.toList_data] at h; exact hts (bytesE_of h)
                    have HTS := Lib.hid hts
                    clear hts
                    go_wp2
                    refine wp_region_quiet_below (by kernel_rfl) (by kernel_rfl) ?_
                    repeat (first | go_big_quiet_step (fail) | quiet_step (fail))
                    refine wpQuiet_nil ?_
                    intro _ hw'
                    obtain ⟨⟨dq, osq⟩, hw''⟩ := hw'
                    subst hw''
                    have HP9 := Lib.hid (HP8.out.next (below_regrown _ dq osq))
                    clear kx ky cx cy HP8
                    generalize grow (redrawn _ dq) osq = wn at *
                    go_wp2
                    go_roundg g2
                    case measure => omega
                    case rel => exact ⟨t + 1, _, rfl, by go_num, by omega, Lib.hid (HM.out.next (r := false) HX.out (fun _ => ⟨fun h => (nomatch h), fun h => absurd h HTS.out⟩)), HP9⟩
              · obtain rfl : m = true := HM.out.all (by rw [HNL.out]; omega) HSL.out
                go_wp2
                go_roundg g
                case measure => omega
                case rel => exact ⟨p + 1, by go_num, by omega, HP8⟩
          · obtain ⟨d00, d01, d02⟩ := HP7.out.cells (.head _)
            have l0 := cell_lt d00
            go_wp2_with fail
            refine (right_pack HP7.out (.head _) HF.out).mono ?_
            rintro x W9 ⟨rfl, hb9⟩
            have HP9 := Lib.hid (HP7.out.next hb9)
            clear d00 d01 d02 l0 hb9 HP7
            simp only
            rw [HLL.out.1]
            go_wp2
            go_ret
            exact ⟨rfl, HP9.out.below⟩
end Go.Proofs.YtldmimekmjmkgaaDoor
