/-
  strings.IndexAny at the quote and the backslash, whatever the text: what it answers.
-/
import Derived.Test.YtdcgffepdgldmaaDoorC3
import Derived.Test.YtdcgffepdgldmaaDoorAp
import Derived.Test.YtdcgffepdgldmaaDoorShelfP
import Derived.Laws.RangeAny
import Derived.Laws.Runes
import Derived.WalkMore
namespace Go.Proofs.YtdcgffepdgldmaaDoor
open Go.RowKit Go.Sort

/-- The two signs. -/
def QS : ByteArray := ⟨#[34, 92]⟩

set_option maxHeartbeats 400000 in
theorem validRune_any (r : Int) (w : World) (h0 : 0 ≤ r) (h : r < 55296 ∨ (57344 ≤ r ∧ r ≤ 1114111)) : Calls Tryd.prog 130 #[.int .i32 r] w fun e w' => e = .returned (.bool true) ∧ w = w' := by
  rcases h with h | ⟨h, h2⟩
  · go_enter Tryd.func130, Tryd.ntmps130
    go_wp2
    go_ret
    exact ⟨rfl, rfl⟩
  · have h3 : ¬ r < 55296 := by omega
    have h4 : (57343 : Int) < r := by omega
    go_enter Tryd.func130, Tryd.ntmps130
    go_wp2
    go_ret
    exact ⟨rfl, rfl⟩

theorem qs_small (i : Nat) (h : i < QS.size) : (QS[i]'h).toNat < 128 := by
  rcases (show i = 0 ∨ i = 1 by have h' : i < 2 := h; omega) with rfl | rfl
  · show (34 : UInt8).toNat < 128; decide
  · show (92 : UInt8).toNat < 128; decide
theorem drew_below (w : World) (n : Nat) : Below w.heap.size w (w.drewN n) := ⟨rfl, rfl, rfl, Nat.le_refl _, fun _ _ => rfl⟩
set_option maxHeartbeats 2000000 in
set_option maxRecDepth 100000 in
theorem indexRune_hi (r : Int) (w : World) (h0 : 128 ≤ r) (h : r < 55296 ∨ (57344 ≤ r ∧ r ≤ 1114111)) :
    Calls Tryd.prog 124 #[.string QS, .int .i32 r] w fun e w' => e = .returned (.int .i64 (-1)) ∧ Below w.heap.size w w' := by
  by_cases he : r = 65533
  · subst he
    go_enter Tryd.func124, Tryd.ntmps124
    go_wp2
    go_loopg [5, 6] 2 (fun g _ _ wx => ∃ i : Nat, i + g = 2 ∧ wx = w.iter QS i)
    case atStart => exact ⟨0, by omega, rfl⟩
    case round =>
      obtain ⟨i, hig, rfl⟩ := hrel
      cases gk with
      | zero =>
        obtain rfl : i = 2 := by omega
        have hnx := run_next_end (P := Tryd.prog) w QS 2
        have hq : ¬ 2 < QS.size := by decide
        go_wp2
        go_ret
        exact ⟨rfl, iter_below w QS 2⟩
      | succ g =>
        have hi : i < QS.size := by show i < 2; omega
        have hx : (QS[i]'hi).toNat < 128 := qs_small i hi
        have hnx := fun ty => run_next_ascii (P := Tryd.prog) w QS i ty hi hx
        generalize (QS[i]'hi).toNat = x at *
        have hx2 : ((x : Int) == 65533) = false := beq_eq_false_iff_ne.2 (by omega)
        go_wp2
        go_roundg g
        case measure => omega
        case rel => exact ⟨i + 1, by omega, rfl⟩
  · have he' : (r == 65533) = false := beq_eq_false_iff_ne.2 he
    have h128 : ¬ r < 128 := by omega
    have hv : Utf8.valid r = true := by simp only [Utf8.valid, Bool.or_eq_true, Bool.and_eq_true, decide_eq_true_eq]; omega
    obtain ⟨e1, e2, e3⟩ := encode_facts r hv h0
    generalize hrs : Utf8.encode r = rs at *
    clear he hv
    have hl : rs.size - 1 < rs.size := by omega
    have hlast := e3 hl
    generalize hc : rs[rs.size - 1]'hl = c at *
    have hcl := UInt8.toNat_lt c
    have g1 : ((rs.size : Int) - 1).toNat = rs.size - 1 := by omega
    clear e3
    go_enter Tryd.func124, Tryd.ntmps124
    go_wp2_with fail
    refine (validRune_any r w (by omega) h).mono ?_
    rintro e w' ⟨rfl, rfl⟩
    go_wp2
    go_step3
    go_wp2
    rcases Nat.lt_or_ge rs.size 3 with h3 | h3
    · have hs2 : rs.size = 2 := by omega
      have HS2 := Lib.hid hs2
      clear hs2
      go_loopw [9, 10, 11, 12] (fun i _ _ _ wx => i = .int .i64 ((rs.size : Int) - 1) ∧ ∃ n, wx = w.drewN n) (fun _ _ _ _ _ => 0)
      case atStart => exact ⟨rfl, 0, rfl⟩
      case round =>
        obtain ⟨rfl, n, rfl⟩ := hrel
        have hs2 := HS2.out
        have h1 : 1 < rs.size := by omega
        have hc1 : rs[1]'h1 = c := by rw [← hc]; congr 1; omega
        have q1 : 1 < QS.size := by decide
        have hq1 : QS[1]'q1 = 92 := rfl
        have hqz : QS.size = 2 := rfl
        have hne : ((92 : Int) != (c.toNat : Int)) = true := by rw [bne_iff_ne]; omega
        clear hc g1 hlast h3 e1 e2 hl
        go_wp2
        go_step3
        go_wp2
        go_quiet (fail)
        go_wp2
        have HX : ∀ (n : Nat) (w : World), Calls Tryd.prog 129 #[.string ByteArray.empty, .int .u8 (c.toNat : Int)] (w.drewN n) fun e w' => e = .returned (.int .i64 (-1)) ∧ w' = w.drewN n := fun n w => Any.strings_IndexByte Tryd.laysIxB _ _ _
        have HI := Lib.hid HX
        clear HX
        have hsl : QS.extract 2 2 = ByteArray.empty := rfl
        have hw2 : IntKind.i64.wrap 2 = 2 := rfl
        generalize hW1 : (w.drewN n).drewN nq = W1 at *
        go_quiet (first | (go_at_call 129; exact Calls.quiet_of_same (HI.out _ _)) | exact Calls.quiet_of_same (HI.out _ _) | (rw [if_pos (by rw [hw2]; decide), hw2]; exact ⟨rfl, hsl ▸ rfl⟩) | trace_state)
        go_wp2
        show bodyPost Tryd.prog Tryd.f124 (fun e w' => e = .returned (.int .i64 (-1)) ∧ Below w.heap.size w w') Exit.ret _ _
        go_ret
        subst hW1
        rw [World.drewN_drewN, World.drewN_drewN]
        exact ⟨rfl, drew_below w _⟩
    · go_loopw [9, 10, 11, 12] (fun i _ _ _ wx => i = .int .i64 ((rs.size : Int) - 1) ∧ ∃ n, wx = w.drewN n) (fun _ _ _ _ _ => 0)
      case atStart => exact ⟨rfl, 0, rfl⟩
      case round =>
        obtain ⟨rfl, n, rfl⟩ := hrel
        have hqz : QS.size = 2 := rfl
        have hnl : ¬ (rs.size : Int) - 1 < 2 := by omega
        go_wp2
        go_ret
        exact ⟨rfl, drew_below w n⟩
end Go.Proofs.YtdcgffepdgldmaaDoor
