/-
  What token.Of answers.
-/
import Derived.Test.YtkhfdoionjocgaaK1
namespace Go.Proofs.Ytkhfdoionjocgaa
open Go.RowKit Go.Sort Go.Maps

set_option maxHeartbeats 4000000 in
set_option maxRecDepth 100000 in
theorem of_some (vl : Value) (l : List Tree) (w : World) (h : Kids w (Under w.heap.size) vl l) (hw : weighAll l ≤ 1000000) :
    Calls Try.prog 7 #[vl] w fun e w' => ∃ v, e = .returned v ∧ TRow w' w.heap.size v (toksB l) ∧ Below w.heap.size w w' ∧ v ≠ .slice none 0 0 := by
  have hmf : ∀ (fn : Fn) (first cap : Array Value) (w : World), (Instr.makeFunc fn first cap).run Try.prog w = .ok (.func fn first cap) w := fun _ _ _ _ => rfl
  have HN := Lib.hid h
  obtain ⟨A, c, rfl, hlc⟩ := h.form
  clear h
  go_enter Try.func7, Try.ntmps7
  go_wp2_with fail
  refine (total_any _ l w HN.out hw).mono ?_
  rintro e w1 ⟨rfl, hb1⟩
  have HB1 := Lib.hid hb1
  have hz1 := hb1.size
  have htl := total_le_weigh l
  clear hb1
  generalize totalB l = n at *
  obtain ⟨i, hi, hz0, hi1, hi2⟩ := info_parts tok_info
  obtain ⟨w2, hr, hown, hg⟩ := run_make_own (P := Try.prog) w1 w.heap.size 31 39 i _ 3 Try.underlying31 hi hz0 hi1 .i64 .i64 n (by rw [hi2]; omega) (by unfold maxLen; omega) hz1
  have HR : Hid (TRow w2 w.heap.size (.slice (some ⟨w1.heap.size, 0, none⟩) 0 n) []) := Lib.hid hown
  have hb2 : Below w1.heap.size w1 w2 := ⟨hg.os, hg.tape, hg.output, hg.size, fun k hk => hg.block k hk (by simp)⟩
  have HB2 := Lib.hid (HB1.out.trans (hb2.mono hz1))
  have hz2 := hb2.size
  clear hown hg hb2 hi hz0 hi1 hi2
  go_wp2_with fail
  obtain ⟨W4, hW4⟩ : ∃ W4, W4 = (w2.alloc (.cells #[.slice (some ⟨w1.heap.size, 0, none⟩) 0 n] 31)).alloc (.cells #[.func (.func 13) #[] #[.pointer (some ⟨w2.heap.size, 0, none⟩), .pointer (some ⟨w2.heap.size + 1, 0, none⟩)]] 46) := ⟨_, rfl⟩
  rw [← hW4]
  have hB4 : Below w2.heap.size w2 W4 := by subst hW4; exact ((Below.refl _ _).alloc (Nat.le_refl _) _).alloc (by simp) _
  have hat : TokAt W4 w.heap.size w2.heap.size (w2.heap.size + 1) (.slice (some ⟨w1.heap.size, 0, none⟩) 0 n) [] := by
    refine ⟨?_, ownsRow_keep HR.out fun g hg => hB4.block _ (by obtain ⟨_, cur, hc⟩ := HR.out.block hg; exact heap_lt hc), ?_, ?_⟩
    · subst hW4; exact heap_old _ _ _ (heap_new _ _)
    · subst hW4; exact heap_new' _ _ (by simp)
    · simp
  have hz4 := hB4.size
  have hB := HB2.out.trans (hB4.mono (Nat.le_trans hz1 hz2))
  clear hW4 hB4
  refine (of_walk (weighAll l) l _ _ W4 w.heap.size w2.heap.size (w2.heap.size + 1) [] (Nat.le_refl _) (HN.out.below hB) hw hat (by omega) (by omega) (by omega) (by simp; omega)).mono ?_
  rintro e w5 ⟨rfl, hb5, v5, hat5⟩
  have HB5 := Lib.hid (hB.trans hb5)
  have HAT5 := Lib.hid hat5
  obtain ⟨A5, m5, c5, rfl⟩ := ownsRow_form hat5.row
  have q5 := hat5.cell
  clear hb5 hat5 hat hB
  go_wp2
  go_ret
  exact ⟨_, rfl, HAT5.out.row, HB5.out, HAT5.out.nn⟩
theorem of_any (vl : Value) (l : List Tree) (w : World) (h : Kids w (Under w.heap.size) vl l) (hw : weighAll l ≤ 1000000) :
    Calls Try.prog 7 #[vl] w fun e w' => ∃ v, e = .returned v ∧ TRow w' w.heap.size v (toksB l) ∧ Below w.heap.size w w' :=
  (of_some vl l w h hw).mono fun _ _ ⟨v, he, ht, hb, _⟩ => ⟨v, he, ht, hb⟩
end Go.Proofs.Ytkhfdoionjocgaa
