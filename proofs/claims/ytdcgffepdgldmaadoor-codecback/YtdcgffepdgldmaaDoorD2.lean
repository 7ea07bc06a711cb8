/-
  strings.IndexAny at the quote and the backslash, whatever the text: what it answers.
-/
import Derived.Test.YtdcgffepdgldmaaDoorD1
import Derived.Lib.OthersKept
namespace Go.Proofs.YtdcgffepdgldmaaDoor
open Go.RowKit Go.Sort

theorem decode_wide (s : ByteArray) (pos : Nat) (h : pos < s.size) (ha : 128 ≤ (s[pos]'h).toNat) :
    128 ≤ (Utf8.decode s pos).1 ∧ ((Utf8.decode s pos).1 < 55296 ∨ (57344 ≤ (Utf8.decode s pos).1 ∧ (Utf8.decode s pos).1 ≤ 1114111)) ∧ 1 ≤ (Utf8.decode s pos).2 ∧ pos + (Utf8.decode s pos).2 ≤ s.size ∧
      ∀ j, pos ≤ j → j < pos + (Utf8.decode s pos).2 → 128 ≤ (s.get! j).toNat := by
  have hn : ¬ (s[pos]'h).toNat < 128 := by omega
  have hl := (s[pos]'h).toNat_lt
  have h0 : 128 ≤ (s.get! pos).toNat := by have := get_at s pos h; rw [Nat.add_zero] at this; rw [this]; exact ha
  have h1 := (s.get! (pos + 1)).toNat_lt; have h2 := (s.get! (pos + 2)).toNat_lt; have h3 := (s.get! (pos + 3)).toNat_lt
  have jj : ∀ (d : Nat), (∀ k, k < d → 128 ≤ (s.get! (pos + k)).toNat) → ∀ j, pos ≤ j → j < pos + d → 128 ≤ (s.get! j).toNat := fun d hd j a b => by
    have := hd (j - pos) (by omega)
    rwa [show pos + (j - pos) = j by omega] at this
  have j1 : ∀ k, k < 1 → 128 ≤ (s.get! (pos + k)).toNat := fun k hk => by
    obtain rfl : k = 0 := Nat.lt_one_iff.1 hk
    exact h0
  simp only [Utf8.decode, get_at s pos h, hn, if_false, Utf8.runeError]
  split
  · rename_i hc
    simp only [Bool.and_eq_true, beq_iff_eq, decide_eq_true_eq] at hc
    split
    · refine ⟨by omega, by omega, by omega, by show pos + 2 ≤ _; omega, jj 2 fun k hk => ?_⟩
      rcases (show k = 0 ∨ k = 1 by omega) with rfl | rfl
      · exact h0
      · omega
    · exact ⟨by decide, by decide, by decide, by show pos + 1 ≤ _; omega, jj 1 j1⟩
  · split
    · rename_i hc
      simp only [Bool.and_eq_true, beq_iff_eq, decide_eq_true_eq] at hc
      split
      · rename_i hv
        simp only [Utf8.valid, Bool.or_eq_true, Bool.and_eq_true, decide_eq_true_eq] at hv
        refine ⟨by omega, by omega, by omega, by show pos + 3 ≤ _; omega, jj 3 fun k hk => ?_⟩
        rcases (show k = 0 ∨ k = 1 ∨ k = 2 by omega) with rfl | rfl | rfl
        · exact h0
        · omega
        · omega
      · exact ⟨by decide, by decide, by decide, by show pos + 1 ≤ _; omega, jj 1 j1⟩
    · split
      · rename_i hc
        simp only [Bool.and_eq_true, beq_iff_eq, decide_eq_true_eq] at hc
        split
        · rename_i hv
          simp only [Utf8.valid, Bool.or_eq_true, Bool.and_eq_true, decide_eq_true_eq] at hv
          refine ⟨by omega, by omega, by omega, by show pos + 4 ≤ _; omega, jj 4 fun k hk => ?_⟩
          rcases (show k = 0 ∨ k = 1 ∨ k = 2 ∨ k = 3 by omega) with rfl | rfl | rfl | rfl
          · exact h0
          · omega
          · omega
          · omega
        · exact ⟨by decide, by decide, by decide, by show pos + 1 ≤ _; omega, jj 1 j1⟩
      · exact ⟨by decide, by decide, by decide, by show pos + 1 ≤ _; omega, jj 1 j1⟩

theorem qs_high (b : UInt8) (h : 128 ≤ b.toNat) : QS.data.toList.contains b = false := by
  cases hc : QS.data.toList.contains b with
  | false => rfl
  | true =>
    exfalso
    rw [List.contains_iff_mem] at hc
    have hm : b ∈ [(34 : UInt8), 92] := hc
    simp only [List.mem_cons, List.not_mem_nil, or_false] at hm
    rcases hm with rfl | rfl
    · exact absurd h (by decide)
    · exact absurd h (by decide)

/-- Bytes of 128 and over are none of the two. -/
theorem noAny_high {s : ByteArray} {i d : Nat} (h : Lib.NoAny s.data.toList QS.data.toList i) (hd : ∀ j, i ≤ j → j < i + d → 128 ≤ (s.get! j).toNat) : Lib.NoAny s.data.toList QS.data.toList (i + d) := by
  intro j b hj hb
  rcases Nat.lt_or_ge j i with h1 | h1
  · exact h j b h1 hb
  · refine qs_high b ?_
    have := hd j h1 hj
    have hlt : j < s.size := by have := (List.getElem?_eq_some_iff.1 hb).1; rwa [← Lib.size_eq] at this
    rw [Lib.data_getElem? s j hlt] at hb
    have e := get_at s j hlt
    rw [Nat.add_zero] at e
    rw [e, Option.some.inj hb] at this
    exact this

theorem should_is (s : ByteArray) (w : World) (h8 : s.size ≤ 8) : Calls Tryd.prog 125 #[.int .i64 (s.size : Int)] w fun e w' => e = .returned (.bool false) ∧ w = w' := by
  refine (Any.strings_shouldUseASCIISet { Tryd.laysAny with } _ _).mono ?_
  rintro e w' ⟨rfl, hw⟩
  rw [show decide ((8 : Int) < (s.size : Int)) = false from decide_eq_false (by omega)]
  exact ⟨rfl, hw.symm⟩
theorem indexRune_lo (x : UInt8) (w : World) (h : x.toNat < 128) : Calls Tryd.prog 124 #[.string QS, .int .i32 (x.toNat : Int)] w fun e w' => e = .returned (.int .i64 (Lib.indexByte QS.data.toList x)) ∧ w = w' := by
  refine (Any.strings_IndexRune_ascii Tryd.laysRune QS (x.toNat : Int) w (by omega) (by omega)).mono ?_
  rintro e w' ⟨rfl, hw⟩
  exact ⟨by rw [show ((x.toNat : Int)).toNat.toUInt8 = x by simp], hw.symm⟩

set_option maxHeartbeats 4000000 in
set_option maxRecDepth 100000 in
theorem indexAny_short (s : ByteArray) (w : World) (h8 : s.size ≤ 8) :
    Calls Tryd.prog 118 #[.string s, .string QS] w fun e w' => e = .returned (.int .i64 (Lib.indexAny s.data.toList QS.data.toList)) ∧ Below w.heap.size w w' := by
  have hemp : QS.toList.isEmpty = false := by rw [Lib.toList_data]; rfl
  have hqz : QS.size = 2 := rfl
  have hn1 : ((QS.size : Int) == 1) = false := rfl
  have h8z : decide ((8 : Int) < (s.size : Int)) = false := decide_eq_false (by omega)
  go_enter Tryd.func118, Tryd.ntmps118
  go_wp2_with fail
  refine (should_is s w h8).mono ?_
  rintro e w' ⟨rfl, rfl⟩
  go_wp2
  go_loopg [9, 10] s.size (fun g _ _ wx => ∃ i : Nat, i + g = s.size ∧ wx.heap[w.heap.size]? = some (.stringIter s i) ∧ Below w.heap.size w wx ∧ Lib.NoAny s.data.toList QS.data.toList i)
  case atStart => exact ⟨0, by omega, World.iter_heap w s 0, iter_below w s 0, Lib.NoAny.zero _ _⟩
  case round =>
    obtain ⟨i, hig, hk, hbw, hno⟩ := hrel
    have HN := Lib.hid hno
    have HB := Lib.hid hbw
    have HK := Lib.hid hk
    clear hno hbw hk
    cases gk with
    | zero =>
      obtain rfl : i = s.size := by omega
      have hnx := fun ty => Lib.run_next_end_at (P := Tryd.prog) wr w.heap.size s s.size ty HK.out (Nat.lt_irrefl _)
      go_wp2
      go_ret
      exact ⟨by rw [Lib.indexAny_none (by rw [← Lib.size_eq]; exact HN.out)]; rfl, HB.out⟩
    | succ g =>
      have hi : i < s.size := by omega
      obtain ⟨x, hx⟩ : ∃ x : UInt8, s[i]'hi = x := ⟨_, rfl⟩
      have hxl : s.data.toList[i]? = some x := by rw [← hx]; exact Lib.data_getElem? s i hi
      have HX := Lib.hid hxl
      clear hxl
      rcases Nat.lt_or_ge x.toNat 128 with hx1 | hx1
      · have hnx := fun ty => Lib.run_next_ascii_at (P := Tryd.prog) wr w.heap.size s i ty HK.out hi (by rw [hx]; exact hx1)
        rw [hx] at hnx
        clear hx
        have hk2 := Lib.iterAt_heap wr w.heap.size s i (i + 1) HK.out
        have hb2 := Lib.below_iterAt HB.out (Nat.le_refl w.heap.size) s (i + 1)
        have HB2 := Lib.hid hb2
        have HK2 := Lib.hid hk2
        clear hk2 hb2
        have hcon := Lib.contains_iff_indexByte QS.data.toList x
        go_wp2_with fail
        refine (indexRune_lo x _ hx1).mono ?_
        rintro e w' ⟨rfl, rfl⟩
        cases hin : QS.data.toList.contains x
        · rw [hin] at hcon
          have hlt : ¬ ((0 : Int) ≤ Lib.indexByte QS.data.toList x) := of_decide_eq_false hcon.symm
          clear hcon
          go_wp2
          go_roundg g
          case measure => omega
          case rel => exact ⟨i + 1, by omega, HK2.out, HB2.out, HN.out.succ HX.out hin⟩
        · rw [hin] at hcon
          have hge : (0 : Int) ≤ Lib.indexByte QS.data.toList x := of_decide_eq_true hcon.symm
          clear hcon
          go_wp2
          go_ret
          exact ⟨by rw [Lib.indexAny_hit HN.out HX.out hin]; rfl, HB2.out⟩
      · have hnx := fun ty => Lib.run_next_any_at (P := Tryd.prog) wr w.heap.size s i ty HK.out hi
        obtain ⟨d1, d2, d3, d4, d5⟩ := decode_wide s i hi (by rw [hx]; exact hx1)
        clear hx
        generalize (Utf8.decode s i).1 = r at *
        generalize (Utf8.decode s i).2 = d at *
        have hk2 := Lib.iterAt_heap wr w.heap.size s i (i + d) HK.out
        have hb2 := Lib.below_iterAt HB.out (Nat.le_refl w.heap.size) s (i + d)
        have HB2 := Lib.hid hb2
        have HK2 := Lib.hid hk2
        have HN2 := Lib.hid (noAny_high HN.out d5)
        clear hk2 hb2 d5
        go_wp2_with fail
        refine (indexRune_hi (r : Int) _ (by omega) (by omega)).mono ?_
        rintro e w' ⟨rfl, hb3⟩
        have hz : w.heap.size < (wr.iterAt w.heap.size s (i + d)).heap.size := (Array.getElem?_eq_some_iff.1 HK2.out).1
        have HK3 := Lib.hid ((hb3.block _ hz).trans HK2.out)
        have HB3 := Lib.hid (HB2.out.trans (hb3.mono (Nat.le_of_lt hz)))
        clear hb3 hz
        go_wp2
        go_roundg (s.size - (i + d))
        case measure => omega
        case rel => exact ⟨i + d, by omega, HK3.out, HB3.out, HN2.out⟩

/-- Whatever the text. -/
theorem indexAny_is (s : ByteArray) (w : World) (hs : s.size < 4294967281) :
    Calls Tryd.prog 118 #[.string s, .string QS] w fun e w' => e = .returned (.int .i64 (Lib.indexAny s.data.toList QS.data.toList)) ∧ Below w.heap.size w w' := by
  rcases Nat.lt_or_ge 8 s.size with h | h
  · refine (Any.strings_IndexAny_long Tryd.laysAny (fun w => by kernel_rfl) (by kernel_rfl) s QS w (by decide) h hs (by decide) ?_).mono ?_
    · intro j b hb
      have hlt : j < QS.size := by have := (List.getElem?_eq_some_iff.1 hb).1; rwa [← Lib.size_eq] at this
      rw [Lib.data_getElem? QS j hlt] at hb
      rw [← Option.some.inj hb]
      exact qs_small j hlt
    · rintro e w' ⟨rfl, rfl⟩
      exact ⟨rfl, ((Below.refl _ _).alloc (Nat.le_refl _) _).alloc (by simp) _⟩
  · exact indexAny_short s w h
end Go.Proofs.YtdcgffepdgldmaaDoor
