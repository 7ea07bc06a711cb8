/-
  What the codec's writing calls answer: writeAll, written, Print.
  strings.IndexAny at the quote and the backslash, whatever the text: what it answers.
  strings.IndexAny at the quote and the backslash, whatever the text: what it answers.
  The reader's small steps: take, fail, want, name.
  The reader's quoted: what it answers, whatever stands there.
  append of one thing to a row of the call's own; the reader's marks.
  The reader's attr and attrs.
  The reader's attrs.
-/
import Derived.Test.YtggoebbfgkebcaaGreatDoorMA
import Derived.Test.YtggoebbfgkebcaaGreatDoorMB
import Derived.Test.YtggoebbfgkebcaaGreatDoorShelfP
import Derived.Laws.RangeAny
import Derived.Laws.Runes
import Derived.WalkMore
import Derived.Lib.OthersKept
namespace Go.Proofs.YtggoebbfgkebcaaGreatDoor
open Go.RowKit Go.Sort

theorem write_text {x : Tree} (h : isTxt x.kind = true) : writeB x = quoteL x.text.data.toList ++ headW x := by
  obtain ⟨k, t, m, a, l⟩ := x; simp only [Tree.kind] at h; simp [writeB, headW, h, Tree.kind, Tree.text, Tree.marks]
theorem write_node {x : Tree} (h : isTxt x.kind = false) : writeB x = headW x ++ 91 :: (writeAllB x.kids ++ [93]) := by
  obtain ⟨k, t, m, a, l⟩ := x; simp only [Tree.kind] at h; simp [writeB, headW, h, Tree.kind, Tree.attrs, Tree.kids]
theorem headW_le (x : Tree) : (headW x).length ≤ 4 * weigh x := by
  have h1 := writeB_le x
  cases h : isTxt x.kind with
  | true => rw [write_text h, List.length_append] at h1; omega
  | false => rw [write_node h, List.length_append] at h1; omega
theorem headW_kids (x : Tree) : (headW x).length + 4 * weighAll x.kids + 6 ≤ 4 * weigh x := by
  have h1 := marksW_le x.marks
  have h2 := attrsW_le x.attrs
  have h3 := Lib.size_eq x.kind
  have h4 : x.kind.size + weighL x.marks + weighP x.attrs + weighAll x.kids + 2 ≤ weigh x := by obtain ⟨k, t, m, a, l⟩ := x; simp only [weigh, Tree.kind, Tree.marks, Tree.attrs, Tree.kids]; omega
  cases h : isTxt x.kind with
  | true =>
    have e : headW x = marksW x.marks := by simp [headW, h]
    rw [e]; omega
  | false =>
    have e : headW x = x.kind.data.toList ++ attrsW x.attrs := by simp [headW, h]
    rw [e, List.length_append]; omega
theorem quote_le_weigh (x : Tree) : (quoteL x.text.data.toList).length ≤ 4 * weigh x := by
  have h1 := quoteL_le x.text.data.toList
  have h2 := Lib.size_eq x.text
  obtain ⟨k, t, m, a, l⟩ := x
  simp only [weigh, Tree.text] at *; omega

/-- What Print answers. -/
def printB (t : Tree) : List UInt8 := if checkB t = 0 then writeB t else []
theorem ret_pair {s t : ByteArray} {a b : Int} (h : s = t) (h2 : a = b) : Ending.returned (.tuple #[.string s, .int .i64 a]) = .returned (.tuple #[.string t, .int .i64 b]) := by rw [h, h2]

end Go.Proofs.YtggoebbfgkebcaaGreatDoor

namespace Go.Proofs.YtggoebbfgkebcaaGreatDoor
open Go.RowKit Go.Sort

/-- The two signs. -/
def QS : ByteArray := ⟨#[34, 92]⟩

set_option maxHeartbeats 400000 in
theorem validRune_any (r : Int) (w : World) (h0 : 0 ≤ r) (h : r < 55296 ∨ (57344 ≤ r ∧ r ≤ 1114111)) : Calls Tryz.prog 101 #[.int .i32 r] w fun e w' => e = .returned (.bool true) ∧ w = w' := by
  rcases h with h | ⟨h, h2⟩
  · go_enter Tryz.func101, Tryz.ntmps101
    go_wp2
    go_ret
    exact ⟨rfl, rfl⟩
  · have h3 : ¬ r < 55296 := by omega
    have h4 : (57343 : Int) < r := by omega
    go_enter Tryz.func101, Tryz.ntmps101
    go_wp2
    go_ret
    exact ⟨rfl, rfl⟩

theorem qs_small (i : Nat) (h : i < QS.size) : (QS[i]'h).toNat < 128 := by
  rcases (show i = 0 ∨ i = 1 by have h' : i < 2 := h; omega) with rfl | rfl
  · show (34 : UInt8).toNat < 128; decide
  · show (92 : UInt8).toNat < 128; decide
theorem drew_below (w : World) (n : Nat) : Below w.heap.size w (w.drewN n) := ⟨rfl, rfl, rfl, Nat.le_refl _, fun _ _ => rfl⟩
set_option maxHeartbeats 2000000 in
set_option maxRecDepth 100000 in
theorem indexRune_hi (r : Int) (w : World) (h0 : 128 ≤ r) (h : r < 55296 ∨ (57344 ≤ r ∧ r ≤ 1114111)) :
    Calls Tryz.prog 94 #[.string QS, .int .i32 r] w fun e w' => e = .returned (.int .i64 (-1)) ∧ Below w.heap.size w w' := by
  by_cases he : r = 65533
  · subst he
    go_enter Tryz.func94, Tryz.ntmps94
    go_wp2
    go_loopg [5, 6] 2 (fun g _ _ wx => ∃ i : Nat, i + g = 2 ∧ wx = w.iter QS i)
    case atStart => exact ⟨0, by omega, rfl⟩
    case round =>
      obtain ⟨i, hig, rfl⟩ := hrel
      cases gk with
      | zero =>
        obtain rfl : i = 2 := by omega
        have hnx := run_next_end (P := Tryz.prog) w QS 2
        have hq : ¬ 2 < QS.size := by decide
        go_wp2
        go_ret
        exact ⟨rfl, iter_below w QS 2⟩
      | succ g =>
        have hi : i < QS.size := by show i < 2; omega
        have hx : (QS[i]'hi).toNat < 128 := qs_small i hi
        have hnx := fun ty => run_next_ascii (P := Tryz.prog) w QS i ty hi hx
        generalize (QS[i]'hi).toNat = x at *
        have hx2 : ((x : Int) == 65533) = false := beq_eq_false_iff_ne.2 (by omega)
        go_wp2
        go_roundg g
        case measure => omega
        case rel => exact ⟨i + 1, by omega, rfl⟩
  · have he' : (r == 65533) = false := beq_eq_false_iff_ne.2 he
    have h128 : ¬ r < 128 := by omega
    have hv : Utf8.valid r = true := by simp only [Utf8.valid, Bool.or_eq_true, Bool.and_eq_true, decide_eq_true_eq]; omega
    obtain ⟨e1, e2, e3⟩ := encode_facts r hv h0
    generalize hrs : Utf8.encode r = rs at *
    clear he hv
    have hl : rs.size - 1 < rs.size := by omega
    have hlast := e3 hl
    generalize hc : rs[rs.size - 1]'hl = c at *
    have hcl := UInt8.toNat_lt c
    have g1 : ((rs.size : Int) - 1).toNat = rs.size - 1 := by omega
    clear e3
    go_enter Tryz.func94, Tryz.ntmps94
    go_wp2_with fail
    refine (validRune_any r w (by omega) h).mono ?_
    rintro e w' ⟨rfl, rfl⟩
    go_wp2
    go_step3
    go_wp2
    rcases Nat.lt_or_ge rs.size 3 with h3 | h3
    · have hs2 : rs.size = 2 := by omega
      have HS2 := Lib.hid hs2
      clear hs2
      go_loopw [9, 10, 11, 12] (fun i _ _ _ wx => i = .int .i64 ((rs.size : Int) - 1) ∧ ∃ n, wx = w.drewN n) (fun _ _ _ _ _ => 0)
      case atStart => exact ⟨rfl, 0, rfl⟩
      case round =>
        obtain ⟨rfl, n, rfl⟩ := hrel
        have hs2 := HS2.out
        have h1 : 1 < rs.size := by omega
        have hc1 : rs[1]'h1 = c := by rw [← hc]; congr 1; omega
        have q1 : 1 < QS.size := by decide
        have hq1 : QS[1]'q1 = 92 := rfl
        have hqz : QS.size = 2 := rfl
        have hne : ((92 : Int) != (c.toNat : Int)) = true := by rw [bne_iff_ne]; omega
        clear hc g1 hlast h3 e1 e2 hl
        go_wp2
        go_step3
        go_wp2
        go_quiet (fail)
        go_wp2
        have HX : ∀ (n : Nat) (w : World), Calls Tryz.prog 100 #[.string ByteArray.empty, .int .u8 (c.toNat : Int)] (w.drewN n) fun e w' => e = .returned (.int .i64 (-1)) ∧ w' = w.drewN n := fun n w => Any.strings_IndexByte Tryz.laysIxB _ _ _
        have HI := Lib.hid HX
        clear HX
        have hsl : QS.extract 2 2 = ByteArray.empty := rfl
        have hw2 : IntKind.i64.wrap 2 = 2 := rfl
        generalize hW1 : (w.drewN n).drewN nq = W1 at *
        go_quiet (first | (go_at_call 100; exact Calls.quiet_of_same (HI.out _ _)) | exact Calls.quiet_of_same (HI.out _ _) | (rw [if_pos (by rw [hw2]; decide), hw2]; exact ⟨rfl, hsl ▸ rfl⟩) | trace_state)
        go_wp2
        show bodyPost Tryz.prog Tryz.f94 (fun e w' => e = .returned (.int .i64 (-1)) ∧ Below w.heap.size w w') Exit.ret _ _
        go_ret
        subst hW1
        rw [World.drewN_drewN, World.drewN_drewN]
        exact ⟨rfl, drew_below w _⟩
    · go_loopw [9, 10, 11, 12] (fun i _ _ _ wx => i = .int .i64 ((rs.size : Int) - 1) ∧ ∃ n, wx = w.drewN n) (fun _ _ _ _ _ => 0)
      case atStart => exact ⟨rfl, 0, rfl⟩
      case round =>
        obtain ⟨rfl, n, rfl⟩ := hrel
        have hqz : QS.size = 2 := rfl
        have hnl : ¬ (rs.size : Int) - 1 < 2 := by omega
        go_wp2
        go_ret
        exact ⟨rfl, drew_below w n⟩
end Go.Proofs.YtggoebbfgkebcaaGreatDoor

namespace Go.Proofs.YtggoebbfgkebcaaGreatDoor
open Go.RowKit Go.Sort

theorem decode_wide (s : ByteArray) (pos : Nat) (h : pos < s.size) (ha : 128 ≤ (s[pos]'h).toNat) :
    128 ≤ (Utf8.decode s pos).1 ∧ ((Utf8.decode s pos).1 < 55296 ∨ (57344 ≤ (Utf8.decode s pos).1 ∧ (Utf8.decode s pos).1 ≤ 1114111)) ∧ 1 ≤ (Utf8.decode s pos).2 ∧ pos + (Utf8.decode s pos).2 ≤ s.size ∧
      ∀ j, pos ≤ j → j < pos + (Utf8.decode s pos).2 → 128 ≤ (s.get! j).toNat := by
  have hn : ¬ (s[pos]'h).toNat < 128 := by omega
  have hl := (s[pos]'h).toNat_lt
  have h0 : 128 ≤ (s.get! pos).toNat := by have := get_at s pos h; rw [Nat.add_zero] at this; rw [this]; exact ha
  have h1 := (s.get! (pos + 1)).toNat_lt; have h2 := (s.get! (pos + 2)).toNat_lt; have h3 := (s.get! (pos + 3)).toNat_lt
  have jj : ∀ (d : Nat), (∀ k, k < d → 128 ≤ (s.get! (pos + k)).toNat) → ∀ j, pos ≤ j → j < pos + d → 128 ≤ (s.get! j).toNat := fun d hd j a b => by
    have := hd (j - pos) (by omega)
    rwa [show pos + (j - pos) = j by omega] at this
  have j1 : ∀ k, k < 1 → 128 ≤ (s.get! (pos + k)).toNat := fun k hk => by
    obtain rfl : k = 0 := Nat.lt_one_iff.1 hk
    exact h0
  simp only [Utf8.decode, get_at s pos h, hn, if_false, Utf8.runeError]
  split
  · rename_i hc
    simp only [Bool.and_eq_true, beq_iff_eq, decide_eq_true_eq] at hc
    split
    · refine ⟨by omega, by omega, by omega, by show pos + 2 ≤ _; omega, jj 2 fun k hk => ?_⟩
      rcases (show k = 0 ∨ k = 1 by omega) with rfl | rfl
      · exact h0
      · omega
    · exact ⟨by decide, by decide, by decide, by show pos + 1 ≤ _; omega, jj 1 j1⟩
  · split
    · rename_i hc
      simp only [Bool.and_eq_true, beq_iff_eq, decide_eq_true_eq] at hc
      split
      · rename_i hv
        simp only [Utf8.valid, Bool.or_eq_true, Bool.and_eq_true, decide_eq_true_eq] at hv
        refine ⟨by omega, by omega, by omega, by show pos + 3 ≤ _; omega, jj 3 fun k hk => ?_⟩
        rcases (show k = 0 ∨ k = 1 ∨ k = 2 by omega) with rfl | rfl | rfl
        · exact h0
        · omega
        · omega
      · exact ⟨by decide, by decide, by decide, by show pos + 1 ≤ _; omega, jj 1 j1⟩
    · split
      · rename_i hc
        simp only [Bool.and_eq_true, beq_iff_eq, decide_eq_true_eq] at hc
        split
        · rename_i hv
          simp only [Utf8.valid, Bool.or_eq_true, Bool.and_eq_true, decide_eq_true_eq] at hv
          refine ⟨by omega, by omega, by omega, by show pos + 4 ≤ _; omega, jj 4 fun k hk => ?_⟩
          rcases (show k = 0 ∨ k = 1 ∨ k = 2 ∨ k = 3 by omega) with rfl | rfl | rfl | rfl
          · exact h0
          · omega
          · omega
          · omega
        · exact ⟨by decide, by decide, by decide, by show pos + 1 ≤ _; omega, jj 1 j1⟩
      · exact ⟨by decide, by decide, by decide, by show pos + 1 ≤ _; omega, jj 1 j1⟩

theorem qs_high (b : UInt8) (h : 128 ≤ b.toNat) : QS.data.toList.contains b = false := by
  cases hc : QS.data.toList.contains b with
  | false => rfl
  | true =>
    exfalso
    rw [List.contains_iff_mem] at hc
    have hm : b ∈ [(34 : UInt8), 92] := hc
    simp only [List.mem_cons, List.not_mem_nil, or_false] at hm
    rcases hm with rfl | rfl
    · exact absurd h (by decide)
    · exact absurd h (by decide)

/-- Bytes of 128 and over are none of the two. -/
theorem noAny_high {s : ByteArray} {i d : Nat} (h : Lib.NoAny s.data.toList QS.data.toList i) (hd : ∀ j, i ≤ j → j < i + d → 128 ≤ (s.get! j).toNat) : Lib.NoAny s.data.toList QS.data.toList (i + d) := by
  intro j b hj hb
  rcases Nat.lt_or_ge j i with h1 | h1
  · exact h j b h1 hb
  · refine qs_high b ?_
    have := hd j h1 hj
    have hlt : j < s.size := by have := (List.getElem?_eq_some_iff.1 hb).1; rwa [← Lib.size_eq] at this
    rw [Lib.data_getElem? s j hlt] at hb
    have e := get_at s j hlt
    rw [Nat.add_zero] at e
    rw [e, Option.some.inj hb] at this
    exact this

theorem should_is (s : ByteArray) (w : World) (h8 : s.size ≤ 8) : Calls Tryz.prog 95 #[.int .i64 (s.size : Int)] w fun e w' => e = .returned (.bool false) ∧ w = w' := by
  refine (Any.strings_shouldUseASCIISet { Tryz.laysAny with } _ _).mono ?_
  rintro e w' ⟨rfl, hw⟩
  rw [show decide ((8 : Int) < (s.size : Int)) = false from decide_eq_false (by omega)]
  exact ⟨rfl, hw.symm⟩
theorem indexRune_lo (x : UInt8) (w : World) (h : x.toNat < 128) : Calls Tryz.prog 94 #[.string QS, .int .i32 (x.toNat : Int)] w fun e w' => e = .returned (.int .i64 (Lib.indexByte QS.data.toList x)) ∧ w = w' := by
  refine (Any.strings_IndexRune_ascii Tryz.laysRune QS (x.toNat : Int) w (by omega) (by omega)).mono ?_
  rintro e w' ⟨rfl, hw⟩
  exact ⟨by rw [show ((x.toNat : Int)).toNat.toUInt8 = x by simp], hw.symm⟩

set_option maxHeartbeats 4000000 in
set_option maxRecDepth 100000 in
theorem indexAny_short (s : ByteArray) (w : World) (h8 : s.size ≤ 8) :
    Calls Tryz.prog 87 #[.string s, .string QS] w fun e w' => e = .returned (.int .i64 (Lib.indexAny s.data.toList QS.data.toList)) ∧ Below w.heap.size w w' := by
  have hemp : QS.toList.isEmpty = false := by rw [Lib.toList_data]; rfl
  have hqz : QS.size = 2 := rfl
  have hn1 : ((QS.size : Int) == 1) = false := rfl
  have h8z : decide ((8 : Int) < (s.size : Int)) = false := decide_eq_false (by omega)
  go_enter Tryz.func87, Tryz.ntmps87
  go_wp2_with fail
  refine (should_is s w h8).mono ?_
  rintro e w' ⟨rfl, rfl⟩
  go_wp2
  go_loopg [9, 10] s.size (fun g _ _ wx => ∃ i : Nat, i + g = s.size ∧ wx.heap[w.heap.size]? = some (.stringIter s i) ∧ Below w.heap.size w wx ∧ Lib.NoAny s.data.toList QS.data.toList i)
  case atStart => exact ⟨0, by omega, World.iter_heap w s 0, iter_below w s 0, Lib.NoAny.zero _ _⟩
  case round =>
    obtain ⟨i, hig, hk, hbw, hno⟩ := hrel
    have HN := Lib.hid hno
    have HB := Lib.hid hbw
    have HK := Lib.hid hk
    clear hno hbw hk
    cases gk with
    | zero =>
      obtain rfl : i = s.size := by omega
      have hnx := fun ty => Lib.run_next_end_at (P := Tryz.prog) wr w.heap.size s s.size ty HK.out (Nat.lt_irrefl _)
      go_wp2
      go_ret
      exact ⟨by rw [Lib.indexAny_none (by rw [← Lib.size_eq]; exact HN.out)]; rfl, HB.out⟩
    | succ g =>
      have hi : i < s.size := by omega
      obtain ⟨x, hx⟩ : ∃ x : UInt8, s[i]'hi = x := ⟨_, rfl⟩
      have hxl : s.data.toList[i]? = some x := by rw [← hx]; exact Lib.data_getElem? s i hi
      have HX := Lib.hid hxl
      clear hxl
      rcases Nat.lt_or_ge x.toNat 128 with hx1 | hx1
      · have hnx := fun ty => Lib.run_next_ascii_at (P := Tryz.prog) wr w.heap.size s i ty HK.out hi (by rw [hx]; exact hx1)
        rw [hx] at hnx
        clear hx
        have hk2 := Lib.iterAt_heap wr w.heap.size s i (i + 1) HK.out
        have hb2 := Lib.below_iterAt HB.out (Nat.le_refl w.heap.size) s (i + 1)
        have HB2 := Lib.hid hb2
        have HK2 := Lib.hid hk2
        clear hk2 hb2
        have hcon := Lib.contains_iff_indexByte QS.data.toList x
        go_wp2_with fail
        refine (indexRune_lo x _ hx1).mono ?_
        rintro e w' ⟨rfl, rfl⟩
        cases hin : QS.data.toList.contains x
        · rw [hin] at hcon
          have hlt : ¬ ((0 : Int) ≤ Lib.indexByte QS.data.toList x) := of_decide_eq_false hcon.symm
          clear hcon
          go_wp2
          go_roundg g
          case measure => omega
          case rel => exact ⟨i + 1, by omega, HK2.out, HB2.out, HN.out.succ HX.out hin⟩
        · rw [hin] at hcon
          have hge : (0 : Int) ≤ Lib.indexByte QS.data.toList x := of_decide_eq_true hcon.symm
          clear hcon
          go_wp2
          go_ret
          exact ⟨by rw [Lib.indexAny_hit HN.out HX.out hin]; rfl, HB2.out⟩
      · have hnx := fun ty => Lib.run_next_any_at (P := Tryz.prog) wr w.heap.size s i ty HK.out hi
        obtain ⟨d1, d2, d3, d4, d5⟩ := decode_wide s i hi (by rw [hx]; exact hx1)
        clear hx
        generalize (Utf8.decode s i).1 = r at *
        generalize (Utf8.decode s i).2 = d at *
        have hk2 := Lib.iterAt_heap wr w.heap.size s i (i + d) HK.out
        have hb2 := Lib.below_iterAt HB.out (Nat.le_refl w.heap.size) s (i + d)
        have HB2 := Lib.hid hb2
        have HK2 := Lib.hid hk2
        have HN2 := Lib.hid (noAny_high HN.out d5)
        clear hk2 hb2 d5
        go_wp2_with fail
        refine (indexRune_hi (r : Int) _ (by omega) (by omega)).mono ?_
        rintro e w' ⟨rfl, hb3⟩
        have hz : w.heap.size < (wr.iterAt w.heap.size s (i + d)).heap.size := (Array.getElem?_eq_some_iff.1 HK2.out).1
        have HK3 := Lib.hid ((hb3.block _ hz).trans HK2.out)
        have HB3 := Lib.hid (HB2.out.trans (hb3.mono (Nat.le_of_lt hz)))
        clear hb3 hz
        go_wp2
        go_roundg (s.size - (i + d))
        case measure => omega
        case rel => exact ⟨i + d, by omega, HK3.out, HB3.out, HN2.out⟩

/-- Whatever the text. -/
theorem indexAny_is (s : ByteArray) (w : World) (hs : s.size < 4294967281) :
    Calls Tryz.prog 87 #[.string s, .string QS] w fun e w' => e = .returned (.int .i64 (Lib.indexAny s.data.toList QS.data.toList)) ∧ Below w.heap.size w w' := by
  rcases Nat.lt_or_ge 8 s.size with h | h
  · refine (Any.strings_IndexAny_long Tryz.laysAny (fun w => by kernel_rfl) (by kernel_rfl) s QS w (by decide) h hs (by decide) ?_).mono ?_
    · intro j b hb
      have hlt : j < QS.size := by have := (List.getElem?_eq_some_iff.1 hb).1; rwa [← Lib.size_eq] at this
      rw [Lib.data_getElem? QS j hlt] at hb
      rw [← Option.some.inj hb]
      exact qs_small j hlt
    · rintro e w' ⟨rfl, rfl⟩
      exact ⟨rfl, ((Below.refl _ _).alloc (Nat.le_refl _) _).alloc (by simp) _⟩
  · exact indexAny_short s w h
end Go.Proofs.YtggoebbfgkebcaaGreatDoor

namespace Go.Proofs.YtggoebbfgkebcaaGreatDoor
open Go.RowKit Go.Sort

/-- The reader in block R: what is to be read, and whether something was wrong. -/
def Rd (w : World) (R : Nat) (l : List UInt8) (x : Bool) : Prop := w.heap[R]? = some (.cells #[.string ⟨l.toArray⟩, .bool x] 92)

/-- Of the old blocks, only R may have turned. -/
structure OnlyR (R : Nat) (w w' : World) : Prop where
  os : w'.os = w.os
  tape : w'.tape = w.tape
  output : w'.output = w.output
  size : w.heap.size ≤ w'.heap.size
  block : ∀ k, k < w.heap.size → k ≠ R → w'.heap[k]? = w.heap[k]?
theorem OnlyR.refl (R : Nat) (w : World) : OnlyR R w w := ⟨rfl, rfl, rfl, Nat.le_refl _, fun _ _ _ => rfl⟩
theorem OnlyR.trans {R : Nat} {a b c : World} (h : OnlyR R a b) (k : OnlyR R b c) : OnlyR R a c :=
  ⟨k.os.trans h.os, k.tape.trans h.tape, k.output.trans h.output, Nat.le_trans h.size k.size, fun i hi hn => (k.block i (Nat.lt_of_lt_of_le hi h.size) hn).trans (h.block i hi hn)⟩
theorem OnlyR.set (R i : Nat) (w : World) (v : Value) : OnlyR R w (w.setCell ⟨R, i, none⟩ v) := ⟨rfl, rfl, rfl, by simp [World.setCell], fun k _ hn => Below.heap_setCell _ _ _ _ hn⟩
theorem OnlyR.of_below (R : Nat) {w w' : World} (h : Below w.heap.size w w') : OnlyR R w w' := ⟨h.os, h.tape, h.output, h.size, fun k hk _ => h.block k hk⟩
theorem OnlyR.below {R B : Nat} {w w' : World} (h : OnlyR R w w') (hB : B ≤ R) (hw : B ≤ w.heap.size) : Below B w w' := ⟨h.os, h.tape, h.output, h.size, fun k hk => h.block k (by omega) (by omega)⟩
theorem Rd.lt {w : World} {R : Nat} {l : List UInt8} {x : Bool} (h : Rd w R l x) : R < w.heap.size := (Array.getElem?_eq_some_iff.1 h).1
theorem Rd.below {w w' : World} {R : Nat} {l : List UInt8} {x : Bool} (h : Rd w R l x) (hb : Below w.heap.size w w') : Rd w' R l x := (hb.block R h.lt).trans h
theorem Rd.rest {w : World} {R : Nat} {l : List UInt8} {x : Bool} (h : Rd w R l x) : w.cell? ⟨R, 0, none⟩ = some (.string ⟨l.toArray⟩) := by simp [World.cell?, show w.heap[R]? = _ from h]
theorem Rd.wrong {w : World} {R : Nat} {l : List UInt8} {x : Bool} (h : Rd w R l x) : w.cell? ⟨R, 1, none⟩ = some (.bool x) := by simp [World.cell?, show w.heap[R]? = _ from h]
theorem Rd.free {w : World} {R : Nat} {l : List UInt8} {x : Bool} (h : Rd w R l x) (i : Nat) : w.frozen? ⟨R, i, none⟩ = false := frozen_of_row w R i _ _ h
theorem Rd.set0 {w : World} {R : Nat} {l : List UInt8} {x : Bool} (h : Rd w R l x) (l' : List UInt8) : Rd (w.setCell ⟨R, 0, none⟩ (.string ⟨l'.toArray⟩)) R l' x := heap_setCell_same w R 0 _ _ _ h
theorem Rd.set1 {w : World} {R : Nat} {l : List UInt8} {x : Bool} (h : Rd w R l x) (y : Bool) : Rd (w.setCell ⟨R, 1, none⟩ (.bool y)) R l y := heap_setCell_same w R 1 _ _ _ h

theorem cutPrefix_is (l : List UInt8) (p : ByteArray) (w : World) :
    Calls Tryz.prog 78 #[.string ⟨l.toArray⟩, .string p] w fun e w' => e = .returned (.tuple #[.string ⟨(Lib.trimPrefix l p.data.toList).toArray⟩, .bool (Lib.hasPrefix l p.data.toList)]) ∧ w = w' := by
  refine (Any.strings_CutPrefix Tryz.laysCut ⟨l.toArray⟩ p w).mono ?_
  rintro e w' ⟨rfl, rfl⟩
  exact ⟨rfl, rfl⟩

set_option maxHeartbeats 1000000 in
theorem rd_take (R : Nat) (l : List UInt8) (x : Bool) (p : ByteArray) (w : World) (h : Rd w R l x) :
    Calls Tryz.prog 58 #[.pointer (some ⟨R, 0, none⟩), .string p] w fun e w' =>
      e = .returned (.bool (Lib.hasPrefix l p.data.toList)) ∧ Rd w' R (Lib.trimPrefix l p.data.toList) x ∧ OnlyR R w w' := by
  have c0 := h.rest
  have f0 := h.free 0
  have HR := Lib.hid h
  clear h
  go_enter Tryz.func58, Tryz.ntmps58
  go_wp2_with fail
  refine (cutPrefix_is l p w).mono ?_
  rintro e w' ⟨rfl, rfl⟩
  go_wp2
  go_ret
  exact ⟨rfl, HR.out.set0 _, OnlyR.set R 0 w _⟩

set_option maxHeartbeats 1000000 in
theorem rd_fail (R : Nat) (l : List UInt8) (x : Bool) (w : World) (h : Rd w R l x) :
    Calls Tryz.prog 60 #[.pointer (some ⟨R, 0, none⟩)] w fun e w' => e = .returned (.tuple #[]) ∧ Rd w' R [] true ∧ OnlyR R w w' := by
  have c0 := h.rest
  have f0 := h.free 0
  have h2 := h.set0 []
  have HR := Lib.hid h2
  have c1 := h2.wrong
  have f1 := h2.free 1
  clear h h2
  go_enter Tryz.func60, Tryz.ntmps60
  go_wp2
  go_end0
  exact ⟨rfl, HR.out.set1 true, (OnlyR.set R 0 w _).trans (OnlyR.set R 1 _ _)⟩

/-- Wanted: there it is, or nothing is left. -/
def wantL (p l : List UInt8) : List UInt8 := if Lib.hasPrefix l p then l.drop p.length else []
set_option maxHeartbeats 1000000 in
theorem rd_want (R : Nat) (l : List UInt8) (x : Bool) (p : ByteArray) (w : World) (h : Rd w R l x) :
    Calls Tryz.prog 81 #[.pointer (some ⟨R, 0, none⟩), .string p] w fun e w' =>
      e = .returned (.tuple #[]) ∧ Rd w' R (wantL p.data.toList l) (x || !Lib.hasPrefix l p.data.toList) ∧ OnlyR R w w' := by
  go_enter Tryz.func81, Tryz.ntmps81
  go_wp2_with fail
  refine (rd_take R l x p w h).mono ?_
  rintro e w1 ⟨rfl, h1, o1⟩
  have H1 := Lib.hid h1
  have O1 := Lib.hid o1
  clear h1 o1
  cases hp : Lib.hasPrefix l p.data.toList with
  | true =>
    go_wp2
    go_end0
    have h1 := H1.out
    rw [Lib.trimPrefix, if_pos hp] at h1
    refine ⟨rfl, ?_, O1.out⟩
    rw [wantL, if_pos hp, hp, Bool.not_true, Bool.or_false]
    exact h1
  | false =>
    go_wp2_with fail
    refine (rd_fail R _ x w1 H1.out).mono ?_
    rintro e w2 ⟨rfl, h2, o2⟩
    have H2 := Lib.hid h2
    have O2 := Lib.hid o2
    clear h2 o2
    go_wp2
    go_end0
    refine ⟨rfl, ?_, O1.out.trans O2.out⟩
    rw [wantL, if_neg (by rw [hp]; decide), hp, Bool.not_false, Bool.or_true]
    exact H2.out

theorem rd_ret {s t : ByteArray} (h : s = t) : Ending.returned (.string s) = .returned (.string t) := by rw [h]
theorem ext_take (S : ByteArray) (i : Nat) : S.extract 0 i = ⟨(S.data.toList.take i).toArray⟩ := by
  apply bytes_of
  rw [ByteArray.data_extract, Array.toList_extract]
  simp [List.extract]
theorem ext_drop (S : ByteArray) (i : Nat) : S.extract i S.size = ⟨(S.data.toList.drop i).toArray⟩ := by
  apply bytes_of
  rw [ByteArray.data_extract, Array.toList_extract]
  simp only [List.extract]
  rw [List.take_of_length_le]
  rw [List.length_drop, ← Lib.size_eq]
  exact Nat.le_refl _
theorem drop_at (S : ByteArray) (i : Nat) (h : i < S.size) : S.data.toList.drop i = S[i] :: S.data.toList.drop (i + 1) := by
  have hl : i < S.data.toList.length := by rw [← Lib.size_eq]; exact h
  rw [List.drop_eq_getElem_cons hl]
  rfl
set_option maxHeartbeats 2000000 in
theorem rd_name (R : Nat) (l : List UInt8) (x : Bool) (w : World) (h : Rd w R l x) (hl : l.length ≤ 50000000) :
    Calls Tryz.prog 79 #[.pointer (some ⟨R, 0, none⟩)] w fun e w' =>
      e = .returned (.string ⟨(l.takeWhile small).toArray⟩) ∧ Rd w' R (l.dropWhile small) x ∧ OnlyR R w w' := by
  have c0 := h.rest
  have f0 := h.free 0
  have HR := Lib.hid h
  clear h
  obtain ⟨S, hS⟩ : ∃ S : ByteArray, S = ⟨l.toArray⟩ := ⟨_, rfl⟩
  have hd : S.data.toList = l := by rw [hS]
  have hz : S.size = l.length := by rw [Lib.size_eq, hd]
  rw [← hS] at c0
  have hs8 : S.size ≤ 50000000 := by omega
  have HS := Lib.hid hS
  have HD := Lib.hid hd
  have HZ := Lib.hid hz
  clear hS hd hz hl
  go_enter Tryz.func79, Tryz.ntmps79
  go_wp2
  go_loopg [3] S.size (fun g s3 wx => ∃ i : Nat, s3 = .int .i64 (i : Int) ∧ i + g = S.size ∧ wx = w ∧ l.takeWhile small = l.take i ++ (l.drop i).takeWhile small ∧ l.dropWhile small = (l.drop i).dropWhile small)
  case atStart => exact ⟨0, rfl, by omega, rfl, rfl, rfl⟩
  case round =>
    obtain ⟨i, rfl, hig, rfl, ht, hdr⟩ := hrel
    have HT := Lib.hid ht
    have HDR := Lib.hid hdr
    clear ht hdr
    cases gk with
    | zero =>
      obtain rfl : i = S.size := by omega
      have hD := HD.out
      have e1 : l.drop S.size = [] := List.drop_eq_nil_of_le (by rw [HZ.out]; exact Nat.le_refl _)
      have ht := HT.out
      have hdr := HDR.out
      rw [e1] at ht hdr
      have HE1 := Lib.hid (ht.trans (List.append_nil _))
      have HE2 := Lib.hid hdr
      clear ht hdr e1 hD
      go_wp2
      go_ret
      refine ⟨?_, ?_, OnlyR.set R 0 wr _⟩
      · exact rd_ret (by rw [HE1.out, HZ.out, List.take_length]; exact HS.out)
      · rw [HE2.out]; exact HR.out.set0 []
    | succ g =>
      have hi : i < S.size := by omega
      obtain ⟨c, hc⟩ : ∃ c : UInt8, S[i] = c := ⟨_, rfl⟩
      have hat := drop_at S i hi
      rw [HD.out, hc] at hat
      have HAT := Lib.hid hat
      clear hat
      by_cases hsm : small c = true
      · have h1 : 97 ≤ c.toNat := by simp only [small, Bool.and_eq_true, decide_eq_true_eq] at hsm; exact hsm.1
        have h2 : c.toNat ≤ 122 := by simp only [small, Bool.and_eq_true, decide_eq_true_eq] at hsm; exact hsm.2
        have HSM := Lib.hid hsm
        clear hsm
        go_wp2
        go_roundg g
        case measure => omega
        case rel =>
          refine ⟨i + 1, rfl, by omega, rfl, ?_, ?_⟩
          · rw [HT.out, HAT.out, List.takeWhile_cons_of_pos HSM.out, List.take_add_one, ← List.head?_drop, HAT.out]; simp
          · rw [HDR.out, HAT.out, List.dropWhile_cons_of_pos HSM.out]
      · have HE1 : Hid (l.takeWhile small = l.take i) := Lib.hid (by rw [HT.out, HAT.out, List.takeWhile_cons_of_neg hsm, List.append_nil])
        have HE2 : Hid (l.dropWhile small = l.drop i) := Lib.hid (by rw [HDR.out, HAT.out, List.dropWhile_cons_of_neg hsm])
        by_cases h1 : 97 ≤ c.toNat
        · have h2 : ¬ c.toNat ≤ 122 := fun h2 => hsm (by simp [small, h1, h2])
          clear hsm
          go_wp2
          go_ret
          refine ⟨?_, ?_, OnlyR.set R 0 wr _⟩
          · exact rd_ret (by rw [HE1.out, ext_take, HD.out])
          · rw [HE2.out, ext_drop, HD.out]; exact HR.out.set0 _
        · clear hsm
          go_wp2
          go_ret
          refine ⟨?_, ?_, OnlyR.set R 0 wr _⟩
          · exact rd_ret (by rw [HE1.out, ext_take, HD.out])
          · rw [HE2.out, ext_drop, HD.out]; exact HR.out.set0 _
end Go.Proofs.YtggoebbfgkebcaaGreatDoor

namespace Go.Proofs.YtggoebbfgkebcaaGreatDoor
open Go.RowKit Go.Sort

/-- What stands up to the closing quote, and what is left behind it. -/
def unq : List UInt8 → Option (List UInt8 × List UInt8)
  | [] => none
  | c :: r => if c == 34 then some ([], r) else if c == 92 then (match r with | d :: r' => if d == 34 || d == 92 then (unq r').map (fun p => (d :: p.1, p.2)) else none | [] => none) else (unq r).map (fun p => (c :: p.1, p.2))
/-- .. with the opening quote. -/
def qL (l : List UInt8) : Option (List UInt8 × List UInt8) := unq (wantL [34] l)

theorem qs_contains (c : UInt8) : QS.data.toList.contains c = (c == 34 || c == 92) := by
  show ([34, 92] : List UInt8).contains c = _
  simp only [List.contains, List.elem]
  cases (c == 34) <;> cases (c == 92) <;> rfl
theorem unq_q (r : List UInt8) : unq (34 :: r) = some ([], r) := by rw [unq.eq_def]; rfl
theorem unq_s1 : unq [92] = none := by rw [unq.eq_def]; rfl
theorem unq_s (d : UInt8) (r : List UInt8) : unq (92 :: d :: r) = if d == 34 || d == 92 then (unq r).map (fun p => (d :: p.1, p.2)) else none := by rw [unq.eq_def]; rfl

theorem unq_index : ∀ l : List UInt8, (Lib.indexAny l QS.data.toList = -1 ∧ unq l = none) ∨
    ∃ e : Nat, Lib.indexAny l QS.data.toList = (e : Int) ∧ e < l.length ∧ (∃ c r, l.drop e = c :: r ∧ (c = 34 ∨ c = 92)) ∧ unq l = (unq (l.drop e)).map (fun p => (l.take e ++ p.1, p.2))
  | [] => .inl ⟨rfl, rfl⟩
  | b :: l => by
    by_cases hc : (b == 34 || b == 92) = true
    · refine .inr ⟨0, ?_, by simp, ⟨b, l, rfl, by simpa using hc⟩, ?_⟩
      · rw [Lib.indexAny, qs_contains, if_pos hc]; rfl
      · simp
    · have h1 : (b == 34) = false := by cases h : (b == 34) <;> simp_all
      have h2 : (b == 92) = false := by cases h : (b == 92) <;> simp_all
      have hu : unq (b :: l) = (unq l).map (fun p => (b :: p.1, p.2)) := by rw [unq.eq_def]; simp only [h1, h2]; rfl
      rcases unq_index l with ⟨e1, e2⟩ | ⟨e, e1, e2, e3, e4⟩
      · refine .inl ⟨?_, by rw [hu, e2]; rfl⟩
        rw [Lib.indexAny, qs_contains, if_neg hc, e1]; decide
      · refine .inr ⟨e + 1, ?_, Nat.succ_lt_succ e2, e3, ?_⟩
        · rw [Lib.indexAny, qs_contains, if_neg hc, e1, if_neg (by rw [beq_iff_eq]; omega)]; rfl
        · rw [hu, e4, List.drop_succ_cons, List.take_succ_cons, Option.map_map]; rfl

theorem OnlyR.thenBelow {R B : Nat} {a b c : World} (h : OnlyR R a b) (k : Below B b c) (hB : a.heap.size ≤ B) : OnlyR R a c :=
  ⟨k.os.trans h.os, k.tape.trans h.tape, k.output.trans h.output, Nat.le_trans h.size k.size, fun i hi hn => (k.block i (Nat.lt_of_lt_of_le hi hB)).trans (h.block i hi hn)⟩
theorem Rd.under {w w' : World} {R B : Nat} {l : List UInt8} {x : Bool} (h : Rd w R l x) (hb : Below B w w') (hR : R < B) : Rd w' R l x := (hb.block R hR).trans h
theorem builAt_only {T e : TypeId} {w w' : World} {R B b : Nat} {p : Value} {bs : List Value} (h : Lib.BuilderAtF T e B b p bs w) (o : OnlyR R w w') (hR : R < B) : Lib.BuilderAtF T e B b p bs w' := by
  obtain ⟨hB, v, hb, hown, hne⟩ := h
  have keep : ∀ k c, w.heap[k]? = some c → B ≤ k → w'.heap[k]? = some c := fun k c hk hB => (o.block k (Array.getElem?_eq_some_iff.1 hk).1 (by omega)).trans hk
  refine ⟨hB, v, keep _ _ hb hB, ⟨hown.1, ?_⟩, hne⟩
  rcases hown.2 with hn | ⟨g, cap, cur, fz, hv, hbg, hg, rest⟩
  · exact .inl hn
  · exact .inr ⟨g, cap, cur, fz, hv, hbg, keep _ _ hg hbg, rest⟩
theorem Buil.only {w w' : World} {R B b : Nat} {acc : List UInt8} (h : Buil w B b acc) (o : OnlyR R w w') (hR : R < B) : Buil w' B b acc :=
  h.elim (fun x => .inl (builAt_only x o hR)) (fun x => .inr (builAt_only x o hR))

/-- Where the loop stands: what is read, what is left. -/
def QAt (l0 : List UInt8) (x : Bool) (acc l : List UInt8) (x' : Bool) : Prop :=
  (∀ s r, unq l = some (s, r) → unq l0 = some (acc ++ s, r) ∧ x' = x) ∧ (unq l = none → unq l0 = none)
theorem qAt_end {l0 acc l r : List UInt8} {x0 x' : Bool} {k : Nat} (h : QAt l0 x0 acc l x') (hd : l.drop k = 34 :: r) (hu : unq l = (unq (l.drop k)).map (fun p => (l.take k ++ p.1, p.2))) : unq l0 = some (acc ++ l.take k, r) ∧ x' = x0 := by
  rw [hd, unq_q] at hu
  have := h.1 _ _ hu
  simpa using this
theorem qAt_bad {l0 acc l : List UInt8} {x0 x' : Bool} {k : Nat} (h : QAt l0 x0 acc l x') (hd : unq (l.drop k) = none) (hu : unq l = (unq (l.drop k)).map (fun p => (l.take k ++ p.1, p.2))) (acc2 : List UInt8) : QAt l0 x0 acc2 [] true := by
  rw [hd] at hu
  have h2 := h.2 hu
  exact ⟨fun s r e => absurd e (by simp [unq]), fun _ => h2⟩
theorem qAt_step {l0 acc l r : List UInt8} {x0 x' : Bool} {k : Nat} {d : UInt8} (h : QAt l0 x0 acc l x') (hd : l.drop k = 92 :: d :: r) (hu : unq l = (unq (l.drop k)).map (fun p => (l.take k ++ p.1, p.2))) (hdd : (d == 34 || d == 92) = true) : QAt l0 x0 (acc ++ l.take k ++ [d]) r x' := by
  rw [hd, unq_s, if_pos hdd] at hu
  refine ⟨fun s r' e => ?_, fun e => ?_⟩
  · rw [e] at hu
    have := h.1 _ _ hu
    simpa using this
  · rw [e] at hu
    exact h.2 hu
theorem pre_1 (a : UInt8) (r : List UInt8) : Lib.hasPrefix (a :: r) [34] = (34 == a) := by simp [Lib.hasPrefix, List.isPrefixOf]
theorem pre_2 (b d : UInt8) (r : List UInt8) : Lib.hasPrefix (92 :: d :: r) [92, b] = (b == d) := by simp [Lib.hasPrefix, List.isPrefixOf]
theorem pre_yes {b : UInt8} {r : List UInt8} (h : Lib.hasPrefix (92 :: r) [92, b] = true) : ∃ r', r = b :: r' := by
  cases r with
  | nil => simp [Lib.hasPrefix, List.isPrefixOf] at h
  | cons d r => rw [pre_2] at h; exact ⟨r, by rw [beq_iff_eq.1 h]⟩
theorem pre_none {r : List UInt8} (h1 : Lib.hasPrefix (92 :: r) [92, 34] = false) (h2 : Lib.hasPrefix (92 :: r) [92, 92] = false) : unq (92 :: r) = none := by
  cases r with
  | nil => exact unq_s1
  | cons d r =>
    rw [pre_2] at h1 h2
    rw [unq_s, if_neg]
    simp only [Bool.or_eq_true, beq_iff_eq, not_or]
    exact ⟨fun e => (beq_eq_false_iff_ne.1 h1) e.symm, fun e => (beq_eq_false_iff_ne.1 h2) e.symm⟩
theorem trim_no {l p : List UInt8} (h : Lib.hasPrefix l p = false) : Lib.trimPrefix l p = l := by rw [Lib.trimPrefix, h]; rfl
theorem trim_yes {l p : List UInt8} (h : Lib.hasPrefix l p = true) : Lib.trimPrefix l p = l.drop p.length := by rw [Lib.trimPrefix, h]; rfl
/-- How it ends. -/
def QPost (R : Nat) (w : World) (q : Option (List UInt8 × List UInt8)) (x : Bool) (e : Ending) (w' : World) : Prop :=
  (match q with | some (s, r) => e = .returned (.string ⟨s.toArray⟩) ∧ Rd w' R r x | none => e = .returned (.string ⟨#[]⟩) ∧ Rd w' R [] true) ∧ OnlyR R w w'

theorem wantL_le (p l : List UInt8) : (wantL p l).length ≤ l.length := by
  unfold wantL; split
  · rw [List.length_drop]; omega
  · simp

set_option maxHeartbeats 4000000 in
set_option maxRecDepth 100000 in
theorem rd_quoted (R : Nat) (lq : List UInt8) (x : Bool) (w : World) (h : Rd w R lq x) (hl : lq.length ≤ 10000000) :
    Calls Tryz.prog 76 #[.pointer (some ⟨R, 0, none⟩)] w (QPost R w (qL lq) (x || !Lib.hasPrefix lq [34])) := by
  go_enter Tryz.func76, Tryz.ntmps76
  go_wp2_with fail
  refine (rd_want R lq x ⟨#[34]⟩ w h).mono ?_
  rintro e w1 ⟨rfl, h1, o1⟩
  have hRw := h.lt
  have hl1 : (wantL [34] lq).length ≤ 10000000 := Nat.le_trans (wantL_le _ _) hl
  have HQ : Hid (qL lq = unq (wantL [34] lq)) := Lib.hid rfl
  change Rd w1 R (wantL [34] lq) (x || !Lib.hasPrefix lq [34]) at h1
  generalize wantL [34] lq = l0 at *
  generalize (x || !Lib.hasPrefix lq [34]) = x0 at *
  have hw1 := o1.size
  have H1 := Lib.hid h1
  have O1 := Lib.hid o1
  clear h h1 o1 hl
  have hbn := buil_new w1
  have hbb : Below w1.heap.size w1 (w1.alloc (.cells #[.pointer none, .slice none 0 0] 45)) := (Below.refl _ _).alloc (Nat.le_refl _) _
  have HBN := Lib.hid hbn
  have HBB := Lib.hid hbb
  clear hbn hbb
  go_wp2
  go_loopg [4] l0.length (fun g _ wx => ∃ (acc l : List UInt8) (x' : Bool), l.length ≤ g ∧ acc.length + l.length ≤ 10000000 ∧ Rd wx R l x' ∧ Buil wx w1.heap.size w1.heap.size acc ∧ OnlyR R w wx ∧ w1.heap.size < wx.heap.size ∧ QAt l0 x0 acc l x')
  case atStart =>
    refine ⟨[], l0, x0, Nat.le_refl _, by simp; omega, H1.out.below HBB.out, HBN.out, O1.out.thenBelow HBB.out hw1, by simp, fun s r e => ⟨e, rfl⟩, fun e => e⟩
  case round =>
    obtain ⟨acc, l, x', hg, hal, hr, hb, ho, hz, hq⟩ := hrel
    have c0 := hr.rest
    have HR := Lib.hid hr
    have HB := Lib.hid hb
    have HO := Lib.hid ho
    have HQA := Lib.hid hq
    clear hr hb ho hq
    obtain ⟨S, hS⟩ : ∃ S : ByteArray, S = ⟨l.toArray⟩ := ⟨_, rfl⟩
    have hd : S.data.toList = l := by rw [hS]
    have hsz : S.size = l.length := by rw [Lib.size_eq, hd]
    rw [← hS] at c0
    have HS := Lib.hid hS
    have HD := Lib.hid hd
    have HSZ := Lib.hid hsz
    have hs8 : S.size ≤ 10000000 := by omega
    clear hS hd hsz
    go_wp2_with fail
    refine (indexAny_is S wr (by omega)).mono ?_
    rintro e w2 ⟨rfl, hb2⟩
    have HR2 := Lib.hid (HR.out.below hb2)
    have HO2 := Lib.hid (HO.out.thenBelow (hb2.mono (Nat.le_refl _)) HO.out.size)
    have HB2 := Lib.hid (HB.out.only (OnlyR.of_below R hb2) (Nat.lt_of_lt_of_le hRw hw1))
    have hz2 := hb2.size
    have c2 := HR2.out.rest
    rw [← HS.out] at c2
    have f2 := HR2.out.free 0
    clear hb2
    rcases unq_index l with ⟨e1, e2⟩ | ⟨k, e1, e2, ⟨c, r, e3, e5⟩, e4⟩
    · rw [HD.out, e1]
      go_wp2_with fail
      refine (rd_fail R _ _ w2 HR2.out).mono ?_
      rintro e w3 ⟨rfl, h3, o3⟩
      have H3 := Lib.hid h3
      have O3 := Lib.hid o3
      have HN := Lib.hid (HQ.out.trans (HQA.out.2 e2))
      clear h3 o3 e1 e2
      go_wp2
      go_ret
      refine ⟨?_, HO2.out.trans O3.out⟩
      rw [HN.out]
      exact ⟨rfl, H3.out⟩
    · rw [HD.out, e1]
      have hk : k < S.size := by rw [HSZ.out]; exact e2
      have HE3 := Lib.hid e3
      have HE4 := Lib.hid e4
      have HE5 := Lib.hid e5
      clear e1 e2 e3 e4 e5
      have hRB : R < w1.heap.size := Nat.lt_of_lt_of_le hRw hw1
      have htk : (S.extract 0 k).data.toList = l.take k := by rw [ext_take, HD.out]
      have htz : (S.extract 0 k).size ≤ k := by rw [Lib.size_eq, htk, List.length_take]; omega
      go_wp2_with fail
      refine (write_any w1.heap.size w1.heap.size acc (S.extract 0 k) w2 HB2.out (by omega) (by omega)).mono ?_
      rintro e w3 ⟨rfl, hb3, hB3, _⟩
      rw [htk] at hb3
      have hr3 := HR2.out.under hB3 hRB
      have hz3 := hB3.size
      have c3 := hr3.rest
      rw [← HS.out] at c3
      have f3 := hr3.free 0
      have HO3 := Lib.hid (HO2.out.thenBelow hB3 hw1)
      have h4 := hr3.set0 (l.drop k)
      have hex : S.extract k S.size = ⟨(l.drop k).toArray⟩ := by rw [ext_drop, HD.out]
      have h4z : (w3.setCell ⟨R, 0, none⟩ (.string ⟨(l.drop k).toArray⟩)).heap.size = w3.heap.size := by simp [World.setCell]
      have ho4 := OnlyR.set R 0 w3 (.string ⟨(l.drop k).toArray⟩)
      have HO4 := Lib.hid (HO3.out.trans ho4)
      have HB4 := Lib.hid (hb3.only ho4 hRB)
      rw [HE3.out] at h4 hex h4z HO4 HB4
      have HR4 := Lib.hid h4
      have hlen : r.length + 1 + k = l.length := by have := congrArg List.length HE3.out; rw [List.length_drop, List.length_cons] at this; have := HSZ.out; omega
      have halen : (acc ++ l.take k).length = acc.length + k := by rw [List.length_append, List.length_take]; omega
      clear hr3 hb3 hB3 h4 ho4 htk htz c2 f2 c0
      go_wp2_with fail
      generalize w3.setCell ⟨R, 0, none⟩ (.string ⟨(c :: r).toArray⟩) = w4 at *
      clear c3 f3 hex
      refine (rd_take R (c :: r) x' ⟨#[34]⟩ w4 HR4.out).mono ?_
      rintro e w5 ⟨rfl, h5, o5⟩
      have hz5 := o5.size
      have HB5 := Lib.hid (HB4.out.only o5 hRB)
      have HO5 := Lib.hid (HO4.out.trans o5)
      have HR5 := Lib.hid h5
      clear h5 o5
      rcases HE5.out with rfl | rfl
      · have hp : Lib.hasPrefix (34 :: r) (⟨#[34]⟩ : ByteArray).data.toList = true := pre_1 34 r
        obtain ⟨hu, rfl⟩ := qAt_end HQA.out HE3.out HE4.out
        have HU := Lib.hid (HQ.out.trans hu)
        have hr5 := HR5.out
        rw [trim_yes hp] at hr5
        have HR6 := Lib.hid hr5
        clear hu hr5
        rw [hp]
        go_wp2_with fail
        refine (string_any w1.heap.size w1.heap.size _ w5 HB5.out (by omega)).mono ?_
        rintro e w6 ⟨rfl, _, hB6, _⟩
        have HR7 := Lib.hid (HR6.out.under hB6 hRB)
        have HO7 := Lib.hid (HO5.out.thenBelow hB6 hw1)
        clear hB6
        go_wp2
        go_ret
        refine ⟨?_, HO7.out⟩
        rw [HU.out]
        exact ⟨rfl, HR7.out⟩
      · have hp : Lib.hasPrefix (92 :: r) (⟨#[34]⟩ : ByteArray).data.toList = false := pre_1 92 r
        have hr5 := HR5.out
        rw [trim_no hp] at hr5
        have HR6 := Lib.hid hr5
        clear hr5 HR5
        rw [hp]
        go_wp2_with fail
        refine (rd_take R (92 :: r) x' ⟨#[92, 34]⟩ w5 HR6.out).mono ?_
        rintro e w6 ⟨rfl, h6, o6⟩
        have hz6 := o6.size
        have HB6 := Lib.hid (HB5.out.only o6 hRB)
        have HO6 := Lib.hid (HO5.out.trans o6)
        have HR7 := Lib.hid h6
        clear h6 o6
        by_cases h1 : Lib.hasPrefix (92 :: r) (⟨#[92, 34]⟩ : ByteArray).data.toList = true
        · have hp2 := h1
          obtain ⟨r2, rfl⟩ := pre_yes h1
          have hr7 := HR7.out
          rw [trim_yes hp2] at hr7
          have HR8 := Lib.hid hr7
          have HQ2 := Lib.hid (qAt_step HQA.out HE3.out HE4.out (by decide))
          rw [List.length_cons] at hlen
          clear hr7 HR7
          rw [hp2]
          go_wp2_with fail
          refine (byteN_any w1.heap.size w1.heap.size _ 34 34 w6 (by decide) HB6.out (by omega) (by omega)).mono ?_
          rintro e w7 ⟨rfl, hb7, hB7, _⟩
          have HB7 := Lib.hid hb7
          have HR9 := Lib.hid (HR8.out.under hB7 hRB)
          have HO7 := Lib.hid (HO6.out.thenBelow hB7 hw1)
          have hz7 := hB7.size
          clear hb7 hB7
          go_wp2
          go_roundg r2.length
          case measure => omega
          case rel => exact ⟨_, r2, x', Nat.le_refl _, by rw [List.length_append, halen, List.length_singleton]; omega, HR9.out, HB7.out, HO7.out, by omega, HQ2.out⟩
        · have h1f : Lib.hasPrefix (92 :: r) (⟨#[92, 34]⟩ : ByteArray).data.toList = false := Bool.eq_false_iff.2 h1
          have hr7 := HR7.out
          rw [trim_no h1f] at hr7
          have HR8a := Lib.hid hr7
          clear hr7 HR7 h1
          rw [h1f]
          go_wp2_with fail
          refine (rd_take R (92 :: r) x' ⟨#[92, 92]⟩ w6 HR8a.out).mono ?_
          rintro e w7 ⟨rfl, h7, o7⟩
          have hz7a := o7.size
          have HB7a := Lib.hid (HB6.out.only o7 hRB)
          have HO7a := Lib.hid (HO6.out.trans o7)
          have HR8b := Lib.hid h7
          clear h7 o7 HR8a
          by_cases h2 : Lib.hasPrefix (92 :: r) (⟨#[92, 92]⟩ : ByteArray).data.toList = true
          · have hp2 := h2
            obtain ⟨r2, rfl⟩ := pre_yes h2
            have hr7 := HR8b.out
            rw [trim_yes hp2] at hr7
            have HR8 := Lib.hid hr7
            have HQ2 := Lib.hid (qAt_step HQA.out HE3.out HE4.out (by decide))
            rw [List.length_cons] at hlen
            clear hr7 HR8b
            rw [hp2]
            go_wp2_with fail
            refine (byteN_any w1.heap.size w1.heap.size _ 92 92 w7 (by decide) HB7a.out (by omega) (by omega)).mono ?_
            rintro e w8 ⟨rfl, hb7, hB7, _⟩
            have HB7 := Lib.hid hb7
            have HR9 := Lib.hid (HR8.out.under hB7 hRB)
            have HO7 := Lib.hid (HO7a.out.thenBelow hB7 hw1)
            have hz7 := hB7.size
            clear hb7 hB7
            go_wp2
            go_roundg r2.length
            case measure => omega
            case rel => exact ⟨_, r2, x', Nat.le_refl _, by rw [List.length_append, halen, List.length_singleton]; omega, HR9.out, HB7.out, HO7.out, by omega, HQ2.out⟩
          · have h2f : Lib.hasPrefix (92 :: r) (⟨#[92, 92]⟩ : ByteArray).data.toList = false := Bool.eq_false_iff.2 h2
            have hn : unq (l.drop k) = none := by rw [HE3.out]; exact pre_none h1f h2f
            have HQ2 := Lib.hid (qAt_bad HQA.out hn HE4.out (acc ++ l.take k))
            clear h2 hn
            rw [h2f]
            go_wp2_with fail
            refine (rd_fail R _ _ w7 HR8b.out).mono ?_
            rintro e w8 ⟨rfl, h8, o8⟩
            have HR9 := Lib.hid h8
            have HO8 := Lib.hid (HO7a.out.trans o8)
            have HB8 := Lib.hid (HB7a.out.only o8 hRB)
            have hz8 := o8.size
            clear h8 o8
            go_wp2
            go_roundg 0
            case measure => omega
            case rel => exact ⟨_, [], true, Nat.le_refl _, by rw [halen, List.length_nil]; omega, HR9.out, HB8.out, HO8.out, by omega, HQ2.out⟩
end Go.Proofs.YtggoebbfgkebcaaGreatDoor

namespace Go.Proofs.YtggoebbfgkebcaaGreatDoor
open Go.RowKit Go.Sort Go.Maps

theorem ownsRow_only {w w' : World} {R base : Nat} {e : TypeId} {size : Nat} {v : Value} {n : Nat} {xs : List Value} (h : w.ownsRow base e size v n xs) (o : OnlyR R w w') (hR : R < base) : w'.ownsRow base e size v n xs := by
  refine ⟨h.1, ?_⟩
  rcases h.2 with hn | ⟨g, cap, cur, hv, hb, hg, rest⟩
  · exact .inl hn
  · exact .inr ⟨g, cap, cur, hv, hb, (o.block g (Array.getElem?_eq_some_iff.1 hg).1 (by omega)).trans hg, rest⟩

theorem drops_le (l : List UInt8) : (l.dropWhile small).length ≤ l.length := (List.dropWhile_sublist small).length_le
/-- The names behind the first, each with its comma ahead; and what is left. -/
def restNames (l : List UInt8) : List ByteArray × List UInt8 :=
  match l with
  | [] => ([], [])
  | c :: r => if c == 44 then (⟨(r.takeWhile small).toArray⟩ :: (restNames (r.dropWhile small)).1, (restNames (r.dropWhile small)).2) else ([], c :: r)
termination_by l.length
decreasing_by all_goals (have := drops_le r; simp only [List.length_cons]; omega)

theorem restNames_yes {l : List UInt8} (h : Lib.hasPrefix l [44] = true) : restNames l = (⟨((l.drop 1).takeWhile small).toArray⟩ :: (restNames ((l.drop 1).dropWhile small)).1, (restNames ((l.drop 1).dropWhile small)).2) := by
  cases l with
  | nil => simp [Lib.hasPrefix, List.isPrefixOf] at h
  | cons c r =>
    have hc : (c == 44) = true := by simp [Lib.hasPrefix, List.isPrefixOf] at h; simp [h]
    rw [restNames.eq_def]; simp only [hc, if_true]; rfl
theorem restNames_no {l : List UInt8} (h : Lib.hasPrefix l [44] = false) : restNames l = ([], l) := by
  cases l with
  | nil => rw [restNames.eq_def]
  | cons c r =>
    have hc : (c == 44) = false := by simp [Lib.hasPrefix, List.isPrefixOf] at h; simp; exact fun e => h e.symm
    rw [restNames.eq_def]; simp only [hc]; rfl

/-- Marks: what they are, what is left, whether they stand right. -/
def marksL (l : List UInt8) : List ByteArray × List UInt8 × Bool :=
  if Lib.hasPrefix l [60] then
    (⟨((l.drop 1).takeWhile small).toArray⟩ :: (restNames ((l.drop 1).dropWhile small)).1, wantL [62] (restNames ((l.drop 1).dropWhile small)).2, Lib.hasPrefix (restNames ((l.drop 1).dropWhile small)).2 [62])
  else ([], l, true)

/-- A row of strings of the call's own. -/
def SRow (w : World) (base : Nat) (v : Value) (m : List ByteArray) : Prop := w.ownsRow base 9 1 v m.length (m.map .string)
theorem SRow.strs {w : World} {base : Nat} {v : Value} {m : List ByteArray} (h : SRow w base v m) : Strs w (From base w.heap.size) v m := by
  rcases h.2 with ⟨rfl, hm⟩ | ⟨g, cap, cur, rfl, hb, hg, hnc, hcap, hsz, htk⟩
  · exact ⟨none, 0, by rw [hm], by omega, by unfold maxLen; omega, .inl (List.eq_nil_of_length_eq_zero hm)⟩
  · refine ⟨_, cap, rfl, hnc, hcap, .inr ⟨g, 0, rfl, ⟨hb, (Array.getElem?_eq_some_iff.1 hg).1⟩, fun i s hi => ?_⟩⟩
    have hlt : i < m.length := (List.getElem?_eq_some_iff.1 hi).1
    have e : (m.map Value.string)[i]? = some (.string s) := by rw [List.getElem?_map, hi]; rfl
    rw [← htk, List.getElem?_take, if_pos (by omega)] at e
    rw [Nat.zero_add]
    simpa [World.cell?, hg] using e

set_option maxHeartbeats 4000000 in
set_option maxRecDepth 100000 in
theorem rd_marks (R : Nat) (lq : List UInt8) (x : Bool) (w : World) (h : Rd w R lq x) (hl : lq.length ≤ 10000000) :
    Calls Tryz.prog 77 #[.pointer (some ⟨R, 0, none⟩)] w fun e w' =>
      ∃ v, e = .returned v ∧ SRow w' w.heap.size v (marksL lq).1 ∧ Rd w' R (marksL lq).2.1 (x || !(marksL lq).2.2) ∧ OnlyR R w w' := by
  have hRw := h.lt
  go_enter Tryz.func77, Tryz.ntmps77
  go_wp2_with fail
  refine (rd_take R lq x ⟨#[60]⟩ w h).mono ?_
  rintro e w1 ⟨rfl, h1, o1⟩
  have H1 := Lib.hid h1
  have O1 := Lib.hid o1
  have hw1 := o1.size
  clear h h1 o1
  by_cases hp : Lib.hasPrefix lq (⟨#[60]⟩ : ByteArray).data.toList = true
  · have h1 := H1.out
    rw [trim_yes hp] at h1
    have HM : Hid (marksL lq = (⟨((lq.drop 1).takeWhile small).toArray⟩ :: (restNames ((lq.drop 1).dropWhile small)).1, wantL [62] (restNames ((lq.drop 1).dropWhile small)).2, Lib.hasPrefix (restNames ((lq.drop 1).dropWhile small)).2 [62])) := Lib.hid (by unfold marksL; exact if_pos hp)
    change Rd w1 R (lq.drop 1) x at h1
    have hl1 : (lq.drop 1).length ≤ 10000000 := by rw [List.length_drop]; omega
    rw [hp]
    generalize lq.drop 1 = l1 at *
    have H2 := Lib.hid h1
    clear h1 H1 hp
    go_wp2_with fail
    refine (rd_name R l1 x w1 H2.out (by omega)).mono ?_
    rintro e w2 ⟨rfl, h3, o3⟩
    have hw2 := o3.size
    have O3 := Lib.hid (O1.out.trans o3)
    have H3 := Lib.hid h3
    clear h3 o3
    obtain ⟨n1, hn1⟩ : ∃ n1 : ByteArray, n1 = ⟨(l1.takeWhile small).toArray⟩ := ⟨_, rfl⟩
    have hl2 : (l1.dropWhile small).length ≤ 10000000 := Nat.le_trans (drops_le l1) hl1
    have hm := HM.out
    rw [← hn1] at hm ⊢
    have HM2 := Lib.hid hm
    clear hm HM hn1 hl1
    generalize l1.dropWhile small = l2 at *
    have hon : SRow (w2.alloc (.cells #[.string n1] 9)) w.heap.size (.slice (some ⟨w2.heap.size, 0, none⟩) 1 1) [n1] := World.ownsRow_lit w2 #[.string n1] 1 (by omega) (by unfold maxLen; omega) rfl
    have HON := Lib.hid hon
    have hbl : Below w2.heap.size w2 (w2.alloc (.cells #[.string n1] 9)) := (Below.refl _ _).alloc (Nat.le_refl _) _
    have HBL := Lib.hid hbl
    clear hon hbl
    go_wp2
    go_loopg [3] l2.length (fun g s3 wx => ∃ (m : List ByteArray) (l' : List UInt8), l'.length ≤ g ∧ m.length + l'.length ≤ 10000001 ∧ SRow wx w.heap.size s3 m ∧ Rd wx R l' x ∧ OnlyR R w wx ∧ m ++ (restNames l').1 = n1 :: (restNames l2).1 ∧ (restNames l').2 = (restNames l2).2)
    case atStart =>
      exact ⟨[n1], l2, Nat.le_refl _, by simp; omega, HON.out, H3.out.below HBL.out, O3.out.thenBelow HBL.out (by omega), rfl, rfl⟩
    case round =>
      obtain ⟨m, l', hg, hml, hs, hr, ho, hq1, hq2⟩ := hrel
      have HS := Lib.hid hs
      have HR := Lib.hid hr
      have HO := Lib.hid ho
      have HQ1 := Lib.hid hq1
      have HQ2 := Lib.hid hq2
      have hz := ho.size
      clear hs hr ho hq1 hq2
      go_wp2_with fail
      refine (rd_take R l' x ⟨#[44]⟩ wr HR.out).mono ?_
      rintro e w3 ⟨rfl, h3, o3⟩
      have hz3 := o3.size
      have HO3 := Lib.hid (HO.out.trans o3)
      have HS3 := Lib.hid (ownsRow_only HS.out o3 hRw)
      have HR3 := Lib.hid h3
      clear h3 o3
      by_cases hc : Lib.hasPrefix l' (⟨#[44]⟩ : ByteArray).data.toList = true
      · have h3 := HR3.out
        rw [trim_yes hc] at h3
        change Rd w3 R (l'.drop 1) x at h3
        have HY := Lib.hid (restNames_yes hc)
        have hne : 1 ≤ l'.length := by
          cases l' with
          | nil => simp [Lib.hasPrefix, List.isPrefixOf] at hc
          | cons _ _ => simp
        have hl4 : (l'.drop 1).length + 1 = l'.length := by rw [List.length_drop]; omega
        rw [hc]
        generalize l'.drop 1 = l4 at *
        have HR4 := Lib.hid h3
        clear h3 HR3 hc
        go_wp2_with fail
        refine (rd_name R l4 x w3 HR4.out (by omega)).mono ?_
        rintro e w4 ⟨rfl, h5, o5⟩
        have hz5 := o5.size
        have HO5 := Lib.hid (HO3.out.trans o5)
        have hs5 := ownsRow_only HS3.out o5 hRw
        have hl5 := drops_le l4
        obtain ⟨n5, hn5⟩ : ∃ n5 : ByteArray, n5 = ⟨(l4.takeWhile small).toArray⟩ := ⟨_, rfl⟩
        have hy := HY.out
        rw [← hn5] at hy ⊢
        generalize l4.dropWhile small = l5 at *
        have HY5 := Lib.hid hy
        have HS5 : Hid ((w4.alloc (.cells #[.string n5] 9)).ownsRow w.heap.size 9 1 u3 m.length (m.map .string)) := Lib.hid (World.ownsRow.alloc hs5 _)
        have HB5 : Hid (Below w4.heap.size w4 (w4.alloc (.cells #[.string n5] 9))) := Lib.hid ((Below.refl _ _).alloc (Nat.le_refl _) _)
        have HC5 : Hid (∀ j u, [Value.string n5][j]? = some u → (w4.alloc (.cells #[.string n5] 9)).cell? ⟨w4.heap.size, j, none⟩ = some u) := Lib.hid fun j u hj => fresh_cell w4 #[.string n5] _ j u (by simpa using hj)
        have HR5 := Lib.hid (h5.below HB5.out)
        have hz6 := HB5.out.size
        have HLT := hs5.lt
        have HL5 : Hid (∀ k, Value.ownBlock u3 = some k → w.heap.size ≤ k) := Lib.hid fun k hk => (HLT k hk).1
        clear h5 o5 hs5 hy hn5 HY HLT
        go_wp2_with (at_builtin; refine wpList_append_gen Tryz.underlying38 str_info rfl (by decide) (by decide) rfl (.tmp 12) (.tmp 15) rfl w.heap.size u3 m.length _ w4.heap.size 1 [.string n5] rfl rfl HS5.out rfl HC5.out (by intro u hu; simp only [List.mem_singleton] at hu; subst hu; rfl) (by omega) (by omega) ?_; intro v' w6 hown' hg')
        have hsr : SRow w6 w.heap.size v' (m ++ [n5]) := by unfold SRow; rw [List.length_append, List.map_append]; exact hown'
        have HSR := Lib.hid hsr
        have hbw : Below w.heap.size (w4.alloc (.cells #[.string n5] 9)) w6 := (Below.refl _ _).grown hg' (by omega) HL5.out
        have HR6 := Lib.hid (HR5.out.under hbw hRw)
        have HO6 := Lib.hid ((HO5.out.thenBelow HB5.out (by omega)).thenBelow hbw (Nat.le_refl _))
        clear hsr hown' hg' hbw
        go_wp2
        go_roundg l5.length
        case measure => omega
        case rel =>
          refine ⟨m ++ [n5], l5, Nat.le_refl _, by rw [List.length_append, List.length_singleton]; omega, HSR.out, HR6.out, HO6.out, ?_, ?_⟩
          · rw [← HQ1.out, HY5.out, List.append_assoc]; rfl
          · rw [← HQ2.out, HY5.out]
      · have hcf : Lib.hasPrefix l' (⟨#[44]⟩ : ByteArray).data.toList = false := Bool.eq_false_iff.2 hc
        have h3 := HR3.out
        rw [trim_no hcf] at h3
        have e1 := HQ1.out
        have e2 := HQ2.out
        rw [restNames_no hcf] at e1 e2
        have HE1 := Lib.hid ((List.append_nil m).symm.trans e1)
        have HE2 : Hid (l' = (restNames l2).2) := Lib.hid e2
        have HR4 := Lib.hid h3
        clear h3 HR3 e1 e2 hc
        rw [hcf]
        go_wp2_with fail
        refine (rd_want R l' x ⟨#[62]⟩ w3 HR4.out).mono ?_
        rintro e w4 ⟨rfl, h4, o4⟩
        have HO4 := Lib.hid (HO3.out.trans o4)
        have HS4 := Lib.hid (ownsRow_only HS3.out o4 hRw)
        have HR5 := Lib.hid h4
        clear h4 o4
        go_wp2
        go_ret
        refine ⟨_, rfl, ?_, ?_, HO4.out⟩
        · rw [HM2.out]; show SRow w4 w.heap.size _ (n1 :: _); rw [← HE1.out]; exact HS4.out
        · rw [HM2.out]; show Rd w4 R (wantL [62] (restNames l2).2) (x || !Lib.hasPrefix (restNames l2).2 [62]); rw [← HE2.out]; exact HR5.out
  · have hpf : Lib.hasPrefix lq (⟨#[60]⟩ : ByteArray).data.toList = false := Bool.eq_false_iff.2 hp
    have HM : Hid (marksL lq = ([], lq, true)) := Lib.hid (by unfold marksL; exact if_neg hp)
    have h1 := H1.out
    rw [trim_no hpf] at h1
    have H2 := Lib.hid h1
    clear h1 H1 hp
    rw [hpf]
    go_wp2
    go_ret
    refine ⟨_, rfl, ?_, ?_, O1.out⟩
    · rw [HM.out]; exact World.ownsRow_nil _ _ _ _
    · rw [HM.out]; simpa using H2.out
end Go.Proofs.YtggoebbfgkebcaaGreatDoor

namespace Go.Proofs.YtggoebbfgkebcaaGreatDoor
open Go.RowKit Go.Sort Go.Maps

theorem qL_pre {l : List UInt8} {p : List UInt8 × List UInt8} (h : qL l = some p) : Lib.hasPrefix l [34] = true := by
  cases hp : Lib.hasPrefix l [34] with
  | true => rfl
  | false => unfold qL wantL at h; rw [hp] at h; simp [unq] at h
theorem qL_want {l q : List UInt8} {p : List UInt8 × List UInt8} (h : qL (wantL q l) = some p) : Lib.hasPrefix l q = true := by
  cases hp : Lib.hasPrefix l q with
  | true => rfl
  | false =>
    have e : wantL q l = [] := by unfold wantL; rw [hp]; rfl
    rw [e] at h
    have := qL_pre h
    simp [Lib.hasPrefix, List.isPrefixOf] at this

/-- What is quoted, and what is left (none: it stands wrong). -/
def quoL (l : List UInt8) : ByteArray × Option (List UInt8) := match qL l with | some (s, r) => (⟨s.toArray⟩, some r) | none => (⟨#[]⟩, none)
theorem rd_quoted2 (R : Nat) (l : List UInt8) (x : Bool) (w : World) (h : Rd w R l x) (hl : l.length ≤ 10000000) :
    Calls Tryz.prog 76 #[.pointer (some ⟨R, 0, none⟩)] w fun e w' => e = .returned (.string (quoL l).1) ∧ Rd w' R ((quoL l).2.getD []) (x || (quoL l).2.isNone) ∧ OnlyR R w w' := by
  refine (rd_quoted R l x w h hl).mono ?_
  rintro e w' ⟨h1, h2⟩
  cases hq : qL l with
  | none =>
    rw [hq] at h1
    have : quoL l = (⟨#[]⟩, none) := by unfold quoL; rw [hq]
    rw [this]
    exact ⟨h1.1, by simpa using h1.2, h2⟩
  | some p =>
    obtain ⟨s, r⟩ := p
    have hp := qL_pre hq
    rw [hq, hp] at h1
    have : quoL l = (⟨s.toArray⟩, some r) := by unfold quoL; rw [hq]
    rw [this]
    exact ⟨h1.1, by simpa using h1.2, h2⟩

/-- An attribute, and what is left (none: it stands wrong). -/
def attrL (l : List UInt8) : (ByteArray × ByteArray) × Option (List UInt8) :=
  ((⟨(l.takeWhile small).toArray⟩, (quoL (wantL [61] (l.dropWhile small))).1), (quoL (wantL [61] (l.dropWhile small))).2)
theorem quo_wrong (l q : List UInt8) (x : Bool) : ((x || !Lib.hasPrefix l q) || (quoL (wantL q l)).2.isNone) = (x || (quoL (wantL q l)).2.isNone) := by
  cases hp : Lib.hasPrefix l q with
  | true => simp
  | false =>
    have : (quoL (wantL q l)).2.isNone = true := by
      cases hq : qL (wantL q l) with
      | none => unfold quoL; rw [hq]; rfl
      | some p => rw [qL_want hq] at hp; cases hp
    rw [this]; simp

set_option maxHeartbeats 2000000 in
theorem rd_attr (R : Nat) (l : List UInt8) (x : Bool) (w : World) (h : Rd w R l x) (hl : l.length ≤ 10000000) :
    Calls Tryz.prog 89 #[.pointer (some ⟨R, 0, none⟩)] w fun e w' =>
      e = .returned (.agg #[.string (attrL l).1.1, .string (attrL l).1.2]) ∧ Rd w' R ((attrL l).2.getD []) (x || (attrL l).2.isNone) ∧ OnlyR R w w' := by
  have hRw := h.lt
  have hb1 : Below w.heap.size w (w.alloc (.cells #[.string ⟨#[]⟩, .string ⟨#[]⟩] 80)) := (Below.refl _ _).alloc (Nat.le_refl _) _
  have H1 := Lib.hid (h.below hb1)
  have O1 := Lib.hid (OnlyR.of_below R hb1)
  have hz1 : w.heap.size < (w.alloc (.cells #[.string ⟨#[]⟩, .string ⟨#[]⟩] 80)).heap.size := by simp
  have HC : Hid ((w.alloc (.cells #[.string ⟨#[]⟩, .string ⟨#[]⟩] 80)).heap[w.heap.size]? = some (.cells #[.string ⟨#[]⟩, .string ⟨#[]⟩] 80)) := Lib.hid (heap_alloc_new w _)
  clear h hb1
  go_enter Tryz.func89, Tryz.ntmps89
  go_wp2_with fail
  generalize w.alloc (.cells #[.string ⟨#[]⟩, .string ⟨#[]⟩] 80) = w1 at *
  refine (rd_name R l x w1 H1.out (by omega)).mono ?_
  rintro e w2 ⟨rfl, h2, o2⟩
  have hl2 := drops_le l
  have H2 := Lib.hid h2
  have O2 := Lib.hid (O1.out.trans o2)
  have HC2 := Lib.hid ((o2.block _ hz1 (by omega)).trans HC.out)
  have hz2 := o2.size
  clear h2 o2
  go_wp2_with fail
  refine (rd_want R _ x ⟨#[61]⟩ w2 H2.out).mono ?_
  rintro e w3 ⟨rfl, h3, o3⟩
  change Rd w3 R (wantL [61] (l.dropWhile small)) (x || !Lib.hasPrefix (l.dropWhile small) [61]) at h3
  have hl3 := wantL_le [61] (l.dropWhile small)
  have H3 := Lib.hid h3
  have O3 := Lib.hid (O2.out.trans o3)
  have HC3 := Lib.hid ((o3.block _ (by omega) (by omega)).trans HC2.out)
  have hz3 := o3.size
  clear h3 o3
  go_wp2_with fail
  refine (rd_quoted2 R _ _ w3 H3.out (by omega)).mono ?_
  rintro e w4 ⟨rfl, h4, o4⟩
  rw [quo_wrong] at h4
  have H4 := Lib.hid h4
  have O4 := Lib.hid (O3.out.trans o4)
  have hc4 := (o4.block _ (by omega) (by omega)).trans HC3.out
  have hz4 := o4.size
  have c0 : w4.cell? ⟨w.heap.size, 0, none⟩ = some (.string ⟨#[]⟩) := by simp [World.cell?, hc4]
  have c1 : w4.cell? ⟨w.heap.size, 1, none⟩ = some (.string ⟨#[]⟩) := by simp [World.cell?, hc4]
  have f0 : w4.frozen? ⟨w.heap.size, 0, none⟩ = false := frozen_of_row w4 _ 0 _ _ hc4
  have f1 : w4.frozen? ⟨w.heap.size, 1, none⟩ = false := frozen_of_row w4 _ 1 _ _ hc4
  have HC4 := Lib.hid hc4
  clear h4 o4 hc4
  go_wp2
  have q := heap_setCell_same _ _ 1 _ _ (.string (quoL (wantL [61] (l.dropWhile small))).1) (heap_setCell_same w4 _ 0 _ _ (.string ⟨(l.takeWhile small).toArray⟩) HC4.out)
  have hb : Below w.heap.size w4 ((w4.setCell ⟨w.heap.size, 0, none⟩ (.string ⟨(l.takeWhile small).toArray⟩)).setCell ⟨w.heap.size, 1, none⟩ (.string (quoL (wantL [61] (l.dropWhile small))).1)) := ((Below.refl _ _).setCell (p := ⟨w.heap.size, 0, none⟩) (Nat.le_refl _) _).setCell (p := ⟨w.heap.size, 1, none⟩) (Nat.le_refl _) _
  generalize (w4.setCell ⟨w.heap.size, 0, none⟩ (.string ⟨(l.takeWhile small).toArray⟩)).setCell ⟨w.heap.size, 1, none⟩ (.string (quoL (wantL [61] (l.dropWhile small))).1) = W at *
  have q0 : W.cell? ⟨w.heap.size, 0, none⟩ = some (.string ⟨(l.takeWhile small).toArray⟩) := by simp [World.cell?, q]
  have q1 : W.cell? ⟨w.heap.size, 1, none⟩ = some (.string (quoL (wantL [61] (l.dropWhile small))).1) := by simp [World.cell?, q]
  refine bodyPost_ret (v := .agg #[.string (attrL l).1.1, .string (attrL l).1.2]) (by simp [results, Tryz.results89, go_sem, q0, q1, attrL]) rfl ⟨rfl, H4.out.under hb hRw, O4.out.thenBelow hb (Nat.le_refl _)⟩

theorem unq_len : ∀ (n : Nat) (l s r : List UInt8), l.length ≤ n → unq l = some (s, r) → s.length + r.length < l.length
  | n, [], s, r, _, h => by simp [unq] at h
  | 0, _ :: _, _, _, hn, _ => by simp at hn
  | n + 1, c :: l, s, r, hn, h => by
    have hn' : l.length ≤ n := by simpa using hn
    rw [unq.eq_def] at h
    simp only at h
    split at h
    · injection h with h; injection h with h1 h2; subst h1; subst h2; simp
    · split at h
      · cases l with
        | nil => simp at h
        | cons d l' =>
          simp only at h
          split at h
          · cases hu : unq l' with
            | none => rw [hu] at h; simp at h
            | some p =>
              obtain ⟨s', r'⟩ := p
              rw [hu] at h
              simp at h
              have := unq_len n l' s' r' (by simp at hn'; omega) hu
              obtain ⟨h1, h2⟩ := h
              subst h1; subst h2
              simp; omega
          · simp at h
      · cases hu : unq l with
        | none => rw [hu] at h; simp at h
        | some p =>
          obtain ⟨s', r'⟩ := p
          rw [hu] at h
          simp at h
          have := unq_len n l s' r' hn' hu
          obtain ⟨h1, h2⟩ := h
          subst h1; subst h2
          simp; omega
theorem quo_le (l : List UInt8) : ((quoL l).2.getD []).length ≤ l.length := by
  cases hq : qL l with
  | none => unfold quoL; rw [hq]; simp
  | some p =>
    obtain ⟨s, r⟩ := p
    have h1 := unq_len _ _ s r (Nat.le_refl _) hq
    have h2 := wantL_le [34] l
    unfold quoL; rw [hq]
    show r.length ≤ _
    omega
theorem attr_le (l : List UInt8) : ((attrL l).2.getD []).length ≤ l.length :=
  Nat.le_trans (quo_le _) (Nat.le_trans (wantL_le _ _) (drops_le l))

/-- The attributes behind the first, each with its blank ahead; what is left; whether one stands wrong. -/
def restAttrs (l : List UInt8) : List (ByteArray × ByteArray) × List UInt8 × Bool :=
  if _h : Lib.hasPrefix l [32] = true then
    ((attrL (l.drop 1)).1 :: (restAttrs ((attrL (l.drop 1)).2.getD [])).1, (restAttrs ((attrL (l.drop 1)).2.getD [])).2.1, (attrL (l.drop 1)).2.isNone || (restAttrs ((attrL (l.drop 1)).2.getD [])).2.2)
  else ([], l, false)
termination_by l.length
decreasing_by
  all_goals
    have h1 := attr_le (l.drop 1)
    have h2 : 1 ≤ l.length := by
      cases l with
      | nil => simp [Lib.hasPrefix, List.isPrefixOf] at _h
      | cons _ _ => simp
    rw [List.length_drop] at h1
    omega
theorem restAttrs_yes {l : List UInt8} (h : Lib.hasPrefix l [32] = true) : restAttrs l = ((attrL (l.drop 1)).1 :: (restAttrs ((attrL (l.drop 1)).2.getD [])).1, (restAttrs ((attrL (l.drop 1)).2.getD [])).2.1, (attrL (l.drop 1)).2.isNone || (restAttrs ((attrL (l.drop 1)).2.getD [])).2.2) := by
  rw [restAttrs.eq_def]; exact dif_pos h
theorem restAttrs_no {l : List UInt8} (h : Lib.hasPrefix l [32] = false) : restAttrs l = ([], l, false) := by
  rw [restAttrs.eq_def]; exact dif_neg (by rw [h]; decide)
/-- Attributes: what they are, what is left, whether something stands wrong. -/
def attrsL (l : List UInt8) : List (ByteArray × ByteArray) × List UInt8 × Bool :=
  if Lib.hasPrefix l [40] then
    ((attrL (l.drop 1)).1 :: (restAttrs ((attrL (l.drop 1)).2.getD [])).1, wantL [41] (restAttrs ((attrL (l.drop 1)).2.getD [])).2.1,
      ((attrL (l.drop 1)).2.isNone || (restAttrs ((attrL (l.drop 1)).2.getD [])).2.2) || !Lib.hasPrefix (restAttrs ((attrL (l.drop 1)).2.getD [])).2.1 [41])
  else ([], l, false)

/-- A row of attributes of the call's own. -/
def flatA (m : List (ByteArray × ByteArray)) : List Value := m.flatMap fun p => [.string p.1, .string p.2]
theorem flatA_append (a b : List (ByteArray × ByteArray)) : flatA (a ++ b) = flatA a ++ flatA b := List.flatMap_append
theorem flatA_get : ∀ (m : List (ByteArray × ByteArray)) (i : Nat) (p : ByteArray × ByteArray), m[i]? = some p → (flatA m)[i * 2]? = some (.string p.1) ∧ (flatA m)[i * 2 + 1]? = some (.string p.2)
  | [], i, p, h => by simp at h
  | q :: m, 0, p, h => by simp at h; subst h; exact ⟨rfl, rfl⟩
  | q :: m, i + 1, p, h => by
    have := flatA_get m i p (by simpa using h)
    rw [show (i + 1) * 2 = i * 2 + 2 by omega]
    exact this
def PRow (w : World) (base : Nat) (v : Value) (m : List (ByteArray × ByteArray)) : Prop := w.ownsRow base 80 2 v m.length (flatA m)
theorem PRow.pairs {w : World} {base : Nat} {v : Value} {m : List (ByteArray × ByteArray)} (h : PRow w base v m) : Pairs w (From base w.heap.size) v m := by
  rcases h.2 with ⟨rfl, hm⟩ | ⟨g, cap, cur, rfl, hb, hg, hnc, hcap, hsz, htk⟩
  · exact ⟨none, 0, by rw [hm], by omega, by unfold maxLen; omega, .inl (List.eq_nil_of_length_eq_zero hm)⟩
  · refine ⟨_, cap, rfl, hnc, hcap, .inr ⟨g, 0, rfl, ⟨hb, (Array.getElem?_eq_some_iff.1 hg).1⟩, fun i p hi => ?_⟩⟩
    have hlt : i < m.length := (List.getElem?_eq_some_iff.1 hi).1
    obtain ⟨e1, e2⟩ := flatA_get m i p hi
    rw [← htk, List.getElem?_take, if_pos (by omega)] at e1 e2
    rw [Nat.zero_add]
    exact ⟨by simpa [World.cell?, hg] using e1, by simpa [World.cell?, hg] using e2⟩
end Go.Proofs.YtggoebbfgkebcaaGreatDoor

namespace Go.Proofs.YtggoebbfgkebcaaGreatDoor
open Go.RowKit Go.Sort Go.Maps

set_option maxHeartbeats 4000000 in
set_option maxRecDepth 100000 in
theorem rd_attrs (R : Nat) (lq : List UInt8) (x : Bool) (w : World) (h : Rd w R lq x) (hl : lq.length ≤ 10000000) :
    Calls Tryz.prog 80 #[.pointer (some ⟨R, 0, none⟩)] w fun e w' =>
      ∃ v, e = .returned v ∧ PRow w' w.heap.size v (attrsL lq).1 ∧ Rd w' R (attrsL lq).2.1 (x || (attrsL lq).2.2) ∧ OnlyR R w w' := by
  have hRw := h.lt
  go_enter Tryz.func80, Tryz.ntmps80
  go_wp2_with fail
  refine (rd_take R lq x ⟨#[40]⟩ w h).mono ?_
  rintro e w1 ⟨rfl, h1, o1⟩
  have H1 := Lib.hid h1
  have O1 := Lib.hid o1
  have hw1 := o1.size
  clear h h1 o1
  by_cases hp : Lib.hasPrefix lq (⟨#[40]⟩ : ByteArray).data.toList = true
  · have h1 := H1.out
    rw [trim_yes hp] at h1
    have HM : Hid (attrsL lq = ((attrL (lq.drop 1)).1 :: (restAttrs ((attrL (lq.drop 1)).2.getD [])).1, wantL [41] (restAttrs ((attrL (lq.drop 1)).2.getD [])).2.1,
      ((attrL (lq.drop 1)).2.isNone || (restAttrs ((attrL (lq.drop 1)).2.getD [])).2.2) || !Lib.hasPrefix (restAttrs ((attrL (lq.drop 1)).2.getD [])).2.1 [41])) := Lib.hid (by unfold attrsL; exact if_pos hp)
    change Rd w1 R (lq.drop 1) x at h1
    have hl1 : (lq.drop 1).length ≤ 10000000 := by rw [List.length_drop]; omega
    rw [hp]
    generalize lq.drop 1 = l1 at *
    have H2 := Lib.hid h1
    clear h1 H1 hp
    go_wp2_with fail
    refine (rd_attr R l1 x w1 H2.out (by omega)).mono ?_
    rintro e w2 ⟨rfl, h3, o3⟩
    have hw2 := o3.size
    have O3 := Lib.hid (O1.out.trans o3)
    have H3 := Lib.hid h3
    clear h3 o3
    have hl2 : ((attrL l1).2.getD []).length ≤ 10000000 := Nat.le_trans (attr_le l1) hl1
    have HM2 := Lib.hid HM.out
    clear HM hl1
    generalize (attrL l1).1 = n1 at *
    generalize (attrL l1).2.getD [] = l2 at *
    generalize (attrL l1).2.isNone = x1 at *
    have hon : PRow (w2.alloc (.cells #[.string n1.1, .string n1.2] 80)) w.heap.size (.slice (some ⟨w2.heap.size, 0, none⟩) 1 1) [n1] := World.ownsRow_lit w2 #[.string n1.1, .string n1.2] 1 (by omega) (by unfold maxLen; omega) rfl
    have HON := Lib.hid hon
    have hbl : Below w2.heap.size w2 (w2.alloc (.cells #[.string n1.1, .string n1.2] 80)) := (Below.refl _ _).alloc (Nat.le_refl _) _
    have HBL := Lib.hid hbl
    clear hon hbl
    go_wp2
    go_loopg [3] l2.length (fun g s3 wx => ∃ (m : List (ByteArray × ByteArray)) (l' : List UInt8) (x' : Bool), l'.length ≤ g ∧ m.length + l'.length ≤ 10000001 ∧ PRow wx w.heap.size s3 m ∧ Rd wx R l' x' ∧ OnlyR R w wx ∧ m ++ (restAttrs l').1 = n1 :: (restAttrs l2).1 ∧ (restAttrs l').2.1 = (restAttrs l2).2.1 ∧ (x' || (restAttrs l').2.2) = ((x || x1) || (restAttrs l2).2.2))
    case atStart =>
      exact ⟨[n1], l2, x || x1, Nat.le_refl _, by simp; omega, HON.out, H3.out.below HBL.out, O3.out.thenBelow HBL.out (by omega), rfl, rfl, rfl⟩
    case round =>
      obtain ⟨m, l', x', hg, hml, hs, hr, ho, hq1, hq2, hq3⟩ := hrel
      have HS := Lib.hid hs
      have HR := Lib.hid hr
      have HO := Lib.hid ho
      have HQ1 := Lib.hid hq1
      have HQ2 := Lib.hid hq2
      have HQ3 := Lib.hid hq3
      have hz := ho.size
      clear hs hr ho hq1 hq2 hq3
      go_wp2_with fail
      refine (rd_take R l' x' ⟨#[32]⟩ wr HR.out).mono ?_
      rintro e w3 ⟨rfl, h3, o3⟩
      have hz3 := o3.size
      have HO3 := Lib.hid (HO.out.trans o3)
      have HS3 := Lib.hid (ownsRow_only HS.out o3 hRw)
      have HR3 := Lib.hid h3
      clear h3 o3
      by_cases hc : Lib.hasPrefix l' (⟨#[32]⟩ : ByteArray).data.toList = true
      · have h3 := HR3.out
        rw [trim_yes hc] at h3
        change Rd w3 R (l'.drop 1) x' at h3
        have HY := Lib.hid (restAttrs_yes hc)
        have hne : 1 ≤ l'.length := by
          cases l' with
          | nil => simp [Lib.hasPrefix, List.isPrefixOf] at hc
          | cons _ _ => simp
        have hl4 : (l'.drop 1).length + 1 = l'.length := by rw [List.length_drop]; omega
        rw [hc]
        generalize l'.drop 1 = l4 at *
        have HR4 := Lib.hid h3
        clear h3 HR3 hc
        go_wp2_with fail
        refine (rd_attr R l4 x' w3 HR4.out (by omega)).mono ?_
        rintro e w4 ⟨rfl, h5, o5⟩
        have hz5 := o5.size
        have HO5 := Lib.hid (HO3.out.trans o5)
        have hs5 := ownsRow_only HS3.out o5 hRw
        have hl5 := attr_le l4
        have hy := HY.out
        generalize (attrL l4).1 = n5 at *
        generalize (attrL l4).2.getD [] = l5 at *
        generalize (attrL l4).2.isNone = x5 at *
        have HY5 := Lib.hid hy
        have HS5 : Hid ((w4.alloc (.cells #[.string n5.1, .string n5.2] 80)).ownsRow w.heap.size 80 2 u3 m.length (flatA m)) := Lib.hid (World.ownsRow.alloc hs5 _)
        have HB5 : Hid (Below w4.heap.size w4 (w4.alloc (.cells #[.string n5.1, .string n5.2] 80))) := Lib.hid ((Below.refl _ _).alloc (Nat.le_refl _) _)
        have HC5 : Hid (∀ j u, [Value.string n5.1, Value.string n5.2][j]? = some u → (w4.alloc (.cells #[.string n5.1, .string n5.2] 80)).cell? ⟨w4.heap.size, j, none⟩ = some u) := Lib.hid fun j u hj => fresh_cell w4 #[.string n5.1, .string n5.2] _ j u (by simpa using hj)
        have HR5 := Lib.hid (h5.below HB5.out)
        have hz6 := HB5.out.size
        have HLT := hs5.lt
        have HL5 : Hid (∀ k, Value.ownBlock u3 = some k → w.heap.size ≤ k) := Lib.hid fun k hk => (HLT k hk).1
        clear h5 o5 hs5 hy HY HLT
        go_wp2_with (at_builtin; refine wpList_append_gen Tryz.underlying39 pair_info rfl (by decide) (by decide) rfl (.tmp 12) (.tmp 15) rfl w.heap.size u3 m.length _ w4.heap.size 1 [.string n5.1, .string n5.2] rfl rfl HS5.out rfl HC5.out (by intro u hu; simp only [List.mem_cons, List.not_mem_nil, or_false] at hu; rcases hu with rfl | rfl <;> rfl) (by omega) (by omega) ?_; intro v' w6 hown' hg')
        have hsr : PRow w6 w.heap.size v' (m ++ [n5]) := by unfold PRow; rw [List.length_append, flatA_append]; exact hown'
        have HSR := Lib.hid hsr
        have hbw : Below w.heap.size (w4.alloc (.cells #[.string n5.1, .string n5.2] 80)) w6 := (Below.refl _ _).grown hg' (by omega) HL5.out
        have HR6 := Lib.hid (HR5.out.under hbw hRw)
        have HO6 := Lib.hid ((HO5.out.thenBelow HB5.out (by omega)).thenBelow hbw (Nat.le_refl _))
        clear hsr hown' hg' hbw
        go_wp2
        go_roundg l5.length
        case measure => omega
        case rel =>
          refine ⟨m ++ [n5], l5, x' || x5, Nat.le_refl _, by rw [List.length_append, List.length_singleton]; omega, HSR.out, HR6.out, HO6.out, ?_, ?_, ?_⟩
          · rw [← HQ1.out, HY5.out, List.append_assoc]; rfl
          · rw [← HQ2.out, HY5.out]
          · rw [← HQ3.out, HY5.out, Bool.or_assoc]
      · have hcf : Lib.hasPrefix l' (⟨#[32]⟩ : ByteArray).data.toList = false := Bool.eq_false_iff.2 hc
        have h3 := HR3.out
        rw [trim_no hcf] at h3
        have e1 := HQ1.out
        have e2 := HQ2.out
        have e3 := HQ3.out
        rw [restAttrs_no hcf] at e1 e2 e3
        have HE1 := Lib.hid ((List.append_nil m).symm.trans e1)
        have HE2 : Hid (l' = (restAttrs l2).2.1) := Lib.hid e2
        have HE3 : Hid (x' = ((x || x1) || (restAttrs l2).2.2)) := Lib.hid ((Bool.or_false x').symm.trans e3)
        have HR4 := Lib.hid h3
        clear h3 HR3 e1 e2 e3 hc
        rw [hcf]
        go_wp2_with fail
        refine (rd_want R l' x' ⟨#[41]⟩ w3 HR4.out).mono ?_
        rintro e w4 ⟨rfl, h4, o4⟩
        have HO4 := Lib.hid (HO3.out.trans o4)
        have HS4 := Lib.hid (ownsRow_only HS3.out o4 hRw)
        have HR5 := Lib.hid h4
        clear h4 o4
        go_wp2
        go_ret
        refine ⟨_, rfl, ?_, ?_, HO4.out⟩
        · rw [HM2.out]; show PRow w4 w.heap.size _ (n1 :: _); rw [← HE1.out]; exact HS4.out
        · rw [HM2.out]
          show Rd w4 R (wantL [41] (restAttrs l2).2.1) (x || ((x1 || (restAttrs l2).2.2) || !Lib.hasPrefix (restAttrs l2).2.1 [41]))
          have := HR5.out
          rw [HE3.out, HE2.out] at this
          rw [← Bool.or_assoc, ← Bool.or_assoc]
          exact this
  · have hpf : Lib.hasPrefix lq (⟨#[40]⟩ : ByteArray).data.toList = false := Bool.eq_false_iff.2 hp
    have HM : Hid (attrsL lq = ([], lq, false)) := Lib.hid (by unfold attrsL; exact if_neg hp)
    have h1 := H1.out
    rw [trim_no hpf] at h1
    have H2 := Lib.hid h1
    clear h1 H1 hp
    rw [hpf]
    go_wp2
    go_ret
    refine ⟨_, rfl, ?_, ?_, O1.out⟩
    · rw [HM.out]; exact World.ownsRow_nil _ _ _ _
    · rw [HM.out]; simpa using H2.out
end Go.Proofs.YtggoebbfgkebcaaGreatDoor
