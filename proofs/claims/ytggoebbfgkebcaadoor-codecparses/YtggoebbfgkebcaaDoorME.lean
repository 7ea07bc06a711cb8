/-
  strings.IndexAny at the quote and the backslash, whatever the text: what it answers.
  strings.IndexAny at the quote and the backslash, whatever the text: what it answers.
  The reader's small steps: take, fail, want, name.
  The document's reader: is, eat, letters.
  The document's reader: letters, quoted.
-/
import Derived.Test.YtggoebbfgkebcaaDoorMB
import Derived.Test.YtggoebbfgkebcaaDoorShelfP
import Derived.Laws.RangeAny
import Derived.Laws.Runes
import Derived.WalkMore
import Derived.Lib.OthersKept
import Derived.Test.YtggoebbfgkebcaaDoorMD
import Derived.BigQuiet
namespace Go.Proofs.YtggoebbfgkebcaaDoor
open Go.RowKit Go.Sort

/-- The two signs. -/
def QS : ByteArray := ⟨#[34, 92]⟩

set_option maxHeartbeats 400000 in
theorem validRune_any (r : Int) (w : World) (h0 : 0 ≤ r) (h : r < 55296 ∨ (57344 ≤ r ∧ r ≤ 1114111)) : Calls Tryd.prog 87 #[.int .i32 r] w fun e w' => e = .returned (.bool true) ∧ w = w' := by
  rcases h with h | ⟨h, h2⟩
  · go_enter Tryd.func87, Tryd.ntmps87
    go_wp2
    go_ret
    exact ⟨rfl, rfl⟩
  · have h3 : ¬ r < 55296 := by omega
    have h4 : (57343 : Int) < r := by omega
    go_enter Tryd.func87, Tryd.ntmps87
    go_wp2
    go_ret
    exact ⟨rfl, rfl⟩

theorem qs_small (i : Nat) (h : i < QS.size) : (QS[i]'h).toNat < 128 := by
  rcases (show i = 0 ∨ i = 1 by have h' : i < 2 := h; omega) with rfl | rfl
  · show (34 : UInt8).toNat < 128; decide
  · show (92 : UInt8).toNat < 128; decide
theorem drew_below (w : World) (n : Nat) : Below w.heap.size w (w.drewN n) := ⟨rfl, rfl, rfl, Nat.le_refl _, fun _ _ => rfl⟩
set_option maxHeartbeats 2000000 in
set_option maxRecDepth 100000 in
theorem indexRune_hi (r : Int) (w : World) (h0 : 128 ≤ r) (h : r < 55296 ∨ (57344 ≤ r ∧ r ≤ 1114111)) :
    Calls Tryd.prog 78 #[.string QS, .int .i32 r] w fun e w' => e = .returned (.int .i64 (-1)) ∧ Below w.heap.size w w' := by
  by_cases he : r = 65533
  · subst he
    go_enter Tryd.func78, Tryd.ntmps78
    go_wp2
    go_loopg [5, 6] 2 (fun g _ _ wx => ∃ i : Nat, i + g = 2 ∧ wx = w.iter QS i)
    case atStart => exact ⟨0, by omega, rfl⟩
    case round =>
      obtain ⟨i, hig, rfl⟩ := hrel
      cases gk with
      | zero =>
        obtain rfl : i = 2 := by omega
        have hnx := run_next_end (P := Tryd.prog) w QS 2
        have hq : ¬ 2 < QS.size := by decide
        go_wp2
        go_ret
        exact ⟨rfl, iter_below w QS 2⟩
      | succ g =>
        have hi : i < QS.size := by show i < 2; omega
        have hx : (QS[i]'hi).toNat < 128 := qs_small i hi
        have hnx := fun ty => run_next_ascii (P := Tryd.prog) w QS i ty hi hx
        generalize (QS[i]'hi).toNat = x at *
        have hx2 : ((x : Int) == 65533) = false := beq_eq_false_iff_ne.2 (by omega)
        go_wp2
        go_roundg g
        case measure => omega
        case rel => exact ⟨i + 1, by omega, rfl⟩
  · have he' : (r == 65533) = false := beq_eq_false_iff_ne.2 he
    have h128 : ¬ r < 128 := by omega
    have hv : Utf8.valid r = true := by simp only [Utf8.valid, Bool.or_eq_true, Bool.and_eq_true, decide_eq_true_eq]; omega
    obtain ⟨e1, e2, e3⟩ := encode_facts r hv h0
    generalize hrs : Utf8.encode r = rs at *
    clear he hv
    have hl : rs.size - 1 < rs.size := by omega
    have hlast := e3 hl
    generalize hc : rs[rs.size - 1]'hl = c at *
    have hcl := UInt8.toNat_lt c
    have g1 : ((rs.size : Int) - 1).toNat = rs.size - 1 := by omega
    clear e3
    go_enter Tryd.func78, Tryd.ntmps78
    go_wp2_with fail
    refine (validRune_any r w (by omega) h).mono ?_
    rintro e w' ⟨rfl, rfl⟩
    go_wp2
    go_step3
    go_wp2
    rcases Nat.lt_or_ge rs.size 3 with h3 | h3
    · have hs2 : rs.size = 2 := by omega
      have HS2 := Lib.hid hs2
      clear hs2
      go_loopw [9, 10, 11, 12] (fun i _ _ _ wx => i = .int .i64 ((rs.size : Int) - 1) ∧ ∃ n, wx = w.drewN n) (fun _ _ _ _ _ => 0)
      case atStart => exact ⟨rfl, 0, rfl⟩
      case round =>
        obtain ⟨rfl, n, rfl⟩ := hrel
        have hs2 := HS2.out
        have h1 : 1 < rs.size := by omega
        have hc1 : rs[1]'h1 = c := by rw [← hc]; congr 1; omega
        have q1 : 1 < QS.size := by decide
        have hq1 : QS[1]'q1 = 92 := rfl
        have hqz : QS.size = 2 := rfl
        have hne : ((92 : Int) != (c.toNat : Int)) = true := by rw [bne_iff_ne]; omega
        clear hc g1 hlast h3 e1 e2 hl
        go_wp2
        go_step3
        go_wp2
        go_quiet (fail)
        go_wp2
        have HX : ∀ (n : Nat) (w : World), Calls Tryd.prog 86 #[.string ByteArray.empty, .int .u8 (c.toNat : Int)] (w.drewN n) fun e w' => e = .returned (.int .i64 (-1)) ∧ w' = w.drewN n := fun n w => Any.strings_IndexByte Tryd.laysIxB _ _ _
        have HI := Lib.hid HX
        clear HX
        have hsl : QS.extract 2 2 = ByteArray.empty := rfl
        have hw2 : IntKind.i64.wrap 2 = 2 := rfl
        generalize hW1 : (w.drewN n).drewN nq = W1 at *
        go_quiet (first | (go_at_call 86; exact Calls.quiet_of_same (HI.out _ _)) | exact Calls.quiet_of_same (HI.out _ _) | (rw [if_pos (by rw [hw2]; decide), hw2]; exact ⟨rfl, hsl ▸ rfl⟩) | trace_state)
        go_wp2
        show bodyPost Tryd.prog Tryd.f78 (fun e w' => e = .returned (.int .i64 (-1)) ∧ Below w.heap.size w w') Exit.ret _ _
        go_ret
        subst hW1
        rw [World.drewN_drewN, World.drewN_drewN]
        exact ⟨rfl, drew_below w _⟩
    · go_loopw [9, 10, 11, 12] (fun i _ _ _ wx => i = .int .i64 ((rs.size : Int) - 1) ∧ ∃ n, wx = w.drewN n) (fun _ _ _ _ _ => 0)
      case atStart => exact ⟨rfl, 0, rfl⟩
      case round =>
        obtain ⟨rfl, n, rfl⟩ := hrel
        have hqz : QS.size = 2 := rfl
        have hnl : ¬ (rs.size : Int) - 1 < 2 := by omega
        go_wp2
        go_ret
        exact ⟨rfl, drew_below w n⟩
end Go.Proofs.YtggoebbfgkebcaaDoor

namespace Go.Proofs.YtggoebbfgkebcaaDoor
open Go.RowKit Go.Sort

theorem decode_wide (s : ByteArray) (pos : Nat) (h : pos < s.size) (ha : 128 ≤ (s[pos]'h).toNat) :
    128 ≤ (Utf8.decode s pos).1 ∧ ((Utf8.decode s pos).1 < 55296 ∨ (57344 ≤ (Utf8.decode s pos).1 ∧ (Utf8.decode s pos).1 ≤ 1114111)) ∧ 1 ≤ (Utf8.decode s pos).2 ∧ pos + (Utf8.decode s pos).2 ≤ s.size ∧
      ∀ j, pos ≤ j → j < pos + (Utf8.decode s pos).2 → 128 ≤ (s.get! j).toNat := by
  have hn : ¬ (s[pos]'h).toNat < 128 := by omega
  have hl := (s[pos]'h).toNat_lt
  have h0 : 128 ≤ (s.get! pos).toNat := by have := get_at s pos h; rw [Nat.add_zero] at this; rw [this]; exact ha
  have h1 := (s.get! (pos + 1)).toNat_lt; have h2 := (s.get! (pos + 2)).toNat_lt; have h3 := (s.get! (pos + 3)).toNat_lt
  have jj : ∀ (d : Nat), (∀ k, k < d → 128 ≤ (s.get! (pos + k)).toNat) → ∀ j, pos ≤ j → j < pos + d → 128 ≤ (s.get! j).toNat := fun d hd j a b => by
    have := hd (j - pos) (by omega)
    rwa [show pos + (j - pos) = j by omega] at this
  have j1 : ∀ k, k < 1 → 128 ≤ (s.get! (pos + k)).toNat := fun k hk => by
    obtain rfl : k = 0 := Nat.lt_one_iff.1 hk
    exact h0
  simp only [Utf8.decode, get_at s pos h, hn, if_false, Utf8.runeError]
  split
  · rename_i hc
    simp only [Bool.and_eq_true, beq_iff_eq, decide_eq_true_eq] at hc
    split
    · refine ⟨by omega, by omega, by omega, by show pos + 2 ≤ _; omega, jj 2 fun k hk => ?_⟩
      rcases (show k = 0 ∨ k = 1 by omega) with rfl | rfl
      · exact h0
      · omega
    · exact ⟨by decide, by decide, by decide, by show pos + 1 ≤ _; omega, jj 1 j1⟩
  · split
    · rename_i hc
      simp only [Bool.and_eq_true, beq_iff_eq, decide_eq_true_eq] at hc
      split
      · rename_i hv
        simp only [Utf8.valid, Bool.or_eq_true, Bool.and_eq_true, decide_eq_true_eq] at hv
        refine ⟨by omega, by omega, by omega, by show pos + 3 ≤ _; omega, jj 3 fun k hk => ?_⟩
        rcases (show k = 0 ∨ k = 1 ∨ k = 2 by omega) with rfl | rfl | rfl
        · exact h0
        · omega
        · omega
      · exact ⟨by decide, by decide, by decide, by show pos + 1 ≤ _; omega, jj 1 j1⟩
    · split
      · rename_i hc
        simp only [Bool.and_eq_true, beq_iff_eq, decide_eq_true_eq] at hc
        split
        · rename_i hv
          simp only [Utf8.valid, Bool.or_eq_true, Bool.and_eq_true, decide_eq_true_eq] at hv
          refine ⟨by omega, by omega, by omega, by show pos + 4 ≤ _; omega, jj 4 fun k hk => ?_⟩
          rcases (show k = 0 ∨ k = 1 ∨ k = 2 ∨ k = 3 by omega) with rfl | rfl | rfl | rfl
          · exact h0
          · omega
          · omega
          · omega
        · exact ⟨by decide, by decide, by decide, by show pos + 1 ≤ _; omega, jj 1 j1⟩
      · exact ⟨by decide, by decide, by decide, by show pos + 1 ≤ _; omega, jj 1 j1⟩

theorem qs_high (b : UInt8) (h : 128 ≤ b.toNat) : QS.data.toList.contains b = false := by
  cases hc : QS.data.toList.contains b with
  | false => rfl
  | true =>
    exfalso
    rw [List.contains_iff_mem] at hc
    have hm : b ∈ [(34 : UInt8), 92] := hc
    simp only [List.mem_cons, List.not_mem_nil, or_false] at hm
    rcases hm with rfl | rfl
    · exact absurd h (by decide)
    · exact absurd h (by decide)

/-- Bytes of 128 and over are none of the two. -/
theorem noAny_high {s : ByteArray} {i d : Nat} (h : Lib.NoAny s.data.toList QS.data.toList i) (hd : ∀ j, i ≤ j → j < i + d → 128 ≤ (s.get! j).toNat) : Lib.NoAny s.data.toList QS.data.toList (i + d) := by
  intro j b hj hb
  rcases Nat.lt_or_ge j i with h1 | h1
  · exact h j b h1 hb
  · refine qs_high b ?_
    have := hd j h1 hj
    have hlt : j < s.size := by have := (List.getElem?_eq_some_iff.1 hb).1; rwa [← Lib.size_eq] at this
    rw [Lib.data_getElem? s j hlt] at hb
    have e := get_at s j hlt
    rw [Nat.add_zero] at e
    rw [e, Option.some.inj hb] at this
    exact this

theorem should_is (s : ByteArray) (w : World) (h8 : s.size ≤ 8) : Calls Tryd.prog 79 #[.int .i64 (s.size : Int)] w fun e w' => e = .returned (.bool false) ∧ w = w' := by
  refine (Any.strings_shouldUseASCIISet { Tryd.laysAny with } _ _).mono ?_
  rintro e w' ⟨rfl, hw⟩
  rw [show decide ((8 : Int) < (s.size : Int)) = false from decide_eq_false (by omega)]
  exact ⟨rfl, hw.symm⟩
theorem indexRune_lo (x : UInt8) (w : World) (h : x.toNat < 128) : Calls Tryd.prog 78 #[.string QS, .int .i32 (x.toNat : Int)] w fun e w' => e = .returned (.int .i64 (Lib.indexByte QS.data.toList x)) ∧ w = w' := by
  refine (Any.strings_IndexRune_ascii Tryd.laysRune QS (x.toNat : Int) w (by omega) (by omega)).mono ?_
  rintro e w' ⟨rfl, hw⟩
  exact ⟨by rw [show ((x.toNat : Int)).toNat.toUInt8 = x by simp], hw.symm⟩

set_option maxHeartbeats 4000000 in
set_option maxRecDepth 100000 in
theorem indexAny_short (s : ByteArray) (w : World) (h8 : s.size ≤ 8) :
    Calls Tryd.prog 64 #[.string s, .string QS] w fun e w' => e = .returned (.int .i64 (Lib.indexAny s.data.toList QS.data.toList)) ∧ Below w.heap.size w w' := by
  have hemp : QS.toList.isEmpty = false := by rw [Lib.toList_data]; rfl
  have hqz : QS.size = 2 := rfl
  have hn1 : ((QS.size : Int) == 1) = false := rfl
  have h8z : decide ((8 : Int) < (s.size : Int)) = false := decide_eq_false (by omega)
  go_enter Tryd.func64, Tryd.ntmps64
  go_wp2_with fail
  refine (should_is s w h8).mono ?_
  rintro e w' ⟨rfl, rfl⟩
  go_wp2
  go_loopg [9, 10] s.size (fun g _ _ wx => ∃ i : Nat, i + g = s.size ∧ wx.heap[w.heap.size]? = some (.stringIter s i) ∧ Below w.heap.size w wx ∧ Lib.NoAny s.data.toList QS.data.toList i)
  case atStart => exact ⟨0, by omega, World.iter_heap w s 0, iter_below w s 0, Lib.NoAny.zero _ _⟩
  case round =>
    obtain ⟨i, hig, hk, hbw, hno⟩ := hrel
    have HN := Lib.hid hno
    have HB := Lib.hid hbw
    have HK := Lib.hid hk
    clear hno hbw hk
    cases gk with
    | zero =>
      obtain rfl : i = s.size := by omega
      have hnx := fun ty => Lib.run_next_end_at (P := Tryd.prog) wr w.heap.size s s.size ty HK.out (Nat.lt_irrefl _)
      go_wp2
      go_ret
      exact ⟨by rw [Lib.indexAny_none (by rw [← Lib.size_eq]; exact HN.out)]; rfl, HB.out⟩
    | succ g =>
      have hi : i < s.size := by omega
      obtain ⟨x, hx⟩ : ∃ x : UInt8, s[i]'hi = x := ⟨_, rfl⟩
      have hxl : s.data.toList[i]? = some x := by rw [← hx]; exact Lib.data_getElem? s i hi
      have HX := Lib.hid hxl
      clear hxl
      rcases Nat.lt_or_ge x.toNat 128 with hx1 | hx1
      · have hnx := fun ty => Lib.run_next_ascii_at (P := Tryd.prog) wr w.heap.size s i ty HK.out hi (by rw [hx]; exact hx1)
        rw [hx] at hnx
        clear hx
        have hk2 := Lib.iterAt_heap wr w.heap.size s i (i + 1) HK.out
        have hb2 := Lib.below_iterAt HB.out (Nat.le_refl w.heap.size) s (i + 1)
        have HB2 := Lib.hid hb2
        have HK2 := Lib.hid hk2
        clear hk2 hb2
        have hcon := Lib.contains_iff_indexByte QS.data.toList x
        go_wp2_with fail
        refine (indexRune_lo x _ hx1).mono ?_
        rintro e w' ⟨rfl, rfl⟩
        cases hin : QS.data.toList.contains x
        · rw [hin] at hcon
          have hlt : ¬ ((0 : Int) ≤ Lib.indexByte QS.data.toList x) := of_decide_eq_false hcon.symm
          clear hcon
          go_wp2
          go_roundg g
          case measure => omega
          case rel => exact ⟨i + 1, by omega, HK2.out, HB2.out, HN.out.succ HX.out hin⟩
        · rw [hin] at hcon
          have hge : (0 : Int) ≤ Lib.indexByte QS.data.toList x := of_decide_eq_true hcon.symm
          clear hcon
          go_wp2
          go_ret
          exact ⟨by rw [Lib.indexAny_hit HN.out HX.out hin]; rfl, HB2.out⟩
      · have hnx := fun ty => Lib.run_next_any_at (P := Tryd.prog) wr w.heap.size s i ty HK.out hi
        obtain ⟨d1, d2, d3, d4, d5⟩ := decode_wide s i hi (by rw [hx]; exact hx1)
        clear hx
        generalize (Utf8.decode s i).1 = r at *
        generalize (Utf8.decode s i).2 = d at *
        have hk2 := Lib.iterAt_heap wr w.heap.size s i (i + d) HK.out
        have hb2 := Lib.below_iterAt HB.out (Nat.le_refl w.heap.size) s (i + d)
        have HB2 := Lib.hid hb2
        have HK2 := Lib.hid hk2
        have HN2 := Lib.hid (noAny_high HN.out d5)
        clear hk2 hb2 d5
        go_wp2_with fail
        refine (indexRune_hi (r : Int) _ (by omega) (by omega)).mono ?_
        rintro e w' ⟨rfl, hb3⟩
        have hz : w.heap.size < (wr.iterAt w.heap.size s (i + d)).heap.size := (Array.getElem?_eq_some_iff.1 HK2.out).1
        have HK3 := Lib.hid ((hb3.block _ hz).trans HK2.out)
        have HB3 := Lib.hid (HB2.out.trans (hb3.mono (Nat.le_of_lt hz)))
        clear hb3 hz
        go_wp2
        go_roundg (s.size - (i + d))
        case measure => omega
        case rel => exact ⟨i + d, by omega, HK3.out, HB3.out, HN2.out⟩

/-- Whatever the text. -/
theorem indexAny_is (s : ByteArray) (w : World) (hs : s.size < 4294967281) :
    Calls Tryd.prog 64 #[.string s, .string QS] w fun e w' => e = .returned (.int .i64 (Lib.indexAny s.data.toList QS.data.toList)) ∧ Below w.heap.size w w' := by
  rcases Nat.lt_or_ge 8 s.size with h | h
  · refine (Any.strings_IndexAny_long Tryd.laysAny (fun w => by kernel_rfl) (by kernel_rfl) s QS w (by decide) h hs (by decide) ?_).mono ?_
    · intro j b hb
      have hlt : j < QS.size := by have := (List.getElem?_eq_some_iff.1 hb).1; rwa [← Lib.size_eq] at this
      rw [Lib.data_getElem? QS j hlt] at hb
      rw [← Option.some.inj hb]
      exact qs_small j hlt
    · rintro e w' ⟨rfl, rfl⟩
      exact ⟨rfl, ((Below.refl _ _).alloc (Nat.le_refl _) _).alloc (by simp) _⟩
  · exact indexAny_short s w h
end Go.Proofs.YtggoebbfgkebcaaDoor

namespace Go.Proofs.YtggoebbfgkebcaaDoor
open Go.RowKit Go.Sort

/-- The reader in block R: what is to be read, and whether something was wrong. -/
def Rd (w : World) (R : Nat) (l : List UInt8) (x : Bool) : Prop := w.heap[R]? = some (.cells #[.string ⟨l.toArray⟩, .bool x] 53)

/-- Of the old blocks, only R may have turned. -/
structure OnlyR (R : Nat) (w w' : World) : Prop where
  os : w'.os = w.os
  tape : w'.tape = w.tape
  output : w'.output = w.output
  size : w.heap.size ≤ w'.heap.size
  block : ∀ k, k < w.heap.size → k ≠ R → w'.heap[k]? = w.heap[k]?
theorem OnlyR.refl (R : Nat) (w : World) : OnlyR R w w := ⟨rfl, rfl, rfl, Nat.le_refl _, fun _ _ _ => rfl⟩
theorem OnlyR.trans {R : Nat} {a b c : World} (h : OnlyR R a b) (k : OnlyR R b c) : OnlyR R a c :=
  ⟨k.os.trans h.os, k.tape.trans h.tape, k.output.trans h.output, Nat.le_trans h.size k.size, fun i hi hn => (k.block i (Nat.lt_of_lt_of_le hi h.size) hn).trans (h.block i hi hn)⟩
theorem OnlyR.set (R i : Nat) (w : World) (v : Value) : OnlyR R w (w.setCell ⟨R, i, none⟩ v) := ⟨rfl, rfl, rfl, by simp [World.setCell], fun k _ hn => Below.heap_setCell _ _ _ _ hn⟩
theorem OnlyR.of_below (R : Nat) {w w' : World} (h : Below w.heap.size w w') : OnlyR R w w' := ⟨h.os, h.tape, h.output, h.size, fun k hk _ => h.block k hk⟩
theorem OnlyR.below {R B : Nat} {w w' : World} (h : OnlyR R w w') (hB : B ≤ R) (hw : B ≤ w.heap.size) : Below B w w' := ⟨h.os, h.tape, h.output, h.size, fun k hk => h.block k (by omega) (by omega)⟩
theorem Rd.lt {w : World} {R : Nat} {l : List UInt8} {x : Bool} (h : Rd w R l x) : R < w.heap.size := (Array.getElem?_eq_some_iff.1 h).1
theorem Rd.below {w w' : World} {R : Nat} {l : List UInt8} {x : Bool} (h : Rd w R l x) (hb : Below w.heap.size w w') : Rd w' R l x := (hb.block R h.lt).trans h
theorem Rd.rest {w : World} {R : Nat} {l : List UInt8} {x : Bool} (h : Rd w R l x) : w.cell? ⟨R, 0, none⟩ = some (.string ⟨l.toArray⟩) := by simp [World.cell?, show w.heap[R]? = _ from h]
theorem Rd.wrong {w : World} {R : Nat} {l : List UInt8} {x : Bool} (h : Rd w R l x) : w.cell? ⟨R, 1, none⟩ = some (.bool x) := by simp [World.cell?, show w.heap[R]? = _ from h]
theorem Rd.free {w : World} {R : Nat} {l : List UInt8} {x : Bool} (h : Rd w R l x) (i : Nat) : w.frozen? ⟨R, i, none⟩ = false := frozen_of_row w R i _ _ h
theorem Rd.set0 {w : World} {R : Nat} {l : List UInt8} {x : Bool} (h : Rd w R l x) (l' : List UInt8) : Rd (w.setCell ⟨R, 0, none⟩ (.string ⟨l'.toArray⟩)) R l' x := heap_setCell_same w R 0 _ _ _ h
theorem Rd.set1 {w : World} {R : Nat} {l : List UInt8} {x : Bool} (h : Rd w R l x) (y : Bool) : Rd (w.setCell ⟨R, 1, none⟩ (.bool y)) R l y := heap_setCell_same w R 1 _ _ _ h

theorem cutPrefix_is (l : List UInt8) (p : ByteArray) (w : World) :
    Calls Tryd.prog 43 #[.string ⟨l.toArray⟩, .string p] w fun e w' => e = .returned (.tuple #[.string ⟨(Lib.trimPrefix l p.data.toList).toArray⟩, .bool (Lib.hasPrefix l p.data.toList)]) ∧ w = w' := by
  refine (Any.strings_CutPrefix Tryd.laysCut ⟨l.toArray⟩ p w).mono ?_
  rintro e w' ⟨rfl, rfl⟩
  exact ⟨rfl, rfl⟩

set_option maxHeartbeats 1000000 in
theorem rd_take (R : Nat) (l : List UInt8) (x : Bool) (p : ByteArray) (w : World) (h : Rd w R l x) :
    Calls Tryd.prog 22 #[.pointer (some ⟨R, 0, none⟩), .string p] w fun e w' =>
      e = .returned (.bool (Lib.hasPrefix l p.data.toList)) ∧ Rd w' R (Lib.trimPrefix l p.data.toList) x ∧ OnlyR R w w' := by
  have c0 := h.rest
  have f0 := h.free 0
  have HR := Lib.hid h
  clear h
  go_enter Tryd.func22, Tryd.ntmps22
  go_wp2_with fail
  refine (cutPrefix_is l p w).mono ?_
  rintro e w' ⟨rfl, rfl⟩
  go_wp2
  go_ret
  exact ⟨rfl, HR.out.set0 _, OnlyR.set R 0 w _⟩

set_option maxHeartbeats 1000000 in
theorem rd_fail (R : Nat) (l : List UInt8) (x : Bool) (w : World) (h : Rd w R l x) :
    Calls Tryd.prog 24 #[.pointer (some ⟨R, 0, none⟩)] w fun e w' => e = .returned (.tuple #[]) ∧ Rd w' R [] true ∧ OnlyR R w w' := by
  have c0 := h.rest
  have f0 := h.free 0
  have h2 := h.set0 []
  have HR := Lib.hid h2
  have c1 := h2.wrong
  have f1 := h2.free 1
  clear h h2
  go_enter Tryd.func24, Tryd.ntmps24
  go_wp2
  go_end0
  exact ⟨rfl, HR.out.set1 true, (OnlyR.set R 0 w _).trans (OnlyR.set R 1 _ _)⟩

/-- Wanted: there it is, or nothing is left. -/
def wantL (p l : List UInt8) : List UInt8 := if Lib.hasPrefix l p then l.drop p.length else []
set_option maxHeartbeats 1000000 in
theorem rd_want (R : Nat) (l : List UInt8) (x : Bool) (p : ByteArray) (w : World) (h : Rd w R l x) :
    Calls Tryd.prog 46 #[.pointer (some ⟨R, 0, none⟩), .string p] w fun e w' =>
      e = .returned (.tuple #[]) ∧ Rd w' R (wantL p.data.toList l) (x || !Lib.hasPrefix l p.data.toList) ∧ OnlyR R w w' := by
  go_enter Tryd.func46, Tryd.ntmps46
  go_wp2_with fail
  refine (rd_take R l x p w h).mono ?_
  rintro e w1 ⟨rfl, h1, o1⟩
  have H1 := Lib.hid h1
  have O1 := Lib.hid o1
  clear h1 o1
  cases hp : Lib.hasPrefix l p.data.toList with
  | true =>
    go_wp2
    go_end0
    have h1 := H1.out
    rw [Lib.trimPrefix, if_pos hp] at h1
    refine ⟨rfl, ?_, O1.out⟩
    rw [wantL, if_pos hp, hp, Bool.not_true, Bool.or_false]
    exact h1
  | false =>
    go_wp2_with fail
    refine (rd_fail R _ x w1 H1.out).mono ?_
    rintro e w2 ⟨rfl, h2, o2⟩
    have H2 := Lib.hid h2
    have O2 := Lib.hid o2
    clear h2 o2
    go_wp2
    go_end0
    refine ⟨rfl, ?_, O1.out.trans O2.out⟩
    rw [wantL, if_neg (by rw [hp]; decide), hp, Bool.not_false, Bool.or_true]
    exact H2.out

theorem rd_ret {s t : ByteArray} (h : s = t) : Ending.returned (.string s) = .returned (.string t) := by rw [h]
theorem ext_take (S : ByteArray) (i : Nat) : S.extract 0 i = ⟨(S.data.toList.take i).toArray⟩ := by
  apply bytes_of
  rw [ByteArray.data_extract, Array.toList_extract]
  simp [List.extract]
theorem ext_drop (S : ByteArray) (i : Nat) : S.extract i S.size = ⟨(S.data.toList.drop i).toArray⟩ := by
  apply bytes_of
  rw [ByteArray.data_extract, Array.toList_extract]
  simp only [List.extract]
  rw [List.take_of_length_le]
  rw [List.length_drop, ← Lib.size_eq]
  exact Nat.le_refl _
theorem drop_at (S : ByteArray) (i : Nat) (h : i < S.size) : S.data.toList.drop i = S[i] :: S.data.toList.drop (i + 1) := by
  have hl : i < S.data.toList.length := by rw [← Lib.size_eq]; exact h
  rw [List.drop_eq_getElem_cons hl]
  rfl
set_option maxHeartbeats 2000000 in
theorem rd_name (R : Nat) (l : List UInt8) (x : Bool) (w : World) (h : Rd w R l x) (hl : l.length ≤ 50000000) :
    Calls Tryd.prog 44 #[.pointer (some ⟨R, 0, none⟩)] w fun e w' =>
      e = .returned (.string ⟨(l.takeWhile small).toArray⟩) ∧ Rd w' R (l.dropWhile small) x ∧ OnlyR R w w' := by
  have c0 := h.rest
  have f0 := h.free 0
  have HR := Lib.hid h
  clear h
  obtain ⟨S, hS⟩ : ∃ S : ByteArray, S = ⟨l.toArray⟩ := ⟨_, rfl⟩
  have hd : S.data.toList = l := by rw [hS]
  have hz : S.size = l.length := by rw [Lib.size_eq, hd]
  rw [← hS] at c0
  have hs8 : S.size ≤ 50000000 := by omega
  have HS := Lib.hid hS
  have HD := Lib.hid hd
  have HZ := Lib.hid hz
  clear hS hd hz hl
  go_enter Tryd.func44, Tryd.ntmps44
  go_wp2
  go_loopg [3] S.size (fun g s3 wx => ∃ i : Nat, s3 = .int .i64 (i : Int) ∧ i + g = S.size ∧ wx = w ∧ l.takeWhile small = l.take i ++ (l.drop i).takeWhile small ∧ l.dropWhile small = (l.drop i).dropWhile small)
  case atStart => exact ⟨0, rfl, by omega, rfl, rfl, rfl⟩
  case round =>
    obtain ⟨i, rfl, hig, rfl, ht, hdr⟩ := hrel
    have HT := Lib.hid ht
    have HDR := Lib.hid hdr
    clear ht hdr
    cases gk with
    | zero =>
      obtain rfl : i = S.size := by omega
      have hD := HD.out
      have e1 : l.drop S.size = [] := List.drop_eq_nil_of_le (by rw [HZ.out]; exact Nat.le_refl _)
      have ht := HT.out
      have hdr := HDR.out
      rw [e1] at ht hdr
      have HE1 := Lib.hid (ht.trans (List.append_nil _))
      have HE2 := Lib.hid hdr
      clear ht hdr e1 hD
      go_wp2
      go_ret
      refine ⟨?_, ?_, OnlyR.set R 0 wr _⟩
      · exact rd_ret (by rw [HE1.out, HZ.out, List.take_length]; exact HS.out)
      · rw [HE2.out]; exact HR.out.set0 []
    | succ g =>
      have hi : i < S.size := by omega
      obtain ⟨c, hc⟩ : ∃ c : UInt8, S[i] = c := ⟨_, rfl⟩
      have hat := drop_at S i hi
      rw [HD.out, hc] at hat
      have HAT := Lib.hid hat
      clear hat
      by_cases hsm : small c = true
      · have h1 : 97 ≤ c.toNat := by simp only [small, Bool.and_eq_true, decide_eq_true_eq] at hsm; exact hsm.1
        have h2 : c.toNat ≤ 122 := by simp only [small, Bool.and_eq_true, decide_eq_true_eq] at hsm; exact hsm.2
        have HSM := Lib.hid hsm
        clear hsm
        go_wp2
        go_roundg g
        case measure => omega
        case rel =>
          refine ⟨i + 1, rfl, by omega, rfl, ?_, ?_⟩
          · rw [HT.out, HAT.out, List.takeWhile_cons_of_pos HSM.out, List.take_add_one, ← List.head?_drop, HAT.out]; simp
          · rw [HDR.out, HAT.out, List.dropWhile_cons_of_pos HSM.out]
      · have HE1 : Hid (l.takeWhile small = l.take i) := Lib.hid (by rw [HT.out, HAT.out, List.takeWhile_cons_of_neg hsm, List.append_nil])
        have HE2 : Hid (l.dropWhile small = l.drop i) := Lib.hid (by rw [HDR.out, HAT.out, List.dropWhile_cons_of_neg hsm])
        by_cases h1 : 97 ≤ c.toNat
        · have h2 : ¬ c.toNat ≤ 122 := fun h2 => hsm (by simp [small, h1, h2])
          clear hsm
          go_wp2
          go_ret
          refine ⟨?_, ?_, OnlyR.set R 0 wr _⟩
          · exact rd_ret (by rw [HE1.out, ext_take, HD.out])
          · rw [HE2.out, ext_drop, HD.out]; exact HR.out.set0 _
        · clear hsm
          go_wp2
          go_ret
          refine ⟨?_, ?_, OnlyR.set R 0 wr _⟩
          · exact rd_ret (by rw [HE1.out, ext_take, HD.out])
          · rw [HE2.out, ext_drop, HD.out]; exact HR.out.set0 _
end Go.Proofs.YtggoebbfgkebcaaDoor

namespace Go.Proofs.YtggoebbfgkebcaaDoor
open Go.RowKit Go.Sort Go.Maps

/-- The document's reader in block R: its text, where it is read, was it wrong. -/
def RR (w : World) (R : Nat) (S : ByteArray) (k : Nat) (x : Bool) : Prop := w.heap[R]? = some (.cells #[.string S, .int .i64 (k : Int), .bool x] 45)
/-- What is left of a text. -/
def left (S : ByteArray) (k : Nat) : List UInt8 := S.data.toList.drop k
def isC (S : ByteArray) (k : Nat) (c : UInt8) : Bool := (left S k).head? == some c
theorem RR.lt {w : World} {R : Nat} {S : ByteArray} {k : Nat} {x : Bool} (h : RR w R S k x) : R < w.heap.size := (Array.getElem?_eq_some_iff.1 h).1
theorem RR.below {w w' : World} {R B : Nat} {S : ByteArray} {k : Nat} {x : Bool} (h : RR w R S k x) (hb : Below B w w') (hR : R < B) : RR w' R S k x := (hb.block R hR).trans h
theorem RR.three {w : World} {R : Nat} {S : ByteArray} {k : Nat} {x : Bool} (h : RR w R S k x) : w.cell? ⟨R, 0, none⟩ = some (.string S) ∧ w.cell? ⟨R, 1, none⟩ = some (.int .i64 (k : Int)) ∧ w.cell? ⟨R, 2, none⟩ = some (.bool x) := by
  unfold RR at h
  simp [World.cell?, h]
theorem RR.free {w : World} {R : Nat} {S : ByteArray} {k : Nat} {x : Bool} (h : RR w R S k x) (i : Nat) : w.frozen? ⟨R, i, none⟩ = false := frozen_of_row w R i _ _ h
theorem RR.set1 {w : World} {R : Nat} {S : ByteArray} {k : Nat} {x : Bool} (h : RR w R S k x) (j : Nat) : RR (w.setCell ⟨R, 1, none⟩ (.int .i64 (j : Int))) R S j x := heap_setCell_same w R 1 _ _ _ h
theorem RR.set2 {w : World} {R : Nat} {S : ByteArray} {k : Nat} {x : Bool} (h : RR w R S k x) (y : Bool) : RR (w.setCell ⟨R, 2, none⟩ (.bool y)) R S k y := heap_setCell_same w R 2 _ _ _ h
theorem left_at {S : ByteArray} {k : Nat} (h : k < S.size) : left S k = S[k] :: left S (k + 1) := drop_at S k h
theorem left_nil {S : ByteArray} {k : Nat} (h : S.size ≤ k) : left S k = [] := List.drop_eq_nil_of_le (by rw [← Lib.size_eq]; exact h)
theorem left_len {S : ByteArray} {k : Nat} : (left S k).length = S.size - k := by unfold left; rw [List.length_drop, Lib.size_eq]
theorem left_cons {S : ByteArray} {k : Nat} {c : UInt8} {l : List UInt8} (h : left S k = c :: l) : k < S.size ∧ left S (k + 1) = l ∧ isC S k c = true := by
  have hk : k < S.size := by
    have := congrArg List.length h
    rw [left_len, List.length_cons] at this; omega
  refine ⟨hk, ?_, ?_⟩
  · rw [left_at hk] at h; exact (List.cons.inj h).2
  · unfold isC; rw [h]; simp
theorem left_no {S : ByteArray} {k : Nat} {c d : UInt8} {l : List UInt8} (h : left S k = c :: l) (hc : c ≠ d) : isC S k d = false := by
  unfold isC; rw [h]; simp [hc]
theorem isC_lt {S : ByteArray} {k : Nat} {c : UInt8} (h : isC S k c = true) : k < S.size := by
  apply Nat.lt_of_not_le
  intro hk
  unfold isC at h; rw [left_nil hk] at h; simp at h
theorem isC_at {S : ByteArray} {k : Nat} {c : UInt8} (h : k < S.size) : isC S k c = (S[k] == c) := by
  unfold isC; rw [left_at h]; simp
theorem isC_out {S : ByteArray} {k : Nat} {c : UInt8} (h : S.size ≤ k) : isC S k c = false := by
  unfold isC; rw [left_nil h]; simp

set_option maxHeartbeats 2000000 in
theorem rr_isN (R : Nat) (S : ByteArray) (k : Nat) (x : Bool) (c : UInt8) (w : World) (h : RR w R S k x) (hk : k ≤ S.size) :
    Calls Tryd.prog 54 #[.pointer (some ⟨R, 0, none⟩), .int .u8 (c.toNat : Int)] w fun e w' => e = .returned (.bool (isC S k c)) ∧ ∃ n, w' = w.drewN n := by
  obtain ⟨c0, c1, c2⟩ := h.three
  clear h
  go_enter Tryd.func54, Tryd.ntmps54
  by_cases hlt : k < S.size
  · have HC := Lib.hid (isC_at (c := c) hlt)
    have i1 : (k : Int) < (S.size : Int) := by omega
    obtain ⟨d, hd⟩ : ∃ d : UInt8, S[k] = d := ⟨_, rfl⟩
    rw [hd] at HC
    have HE : Hid (((d.toNat : Int) == (c.toNat : Int)) = isC S k c) := Lib.hid (by
      rw [HC.out, Bool.eq_iff_iff, beq_iff_eq, beq_iff_eq, ← UInt8.toNat_inj]; omega)
    go_upto_region 1 with fail
    go_quiet (fail)
    go_wp2
    go_ret
    exact ⟨ret_bool HE.out, _, rfl⟩
  · have HE := Lib.hid (isC_out (c := c) (Nat.le_of_not_lt hlt))
    have i1 : ¬ (k : Int) < (S.size : Int) := by omega
    have i2 : decide ((k : Int) < (S.size : Int)) = false := decide_eq_false i1
    go_upto_region 1 with fail
    go_quiet (fail)
    go_wp2
    go_ret
    exact ⟨ret_bool HE.out.symm, _, rfl⟩

theorem rr_is (R : Nat) (S : ByteArray) (k : Nat) (x : Bool) (c : UInt8) (w : World) (h : RR w R S k x) (hk : k ≤ S.size) :
    Calls Tryd.prog 54 #[.pointer (some ⟨R, 0, none⟩), .int .u8 (c.toNat : Int)] w fun e w' => e = .returned (.bool (isC S k c)) ∧ Below w.heap.size w w' :=
  (rr_isN R S k x c w h hk).mono fun e w' h => by
    obtain ⟨rfl, n, rfl⟩ := h
    exact ⟨rfl, ⟨rfl, rfl, rfl, Nat.le_refl _, fun _ _ => rfl⟩⟩
/-- Where one stands behind a sign that must be there, and whether it was. -/
def eatK (S : ByteArray) (k : Nat) (c : UInt8) : Nat := if isC S k c then k + 1 else k
theorem eatK_le {S : ByteArray} {k : Nat} {c : UInt8} (h : k ≤ S.size) : k ≤ eatK S k c ∧ eatK S k c ≤ S.size := by
  unfold eatK
  split
  · rename_i hc; have := isC_lt hc; omega
  · omega
set_option maxHeartbeats 2000000 in
theorem rr_eat (R : Nat) (S : ByteArray) (k : Nat) (x : Bool) (c : UInt8) (w : World) (h : RR w R S k x) (hs : S.size ≤ 10000000) (hk : k ≤ S.size) :
    Calls Tryd.prog 56 #[.pointer (some ⟨R, 0, none⟩), .int .u8 (c.toNat : Int)] w fun e w' => e = .returned (.tuple #[]) ∧ RR w' R S (eatK S k c) (x || !isC S k c) ∧ OnlyR R w w' := by
  have HR := Lib.hid h
  clear h
  go_enter Tryd.func56, Tryd.ntmps56
  go_wp2_with fail
  refine (rr_is R S k x c w HR.out hk).mono ?_
  rintro e w1 ⟨rfl, hb1⟩
  have HO := Lib.hid (OnlyR.of_below R hb1)
  have h1 : RR w1 R S k x := HR.out.below hb1 HR.out.lt
  obtain ⟨c0, c1, c2⟩ := h1.three
  have f1 := h1.free 1
  have f2 := h1.free 2
  have H1 := Lib.hid h1
  clear hb1 h1
  cases hc : isC S k c with
  | true =>
    have HK : Hid (eatK S k c = k + 1) := Lib.hid (if_pos hc)
    have HC := Lib.hid hc
    clear hc
    go_wp2
    go_end0
    rw [HK.out]
    refine ⟨rfl, ?_, HO.out.trans (OnlyR.set R 1 w1 _)⟩
    rw [HC.out, Bool.not_true, Bool.or_false]
    exact H1.out.set1 (k + 1)
  | false =>
    have HK : Hid (eatK S k c = k) := Lib.hid (if_neg (by rw [hc]; decide))
    have HC := Lib.hid hc
    clear hc
    go_wp2
    go_end0
    rw [HK.out]
    refine ⟨rfl, ?_, HO.out.trans (OnlyR.set R 2 w1 _)⟩
    rw [HC.out, Bool.not_false, Bool.or_true]
    exact H1.out.set2 true
end Go.Proofs.YtggoebbfgkebcaaDoor

namespace Go.Proofs.YtggoebbfgkebcaaDoor
open Go.RowKit Go.Sort Go.Maps

theorem cut_left (S : ByteArray) (i j : Nat) : S.extract i j = tB ((left S i).take (j - i)) := by
  apply tB_of
  rw [ByteArray.data_extract, Array.toList_extract]
  unfold left
  simp [List.extract]
/-- How letters ends. -/
def LetPost (R : Nat) (S : ByteArray) (k : Nat) (x : Bool) (w : World) (e : Ending) (w' : World) : Prop :=
  ∃ j, e = .returned (.string (tB ((left S k).takeWhile small))) ∧ RR w' R S j x ∧ OnlyR R w w' ∧ left S j = (left S k).dropWhile small ∧ k ≤ j ∧ j ≤ S.size ∧ ((left S k).takeWhile small).length + k = j
set_option maxHeartbeats 4000000 in
theorem rr_letters (R : Nat) (S : ByteArray) (k : Nat) (x : Bool) (w : World) (h : RR w R S k x) (hs : S.size ≤ 10000000) (hk : k ≤ S.size) :
    Calls Tryd.prog 57 #[.pointer (some ⟨R, 0, none⟩)] w (LetPost R S k x w) := by
  obtain ⟨c0, c1, c2⟩ := h.three
  have HR := Lib.hid h
  clear h
  go_enter Tryd.func57, Tryd.ntmps57
  go_wp2
  go_loopg [] (S.size - k) (fun g wx => ∃ i : Nat, i + g = S.size ∧ k ≤ i ∧ Hid (RR wx R S i x) ∧ Hid (OnlyR R w wx) ∧ Hid ((left S k).takeWhile small = (left S k).take (i - k) ++ (left S i).takeWhile small) ∧ Hid ((left S k).dropWhile small = (left S i).dropWhile small))
  case atStart => exact ⟨k, by omega, Nat.le_refl _, HR, Lib.hid (OnlyR.refl R w), Lib.hid (by simp), Lib.hid rfl⟩
  case round =>
    obtain ⟨i, hig, hki, hr, ho, ht, hd⟩ := hrel
    obtain ⟨c0, c1, c2⟩ := hr.out.three
    have f1 := hr.out.free 1
    by_cases hi : i < S.size
    · have HAT := Lib.hid (left_at hi)
      obtain ⟨c, hc⟩ : ∃ c : UInt8, S[i] = c := ⟨_, rfl⟩
      rw [hc] at HAT
      have i1 : (i : Int) < (S.size : Int) := by omega
      by_cases hsm : small c = true
      · have h1 : 97 ≤ c.toNat := by simp only [small, Bool.and_eq_true, decide_eq_true_eq] at hsm; exact hsm.1
        have h2 : c.toNat ≤ 122 := by simp only [small, Bool.and_eq_true, decide_eq_true_eq] at hsm; exact hsm.2
        have HT : Hid ((left S k).takeWhile small = (left S k).take (i + 1 - k) ++ (left S (i + 1)).takeWhile small) := Lib.hid (by
          rw [ht.out, HAT.out, List.takeWhile_cons_of_pos hsm, show i + 1 - k = (i - k) + 1 by omega, List.take_add_one, ← List.head?_drop, show (left S k).drop (i - k) = left S i by unfold left; rw [List.drop_drop]; congr 1; omega, HAT.out]; simp)
        have HD : Hid ((left S k).dropWhile small = (left S (i + 1)).dropWhile small) := Lib.hid (by rw [hd.out, HAT.out, List.dropWhile_cons_of_pos hsm])
        have e1 : decide ((97 : Int) ≤ (c.toNat : Int)) = true := decide_eq_true (by omega)
        have e2 : decide ((c.toNat : Int) ≤ (122 : Int)) = true := decide_eq_true (by omega)
        clear hsm
        go_upto_region 2 with fail
        go_quiet (fail)
        have HO2 : Hid (OnlyR R w (wr.drewN nq)) := Lib.hid ⟨ho.out.os, ho.out.tape, ho.out.output, ho.out.size, ho.out.block⟩
        have HR2 : Hid (RR (wr.drewN nq) R S i x) := Lib.hid hr.out
        have d1 : (wr.drewN nq).cell? ⟨R, 1, none⟩ = _ := c1
        have g1 : (wr.drewN nq).frozen? ⟨R, 1, none⟩ = _ := f1
        clear c0 c1 c2 f1 hr ho
        generalize wr.drewN nq = w2 at *
        go_wp2
        go_roundg (S.size - (i + 1))
        case measure => omega
        case rel => exact ⟨i + 1, by omega, by omega, Lib.hid (HR2.out.set1 (i + 1)), Lib.hid (HO2.out.trans (OnlyR.set R 1 w2 _)), HT, HD⟩
      · have HE1 : Hid ((left S k).takeWhile small = (left S k).take (i - k)) := Lib.hid (by rw [ht.out, HAT.out, List.takeWhile_cons_of_neg hsm, List.append_nil])
        have HE2 : Hid ((left S k).dropWhile small = left S i) := Lib.hid (by rw [hd.out, HAT.out, List.dropWhile_cons_of_neg hsm])
        have i2 : (k : Int) ≤ (i : Int) := by omega
        have hln : (left S k).length = S.size - k := left_len
        have HLN : Hid (((left S k).takeWhile small).length + k = i) := Lib.hid (by rw [HE1.out, List.length_take]; omega)
        clear hln
        by_cases h1 : 97 ≤ c.toNat
        · have h2 : ¬ c.toNat ≤ 122 := fun h2 => hsm (by simp [small, h1, h2])
          have e1 : decide ((97 : Int) ≤ (c.toNat : Int)) = true := decide_eq_true (by omega)
          have e2 : decide ((c.toNat : Int) ≤ (122 : Int)) = false := decide_eq_false (by omega)
          clear hsm
          go_upto_region 2 with fail
          go_quiet (fail)
          have HO2 : Hid (OnlyR R w (wr.drewN nq)) := Lib.hid ⟨ho.out.os, ho.out.tape, ho.out.output, ho.out.size, ho.out.block⟩
          have HR2 : Hid (RR (wr.drewN nq) R S i x) := Lib.hid hr.out
          have d0 : (wr.drewN nq).cell? ⟨R, 0, none⟩ = _ := c0
          have d1 : (wr.drewN nq).cell? ⟨R, 1, none⟩ = _ := c1
          clear c0 c1 c2 f1 hr ho
          generalize wr.drewN nq = w2 at *
          go_upto_region 4 with fail
          go_quiet (fail)
          go_wp2
          go_ret
          exact ⟨i, rd_ret (by rw [HE1.out, ← cut_left]), HR2.out, ⟨HO2.out.os, HO2.out.tape, HO2.out.output, HO2.out.size, HO2.out.block⟩, HE2.out.symm, hki, by omega, HLN.out⟩
        · have e1 : decide ((97 : Int) ≤ (c.toNat : Int)) = false := decide_eq_false (by omega)
          clear hsm
          go_upto_region 2 with fail
          go_quiet (fail)
          have HO2 : Hid (OnlyR R w (wr.drewN nq)) := Lib.hid ⟨ho.out.os, ho.out.tape, ho.out.output, ho.out.size, ho.out.block⟩
          have HR2 : Hid (RR (wr.drewN nq) R S i x) := Lib.hid hr.out
          have d0 : (wr.drewN nq).cell? ⟨R, 0, none⟩ = _ := c0
          have d1 : (wr.drewN nq).cell? ⟨R, 1, none⟩ = _ := c1
          clear c0 c1 c2 f1 hr ho
          generalize wr.drewN nq = w2 at *
          go_upto_region 4 with fail
          go_quiet (fail)
          go_wp2
          go_ret
          exact ⟨i, rd_ret (by rw [HE1.out, ← cut_left]), HR2.out, ⟨HO2.out.os, HO2.out.tape, HO2.out.output, HO2.out.size, HO2.out.block⟩, HE2.out.symm, hki, by omega, HLN.out⟩
    · obtain rfl : i = S.size := by omega
      have hnl : left S S.size = [] := left_nil (Nat.le_refl _)
      have HE1 : Hid ((left S k).takeWhile small = (left S k).take (S.size - k)) := Lib.hid (by rw [ht.out, hnl]; simp)
      have HE2 : Hid ((left S k).dropWhile small = left S S.size) := Lib.hid (by rw [hd.out, hnl]; rfl)
      have hln : (left S k).length = S.size - k := left_len
      have HLN : Hid (((left S k).takeWhile small).length + k = S.size) := Lib.hid (by rw [HE1.out, List.length_take]; omega)
      have i1 : ¬ (S.size : Int) < (S.size : Int) := by omega
      have i2 : (k : Int) ≤ (S.size : Int) := by omega
      clear hnl hln
      go_upto_region 2 with fail
      go_quiet (fail)
      have HO2 : Hid (OnlyR R w (wr.drewN nq)) := Lib.hid ⟨ho.out.os, ho.out.tape, ho.out.output, ho.out.size, ho.out.block⟩
      have HR2 : Hid (RR (wr.drewN nq) R S S.size x) := Lib.hid hr.out
      have d0 : (wr.drewN nq).cell? ⟨R, 0, none⟩ = _ := c0
      have d1 : (wr.drewN nq).cell? ⟨R, 1, none⟩ = _ := c1
      clear c0 c1 c2 f1 hr ho
      generalize wr.drewN nq = w2 at *
      go_upto_region 4 with fail
      go_quiet (fail)
      go_wp2
      go_ret
      exact ⟨S.size, rd_ret (by rw [HE1.out, ← cut_left]), HR2.out, ⟨HO2.out.os, HO2.out.tape, HO2.out.output, HO2.out.size, HO2.out.block⟩, HE2.out.symm, hki, Nat.le_refl _, HLN.out⟩

/-- What quoted answers: a text, where one stands then, whether it was wrong. -/
structure QuoK (S : ByteArray) (k : Nat) (x : Bool) (s : ByteArray) (j : Nat) (y : Bool) : Prop where
  ge : k ≤ j
  le : j ≤ S.size
  bad : x = true → y = true
  size : s.size + k ≤ j
  more : isC S k 34 = true → s.size + k + 1 ≤ j
  back : ∀ (t r : List UInt8), x = false → left S k = quoteL t ++ r → s = tB t ∧ left S j = r ∧ y = false
/-- How quoted ends. -/
def QuoKPost (R : Nat) (S : ByteArray) (k : Nat) (x : Bool) (w : World) (e : Ending) (w' : World) : Prop :=
  ∃ s j y, e = .returned (.string s) ∧ RR w' R S j y ∧ OnlyR R w w' ∧ QuoK S k x s j y
theorem tB_one (S : ByteArray) (i : Nat) (c : UInt8) (l : List UInt8) (h : left S i = c :: l) : S.extract i (i + 1) = tB [c] := by
  rw [cut_left, h, show i + 1 - i = 1 by omega]; rfl

theorem esc_pop {t r l : List UInt8} {c : UInt8} (h : escL t ++ 34 :: r = c :: l) (hc : c ≠ 34) : ∃ d t3, t = d :: t3 ∧ ((c = 92 ∧ l = d :: (escL t3 ++ 34 :: r)) ∨ (c ≠ 92 ∧ c = d ∧ l = escL t3 ++ 34 :: r)) := by
  cases t with
  | nil => exact absurd (List.cons.inj h).1.symm hc
  | cons d t3 =>
    refine ⟨d, t3, rfl, ?_⟩
    by_cases hd : (d == 34 || d == 92) = true
    · have e1 : escL (d :: t3) = 92 :: d :: escL t3 := by rw [escL]; exact if_pos hd
      rw [e1] at h
      obtain ⟨h1, h2⟩ := List.cons.inj h
      exact .inl ⟨h1.symm, h2.symm⟩
    · have e1 : escL (d :: t3) = d :: escL t3 := by rw [escL]; exact if_neg hd
      rw [e1] at h
      obtain ⟨h1, h2⟩ := List.cons.inj h
      refine .inr ⟨fun e => ?_, h1.symm, h2.symm⟩
      rw [← h1] at e
      exact hd (by rw [e]; rfl)

set_option maxHeartbeats 8000000 in
theorem rr_quoted (R : Nat) (S : ByteArray) (k : Nat) (x : Bool) (w : World) (h : RR w R S k x) (hs : S.size ≤ 10000000) (hk : k ≤ S.size) :
    Calls Tryd.prog 55 #[.pointer (some ⟨R, 0, none⟩)] w (QuoKPost R S k x w) := by
  have HR := Lib.hid h
  have hRw := h.lt
  clear h
  go_enter Tryd.func55, Tryd.ntmps55
  go_wp2_with fail
  refine (rr_eat R S k x 34 w HR.out hs hk).mono ?_
  rintro e w1 ⟨rfl, h1, o1⟩
  obtain ⟨he1, he2⟩ := eatK_le (c := 34) hk
  have HEK : Hid (isC S k 34 = true → k + 1 = eatK S k 34) := Lib.hid fun h => (if_pos h).symm
  have HBK : Hid (∀ t r : List UInt8, x = false → left S k = quoteL t ++ r → (x || !isC S k 34) = false ∧ left S (eatK S k 34) = escL t ++ 34 :: r) := Lib.hid fun t r hx hl => by
    obtain ⟨_, h2, h3⟩ := left_cons (c := 34) (l := escL t ++ 34 :: r) (by rw [hl]; simp [quoteL])
    refine ⟨by rw [hx, h3]; rfl, ?_⟩
    rw [← HEK.out h3]; exact h2
  have HBX : Hid (x = true → (x || !isC S k 34) = true) := Lib.hid fun h => by rw [h]; rfl
  have H1 := Lib.hid h1
  have O1 := Lib.hid o1
  clear h1 o1 HR
  generalize eatK S k 34 = k1 at *
  generalize (x || !isC S k 34) = x1 at *
  go_wp2
  go_loopg [3] (S.size - k1) (fun g s3 wx => ∃ (i : Nat) (y : Bool) (st : ByteArray), s3 = .string st ∧ i + g = S.size ∧ k1 ≤ i ∧ st.size + k1 ≤ i ∧ Hid (RR wx R S i y) ∧ Hid (OnlyR R w wx) ∧ Hid (x1 = true → y = true) ∧ Hid (∀ t r : List UInt8, x1 = false → left S k1 = escL t ++ 34 :: r → y = false ∧ ∃ t2, t = st.data.toList ++ t2 ∧ left S i = escL t2 ++ 34 :: r))
  case atStart => exact ⟨k1, x1, _, rfl, by omega, Nat.le_refl _, by simp [ByteArray.size], H1, O1, Lib.hid fun h => h, Lib.hid fun t r hx hl => ⟨hx, t, rfl, hl⟩⟩
  case round =>
    obtain ⟨i, y, st, rfl, hig, hki, hst, hr, ho, hbx, hbk⟩ := hrel
    obtain ⟨c0, c1, c2⟩ := hr.out.three
    cases y with
    | true =>
      go_wp2_with fail
      refine (rr_eat R S i true 34 wr hr.out hs (by omega)).mono ?_
      rintro e w2 ⟨rfl, h2, o2⟩
      have H2 := Lib.hid h2
      have O2 := Lib.hid (ho.out.trans o2)
      obtain ⟨hj1, hj2⟩ := eatK_le (S := S) (k := i) (c := 34) (by omega)
      clear h2 o2 c0 c1 c2 hr ho
      go_wp2
      go_ret
      refine ⟨_, _, _, rfl, H2.out, O2.out, by omega, hj2, fun _ => rfl, by omega, fun h => ?_, fun t r hx hl => ?_⟩
      · have := HEK.out h
        omega
      · obtain ⟨h1, h2⟩ := HBK.out t r hx hl
        exact absurd (hbk.out t r h1 h2).1 (by decide)
    | false =>
      go_wp2_with fail
      refine (rr_is R S i false 34 wr hr.out (by omega)).mono ?_
      rintro e w2 ⟨rfl, hb2⟩
      have HR2 := Lib.hid (hr.out.below hb2 hr.out.lt)
      have HO2 := Lib.hid (ho.out.trans (OnlyR.of_below R hb2))
      clear hb2 c0 c1 c2 hr ho
      cases hq : isC S i 34 with
      | true =>
        have HQ := Lib.hid hq
        clear hq
        go_wp2_with fail
        refine (rr_eat R S i false 34 w2 HR2.out hs (by omega)).mono ?_
        rintro e w3 ⟨rfl, h3, o3⟩
        have H3 := Lib.hid h3
        have O3 := Lib.hid (HO2.out.trans o3)
        have hK : eatK S i 34 = i + 1 := if_pos HQ.out
        have hlt := isC_lt HQ.out
        clear h3 o3
        go_wp2
        go_ret
        refine ⟨_, _, _, rfl, H3.out, O3.out, by omega, by omega, fun h => ?_, by omega, fun h => ?_, fun t r hx hl => ?_⟩
        · have h1 := HBX.out h
          have h2 := hbx.out h1
          cases h2
        · have := HEK.out h
          omega
        · obtain ⟨h1, h2⟩ := HBK.out t r hx hl
          obtain ⟨_, t2, h3, h4⟩ := hbk.out t r h1 h2
          have hat := left_at hlt
          have hc34 : S[i] = 34 := by have := HQ.out; rw [isC_at hlt] at this; simpa using this
          rw [hc34] at hat
          obtain ⟨e1, e2⟩ := esc_inj [] t2 _ r (hat.symm.trans h4)
          refine ⟨tB_of (by rw [h3, ← e1]; simp), ?_, by rw [HQ.out]; rfl⟩
          rw [hK]; exact e2
      | false =>
        have HQ := Lib.hid hq
        clear hq
        go_wp2_with fail
        refine (rr_is R S i false 92 w2 HR2.out (by omega)).mono ?_
        rintro e w3 ⟨rfl, hb3⟩
        have hr3 : RR w3 R S i false := HR2.out.below hb3 HR2.out.lt
        have HO3 := Lib.hid (HO2.out.trans (OnlyR.of_below R hb3))
        clear hb3 HR2 HO2
        cases hb : isC S i 92 with
        | true =>
          have hlt := isC_lt hb
          have HB4 : Hid (∀ t r : List UInt8, x1 = false → left S k1 = escL t ++ 34 :: r → ∃ d t2, t = st.data.toList ++ d :: t2 ∧ left S (i + 1) = d :: (escL t2 ++ 34 :: r)) := Lib.hid fun t r hx hl => by
            obtain ⟨_, t2, h1, h2⟩ := hbk.out t r hx hl
            have hat := left_at hlt
            have hc : S[i] = 92 := by rw [isC_at hlt] at hb; simpa using hb
            rw [hc] at hat
            obtain ⟨d, t3, h3, h4⟩ := esc_pop (h2.symm.trans hat) (by decide)
            rcases h4 with ⟨_, h4⟩ | ⟨h4, _⟩
            · exact ⟨d, t3, by rw [h1, h3], h4⟩
            · exact absurd rfl h4
          obtain ⟨c0, c1, c2⟩ := hr3.three
          have f1 := hr3.free 1
          have hr4 := hr3.set1 (i + 1)
          have HO4 := Lib.hid (HO3.out.trans (OnlyR.set R 1 w3 (.int .i64 ((i + 1 : Nat) : Int))))
          clear hr3 HO3 hbk hb
          go_upto_region 6 with fail
          rw [show ((i : Int) + 1) = ((i + 1 : Nat) : Int) by omega]
          generalize w3.setCell ⟨R, 1, none⟩ (.int .i64 ((i + 1 : Nat) : Int)) = w4 at *
          clear c0 c1 c2 f1
          have hki' : k1 ≤ i + 1 := by omega
          have hst' : st.size + k1 ≤ i + 1 := by omega
          generalize hj : i + 1 = j at *
          have hji : i < j := by omega
          have HR4 := Lib.hid hr4
          obtain ⟨c0, c1, c2⟩ := hr4.three
          have f1 := hr4.free 1
          have f2 := hr4.free 2
          clear hr4
          by_cases hz : j < S.size
          · have i1 : (j : Int) < (S.size : Int) := by omega
            have i2 : ¬ (S.size : Int) ≤ (j : Int) := by omega
            have i3 : (j : Int) ≤ (j : Int) + 1 := by omega
            have i4 : (j : Int) + 1 ≤ (S.size : Int) := by omega
            have HAT := Lib.hid (left_at hz)
            obtain ⟨d, hd⟩ : ∃ d : UInt8, S[j] = d := ⟨_, rfl⟩
            rw [hd] at HAT
            have HCUT := Lib.hid (tB_one S j d _ HAT.out)
            have HSZ : Hid ((S.extract j (j + 1)).size = 1) := Lib.hid (by rw [HCUT.out, tB_size]; rfl)
            have HB5 : Hid (∀ t r : List UInt8, x1 = false → left S k1 = escL t ++ 34 :: r → ∃ t2, t = (st ++ S.extract j (j + 1)).data.toList ++ t2 ∧ left S (j + 1) = escL t2 ++ 34 :: r) := Lib.hid fun t r hx hl => by
              obtain ⟨d', t2, h1, h2⟩ := HB4.out t r hx hl
              rw [HAT.out] at h2
              obtain ⟨h3, h4⟩ := List.cons.inj h2
              exact ⟨t2, by rw [wapp, HCUT.out, tB_data, h1, h3]; simp, h4⟩
            have hsz5 : (st ++ S.extract j (j + 1)).size = st.size + 1 := by rw [ByteArray.size_append, HSZ.out]
            have o1 : ¬ 9223372036854775807 < st.size + (S.extract j (j + 1)).size := by rw [HSZ.out]; omega
            have HS5 := Lib.hid hsz5
            clear hd hsz5
            go_upto_region 6 with fail
            go_quiet (fail)
            have HO5 : Hid (OnlyR R w (w4.drewN nq)) := Lib.hid ⟨HO4.out.os, HO4.out.tape, HO4.out.output, HO4.out.size, HO4.out.block⟩
            have HR5 : Hid (RR (w4.drewN nq) R S j false) := Lib.hid HR4.out
            obtain ⟨c0, c1, c2⟩ := HR5.out.three
            have f1 := HR5.out.free 1
            clear HO4 HR4
            generalize w4.drewN nq = w5 at *
            go_upto_region 9 with fail
            generalize hse : S.extract j (j + 1) = se at *
            go_quiet (fail)
            have HO6 : Hid (OnlyR R w (w5.drewN nq)) := Lib.hid ⟨HO5.out.os, HO5.out.tape, HO5.out.output, HO5.out.size, HO5.out.block⟩
            have HR6 : Hid (RR (w5.drewN nq) R S j false) := Lib.hid HR5.out
            obtain ⟨c0, c1, c2⟩ := HR6.out.three
            have f1 := HR6.out.free 1
            clear HO5 HR5
            generalize w5.drewN nq = w6 at *
            go_wp2
            go_roundg (S.size - (j + 1))
            case measure => omega
            case rel => exact ⟨j + 1, false, _, rfl, by omega, by omega, by have := HS5.out; omega, Lib.hid (HR6.out.set1 (j + 1)), Lib.hid (HO6.out.trans (OnlyR.set R 1 w6 _)), hbx, Lib.hid fun t r hx hl => ⟨rfl, HB5.out t r hx hl⟩⟩
          · have i1 : ¬ (j : Int) < (S.size : Int) := by omega
            have i2 : (S.size : Int) ≤ (j : Int) := by omega
            have HB5 : Hid (∀ t r : List UInt8, x1 = false → ¬ left S k1 = escL t ++ 34 :: r) := Lib.hid fun t r hx hl => by
              obtain ⟨d', t2, h1, h2⟩ := HB4.out t r hx hl
              rw [left_nil (Nat.le_of_not_lt hz)] at h2
              cases h2
            go_upto_region 6 with fail
            go_quiet (fail)
            have HO5 : Hid (OnlyR R w (w4.drewN nq)) := Lib.hid ⟨HO4.out.os, HO4.out.tape, HO4.out.output, HO4.out.size, HO4.out.block⟩
            have HR5 : Hid (RR (w4.drewN nq) R S j false) := Lib.hid HR4.out
            obtain ⟨c0, c1, c2⟩ := HR5.out.three
            have f1 := HR5.out.free 1
            have f2 := HR5.out.free 2
            clear HO4 HR4
            generalize w4.drewN nq = w5 at *
            go_wp2
            go_ret
            refine ⟨_, j, true, rfl, HR5.out.set2 true, HO5.out.trans (OnlyR.set R 2 w5 _), by omega, by omega, fun _ => rfl, by show 0 + k ≤ _; omega, fun h => ?_, fun t r hx hl => ?_⟩
            · have := HEK.out h
              show 0 + k + 1 ≤ _
              omega
            · obtain ⟨h1, h2⟩ := HBK.out t r hx hl
              exact absurd h2 (HB5.out t r h1)
        | false =>
          have HB4 : Hid (∀ t r : List UInt8, x1 = false → left S k1 = escL t ++ 34 :: r → ∃ d t2, t = st.data.toList ++ d :: t2 ∧ left S i = d :: (escL t2 ++ 34 :: r)) := Lib.hid fun t r hx hl => by
            obtain ⟨_, t2, h1, h2⟩ := hbk.out t r hx hl
            have hne : t2 ≠ [] := by
              rintro rfl
              obtain ⟨_, _, h3⟩ := left_cons (c := 34) (l := r) h2
              rw [HQ.out] at h3; cases h3
            cases t2 with
            | nil => exact absurd rfl hne
            | cons d t3 =>
              by_cases hd : (d == 34 || d == 92) = true
              · exfalso
                have e1 : escL (d :: t3) = 92 :: d :: escL t3 := by rw [escL]; exact if_pos hd
                rw [e1] at h2
                obtain ⟨_, _, h3⟩ := left_cons h2
                rw [hb] at h3; cases h3
              · have e1 : escL (d :: t3) = d :: escL t3 := by rw [escL]; exact if_neg hd
                exact ⟨d, t3, h1, by rw [h2, e1]; rfl⟩
          have hr4 := hr3
          have HO4 := HO3
          clear hr3 HO3 hbk hb
          obtain ⟨w4, rfl⟩ : ∃ W : World, W = w3 := ⟨_, rfl⟩
          have HR4 := Lib.hid hr4
          obtain ⟨c0, c1, c2⟩ := hr4.three
          have f1 := hr4.free 1
          have f2 := hr4.free 2
          clear hr4
          by_cases hz : i < S.size
          · have i1 : (i : Int) < (S.size : Int) := by omega
            have i2 : ¬ (S.size : Int) ≤ (i : Int) := by omega
            have i3 : (i : Int) ≤ (i : Int) + 1 := by omega
            have i4 : (i : Int) + 1 ≤ (S.size : Int) := by omega
            have HAT := Lib.hid (left_at hz)
            obtain ⟨d, hd⟩ : ∃ d : UInt8, S[i] = d := ⟨_, rfl⟩
            rw [hd] at HAT
            have HCUT := Lib.hid (tB_one S i d _ HAT.out)
            have HSZ : Hid ((S.extract i (i + 1)).size = 1) := Lib.hid (by rw [HCUT.out, tB_size]; rfl)
            have HB5 : Hid (∀ t r : List UInt8, x1 = false → left S k1 = escL t ++ 34 :: r → ∃ t2, t = (st ++ S.extract i (i + 1)).data.toList ++ t2 ∧ left S (i + 1) = escL t2 ++ 34 :: r) := Lib.hid fun t r hx hl => by
              obtain ⟨d', t2, h1, h2⟩ := HB4.out t r hx hl
              rw [HAT.out] at h2
              obtain ⟨h3, h4⟩ := List.cons.inj h2
              exact ⟨t2, by rw [wapp, HCUT.out, tB_data, h1, h3]; simp, h4⟩
            have hsz5 : (st ++ S.extract i (i + 1)).size = st.size + 1 := by rw [ByteArray.size_append, HSZ.out]
            have o1 : ¬ 9223372036854775807 < st.size + (S.extract i (i + 1)).size := by rw [HSZ.out]; omega
            have HS5 := Lib.hid hsz5
            clear hd hsz5
            go_upto_region 6 with fail
            go_quiet (fail)
            have HO5 : Hid (OnlyR R w (w4.drewN nq)) := Lib.hid ⟨HO4.out.os, HO4.out.tape, HO4.out.output, HO4.out.size, HO4.out.block⟩
            have HR5 : Hid (RR (w4.drewN nq) R S i false) := Lib.hid HR4.out
            obtain ⟨c0, c1, c2⟩ := HR5.out.three
            have f1 := HR5.out.free 1
            clear HO4 HR4
            generalize w4.drewN nq = w5 at *
            go_upto_region 9 with fail
            generalize hse : S.extract i (i + 1) = se at *
            go_quiet (fail)
            have HO6 : Hid (OnlyR R w (w5.drewN nq)) := Lib.hid ⟨HO5.out.os, HO5.out.tape, HO5.out.output, HO5.out.size, HO5.out.block⟩
            have HR6 : Hid (RR (w5.drewN nq) R S i false) := Lib.hid HR5.out
            obtain ⟨c0, c1, c2⟩ := HR6.out.three
            have f1 := HR6.out.free 1
            clear HO5 HR5
            generalize w5.drewN nq = w6 at *
            go_wp2
            go_roundg (S.size - (i + 1))
            case measure => omega
            case rel => exact ⟨i + 1, false, _, rfl, by omega, by omega, by have := HS5.out; omega, Lib.hid (HR6.out.set1 (i + 1)), Lib.hid (HO6.out.trans (OnlyR.set R 1 w6 _)), hbx, Lib.hid fun t r hx hl => ⟨rfl, HB5.out t r hx hl⟩⟩
          · have i1 : ¬ (i : Int) < (S.size : Int) := by omega
            have i2 : (S.size : Int) ≤ (i : Int) := by omega
            have HB5 : Hid (∀ t r : List UInt8, x1 = false → ¬ left S k1 = escL t ++ 34 :: r) := Lib.hid fun t r hx hl => by
              obtain ⟨d', t2, h1, h2⟩ := HB4.out t r hx hl
              rw [left_nil (Nat.le_of_not_lt hz)] at h2
              cases h2
            go_upto_region 6 with fail
            go_quiet (fail)
            have HO5 : Hid (OnlyR R w (w4.drewN nq)) := Lib.hid ⟨HO4.out.os, HO4.out.tape, HO4.out.output, HO4.out.size, HO4.out.block⟩
            have HR5 : Hid (RR (w4.drewN nq) R S i false) := Lib.hid HR4.out
            obtain ⟨c0, c1, c2⟩ := HR5.out.three
            have f1 := HR5.out.free 1
            have f2 := HR5.out.free 2
            clear HO4 HR4
            generalize w4.drewN nq = w5 at *
            go_wp2
            go_ret
            refine ⟨_, i, true, rfl, HR5.out.set2 true, HO5.out.trans (OnlyR.set R 2 w5 _), by omega, by omega, fun _ => rfl, by show 0 + k ≤ _; omega, fun h => ?_, fun t r hx hl => ?_⟩
            · have := HEK.out h
              show 0 + k + 1 ≤ _
              omega
            · obtain ⟨h1, h2⟩ := HBK.out t r hx hl
              exact absurd h2 (HB5.out t r h1)
end Go.Proofs.YtggoebbfgkebcaaDoor
