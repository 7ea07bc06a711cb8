/-
  The document's reader: is, eat, letters.
  The document's reader: letters, quoted.
  The document's reader: its steps in a region that draws its order, the variable of a node, rows of nodes.
  The document's reader: nodes, from node.
  The document's reader: what a node is, part by part. Plain facts.
-/
import Derived.Test.YtggoebbfgkebcaaGreatDoorMI
import Derived.Test.YtggoebbfgkebcaaGreatDoorMD
import Derived.BigQuiet
import Derived.Test.YtggoebbfgkebcaaGreatDoorMF
namespace Go.Proofs.YtggoebbfgkebcaaGreatDoor
open Go.RowKit Go.Sort Go.Maps

/-- The document's reader in block R: its text, where it is read, was it wrong. -/
def RR (w : World) (R : Nat) (S : ByteArray) (k : Nat) (x : Bool) : Prop := w.heap[R]? = some (.cells #[.string S, .int .i64 (k : Int), .bool x] 58)
/-- What is left of a text. -/
def left (S : ByteArray) (k : Nat) : List UInt8 := S.data.toList.drop k
def isC (S : ByteArray) (k : Nat) (c : UInt8) : Bool := (left S k).head? == some c
theorem RR.lt {w : World} {R : Nat} {S : ByteArray} {k : Nat} {x : Bool} (h : RR w R S k x) : R < w.heap.size := (Array.getElem?_eq_some_iff.1 h).1
theorem RR.below {w w' : World} {R B : Nat} {S : ByteArray} {k : Nat} {x : Bool} (h : RR w R S k x) (hb : Below B w w') (hR : R < B) : RR w' R S k x := (hb.block R hR).trans h
theorem RR.three {w : World} {R : Nat} {S : ByteArray} {k : Nat} {x : Bool} (h : RR w R S k x) : w.cell? ⟨R, 0, none⟩ = some (.string S) ∧ w.cell? ⟨R, 1, none⟩ = some (.int .i64 (k : Int)) ∧ w.cell? ⟨R, 2, none⟩ = some (.bool x) := by
  unfold RR at h
  simp [World.cell?, h]
theorem RR.free {w : World} {R : Nat} {S : ByteArray} {k : Nat} {x : Bool} (h : RR w R S k x) (i : Nat) : w.frozen? ⟨R, i, none⟩ = false := frozen_of_row w R i _ _ h
theorem RR.set1 {w : World} {R : Nat} {S : ByteArray} {k : Nat} {x : Bool} (h : RR w R S k x) (j : Nat) : RR (w.setCell ⟨R, 1, none⟩ (.int .i64 (j : Int))) R S j x := heap_setCell_same w R 1 _ _ _ h
theorem RR.set2 {w : World} {R : Nat} {S : ByteArray} {k : Nat} {x : Bool} (h : RR w R S k x) (y : Bool) : RR (w.setCell ⟨R, 2, none⟩ (.bool y)) R S k y := heap_setCell_same w R 2 _ _ _ h
theorem left_at {S : ByteArray} {k : Nat} (h : k < S.size) : left S k = S[k] :: left S (k + 1) := drop_at S k h
theorem left_nil {S : ByteArray} {k : Nat} (h : S.size ≤ k) : left S k = [] := List.drop_eq_nil_of_le (by rw [← Lib.size_eq]; exact h)
theorem left_len {S : ByteArray} {k : Nat} : (left S k).length = S.size - k := by unfold left; rw [List.length_drop, Lib.size_eq]
theorem left_cons {S : ByteArray} {k : Nat} {c : UInt8} {l : List UInt8} (h : left S k = c :: l) : k < S.size ∧ left S (k + 1) = l ∧ isC S k c = true := by
  have hk : k < S.size := by
    have := congrArg List.length h
    rw [left_len, List.length_cons] at this; omega
  refine ⟨hk, ?_, ?_⟩
  · rw [left_at hk] at h; exact (List.cons.inj h).2
  · unfold isC; rw [h]; simp
theorem left_no {S : ByteArray} {k : Nat} {c d : UInt8} {l : List UInt8} (h : left S k = c :: l) (hc : c ≠ d) : isC S k d = false := by
  unfold isC; rw [h]; simp [hc]
theorem isC_lt {S : ByteArray} {k : Nat} {c : UInt8} (h : isC S k c = true) : k < S.size := by
  apply Nat.lt_of_not_le
  intro hk
  unfold isC at h; rw [left_nil hk] at h; simp at h
theorem isC_at {S : ByteArray} {k : Nat} {c : UInt8} (h : k < S.size) : isC S k c = (S[k] == c) := by
  unfold isC; rw [left_at h]; simp
theorem isC_out {S : ByteArray} {k : Nat} {c : UInt8} (h : S.size ≤ k) : isC S k c = false := by
  unfold isC; rw [left_nil h]; simp

set_option maxHeartbeats 2000000 in
theorem rr_isN (R : Nat) (S : ByteArray) (k : Nat) (x : Bool) (c : UInt8) (w : World) (h : RR w R S k x) (hk : k ≤ S.size) :
    Calls Tryz.prog 65 #[.pointer (some ⟨R, 0, none⟩), .int .u8 (c.toNat : Int)] w fun e w' => e = .returned (.bool (isC S k c)) ∧ ∃ n, w' = w.drewN n := by
  obtain ⟨c0, c1, c2⟩ := h.three
  clear h
  go_enter Tryz.func65, Tryz.ntmps65
  by_cases hlt : k < S.size
  · have HC := Lib.hid (isC_at (c := c) hlt)
    have i1 : (k : Int) < (S.size : Int) := by omega
    obtain ⟨d, hd⟩ : ∃ d : UInt8, S[k] = d := ⟨_, rfl⟩
    rw [hd] at HC
    have HE : Hid (((d.toNat : Int) == (c.toNat : Int)) = isC S k c) := Lib.hid (by
      rw [HC.out, Bool.eq_iff_iff, beq_iff_eq, beq_iff_eq, ← UInt8.toNat_inj]; omega)
    go_upto_region 1 with fail
    go_quiet (fail)
    go_wp2
    go_ret
    exact ⟨ret_bool HE.out, _, rfl⟩
  · have HE := Lib.hid (isC_out (c := c) (Nat.le_of_not_lt hlt))
    have i1 : ¬ (k : Int) < (S.size : Int) := by omega
    have i2 : decide ((k : Int) < (S.size : Int)) = false := decide_eq_false i1
    go_upto_region 1 with fail
    go_quiet (fail)
    go_wp2
    go_ret
    exact ⟨ret_bool HE.out.symm, _, rfl⟩

theorem rr_is (R : Nat) (S : ByteArray) (k : Nat) (x : Bool) (c : UInt8) (w : World) (h : RR w R S k x) (hk : k ≤ S.size) :
    Calls Tryz.prog 65 #[.pointer (some ⟨R, 0, none⟩), .int .u8 (c.toNat : Int)] w fun e w' => e = .returned (.bool (isC S k c)) ∧ Below w.heap.size w w' :=
  (rr_isN R S k x c w h hk).mono fun e w' h => by
    obtain ⟨rfl, n, rfl⟩ := h
    exact ⟨rfl, ⟨rfl, rfl, rfl, Nat.le_refl _, fun _ _ => rfl⟩⟩
/-- Where one stands behind a sign that must be there, and whether it was. -/
def eatK (S : ByteArray) (k : Nat) (c : UInt8) : Nat := if isC S k c then k + 1 else k
theorem eatK_le {S : ByteArray} {k : Nat} {c : UInt8} (h : k ≤ S.size) : k ≤ eatK S k c ∧ eatK S k c ≤ S.size := by
  unfold eatK
  split
  · rename_i hc; have := isC_lt hc; omega
  · omega
set_option maxHeartbeats 2000000 in
theorem rr_eat (R : Nat) (S : ByteArray) (k : Nat) (x : Bool) (c : UInt8) (w : World) (h : RR w R S k x) (hs : S.size ≤ 10000000) (hk : k ≤ S.size) :
    Calls Tryz.prog 67 #[.pointer (some ⟨R, 0, none⟩), .int .u8 (c.toNat : Int)] w fun e w' => e = .returned (.tuple #[]) ∧ RR w' R S (eatK S k c) (x || !isC S k c) ∧ OnlyR R w w' := by
  have HR := Lib.hid h
  clear h
  go_enter Tryz.func67, Tryz.ntmps67
  go_wp2_with fail
  refine (rr_is R S k x c w HR.out hk).mono ?_
  rintro e w1 ⟨rfl, hb1⟩
  have HO := Lib.hid (OnlyR.of_below R hb1)
  have h1 : RR w1 R S k x := HR.out.below hb1 HR.out.lt
  obtain ⟨c0, c1, c2⟩ := h1.three
  have f1 := h1.free 1
  have f2 := h1.free 2
  have H1 := Lib.hid h1
  clear hb1 h1
  cases hc : isC S k c with
  | true =>
    have HK : Hid (eatK S k c = k + 1) := Lib.hid (if_pos hc)
    have HC := Lib.hid hc
    clear hc
    go_wp2
    go_end0
    rw [HK.out]
    refine ⟨rfl, ?_, HO.out.trans (OnlyR.set R 1 w1 _)⟩
    rw [HC.out, Bool.not_true, Bool.or_false]
    exact H1.out.set1 (k + 1)
  | false =>
    have HK : Hid (eatK S k c = k) := Lib.hid (if_neg (by rw [hc]; decide))
    have HC := Lib.hid hc
    clear hc
    go_wp2
    go_end0
    rw [HK.out]
    refine ⟨rfl, ?_, HO.out.trans (OnlyR.set R 2 w1 _)⟩
    rw [HC.out, Bool.not_false, Bool.or_true]
    exact H1.out.set2 true
end Go.Proofs.YtggoebbfgkebcaaGreatDoor

namespace Go.Proofs.YtggoebbfgkebcaaGreatDoor
open Go.RowKit Go.Sort Go.Maps

theorem cut_left (S : ByteArray) (i j : Nat) : S.extract i j = tB ((left S i).take (j - i)) := by
  apply tB_of
  rw [ByteArray.data_extract, Array.toList_extract]
  unfold left
  simp [List.extract]
/-- How letters ends. -/
def LetPost (R : Nat) (S : ByteArray) (k : Nat) (x : Bool) (w : World) (e : Ending) (w' : World) : Prop :=
  ∃ j, e = .returned (.string (tB ((left S k).takeWhile small))) ∧ RR w' R S j x ∧ OnlyR R w w' ∧ left S j = (left S k).dropWhile small ∧ k ≤ j ∧ j ≤ S.size ∧ ((left S k).takeWhile small).length + k = j
set_option maxHeartbeats 4000000 in
theorem rr_letters (R : Nat) (S : ByteArray) (k : Nat) (x : Bool) (w : World) (h : RR w R S k x) (hs : S.size ≤ 10000000) (hk : k ≤ S.size) :
    Calls Tryz.prog 68 #[.pointer (some ⟨R, 0, none⟩)] w (LetPost R S k x w) := by
  obtain ⟨c0, c1, c2⟩ := h.three
  have HR := Lib.hid h
  clear h
  go_enter Tryz.func68, Tryz.ntmps68
  go_wp2
  go_loopg [] (S.size - k) (fun g wx => ∃ i : Nat, i + g = S.size ∧ k ≤ i ∧ Hid (RR wx R S i x) ∧ Hid (OnlyR R w wx) ∧ Hid ((left S k).takeWhile small = (left S k).take (i - k) ++ (left S i).takeWhile small) ∧ Hid ((left S k).dropWhile small = (left S i).dropWhile small))
  case atStart => exact ⟨k, by omega, Nat.le_refl _, HR, Lib.hid (OnlyR.refl R w), Lib.hid (by simp), Lib.hid rfl⟩
  case round =>
    obtain ⟨i, hig, hki, hr, ho, ht, hd⟩ := hrel
    obtain ⟨c0, c1, c2⟩ := hr.out.three
    have f1 := hr.out.free 1
    by_cases hi : i < S.size
    · have HAT := Lib.hid (left_at hi)
      obtain ⟨c, hc⟩ : ∃ c : UInt8, S[i] = c := ⟨_, rfl⟩
      rw [hc] at HAT
      have i1 : (i : Int) < (S.size : Int) := by omega
      by_cases hsm : small c = true
      · have h1 : 97 ≤ c.toNat := by simp only [small, Bool.and_eq_true, decide_eq_true_eq] at hsm; exact hsm.1
        have h2 : c.toNat ≤ 122 := by simp only [small, Bool.and_eq_true, decide_eq_true_eq] at hsm; exact hsm.2
        have HT : Hid ((left S k).takeWhile small = (left S k).take (i + 1 - k) ++ (left S (i + 1)).takeWhile small) := Lib.hid (by
          rw [ht.out, HAT.out, List.takeWhile_cons_of_pos hsm, show i + 1 - k = (i - k) + 1 by omega, List.take_add_one, ← List.head?_drop, show (left S k).drop (i - k) = left S i by unfold left; rw [List.drop_drop]; congr 1; omega, HAT.out]; simp)
        have HD : Hid ((left S k).dropWhile small = (left S (i + 1)).dropWhile small) := Lib.hid (by rw [hd.out, HAT.out, List.dropWhile_cons_of_pos hsm])
        have e1 : decide ((97 : Int) ≤ (c.toNat : Int)) = true := decide_eq_true (by omega)
        have e2 : decide ((c.toNat : Int) ≤ (122 : Int)) = true := decide_eq_true (by omega)
        clear hsm
        go_upto_region 2 with fail
        go_quiet (fail)
        have HO2 : Hid (OnlyR R w (wr.drewN nq)) := Lib.hid ⟨ho.out.os, ho.out.tape, ho.out.output, ho.out.size, ho.out.block⟩
        have HR2 : Hid (RR (wr.drewN nq) R S i x) := Lib.hid hr.out
        have d1 : (wr.drewN nq).cell? ⟨R, 1, none⟩ = _ := c1
        have g1 : (wr.drewN nq).frozen? ⟨R, 1, none⟩ = _ := f1
        clear c0 c1 c2 f1 hr ho
        generalize wr.drewN nq = w2 at *
        go_wp2
        go_roundg (S.size - (i + 1))
        case measure => omega
        case rel => exact ⟨i + 1, by omega, by omega, Lib.hid (HR2.out.set1 (i + 1)), Lib.hid (HO2.out.trans (OnlyR.set R 1 w2 _)), HT, HD⟩
      · have HE1 : Hid ((left S k).takeWhile small = (left S k).take (i - k)) := Lib.hid (by rw [ht.out, HAT.out, List.takeWhile_cons_of_neg hsm, List.append_nil])
        have HE2 : Hid ((left S k).dropWhile small = left S i) := Lib.hid (by rw [hd.out, HAT.out, List.dropWhile_cons_of_neg hsm])
        have i2 : (k : Int) ≤ (i : Int) := by omega
        have hln : (left S k).length = S.size - k := left_len
        have HLN : Hid (((left S k).takeWhile small).length + k = i) := Lib.hid (by rw [HE1.out, List.length_take]; omega)
        clear hln
        by_cases h1 : 97 ≤ c.toNat
        · have h2 : ¬ c.toNat ≤ 122 := fun h2 => hsm (by simp [small, h1, h2])
          have e1 : decide ((97 : Int) ≤ (c.toNat : Int)) = true := decide_eq_true (by omega)
          have e2 : decide ((c.toNat : Int) ≤ (122 : Int)) = false := decide_eq_false (by omega)
          clear hsm
          go_upto_region 2 with fail
          go_quiet (fail)
          have HO2 : Hid (OnlyR R w (wr.drewN nq)) := Lib.hid ⟨ho.out.os, ho.out.tape, ho.out.output, ho.out.size, ho.out.block⟩
          have HR2 : Hid (RR (wr.drewN nq) R S i x) := Lib.hid hr.out
          have d0 : (wr.drewN nq).cell? ⟨R, 0, none⟩ = _ := c0
          have d1 : (wr.drewN nq).cell? ⟨R, 1, none⟩ = _ := c1
          clear c0 c1 c2 f1 hr ho
          generalize wr.drewN nq = w2 at *
          go_upto_region 4 with fail
          go_quiet (fail)
          go_wp2
          go_ret
          exact ⟨i, rd_ret (by rw [HE1.out, ← cut_left]), HR2.out, ⟨HO2.out.os, HO2.out.tape, HO2.out.output, HO2.out.size, HO2.out.block⟩, HE2.out.symm, hki, by omega, HLN.out⟩
        · have e1 : decide ((97 : Int) ≤ (c.toNat : Int)) = false := decide_eq_false (by omega)
          clear hsm
          go_upto_region 2 with fail
          go_quiet (fail)
          have HO2 : Hid (OnlyR R w (wr.drewN nq)) := Lib.hid ⟨ho.out.os, ho.out.tape, ho.out.output, ho.out.size, ho.out.block⟩
          have HR2 : Hid (RR (wr.drewN nq) R S i x) := Lib.hid hr.out
          have d0 : (wr.drewN nq).cell? ⟨R, 0, none⟩ = _ := c0
          have d1 : (wr.drewN nq).cell? ⟨R, 1, none⟩ = _ := c1
          clear c0 c1 c2 f1 hr ho
          generalize wr.drewN nq = w2 at *
          go_upto_region 4 with fail
          go_quiet (fail)
          go_wp2
          go_ret
          exact ⟨i, rd_ret (by rw [HE1.out, ← cut_left]), HR2.out, ⟨HO2.out.os, HO2.out.tape, HO2.out.output, HO2.out.size, HO2.out.block⟩, HE2.out.symm, hki, by omega, HLN.out⟩
    · obtain rfl : i = S.size := by omega
      have hnl : left S S.size = [] := left_nil (Nat.le_refl _)
      have HE1 : Hid ((left S k).takeWhile small = (left S k).take (S.size - k)) := Lib.hid (by rw [ht.out, hnl]; simp)
      have HE2 : Hid ((left S k).dropWhile small = left S S.size) := Lib.hid (by rw [hd.out, hnl]; rfl)
      have hln : (left S k).length = S.size - k := left_len
      have HLN : Hid (((left S k).takeWhile small).length + k = S.size) := Lib.hid (by rw [HE1.out, List.length_take]; omega)
      have i1 : ¬ (S.size : Int) < (S.size : Int) := by omega
      have i2 : (k : Int) ≤ (S.size : Int) := by omega
      clear hnl hln
      go_upto_region 2 with fail
      go_quiet (fail)
      have HO2 : Hid (OnlyR R w (wr.drewN nq)) := Lib.hid ⟨ho.out.os, ho.out.tape, ho.out.output, ho.out.size, ho.out.block⟩
      have HR2 : Hid (RR (wr.drewN nq) R S S.size x) := Lib.hid hr.out
      have d0 : (wr.drewN nq).cell? ⟨R, 0, none⟩ = _ := c0
      have d1 : (wr.drewN nq).cell? ⟨R, 1, none⟩ = _ := c1
      clear c0 c1 c2 f1 hr ho
      generalize wr.drewN nq = w2 at *
      go_upto_region 4 with fail
      go_quiet (fail)
      go_wp2
      go_ret
      exact ⟨S.size, rd_ret (by rw [HE1.out, ← cut_left]), HR2.out, ⟨HO2.out.os, HO2.out.tape, HO2.out.output, HO2.out.size, HO2.out.block⟩, HE2.out.symm, hki, Nat.le_refl _, HLN.out⟩

/-- What quoted answers: a text, where one stands then, whether it was wrong. -/
structure QuoK (S : ByteArray) (k : Nat) (x : Bool) (s : ByteArray) (j : Nat) (y : Bool) : Prop where
  ge : k ≤ j
  le : j ≤ S.size
  bad : x = true → y = true
  size : s.size + k ≤ j
  more : isC S k 34 = true → s.size + k + 1 ≤ j
  back : ∀ (t r : List UInt8), x = false → left S k = quoteL t ++ r → s = tB t ∧ left S j = r ∧ y = false
/-- How quoted ends. -/
def QuoKPost (R : Nat) (S : ByteArray) (k : Nat) (x : Bool) (w : World) (e : Ending) (w' : World) : Prop :=
  ∃ s j y, e = .returned (.string s) ∧ RR w' R S j y ∧ OnlyR R w w' ∧ QuoK S k x s j y
theorem tB_one (S : ByteArray) (i : Nat) (c : UInt8) (l : List UInt8) (h : left S i = c :: l) : S.extract i (i + 1) = tB [c] := by
  rw [cut_left, h, show i + 1 - i = 1 by omega]; rfl

theorem esc_pop {t r l : List UInt8} {c : UInt8} (h : escL t ++ 34 :: r = c :: l) (hc : c ≠ 34) : ∃ d t3, t = d :: t3 ∧ ((c = 92 ∧ l = d :: (escL t3 ++ 34 :: r)) ∨ (c ≠ 92 ∧ c = d ∧ l = escL t3 ++ 34 :: r)) := by
  cases t with
  | nil => exact absurd (List.cons.inj h).1.symm hc
  | cons d t3 =>
    refine ⟨d, t3, rfl, ?_⟩
    by_cases hd : (d == 34 || d == 92) = true
    · have e1 : escL (d :: t3) = 92 :: d :: escL t3 := by rw [escL]; exact if_pos hd
      rw [e1] at h
      obtain ⟨h1, h2⟩ := List.cons.inj h
      exact .inl ⟨h1.symm, h2.symm⟩
    · have e1 : escL (d :: t3) = d :: escL t3 := by rw [escL]; exact if_neg hd
      rw [e1] at h
      obtain ⟨h1, h2⟩ := List.cons.inj h
      refine .inr ⟨fun e => ?_, h1.symm, h2.symm⟩
      rw [← h1] at e
      exact hd (by rw [e]; rfl)

set_option maxHeartbeats 8000000 in
theorem rr_quoted (R : Nat) (S : ByteArray) (k : Nat) (x : Bool) (w : World) (h : RR w R S k x) (hs : S.size ≤ 10000000) (hk : k ≤ S.size) :
    Calls Tryz.prog 66 #[.pointer (some ⟨R, 0, none⟩)] w (QuoKPost R S k x w) := by
  have HR := Lib.hid h
  have hRw := h.lt
  clear h
  go_enter Tryz.func66, Tryz.ntmps66
  go_wp2_with fail
  refine (rr_eat R S k x 34 w HR.out hs hk).mono ?_
  rintro e w1 ⟨rfl, h1, o1⟩
  obtain ⟨he1, he2⟩ := eatK_le (c := 34) hk
  have HEK : Hid (isC S k 34 = true → k + 1 = eatK S k 34) := Lib.hid fun h => (if_pos h).symm
  have HBK : Hid (∀ t r : List UInt8, x = false → left S k = quoteL t ++ r → (x || !isC S k 34) = false ∧ left S (eatK S k 34) = escL t ++ 34 :: r) := Lib.hid fun t r hx hl => by
    obtain ⟨_, h2, h3⟩ := left_cons (c := 34) (l := escL t ++ 34 :: r) (by rw [hl]; simp [quoteL])
    refine ⟨by rw [hx, h3]; rfl, ?_⟩
    rw [← HEK.out h3]; exact h2
  have HBX : Hid (x = true → (x || !isC S k 34) = true) := Lib.hid fun h => by rw [h]; rfl
  have H1 := Lib.hid h1
  have O1 := Lib.hid o1
  clear h1 o1 HR
  generalize eatK S k 34 = k1 at *
  generalize (x || !isC S k 34) = x1 at *
  go_wp2
  go_loopg [3] (S.size - k1) (fun g s3 wx => ∃ (i : Nat) (y : Bool) (st : ByteArray), s3 = .string st ∧ i + g = S.size ∧ k1 ≤ i ∧ st.size + k1 ≤ i ∧ Hid (RR wx R S i y) ∧ Hid (OnlyR R w wx) ∧ Hid (x1 = true → y = true) ∧ Hid (∀ t r : List UInt8, x1 = false → left S k1 = escL t ++ 34 :: r → y = false ∧ ∃ t2, t = st.data.toList ++ t2 ∧ left S i = escL t2 ++ 34 :: r))
  case atStart => exact ⟨k1, x1, _, rfl, by omega, Nat.le_refl _, by simp [ByteArray.size], H1, O1, Lib.hid fun h => h, Lib.hid fun t r hx hl => ⟨hx, t, rfl, hl⟩⟩
  case round =>
    obtain ⟨i, y, st, rfl, hig, hki, hst, hr, ho, hbx, hbk⟩ := hrel
    obtain ⟨c0, c1, c2⟩ := hr.out.three
    cases y with
    | true =>
      go_wp2_with fail
      refine (rr_eat R S i true 34 wr hr.out hs (by omega)).mono ?_
      rintro e w2 ⟨rfl, h2, o2⟩
      have H2 := Lib.hid h2
      have O2 := Lib.hid (ho.out.trans o2)
      obtain ⟨hj1, hj2⟩ := eatK_le (S := S) (k := i) (c := 34) (by omega)
      clear h2 o2 c0 c1 c2 hr ho
      go_wp2
      go_ret
      refine ⟨_, _, _, rfl, H2.out, O2.out, by omega, hj2, fun _ => rfl, by omega, fun h => ?_, fun t r hx hl => ?_⟩
      · have := HEK.out h
        omega
      · obtain ⟨h1, h2⟩ := HBK.out t r hx hl
        exact absurd (hbk.out t r h1 h2).1 (by decide)
    | false =>
      go_wp2_with fail
      refine (rr_is R S i false 34 wr hr.out (by omega)).mono ?_
      rintro e w2 ⟨rfl, hb2⟩
      have HR2 := Lib.hid (hr.out.below hb2 hr.out.lt)
      have HO2 := Lib.hid (ho.out.trans (OnlyR.of_below R hb2))
      clear hb2 c0 c1 c2 hr ho
      cases hq : isC S i 34 with
      | true =>
        have HQ := Lib.hid hq
        clear hq
        go_wp2_with fail
        refine (rr_eat R S i false 34 w2 HR2.out hs (by omega)).mono ?_
        rintro e w3 ⟨rfl, h3, o3⟩
        have H3 := Lib.hid h3
        have O3 := Lib.hid (HO2.out.trans o3)
        have hK : eatK S i 34 = i + 1 := if_pos HQ.out
        have hlt := isC_lt HQ.out
        clear h3 o3
        go_wp2
        go_ret
        refine ⟨_, _, _, rfl, H3.out, O3.out, by omega, by omega, fun h => ?_, by omega, fun h => ?_, fun t r hx hl => ?_⟩
        · have h1 := HBX.out h
          have h2 := hbx.out h1
          cases h2
        · have := HEK.out h
          omega
        · obtain ⟨h1, h2⟩ := HBK.out t r hx hl
          obtain ⟨_, t2, h3, h4⟩ := hbk.out t r h1 h2
          have hat := left_at hlt
          have hc34 : S[i] = 34 := by have := HQ.out; rw [isC_at hlt] at this; simpa using this
          rw [hc34] at hat
          obtain ⟨e1, e2⟩ := esc_inj [] t2 _ r (hat.symm.trans h4)
          refine ⟨tB_of (by rw [h3, ← e1]; simp), ?_, by rw [HQ.out]; rfl⟩
          rw [hK]; exact e2
      | false =>
        have HQ := Lib.hid hq
        clear hq
        go_wp2_with fail
        refine (rr_is R S i false 92 w2 HR2.out (by omega)).mono ?_
        rintro e w3 ⟨rfl, hb3⟩
        have hr3 : RR w3 R S i false := HR2.out.below hb3 HR2.out.lt
        have HO3 := Lib.hid (HO2.out.trans (OnlyR.of_below R hb3))
        clear hb3 HR2 HO2
        cases hb : isC S i 92 with
        | true =>
          have hlt := isC_lt hb
          have HB4 : Hid (∀ t r : List UInt8, x1 = false → left S k1 = escL t ++ 34 :: r → ∃ d t2, t = st.data.toList ++ d :: t2 ∧ left S (i + 1) = d :: (escL t2 ++ 34 :: r)) := Lib.hid fun t r hx hl => by
            obtain ⟨_, t2, h1, h2⟩ := hbk.out t r hx hl
            have hat := left_at hlt
            have hc : S[i] = 92 := by rw [isC_at hlt] at hb; simpa using hb
            rw [hc] at hat
            obtain ⟨d, t3, h3, h4⟩ := esc_pop (h2.symm.trans hat) (by decide)
            rcases h4 with ⟨_, h4⟩ | ⟨h4, _⟩
            · exact ⟨d, t3, by rw [h1, h3], h4⟩
            · exact absurd rfl h4
          obtain ⟨c0, c1, c2⟩ := hr3.three
          have f1 := hr3.free 1
          have hr4 := hr3.set1 (i + 1)
          have HO4 := Lib.hid (HO3.out.trans (OnlyR.set R 1 w3 (.int .i64 ((i + 1 : Nat) : Int))))
          clear hr3 HO3 hbk hb
          go_upto_region 6 with fail
          rw [show ((i : Int) + 1) = ((i + 1 : Nat) : Int) by omega]
          generalize w3.setCell ⟨R, 1, none⟩ (.int .i64 ((i + 1 : Nat) : Int)) = w4 at *
          clear c0 c1 c2 f1
          have hki' : k1 ≤ i + 1 := by omega
          have hst' : st.size + k1 ≤ i + 1 := by omega
          generalize hj : i + 1 = j at *
          have hji : i < j := by omega
          have HR4 := Lib.hid hr4
          obtain ⟨c0, c1, c2⟩ := hr4.three
          have f1 := hr4.free 1
          have f2 := hr4.free 2
          clear hr4
          by_cases hz : j < S.size
          · have i1 : (j : Int) < (S.size : Int) := by omega
            have i2 : ¬ (S.size : Int) ≤ (j : Int) := by omega
            have i3 : (j : Int) ≤ (j : Int) + 1 := by omega
            have i4 : (j : Int) + 1 ≤ (S.size : Int) := by omega
            have HAT := Lib.hid (left_at hz)
            obtain ⟨d, hd⟩ : ∃ d : UInt8, S[j] = d := ⟨_, rfl⟩
            rw [hd] at HAT
            have HCUT := Lib.hid (tB_one S j d _ HAT.out)
            have HSZ : Hid ((S.extract j (j + 1)).size = 1) := Lib.hid (by rw [HCUT.out, tB_size]; rfl)
            have HB5 : Hid (∀ t r : List UInt8, x1 = false → left S k1 = escL t ++ 34 :: r → ∃ t2, t = (st ++ S.extract j (j + 1)).data.toList ++ t2 ∧ left S (j + 1) = escL t2 ++ 34 :: r) := Lib.hid fun t r hx hl => by
              obtain ⟨d', t2, h1, h2⟩ := HB4.out t r hx hl
              rw [HAT.out] at h2
              obtain ⟨h3, h4⟩ := List.cons.inj h2
              exact ⟨t2, by rw [wapp, HCUT.out, tB_data, h1, h3]; simp, h4⟩
            have hsz5 : (st ++ S.extract j (j + 1)).size = st.size + 1 := by rw [ByteArray.size_append, HSZ.out]
            have o1 : ¬ 9223372036854775807 < st.size + (S.extract j (j + 1)).size := by rw [HSZ.out]; omega
            have HS5 := Lib.hid hsz5
            clear hd hsz5
            go_upto_region 6 with fail
            go_quiet (fail)
            have HO5 : Hid (OnlyR R w (w4.drewN nq)) := Lib.hid ⟨HO4.out.os, HO4.out.tape, HO4.out.output, HO4.out.size, HO4.out.block⟩
            have HR5 : Hid (RR (w4.drewN nq) R S j false) := Lib.hid HR4.out
            obtain ⟨c0, c1, c2⟩ := HR5.out.three
            have f1 := HR5.out.free 1
            clear HO4 HR4
            generalize w4.drewN nq = w5 at *
            go_upto_region 9 with fail
            generalize hse : S.extract j (j + 1) = se at *
            go_quiet (fail)
            have HO6 : Hid (OnlyR R w (w5.drewN nq)) := Lib.hid ⟨HO5.out.os, HO5.out.tape, HO5.out.output, HO5.out.size, HO5.out.block⟩
            have HR6 : Hid (RR (w5.drewN nq) R S j false) := Lib.hid HR5.out
            obtain ⟨c0, c1, c2⟩ := HR6.out.three
            have f1 := HR6.out.free 1
            clear HO5 HR5
            generalize w5.drewN nq = w6 at *
            go_wp2
            go_roundg (S.size - (j + 1))
            case measure => omega
            case rel => exact ⟨j + 1, false, _, rfl, by omega, by omega, by have := HS5.out; omega, Lib.hid (HR6.out.set1 (j + 1)), Lib.hid (HO6.out.trans (OnlyR.set R 1 w6 _)), hbx, Lib.hid fun t r hx hl => ⟨rfl, HB5.out t r hx hl⟩⟩
          · have i1 : ¬ (j : Int) < (S.size : Int) := by omega
            have i2 : (S.size : Int) ≤ (j : Int) := by omega
            have HB5 : Hid (∀ t r : List UInt8, x1 = false → ¬ left S k1 = escL t ++ 34 :: r) := Lib.hid fun t r hx hl => by
              obtain ⟨d', t2, h1, h2⟩ := HB4.out t r hx hl
              rw [left_nil (Nat.le_of_not_lt hz)] at h2
              cases h2
            go_upto_region 6 with fail
            go_quiet (fail)
            have HO5 : Hid (OnlyR R w (w4.drewN nq)) := Lib.hid ⟨HO4.out.os, HO4.out.tape, HO4.out.output, HO4.out.size, HO4.out.block⟩
            have HR5 : Hid (RR (w4.drewN nq) R S j false) := Lib.hid HR4.out
            obtain ⟨c0, c1, c2⟩ := HR5.out.three
            have f1 := HR5.out.free 1
            have f2 := HR5.out.free 2
            clear HO4 HR4
            generalize w4.drewN nq = w5 at *
            go_wp2
            go_ret
            refine ⟨_, j, true, rfl, HR5.out.set2 true, HO5.out.trans (OnlyR.set R 2 w5 _), by omega, by omega, fun _ => rfl, by show 0 + k ≤ _; omega, fun h => ?_, fun t r hx hl => ?_⟩
            · have := HEK.out h
              show 0 + k + 1 ≤ _
              omega
            · obtain ⟨h1, h2⟩ := HBK.out t r hx hl
              exact absurd h2 (HB5.out t r h1)
        | false =>
          have HB4 : Hid (∀ t r : List UInt8, x1 = false → left S k1 = escL t ++ 34 :: r → ∃ d t2, t = st.data.toList ++ d :: t2 ∧ left S i = d :: (escL t2 ++ 34 :: r)) := Lib.hid fun t r hx hl => by
            obtain ⟨_, t2, h1, h2⟩ := hbk.out t r hx hl
            have hne : t2 ≠ [] := by
              rintro rfl
              obtain ⟨_, _, h3⟩ := left_cons (c := 34) (l := r) h2
              rw [HQ.out] at h3; cases h3
            cases t2 with
            | nil => exact absurd rfl hne
            | cons d t3 =>
              by_cases hd : (d == 34 || d == 92) = true
              · exfalso
                have e1 : escL (d :: t3) = 92 :: d :: escL t3 := by rw [escL]; exact if_pos hd
                rw [e1] at h2
                obtain ⟨_, _, h3⟩ := left_cons h2
                rw [hb] at h3; cases h3
              · have e1 : escL (d :: t3) = d :: escL t3 := by rw [escL]; exact if_neg hd
                exact ⟨d, t3, h1, by rw [h2, e1]; rfl⟩
          have hr4 := hr3
          have HO4 := HO3
          clear hr3 HO3 hbk hb
          obtain ⟨w4, rfl⟩ : ∃ W : World, W = w3 := ⟨_, rfl⟩
          have HR4 := Lib.hid hr4
          obtain ⟨c0, c1, c2⟩ := hr4.three
          have f1 := hr4.free 1
          have f2 := hr4.free 2
          clear hr4
          by_cases hz : i < S.size
          · have i1 : (i : Int) < (S.size : Int) := by omega
            have i2 : ¬ (S.size : Int) ≤ (i : Int) := by omega
            have i3 : (i : Int) ≤ (i : Int) + 1 := by omega
            have i4 : (i : Int) + 1 ≤ (S.size : Int) := by omega
            have HAT := Lib.hid (left_at hz)
            obtain ⟨d, hd⟩ : ∃ d : UInt8, S[i] = d := ⟨_, rfl⟩
            rw [hd] at HAT
            have HCUT := Lib.hid (tB_one S i d _ HAT.out)
            have HSZ : Hid ((S.extract i (i + 1)).size = 1) := Lib.hid (by rw [HCUT.out, tB_size]; rfl)
            have HB5 : Hid (∀ t r : List UInt8, x1 = false → left S k1 = escL t ++ 34 :: r → ∃ t2, t = (st ++ S.extract i (i + 1)).data.toList ++ t2 ∧ left S (i + 1) = escL t2 ++ 34 :: r) := Lib.hid fun t r hx hl => by
              obtain ⟨d', t2, h1, h2⟩ := HB4.out t r hx hl
              rw [HAT.out] at h2
              obtain ⟨h3, h4⟩ := List.cons.inj h2
              exact ⟨t2, by rw [wapp, HCUT.out, tB_data, h1, h3]; simp, h4⟩
            have hsz5 : (st ++ S.extract i (i + 1)).size = st.size + 1 := by rw [ByteArray.size_append, HSZ.out]
            have o1 : ¬ 9223372036854775807 < st.size + (S.extract i (i + 1)).size := by rw [HSZ.out]; omega
            have HS5 := Lib.hid hsz5
            clear hd hsz5
            go_upto_region 6 with fail
            go_quiet (fail)
            have HO5 : Hid (OnlyR R w (w4.drewN nq)) := Lib.hid ⟨HO4.out.os, HO4.out.tape, HO4.out.output, HO4.out.size, HO4.out.block⟩
            have HR5 : Hid (RR (w4.drewN nq) R S i false) := Lib.hid HR4.out
            obtain ⟨c0, c1, c2⟩ := HR5.out.three
            have f1 := HR5.out.free 1
            clear HO4 HR4
            generalize w4.drewN nq = w5 at *
            go_upto_region 9 with fail
            generalize hse : S.extract i (i + 1) = se at *
            go_quiet (fail)
            have HO6 : Hid (OnlyR R w (w5.drewN nq)) := Lib.hid ⟨HO5.out.os, HO5.out.tape, HO5.out.output, HO5.out.size, HO5.out.block⟩
            have HR6 : Hid (RR (w5.drewN nq) R S i false) := Lib.hid HR5.out
            obtain ⟨c0, c1, c2⟩ := HR6.out.three
            have f1 := HR6.out.free 1
            clear HO5 HR5
            generalize w5.drewN nq = w6 at *
            go_wp2
            go_roundg (S.size - (i + 1))
            case measure => omega
            case rel => exact ⟨i + 1, false, _, rfl, by omega, by omega, by have := HS5.out; omega, Lib.hid (HR6.out.set1 (i + 1)), Lib.hid (HO6.out.trans (OnlyR.set R 1 w6 _)), hbx, Lib.hid fun t r hx hl => ⟨rfl, HB5.out t r hx hl⟩⟩
          · have i1 : ¬ (i : Int) < (S.size : Int) := by omega
            have i2 : (S.size : Int) ≤ (i : Int) := by omega
            have HB5 : Hid (∀ t r : List UInt8, x1 = false → ¬ left S k1 = escL t ++ 34 :: r) := Lib.hid fun t r hx hl => by
              obtain ⟨d', t2, h1, h2⟩ := HB4.out t r hx hl
              rw [left_nil (Nat.le_of_not_lt hz)] at h2
              cases h2
            go_upto_region 6 with fail
            go_quiet (fail)
            have HO5 : Hid (OnlyR R w (w4.drewN nq)) := Lib.hid ⟨HO4.out.os, HO4.out.tape, HO4.out.output, HO4.out.size, HO4.out.block⟩
            have HR5 : Hid (RR (w4.drewN nq) R S i false) := Lib.hid HR4.out
            obtain ⟨c0, c1, c2⟩ := HR5.out.three
            have f1 := HR5.out.free 1
            have f2 := HR5.out.free 2
            clear HO4 HR4
            generalize w4.drewN nq = w5 at *
            go_wp2
            go_ret
            refine ⟨_, i, true, rfl, HR5.out.set2 true, HO5.out.trans (OnlyR.set R 2 w5 _), by omega, by omega, fun _ => rfl, by show 0 + k ≤ _; omega, fun h => ?_, fun t r hx hl => ?_⟩
            · have := HEK.out h
              show 0 + k + 1 ≤ _
              omega
            · obtain ⟨h1, h2⟩ := HBK.out t r hx hl
              exact absurd h2 (HB5.out t r h1)
end Go.Proofs.YtggoebbfgkebcaaGreatDoor

namespace Go.Proofs.YtggoebbfgkebcaaGreatDoor
open Go.RowKit Go.Sort Go.Maps

section
variable {w : World} {ops : Array Oper} {rest : List Oper} {o : Oper} {a : Act} {K : Act → World → Prop} {Q : Exit → Act → World → Prop} {E : Prop}
theorem step_letters {R : Nat} {S : ByteArray} {k : Nat} {x : Bool} (hgd : o.guard = none) (p : Operand) (ho : o.op = .call { callee := .value (.func 68), args := #[p], argTypes := #[56] })
    (hp : a.eval p = .pointer (some ⟨R, 0, none⟩)) (hR : RR w R S k x) (hs : S.size ≤ 10000000) (hk : k ≤ S.size)
    (h : ∀ j w', RR w' R S j x → OnlyR R w w' → left S j = (left S k).dropWhile small → k ≤ j → j ≤ S.size → ((left S k).takeWhile small).length + k = j → K (a.put o.dst (.string (tB ((left S k).takeWhile small)))) w') :
    if Region.wanted o (yielded ops a.tmps) = true then Oper.wp Tryz.prog o a w K Q else E := by
  have hwn : Region.wanted o (yielded ops a.tmps) = true := by simp [Region.wanted, hgd]
  rw [if_pos hwn]
  have hrun : (execOp a.eval o).run Tryz.prog w = .ok (.enter 68 #[.pointer (some ⟨R, 0, none⟩)]) w := by
    have hf : a.eval (.func 68) = .func (.func 68) #[] #[] := rfl
    obtain ⟨c, hc⟩ : ∃ c, Tryz.f68.body = some c := Option.isSome_iff_exists.1 (by kernel_rfl)
    have hne : ¬ Tryz.f68.name = "runtime.NumGoroutine" := of_decide_eq_false (by kernel_rfl)
    simp [execOp, ho, resolve, invoke, hp, hf, Deferred.ofValue, callFunc, hne, hc]
  unfold Oper.wp
  rw [hrun, Oper.upon_enter]
  refine (rr_letters R S k x w hR hs hk).mono fun e w'' hh => ?_
  obtain ⟨j, rfl, h1, h2, h3, h4, h5, h6⟩ := hh
  exact h j w'' h1 h2 h3 h4 h5 h6
theorem step_quoted {R : Nat} {S : ByteArray} {k : Nat} {x : Bool} (hgd : o.guard = none) (p : Operand) (ho : o.op = .call { callee := .value (.func 66), args := #[p], argTypes := #[56] })
    (hp : a.eval p = .pointer (some ⟨R, 0, none⟩)) (hR : RR w R S k x) (hs : S.size ≤ 10000000) (hk : k ≤ S.size)
    (h : ∀ s j y w', RR w' R S j y → OnlyR R w w' → QuoK S k x s j y → K (a.put o.dst (.string s)) w') :
    if Region.wanted o (yielded ops a.tmps) = true then Oper.wp Tryz.prog o a w K Q else E := by
  have hwn : Region.wanted o (yielded ops a.tmps) = true := by simp [Region.wanted, hgd]
  rw [if_pos hwn]
  have hrun : (execOp a.eval o).run Tryz.prog w = .ok (.enter 66 #[.pointer (some ⟨R, 0, none⟩)]) w := by
    have hf : a.eval (.func 66) = .func (.func 66) #[] #[] := rfl
    obtain ⟨c, hc⟩ : ∃ c, Tryz.f66.body = some c := Option.isSome_iff_exists.1 (by kernel_rfl)
    have hne : ¬ Tryz.f66.name = "runtime.NumGoroutine" := of_decide_eq_false (by kernel_rfl)
    simp [execOp, ho, resolve, invoke, hp, hf, Deferred.ofValue, callFunc, hne, hc]
  unfold Oper.wp
  rw [hrun, Oper.upon_enter]
  refine (rr_quoted R S k x w hR hs hk).mono fun e w'' hh => ?_
  obtain ⟨s, j, y, rfl, h1, h2, h3⟩ := hh
  exact h s j y w'' h1 h2 h3
end

/-- The variable of the node that is read, and the one of the answer, behind the caller's blocks. -/
structure AtN (w : World) (R : Nat) (S : ByteArray) (W : World) (i : Nat) (y : Bool) (v0 v1 v2 v3 v4 : Value) : Prop where
  rr : RR W R S i y
  nb : W.heap[w.heap.size + 1]? = some (.cells #[v0, v1, v2, v3, v4] 41)
  rb : W.heap[w.heap.size]? = some (.cells #[.string ⟨#[]⟩, .string ⟨#[]⟩, .slice none 0 0, .slice none 0 0, .slice none 0 0] 41)
  only : OnlyR R w W
  lt : R < w.heap.size
  size : w.heap.size + 2 ≤ W.heap.size
section
variable {w W W2 : World} {R : Nat} {S : ByteArray} {i j : Nat} {y z : Bool} {v0 v1 v2 v3 v4 : Value}
theorem AtN.step (h : AtN w R S W i y v0 v1 v2 v3 v4) (o : OnlyR R W W2) (h2 : RR W2 R S j z) : AtN w R S W2 j z v0 v1 v2 v3 v4 := by
  have hz := h.size
  have hl := h.lt
  exact ⟨h2, (o.block _ (by omega) (by omega)).trans h.nb, (o.block _ (by omega) (by omega)).trans h.rb, h.only.trans o, hl, Nat.le_trans hz o.size⟩
theorem AtN.below (h : AtN w R S W i y v0 v1 v2 v3 v4) (hb : Below W.heap.size W W2) : AtN w R S W2 i y v0 v1 v2 v3 v4 :=
  h.step (OnlyR.of_below R hb) (h.rr.below hb h.rr.lt)
theorem AtN.grown {b : Option Nat} (h : AtN w R S W i y v0 v1 v2 v3 v4) (g : W.grownBy W2 b) (hb : ∀ k, b = some k → w.heap.size + 2 ≤ k) : AtN w R S W2 i y v0 v1 v2 v3 v4 := by
  have hz := h.size
  have hl := h.lt
  have key : ∀ k, k < w.heap.size + 2 → W2.heap[k]? = W.heap[k]? := fun k hk => g.block k (by omega) fun e => by have := hb k e.symm; omega
  exact ⟨(key R (by omega)).trans h.rr, (key _ (by omega)).trans h.nb, (key _ (by omega)).trans h.rb, ⟨g.os.trans h.only.os, g.tape.trans h.only.tape, g.output.trans h.only.output, Nat.le_trans h.only.size g.size, fun k hk hn => (key k (by omega)).trans (h.only.block k hk hn)⟩, hl, Nat.le_trans hz g.size⟩
theorem AtN.set {u0 u1 u2 u3 u4 : Value} (h : AtN w R S W i y v0 v1 v2 v3 v4) (c : Nat) (v : Value) (hn : (W.setCell ⟨w.heap.size + 1, c, none⟩ v).heap[w.heap.size + 1]? = some (.cells #[u0, u1, u2, u3, u4] 41)) :
    AtN w R S (W.setCell ⟨w.heap.size + 1, c, none⟩ v) i y u0 u1 u2 u3 u4 := by
  have hz := h.size
  have hl := h.lt
  have key : ∀ k, k ≠ w.heap.size + 1 → (W.setCell ⟨w.heap.size + 1, c, none⟩ v).heap[k]? = W.heap[k]? := fun k hk => Below.heap_setCell _ _ _ _ hk
  exact ⟨(key R (by omega)).trans h.rr, hn, (key _ (by omega)).trans h.rb, ⟨h.only.os, h.only.tape, h.only.output, by simpa [World.setCell] using h.only.size, fun k hk hn' => (key k (by omega)).trans (h.only.block k hk hn')⟩, hl, by simpa [World.setCell] using hz⟩
theorem AtN.set0 (h : AtN w R S W i y v0 v1 v2 v3 v4) (v : Value) : AtN w R S (W.setCell ⟨w.heap.size + 1, 0, none⟩ v) i y v v1 v2 v3 v4 := h.set 0 v (heap_setCell_same W _ 0 _ _ v h.nb)
theorem AtN.set1 (h : AtN w R S W i y v0 v1 v2 v3 v4) (v : Value) : AtN w R S (W.setCell ⟨w.heap.size + 1, 1, none⟩ v) i y v0 v v2 v3 v4 := h.set 1 v (heap_setCell_same W _ 1 _ _ v h.nb)
theorem AtN.set2 (h : AtN w R S W i y v0 v1 v2 v3 v4) (v : Value) : AtN w R S (W.setCell ⟨w.heap.size + 1, 2, none⟩ v) i y v0 v1 v v3 v4 := h.set 2 v (heap_setCell_same W _ 2 _ _ v h.nb)
theorem AtN.set3 (h : AtN w R S W i y v0 v1 v2 v3 v4) (v : Value) : AtN w R S (W.setCell ⟨w.heap.size + 1, 3, none⟩ v) i y v0 v1 v2 v v4 := h.set 3 v (heap_setCell_same W _ 3 _ _ v h.nb)
theorem AtN.set4 (h : AtN w R S W i y v0 v1 v2 v3 v4) (v : Value) : AtN w R S (W.setCell ⟨w.heap.size + 1, 4, none⟩ v) i y v0 v1 v2 v3 v := h.set 4 v (heap_setCell_same W _ 4 _ _ v h.nb)
theorem AtN.cells (h : AtN w R S W i y v0 v1 v2 v3 v4) : W.cell? ⟨w.heap.size + 1, 0, none⟩ = some v0 ∧ W.cell? ⟨w.heap.size + 1, 1, none⟩ = some v1 ∧ W.cell? ⟨w.heap.size + 1, 2, none⟩ = some v2 ∧ W.cell? ⟨w.heap.size + 1, 3, none⟩ = some v3 ∧ W.cell? ⟨w.heap.size + 1, 4, none⟩ = some v4 := five_cells h.nb
theorem AtN.free (h : AtN w R S W i y v0 v1 v2 v3 v4) (c : Nat) : W.frozen? ⟨w.heap.size + 1, c, none⟩ = false := frozen_of_row W _ c _ _ h.nb
theorem AtN.freeR (h : AtN w R S W i y v0 v1 v2 v3 v4) (c : Nat) : W.frozen? ⟨w.heap.size, c, none⟩ = false := frozen_of_row W _ c _ _ h.rb
theorem ownsRow_set {base : Nat} {e : TypeId} {size : Nat} {v u : Value} {n N c : Nat} {xs : List Value} (h : W.ownsRow base e size v n xs) (hN : N < base) : (W.setCell ⟨N, c, none⟩ u).ownsRow base e size v n xs :=
  ownsRow_block h fun g hg => Below.heap_setCell _ _ _ _ (show g ≠ N by
    rcases h.2 with ⟨rfl, _⟩ | ⟨g', cap, cur, rfl, hb, _⟩
    · cases hg
    · have : g' = g := Option.some.inj hg
      omega)
end

/-- A row of nodes of the call's own, with what is in its nodes: all behind the block base, and the row's own block apart. -/
def NRow (w : World) (base : Nat) (v : Value) (l : List Tree) : Prop := Own w base (fun b => base ≤ b ∧ b < w.heap.size ∧ some b ≠ v.ownBlock) v l
theorem NRow.nil (w : World) (base : Nat) : NRow w base (.slice none 0 0) [] := ⟨[], World.ownsRow_nil _ _ _ _, rfl⟩
theorem NRow.only {w W : World} {R base : Nat} {v : Value} {l : List Tree} (h : NRow w base v l) (o : OnlyR R w W) (hR : R < base) : NRow W base v l := by
  obtain ⟨xs, ho, hc⟩ := h
  exact ⟨xs, ownsRow_only ho o hR, hc.keep (fun b hb => ⟨hb.1, Nat.lt_of_lt_of_le hb.2.1 o.size, hb.2.2⟩) fun b hb => o.block b hb.2.1 (by have := hb.1; omega)⟩
theorem NRow.kids {w : World} {base : Nat} {v : Value} {l : List Tree} (h : NRow w base v l) : Kids w (From base w.heap.size) v l :=
  Own.kids h (fun _ hb => ⟨hb.1, hb.2.1⟩) fun _ hg => Own.lt h _ hg
theorem NRow.form {w : World} {base : Nat} {v : Value} {l : List Tree} (h : NRow w base v l) : ∃ A c, v = .slice A l.length c := by
  obtain ⟨A, c, rfl, _⟩ := Own.form h
  exact ⟨A, c, rfl⟩
/-- What stands at the append of a node that was just read. -/
theorem NRow.push {w W : World} {R base : Nat} {v : Value} {l : List Tree} {t : Tree} {vm va vk : Value} (h : NRow w base v l) (o : OnlyR R w W) (hR : R < base) (hb : base ≤ w.heap.size)
    (hm : Strs W (From w.heap.size W.heap.size) vm t.marks) (ha : Pairs W (From w.heap.size W.heap.size) va t.attrs) (hk : Kids W (From w.heap.size W.heap.size) vk t.kids) :
    Own (W.alloc (.cells #[.string t.kind, .string t.text, vm, va, vk] 41)) base (fun b => base ≤ b ∧ b < W.heap.size ∧ some b ≠ v.ownBlock) v l ∧
    Src (W.alloc (.cells #[.string t.kind, .string t.text, vm, va, vk] 41)) (fun b => base ≤ b ∧ b < W.heap.size ∧ some b ≠ v.ownBlock) (.slice (some ⟨W.heap.size, 0, none⟩) 1 1) [t] ∧
    (∀ b, (base ≤ b ∧ b < W.heap.size ∧ some b ≠ v.ownBlock) → b < (W.alloc (.cells #[.string t.kind, .string t.text, vm, va, vk] 41)).heap.size ∧ some b ≠ v.ownBlock) ∧
    base ≤ (W.alloc (.cells #[.string t.kind, .string t.text, vm, va, vk] 41)).heap.size ∧
    (∀ (v' : Value) (w' : World), Own w' base (fun b => base ≤ b ∧ b < W.heap.size ∧ some b ≠ v.ownBlock) v' (l ++ [t]) → (W.alloc (.cells #[.string t.kind, .string t.text, vm, va, vk] 41)).grownBy w' v.ownBlock →
      (v'.ownBlock = v.ownBlock ∨ v'.ownBlock = some (W.alloc (.cells #[.string t.kind, .string t.text, vm, va, vk] 41)).heap.size) → NRow w' base v' (l ++ [t]) ∧ Below base W w') := by
  have hO := h.only o hR
  have hlt := Own.lt h
  have hBA : Below W.heap.size W (W.alloc (.cells #[.string t.kind, .string t.text, vm, va, vk] 41)) := (Below.refl _ _).alloc (Nat.le_refl _) _
  have hsz : (W.alloc (.cells #[.string t.kind, .string t.text, vm, va, vk] 41)).heap.size = W.heap.size + 1 := by simp
  have hF : ∀ b, From w.heap.size W.heap.size b → base ≤ b ∧ b < W.heap.size ∧ some b ≠ v.ownBlock := fun b hb' => ⟨Nat.le_trans hb hb'.1, hb'.2, fun e => by have := (hlt b e.symm).2; have := hb'.1; omega⟩
  have keep : ∀ b, From w.heap.size W.heap.size b → (W.alloc (.cells #[.string t.kind, .string t.text, vm, va, vk] 41)).heap[b]? = W.heap[b]? := fun b hb' => hBA.block b hb'.2
  refine ⟨Own.later hO hBA fun b hb' => hb'.2.1, ?_, fun b hb' => ⟨by omega, hb'.2.2⟩, by have := o.size; omega, fun v' w' h1 h2 h3 => ⟨?_, ?_⟩⟩
  · refine src_one (hm.keep hF keep) (ha.keep hF keep) (hk.keep hF keep) ?_ ?_ ?_ ?_ ?_ <;> exact fresh_cell W #[.string t.kind, .string t.text, vm, va, vk] _ _ _ rfl
  · refine Own.widen' h1 fun b hb' => ⟨hb'.1, Nat.lt_of_lt_of_le (by omega) h2.size, ?_⟩
    rcases h3 with h3 | h3
    · rw [h3]; exact hb'.2.2
    · rw [h3]; intro e; have e := Option.some.inj e; have := hb'.2.1; omega
  · have hB : Below base W (W.alloc (.cells #[.string t.kind, .string t.text, vm, va, vk] 41)) := hBA.mono (Nat.le_trans hb o.size)
    exact hB.grown h2 (by have := o.size; omega) fun k hk => (hlt k hk).1
where
  Own.widen' {w : World} {base : Nat} {S S' : Nat → Prop} {v : Value} {l : List Tree} (h : Own w base S v l) (hS : ∀ b, S b → S' b) : Own w base S' v l := by
    obtain ⟨xs, ho, hc⟩ := h
    exact ⟨xs, ho, hc.keep hS fun _ _ => rfl⟩
end Go.Proofs.YtggoebbfgkebcaaGreatDoor

namespace Go.Proofs.YtggoebbfgkebcaaGreatDoor
open Go.RowKit Go.Sort Go.Maps

/-- What node answers. -/
structure NodK (S : ByteArray) (k : Nat) (t : Tree) (j : Nat) (y : Bool) : Prop where
  le : j ≤ S.size
  more : y = true ∨ k < j
  ge : k ≤ j
  weigh : weigh t + 8 * k ≤ 8 * j + 2
  weigh1 : y = false → Go.Proofs.YtggoebbfgkebcaaGreatDoor.weigh t + 8 * k ≤ 8 * j
  back : ∀ u r, formedB u = true → Aft r → left S k = writeB u ++ r → t = u ∧ left S j = r ∧ y = false
def NodPost (R : Nat) (S : ByteArray) (k : Nat) (w : World) (e : Ending) (w' : World) : Prop :=
  ∃ v t j y, e = .returned v ∧ Node w' (From w.heap.size w'.heap.size) v t ∧ RR w' R S j y ∧ OnlyR R w w' ∧ NodK S k t j y
/-- What may stand behind nodes. -/
def EndR (r : List UInt8) : Prop := r = [] ∨ ∃ q, r = 93 :: q
theorem EndR.aft {r : List UInt8} (h : EndR r) : Aft r := by
  rcases h with rfl | ⟨q, rfl⟩
  · exact aft_nil
  · exact aft_93 q
/-- What nodes answers. -/
structure NodsK (S : ByteArray) (k : Nat) (x : Bool) (ts : List Tree) (j : Nat) (y : Bool) : Prop where
  le : j ≤ S.size
  ge : k ≤ j
  bad : x = true → y = true ∧ ts = []
  weigh : weighAll ts + 8 * k ≤ 8 * j + 2
  back : ∀ us r, x = false → (∀ u ∈ us, formedB u = true) → EndR r → left S k = writeAllB us ++ r → ts = us ∧ left S j = r ∧ y = false
def NodsPost (R : Nat) (S : ByteArray) (k : Nat) (x : Bool) (w : World) (e : Ending) (w' : World) : Prop :=
  ∃ v ts j y, e = .returned v ∧ Kids w' (From w.heap.size w'.heap.size) v ts ∧ RR w' R S j y ∧ OnlyR R w w' ∧ NodsK S k x ts j y
def RNode (n : Nat) : Prop := ∀ (R : Nat) (S : ByteArray) (k : Nat) (w : World), RR w R S k false → S.size ≤ 124000 → k ≤ S.size → S.size < n + k → n ≤ 1000000 →
  Calls Tryz.prog 39 #[.pointer (some ⟨R, 0, none⟩), .int .i64 (n : Int)] w (NodPost R S k w)
def RNodes (n : Nat) : Prop := ∀ (R : Nat) (S : ByteArray) (k : Nat) (x : Bool) (w : World), RR w R S k x → S.size ≤ 124000 → k ≤ S.size → (x = false → S.size < n + k) → n ≤ 1000000 →
  Calls Tryz.prog 69 #[.pointer (some ⟨R, 0, none⟩), .int .i64 (n : Int)] w (NodsPost R S k x w)

theorem write_first {u : Tree} (h : formedB u = true) : ∃ c l, writeB u = c :: l ∧ c ≠ 93 := by
  obtain ⟨k, x, m, a, l⟩ := u
  cases hk : isTxt k with
  | true => exact ⟨34, _, by rw [writeB, if_pos hk]; rfl, by decide⟩
  | false =>
    obtain ⟨hnm, _, _, _, _⟩ := node_parts hk h
    cases hc : k.data.toList with
    | nil => exact absurd hc (name_ne hnm)
    | cons c q =>
      refine ⟨c, _, by rw [writeB, hk]; simp only [Bool.false_eq_true, if_false]; rw [hc]; rfl, fun e => ?_⟩
      have := name_small hnm c (by rw [hc]; simp)
      rw [e] at this; revert this; decide

/-- How far nodes have been read. -/
structure NodsR (S : ByteArray) (k : Nat) (x : Bool) (ts : List Tree) (i : Nat) (y : Bool) : Prop where
  ge : k ≤ i
  le : i ≤ S.size
  bad : x = true → y = true ∧ ts = []
  weigh : weighAll ts + 8 * k ≤ 8 * i + 2
  weigh1 : y = false → weighAll ts + 8 * k ≤ 8 * i
  back : ∀ us r, x = false → (∀ u ∈ us, formedB u = true) → EndR r → left S k = writeAllB us ++ r → y = false ∧ ∃ us2, us = ts ++ us2 ∧ left S i = writeAllB us2 ++ r
theorem NodsR.start {S : ByteArray} {k : Nat} {x : Bool} (hk : k ≤ S.size) : NodsR S k x [] k x :=
  ⟨Nat.le_refl _, hk, fun h => ⟨h, rfl⟩, by simp [weighAll], fun _ => by simp [weighAll], fun us r hx _ _ hl => ⟨hx, us, rfl, hl⟩⟩
/-- .. to the end. -/
theorem NodsR.stop {S : ByteArray} {k i : Nat} {x y : Bool} {ts : List Tree} (h : NodsR S k x ts i y) (hs : y = true ∨ S.size ≤ i ∨ isC S i 93 = true) : NodsK S k x ts i y := by
  refine ⟨h.le, h.ge, h.bad, h.weigh, fun us r hx hf hr hl => ?_⟩
  obtain ⟨hy, us2, he, h2⟩ := h.back us r hx hf hr hl
  have hnil : us2 = [] := by
    cases us2 with
    | nil => rfl
    | cons u us2 =>
      exfalso
      obtain ⟨c, l, hw, hc⟩ := write_first (hf u (by rw [he]; simp))
      rw [writeAllB, hw] at h2
      obtain ⟨hlt, _, _⟩ := left_cons (c := c) (l := l ++ writeAllB us2 ++ r) (by rw [h2]; simp)
      rcases hs with hs | hs | hs
      · rw [hy] at hs; cases hs
      · omega
      · rw [left_no (c := c) (l := l ++ writeAllB us2 ++ r) (by rw [h2]; simp) hc] at hs; cases hs
  subst hnil
  exact ⟨by rw [he]; simp, by rw [h2]; simp [writeAllB], hy⟩
/-- .. a node more. -/
theorem NodsR.next {S : ByteArray} {k i j : Nat} {x y : Bool} {ts : List Tree} {t : Tree} (h : NodsR S k x ts i false) (hi : i < S.size) (h93 : isC S i 93 = false) (hn : NodK S i t j y) : NodsR S k x (ts ++ [t]) j y := by
  have hw := h.weigh1 rfl
  have hap : weighAll (ts ++ [t]) = weighAll ts + Go.Proofs.YtggoebbfgkebcaaGreatDoor.weigh t := by rw [weighAll_append]; simp [weighAll]
  refine ⟨Nat.le_trans h.ge hn.ge, hn.le, fun hx => ?_, ?_, fun hy => ?_, fun us r hx hf hr hl => ?_⟩
  · have := (h.bad hx).1; cases this
  · have := hn.weigh; omega
  · have := hn.weigh1 hy; omega
  · obtain ⟨_, us2, he, h2⟩ := h.back us r hx hf hr hl
    cases us2 with
    | nil =>
      exfalso
      rw [writeAllB, List.nil_append] at h2
      rcases hr with rfl | ⟨q, rfl⟩
      · rw [left_at hi] at h2; cases h2
      · rw [(left_cons h2).2.2] at h93; cases h93
    | cons u us3 =>
      rw [writeAllB, List.append_assoc] at h2
      have hfu : ∀ v ∈ us3, formedB v = true := fun v hv => hf v (by rw [he]; simp [hv])
      obtain ⟨e1, e2, e3⟩ := hn.back u (writeAllB us3 ++ r) (hf u (by rw [he]; simp)) (aft_all us3 r hfu hr.aft) h2
      exact ⟨e3, us3, by rw [he, e1]; simp, e2⟩

set_option maxHeartbeats 8000000 in
theorem rr_nodes (n : Nat) (ih : RNode n) : RNodes n := by
  intro R S k x w h hs hk hn hn6
  have IH := Lib.hid ih
  have HN := Lib.hid hn
  have hRw := h.lt
  have HR := Lib.hid h
  clear ih h hn
  go_enter Tryz.func69, Tryz.ntmps69
  go_wp2
  go_loopg [5] (S.size + 1) (fun g s5 wx => ∃ (v : Value) (ts : List Tree) (i : Nat) (y : Bool), v = s5 ∧ Hid (NRow wx w.heap.size v ts) ∧ Hid (RR wx R S i y) ∧ Hid (OnlyR R w wx) ∧ Hid (y = false → S.size - i + 1 ≤ g) ∧ Hid (NodsR S k x ts i y))
  case atStart => exact ⟨_, [], k, x, rfl, Lib.hid (NRow.nil _ _), HR, Lib.hid (OnlyR.refl R w), Lib.hid fun _ => by omega, Lib.hid (NodsR.start hk)⟩
  case round =>
    obtain ⟨v, ts, i, y, rfl, hro, hr, ho, hg, hq⟩ := hrel
    obtain ⟨A, cp, rfl⟩ := hro.out.form
    obtain ⟨c0, c1, c2⟩ := hr.out.three
    have hki := hq.out.ge
    have hil := hq.out.le
    cases y with
    | true =>
      have HQ := Lib.hid (hq.out.stop (.inl rfl))
      clear hq hg
      go_upto_region 2 with fail
      go_quiet (fail)
      go_wp2
      go_ret
      exact ⟨_, ts, i, true, rfl, hro.out.kids.keep (fun _ h => h) fun _ _ => rfl, hr.out, ⟨ho.out.os, ho.out.tape, ho.out.output, ho.out.size, ho.out.block⟩, HQ.out⟩
    | false =>
      by_cases hlt : i < S.size
      · have i1 : (i : Int) < (S.size : Int) := by omega
        have HC : Hid (∀ m, Calls Tryz.prog 65 #[.pointer (some ⟨R, 0, none⟩), .int .u8 93] (wr.drewN m) fun e w' => e = .returned (.bool (isC S i 93)) ∧ ∃ n, w' = (wr.drewN m).drewN n) := Lib.hid fun m => rr_isN R S i false 93 (wr.drewN m) hr.out hil
        cases h93 : isC S i 93 with
        | true =>
          have HQ := Lib.hid (hq.out.stop (.inr (.inr h93)))
          rw [h93] at HC
          clear hq hg h93
          go_upto_region 2 with fail
          go_quiet ((go_at_call 65; exact Calls.quiet_of (HC.out _)))
          go_wp2
          go_ret
          exact ⟨_, ts, i, false, rfl, hro.out.kids.keep (fun _ h => h) fun _ _ => rfl, hr.out, ⟨ho.out.os, ho.out.tape, ho.out.output, ho.out.size, ho.out.block⟩, HQ.out⟩
        | false =>
          rw [h93] at HC
          have H93 := Lib.hid h93
          clear h93
          go_upto_region 2 with fail
          go_quiet ((go_at_call 65; exact Calls.quiet_of (HC.out _)))
          have HR2 : Hid (RR (wr.drewN nq) R S i false) := Lib.hid hr.out
          have HO2 : Hid (OnlyR R w (wr.drewN nq)) := Lib.hid ⟨ho.out.os, ho.out.tape, ho.out.output, ho.out.size, ho.out.block⟩
          have HRO2 : Hid (NRow (wr.drewN nq) w.heap.size (.slice A ts.length cp) ts) := Lib.hid (hro.out.only (R := R) ⟨rfl, rfl, rfl, Nat.le_refl _, fun _ _ _ => rfl⟩ hRw)
          clear HC c0 c1 c2 hr ho hro
          generalize wr.drewN nq = w2 at *
          have hni : S.size < n + i := by
            have h1 : x = false := by
              cases hx : x with
              | false => rfl
              | true => have := (hq.out.bad hx).1; cases this
            have := HN.out h1
            omega
          go_wp2_with fail
          refine (IH.out R S i w2 HR2.out hs hil hni hn6).mono ?_
          rintro e w3 ⟨v3, t, j, y3, rfl, hnd, h3, o3, hk3⟩
          obtain ⟨vm, va, vk, rfl, hm, ha, hkk⟩ := hnd
          have HQ3 := Lib.hid (hq.out.next hlt H93.out hk3)
          have hwt : ts.length + 1 ≤ 1000000 := by
            have h1 := hq.out.weigh1 rfl
            have h2 := length_le_weigh ts
            omega
          have HG : Hid (if y3 = true then 0 < gk else S.size - j + 1 < gk) := Lib.hid (by
            have h1 := hg.out (by simp)
            rcases hk3.more with h2 | h2
            · rw [h2]; simp only [if_true]; omega
            · have := hk3.le
              split <;> omega)
          have hp := HRO2.out.push (t := t) o3 hRw HO2.out.size hm ha hkk
          obtain ⟨A1, n1, d1, rfl⟩ : ∃ A n d, vm = .slice A n d := by obtain ⟨A, c, rfl, _⟩ := hm.form; exact ⟨_, _, _, rfl⟩
          obtain ⟨A2, n2, d2, rfl⟩ : ∃ A n d, va = .slice A n d := by obtain ⟨A, c, rfl, _⟩ := ha.form; exact ⟨_, _, _, rfl⟩
          obtain ⟨A3, n3, d3, rfl⟩ : ∃ A n d, vk = .slice A n d := by obtain ⟨A, c, rfl, _⟩ := hkk.form; exact ⟨_, _, _, rfl⟩
          have P1 := Lib.hid hp.1
          have P2 := Lib.hid hp.2.1
          have P3 := Lib.hid hp.2.2.1
          have P4 := Lib.hid hp.2.2.2.1
          have P5 := Lib.hid hp.2.2.2.2
          have HR3 := Lib.hid h3
          have HO3 := Lib.hid (HO2.out.trans o3)
          have HW : Hid (ts.length + 1 ≤ 1000000) := Lib.hid hwt
          clear hp hm ha hkk h3 o3 hk3 hq hg HRO2 HR2 HO2 hwt
          go_wp2_with (at_builtin; refine wpList_append_nodes rfl (.tmp 28) (.tmp 32) rfl w.heap.size (fun b => w.heap.size ≤ b ∧ b < w3.heap.size ∧ some b ≠ (Value.slice A ts.length cp).ownBlock) (.slice A ts.length cp) _ ts [t] rfl rfl P1.out P2.out P3.out HW.out P4.out ?_; intro v6 w6 ho6 hg6 ha6; have HP6 := Lib.hid (P5.out v6 w6 ho6 hg6 ha6); clear ho6 hg6 ha6)
          go_wp2
          cases y3 with
          | true =>
            have hg0 : 0 < gk := by have := HG.out; simpa using this
            go_roundg 0
            case measure => omega
            case rel => exact ⟨_, ts ++ [t], j, true, rfl, Lib.hid HP6.out.1, Lib.hid (HR3.out.below HP6.out.2 hRw), Lib.hid (HO3.out.thenBelow HP6.out.2 (Nat.le_refl _)), Lib.hid (fun e => by cases e), HQ3⟩
          | false =>
            have hg0 : S.size - j + 1 < gk := by have := HG.out; simpa using this
            go_roundg (S.size - j + 1)
            case measure => omega
            case rel => exact ⟨_, ts ++ [t], j, false, rfl, Lib.hid HP6.out.1, Lib.hid (HR3.out.below HP6.out.2 hRw), Lib.hid (HO3.out.thenBelow HP6.out.2 (Nat.le_refl _)), Lib.hid fun _ => Nat.le_refl _, HQ3⟩
      · have HQ := Lib.hid (hq.out.stop (.inr (.inl (Nat.le_of_not_lt hlt))))
        have i1 : ¬ (i : Int) < (S.size : Int) := by omega
        have i2 : decide ((i : Int) < (S.size : Int)) = false := decide_eq_false i1
        clear hq hg
        go_upto_region 2 with fail
        go_quiet (fail)
        go_wp2
        go_ret
        exact ⟨_, ts, i, false, rfl, hro.out.kids.keep (fun _ h => h) fun _ _ => rfl, hr.out, ⟨ho.out.os, ho.out.tape, ho.out.output, ho.out.size, ho.out.block⟩, HQ.out⟩
end Go.Proofs.YtggoebbfgkebcaaGreatDoor

namespace Go.Proofs.YtggoebbfgkebcaaGreatDoor
open Go.RowKit Go.Sort Go.Maps

/-- What letters answers. -/
structure LetK (S : ByteArray) (k : Nat) (nm : ByteArray) (j : Nat) : Prop where
  is : nm = tB ((left S k).takeWhile small)
  rest : left S j = (left S k).dropWhile small
  le : j ≤ S.size
  size : nm.size + k = j
theorem LetK.of {S : ByteArray} {k j : Nat} (h1 : left S j = (left S k).dropWhile small) (h2 : j ≤ S.size) (h3 : ((left S k).takeWhile small).length + k = j) : LetK S k (tB ((left S k).takeWhile small)) j :=
  ⟨rfl, h1, h2, by rw [tB_size]; exact h3⟩
theorem LetK.back {S : ByteArray} {k j : Nat} {nm z : ByteArray} {x : UInt8} {q : List UInt8} (h : LetK S k nm j) (hz : ∀ c ∈ z.data.toList, small c = true) (hx : small x = false) (hl : left S k = z.data.toList ++ x :: q) : nm = z ∧ left S j = x :: q := by
  obtain ⟨h1, h2⟩ := letters_take z.data.toList q x hz hx
  refine ⟨?_, by rw [h.rest, hl, h2]⟩
  rw [h.is, hl, h1]
  exact (tB_of rfl).symm
theorem eat_yes {S : ByteArray} {k : Nat} {c : UInt8} (h : isC S k c = true) : eatK S k c = k + 1 := if_pos h
theorem eat_back {S : ByteArray} {k : Nat} {c : UInt8} {l : List UInt8} (h : left S k = c :: l) : isC S k c = true ∧ left S (eatK S k c) = l := by
  obtain ⟨_, h2, h3⟩ := left_cons h
  exact ⟨h3, by rw [eat_yes h3]; exact h2⟩
theorem firstC_is {S : ByteArray} {k : Nat} {c d : UInt8} {l : List UInt8} (h : left S k = c :: l) (hc : isC S k d = true) : c = d := by
  unfold isC at hc; rw [h] at hc; simpa using hc

/-- The marks of a text, as far as they have been read. -/
structure MarkR (S : ByteArray) (k : Nat) (s : ByteArray) (m : List ByteArray) (i : Nat) (y : Bool) : Prop where
  le : i ≤ S.size
  weigh : s.size + weighL m + k + 1 ≤ i
  back : ∀ (x : ByteArray) (mm : List ByteArray) (r : List UInt8), (∀ z ∈ mm, nameB z = true) → Aft r → left S k = quoteL x.data.toList ++ (marksW mm ++ r) → s = x ∧ y = false ∧ ∃ m2, mm = m ++ m2 ∧ left S i = tailC m2 ++ 62 :: r
theorem weighL_snoc (m : List ByteArray) (s : ByteArray) : weighL (m ++ [s]) = weighL m + (s.size + 1) := by simp [weighL]
theorem weighP_snoc (m : List (ByteArray × ByteArray)) (p : ByteArray × ByteArray) : weighP (m ++ [p]) = weighP m + (p.1.size + p.2.size + 1) := by simp [weighP]
theorem QuoK.txt {S : ByteArray} {k j : Nat} {s : ByteArray} {y : Bool} (h : QuoK S k false s j y) (x : ByteArray) (q : List UInt8) (hl : left S k = quoteL x.data.toList ++ q) : s = x ∧ left S j = q ∧ y = false := by
  obtain ⟨h1, h2, h3⟩ := h.back _ _ rfl hl
  exact ⟨h1.trans (tB_of rfl).symm, h2, h3⟩
theorem MarkR.start {S : ByteArray} {k j i : Nat} {s nm : ByteArray} {y : Bool} (hq : QuoK S k false s j y) (h34 : isC S k 34 = true) (h60 : isC S j 60 = true) (hl : LetK S (eatK S j 60) nm i) : MarkR S k s [nm] i (y || !isC S j 60) := by
  rw [eat_yes h60] at hl
  refine ⟨hl.le, ?_, fun x mm r hm hr he => ?_⟩
  · have h1 := hq.more h34
    have h2 := hl.size
    simp only [weighL, List.map_cons, List.map_nil, List.sum_cons, List.sum_nil]; omega
  · obtain ⟨h1, h2, h3⟩ := hq.txt x _ he
    cases mm with
    | nil =>
      exfalso
      rw [show marksW [] ++ r = r from rfl] at h2
      cases r with
      | nil => rw [isC, h2] at h60; cases h60
      | cons c r => exact hr c rfl (firstC_is h2 h60)
    | cons z l =>
      obtain ⟨a, q, e, ha⟩ := tailC_next l r
      have e2 : marksW (z :: l) ++ r = 60 :: (z.data.toList ++ a :: q) := by
        rw [marksW_cons (by simp), commaM_tail, ← e]; simp
      rw [e2] at h2
      obtain ⟨_, h4, _⟩ := left_cons h2
      obtain ⟨h5, h6⟩ := hl.back (name_small (hm z (by simp))) ha h4
      exact ⟨h1, by rw [h3, h60]; rfl, l, by rw [h5]; rfl, by rw [h6, e]⟩
theorem MarkR.next {S : ByteArray} {k j i : Nat} {s nm : ByteArray} {m : List ByteArray} {y : Bool} (h : MarkR S k s m j y) (h44 : isC S j 44 = true) (hl : LetK S (eatK S j 44) nm i) : MarkR S k s (m ++ [nm]) i (y || !isC S j 44) := by
  rw [eat_yes h44] at hl
  refine ⟨hl.le, ?_, fun x mm r hm hr he => ?_⟩
  · have h1 := h.weigh
    have h2 := hl.size
    rw [weighL_snoc]; omega
  · obtain ⟨h1, h3, m2, h4, h5⟩ := h.back x mm r hm hr he
    cases m2 with
    | nil => exact absurd (firstC_is (show left S j = 62 :: r from h5) h44) (by decide)
    | cons z l =>
      obtain ⟨a, q, e, ha⟩ := tailC_next l r
      have e2 : tailC (z :: l) ++ 62 :: r = 44 :: (z.data.toList ++ a :: q) := by rw [tailC, ← e]; simp
      rw [e2] at h5
      obtain ⟨_, h6, _⟩ := left_cons h5
      obtain ⟨h7, h8⟩ := hl.back (name_small (hm z (by rw [h4]; simp))) ha h6
      exact ⟨h1, by rw [h3, h44]; rfl, l, by rw [h4, h7]; simp, by rw [h8, e]⟩
theorem text_of {S : ByteArray} {k : Nat} {u : Tree} {r : List UInt8} (h34 : isC S k 34 = true) (hf : formedB u = true) (hl : left S k = writeB u ++ r) : ∃ x mm, u = .mk TEXT x mm [] [] ∧ (∀ z ∈ mm, nameB z = true) ∧ left S k = quoteL x.data.toList ++ (marksW mm ++ r) := by
  obtain ⟨kd, x, mm, a, l⟩ := u
  cases hk : isTxt kd with
  | true =>
    obtain ⟨hm, rfl, rfl⟩ := text_parts hk hf
    have hkt : kd = TEXT := txt_eq hk (by unfold isTxt; rw [beq_iff_eq, Lib.toList_data]; rfl)
    subst hkt
    exact ⟨x, mm, rfl, marks_names hm, by rw [hl, writeB, if_pos hk, List.append_assoc]⟩
  | false =>
    exfalso
    obtain ⟨hnm, _, _, _, _⟩ := node_parts hk hf
    obtain ⟨c, q, hc⟩ : ∃ c q, kd.data.toList = c :: q := by
      cases h : kd.data.toList with
      | nil => exact absurd h (name_ne hnm)
      | cons c q => exact ⟨c, q, rfl⟩
    have hs := name_small hnm c (by rw [hc]; simp)
    rw [writeB, hk] at hl
    simp only [Bool.false_eq_true, if_false] at hl
    rw [hc] at hl
    have := firstC_is (show left S k = c :: _ from hl) h34
    rw [this] at hs
    revert hs; decide
theorem weigh_text (s : ByteArray) (m : List ByteArray) : weigh (Tree.mk TEXT s m [] []) = s.size + weighL m + 6 := by
  simp only [weigh, weighP, weighAll, List.map_nil, List.sum_nil]
  rw [show TEXT.size = 4 from rfl]; omega
theorem NodK.text {S : ByteArray} {k j : Nat} {s : ByteArray} {y : Bool} (hq : QuoK S k false s j y) (h34 : isC S k 34 = true) (h60 : isC S j 60 = false) : NodK S k (Tree.mk TEXT s [] [] []) j y := by
  have h1 := hq.more h34
  have hw := weigh_text s []
  simp only [weighL, List.map_nil, List.sum_nil] at hw
  refine ⟨hq.le, .inr (by omega), hq.ge, by omega, fun _ => by omega, fun u r hf hr hl => ?_⟩
  obtain ⟨x, mm, rfl, hm, he⟩ := text_of h34 hf hl
  obtain ⟨h2, h3, h4⟩ := hq.txt x _ he
  cases mm with
  | nil => exact ⟨by rw [h2], h3, h4⟩
  | cons z l =>
    exfalso
    rw [marksW_cons (by simp)] at h3
    rw [(left_cons (c := 60) (l := commaM (z :: l) ++ [62] ++ r) (by rw [h3]; simp)).2.2] at h60
    cases h60
theorem NodK.marks {S : ByteArray} {k j : Nat} {s : ByteArray} {m : List ByteArray} {y : Bool} (h : MarkR S k s m j y) (h34 : isC S k 34 = true) (h44 : isC S j 44 = false) : NodK S k (Tree.mk TEXT s m [] []) (eatK S j 62) (y || !isC S j 62) := by
  have h1 := h.weigh
  have hw := weigh_text s m
  obtain ⟨e1, e2⟩ := eatK_le (c := 62) h.le
  refine ⟨e2, .inr (by omega), by omega, by omega, fun _ => by omega, fun u r hf hr hl => ?_⟩
  obtain ⟨x, mm, rfl, hm, he⟩ := text_of h34 hf hl
  obtain ⟨h2, h3, m2, h4, h5⟩ := h.back x mm r hm hr he
  cases m2 with
  | nil =>
    obtain ⟨h6, h7⟩ := eat_back (show left S j = 62 :: r from h5)
    exact ⟨by rw [h2, h4]; simp, h7, by rw [h3, h6]; rfl⟩
  | cons z l =>
    exfalso
    rw [(left_cons (c := 44) (l := z.data.toList ++ tailC l ++ 62 :: r) (by rw [h5]; simp [tailC])).2.2] at h44
    cases h44

/-- A node's attributes, each with its sign ahead. -/
def tailS (c : UInt8) : List (ByteArray × ByteArray) → List UInt8
  | [] => []
  | p :: l => c :: (attrW p ++ tailA l)
theorem tailS_32 : ∀ l, tailS 32 l = tailA l
  | [] => rfl
  | _ :: _ => rfl
/-- A node's head up to its bracket. -/
def HeadW (S : ByteArray) (k : Nat) (kx : ByteArray) (aa : List (ByteArray × ByteArray)) (r : List UInt8) : Prop :=
  nameB kx = true ∧ (∀ p ∈ aa, nameB p.1 = true) ∧ left S k = kx.data.toList ++ (attrsW aa ++ 91 :: r)
/-- The attributes, as far as they have been read. -/
structure AttrR (S : ByteArray) (k : Nat) (kd : ByteArray) (a : List (ByteArray × ByteArray)) (c : UInt8) (i : Nat) (y : Bool) : Prop where
  le : i ≤ S.size
  weigh : kd.size + weighP a + k ≤ i
  sign : c = 40 ∨ c = 32
  back : ∀ kx aa r, HeadW S k kx aa r → kd = kx ∧ y = false ∧ ∃ a2, aa = a ++ a2 ∧ left S i = tailS c a2 ++ 41 :: 91 :: r
structure HeadR (S : ByteArray) (k : Nat) (kd : ByteArray) (a : List (ByteArray × ByteArray)) (i : Nat) (y : Bool) : Prop where
  le : i ≤ S.size
  weigh : kd.size + weighP a + k ≤ i
  back : ∀ kx aa r, HeadW S k kx aa r → kd = kx ∧ a = aa ∧ y = false ∧ left S i = 91 :: r
theorem LetK.head {S : ByteArray} {k j : Nat} {kd kx : ByteArray} {aa : List (ByteArray × ByteArray)} {r : List UInt8} (hl : LetK S k kd j) (h : HeadW S k kx aa r) : kd = kx ∧ left S j = attrsW aa ++ 91 :: r := by
  obtain ⟨h1, h2, h3⟩ := h
  obtain ⟨x, q, e, hx⟩ : ∃ x q, attrsW aa ++ 91 :: r = x :: q ∧ small x = false := by
    cases aa with
    | nil => exact ⟨91, r, rfl, by decide⟩
    | cons p l => exact ⟨40, _, by rw [attrsW_cons (by simp)]; rfl, by decide⟩
  rw [e] at h3 ⊢
  exact hl.back (name_small h1) hx h3
theorem AttrR.start {S : ByteArray} {k j : Nat} {kd : ByteArray} (hl : LetK S k kd j) (h40 : isC S j 40 = true) : AttrR S k kd [] 40 j false := by
  refine ⟨hl.le, by have := hl.size; simp only [weighP, List.map_nil, List.sum_nil]; omega, .inl rfl, fun kx aa r h => ?_⟩
  obtain ⟨h1, h2⟩ := hl.head h
  cases aa with
  | nil => exact absurd (firstC_is (show left S j = 91 :: r from h2) h40) (by decide)
  | cons p l =>
    refine ⟨h1, rfl, p :: l, rfl, ?_⟩
    rw [h2, attrsW_cons (by simp), blankA_tail]; simp [tailS]
theorem AttrR.next {S : ByteArray} {k i i2 i4 : Nat} {kd nm s : ByteArray} {a : List (ByteArray × ByteArray)} {c : UInt8} {y4 : Bool} (h : AttrR S k kd a c i false) (hc : isC S i c = true) (hl : LetK S (eatK S i c) nm i2)
    (hq : QuoK S (eatK S i2 61) ((false || !isC S i c) || !isC S i2 61) s i4 y4) : AttrR S k kd (a ++ [(nm, s)]) 32 i4 y4 := by
  rw [eat_yes hc] at hl
  obtain ⟨e1, _⟩ := eatK_le (c := 61) hl.le
  refine ⟨hq.le, ?_, .inr rfl, fun kx aa r hw => ?_⟩
  · have h1 := h.weigh
    have h2 := hl.size
    have h3 := hq.size
    rw [weighP_snoc]; simp only; omega
  · obtain ⟨h1, _, a2, h4, h5⟩ := h.back kx aa r hw
    cases a2 with
    | nil =>
      have := firstC_is (show left S i = 41 :: 91 :: r from h5) hc
      rcases h.sign with e | e <;> rw [e] at this <;> exact absurd this (by decide)
    | cons p l =>
      have e2 : tailS c (p :: l) ++ 41 :: 91 :: r = c :: (p.1.data.toList ++ 61 :: (quoteL p.2.data.toList ++ (tailA l ++ 41 :: 91 :: r))) := by simp [tailS, attrW]
      rw [e2] at h5
      obtain ⟨_, h6, _⟩ := left_cons h5
      obtain ⟨h7, h8⟩ := hl.back (name_small (hw.2.1 p (by rw [h4]; simp))) (by decide) h6
      obtain ⟨h9, h10⟩ := eat_back h8
      rw [hc, h9] at hq
      obtain ⟨h11, h12, h13⟩ := QuoK.txt hq p.2 _ h10
      exact ⟨h1, h13, l, by rw [h4, h7, h11]; simp, by rw [h12, tailS_32]⟩
theorem AttrR.stop {S : ByteArray} {k i : Nat} {kd : ByteArray} {a : List (ByteArray × ByteArray)} {c : UInt8} {y : Bool} (h : AttrR S k kd a c i y) (hc : isC S i c = false ∨ y = true) : HeadR S k kd a (eatK S i 41) (y || !isC S i 41) := by
  obtain ⟨e1, e2⟩ := eatK_le (c := 41) h.le
  refine ⟨e2, by have := h.weigh; omega, fun kx aa r hw => ?_⟩
  obtain ⟨h1, h3, a2, h4, h5⟩ := h.back kx aa r hw
  cases a2 with
  | nil =>
    obtain ⟨h6, h7⟩ := eat_back (show left S i = 41 :: 91 :: r from h5)
    exact ⟨h1, by rw [h4]; simp, by rw [h3, h6]; rfl, h7⟩
  | cons p l =>
    exfalso
    rcases hc with hc | hc
    · rw [(left_cons (c := c) (l := attrW p ++ tailA l ++ 41 :: 91 :: r) (by rw [h5]; simp [tailS])).2.2] at hc; cases hc
    · rw [hc] at h3; cases h3
theorem HeadR.none {S : ByteArray} {k j : Nat} {kd : ByteArray} (hl : LetK S k kd j) (h40 : isC S j 40 = false) : HeadR S k kd [] j false := by
  refine ⟨hl.le, by have := hl.size; simp only [weighP, List.map_nil, List.sum_nil]; omega, fun kx aa r h => ?_⟩
  obtain ⟨h1, h2⟩ := hl.head h
  cases aa with
  | nil => exact ⟨h1, rfl, rfl, h2⟩
  | cons p l =>
    exfalso
    rw [attrsW_cons (by simp)] at h2
    rw [(left_cons (c := 40) (l := blankA (p :: l) ++ [41] ++ 91 :: r) (by rw [h2]; simp)).2.2] at h40
    cases h40
theorem NodK.node {S : ByteArray} {k i i2 : Nat} {kd : ByteArray} {a : List (ByteArray × ByteArray)} {ks : List Tree} {y y2 : Bool} (h34 : isC S k 34 = false) (h : HeadR S k kd a i y) (hn : NodsK S (eatK S i 91) (y || !isC S i 91) ks i2 y2) :
    NodK S k (Tree.mk kd ⟨#[]⟩ [] a ks) (eatK S i2 93) (y2 || !isC S i2 93) := by
  obtain ⟨e1, e2⟩ := eatK_le (c := 93) hn.le
  obtain ⟨e3, e4⟩ := eatK_le (c := 91) h.le
  have h1 := h.weigh
  have h2 := hn.ge
  have h3 := hn.weigh
  have hw : Go.Proofs.YtggoebbfgkebcaaGreatDoor.weigh (Tree.mk kd ⟨#[]⟩ [] a ks) = kd.size + weighP a + weighAll ks + 2 := by
    simp only [Go.Proofs.YtggoebbfgkebcaaGreatDoor.weigh, weighL, List.map_nil, List.sum_nil]
    rw [show (⟨#[]⟩ : ByteArray).size = 0 from rfl]; omega
  cases h91 : isC S i 91 with
  | true =>
    have e5 := eat_yes h91
    refine ⟨e2, .inr (by omega), by omega, by omega, fun _ => by omega, fun u r hf hr hl => ?_⟩
    obtain ⟨kx, x, m, aa, l⟩ := u
    cases hk : isTxt kx with
    | true =>
      exfalso
      rw [writeB, if_pos hk] at hl
      rw [(left_cons (c := 34) (l := escL x.data.toList ++ [34] ++ marksW m ++ r) (by rw [hl]; simp [quoteL])).2.2] at h34
      cases h34
    | false =>
      obtain ⟨hnm, ht, rfl, ha, hrow⟩ := node_parts hk hf
      obtain rfl : x = ⟨#[]⟩ := bytes_of ht
      have hl2 : left S k = kx.data.toList ++ (attrsW aa ++ 91 :: (writeAllB l ++ 93 :: r)) := by rw [hl, writeB, hk]; simp
      obtain ⟨h5, h6, h7, h8⟩ := h.back kx aa _ ⟨hnm, attrs_names ha, hl2⟩
      obtain ⟨h9, h10⟩ := eat_back h8
      rw [h7, h91] at hn
      obtain ⟨h11, h12, h13⟩ := hn.back l (93 :: r) rfl (row_all l none hrow) (.inr ⟨r, rfl⟩) h10
      obtain ⟨h14, h15⟩ := eat_back h12
      exact ⟨by rw [h5, h6, h11], h15, by rw [h13, h14]; rfl⟩
  | false =>
    rw [h91] at hn
    obtain ⟨h5, h6⟩ := hn.bad (by simp)
    subst h6
    have e5 : eatK S i 91 = i := if_neg (by rw [h91]; decide)
    simp only [weighAll] at hw h3
    refine ⟨e2, .inl (by rw [h5]; rfl), by omega, by omega, fun e => by (rw [h5] at e; cases e), fun u r hf hr hl => ?_⟩
    exfalso
    obtain ⟨kx, x, m, aa, l⟩ := u
    cases hk : isTxt kx with
    | true =>
      rw [writeB, if_pos hk] at hl
      rw [(left_cons (c := 34) (l := escL x.data.toList ++ [34] ++ marksW m ++ r) (by rw [hl]; simp [quoteL])).2.2] at h34
      cases h34
    | false =>
      obtain ⟨hnm, ht, rfl, ha, hrow⟩ := node_parts hk hf
      obtain rfl : x = ⟨#[]⟩ := bytes_of ht
      have hl2 : left S k = kx.data.toList ++ (attrsW aa ++ 91 :: (writeAllB l ++ 93 :: r)) := by rw [hl, writeB, hk]; simp
      obtain ⟨_, _, _, h8⟩ := h.back kx aa _ ⟨hnm, attrs_names ha, hl2⟩
      rw [(eat_back h8).1] at h91
      cases h91
end Go.Proofs.YtggoebbfgkebcaaGreatDoor
