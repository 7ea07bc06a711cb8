/-
  The reader's small steps: take, fail, want, name.
-/
import Derived.Test.YtdcgffepdgldmaaDoorD2
namespace Go.Proofs.YtdcgffepdgldmaaDoor
open Go.RowKit Go.Sort

/-- The reader in block R: what is to be read, and whether something was wrong. -/
def Rd (w : World) (R : Nat) (l : List UInt8) (x : Bool) : Prop := w.heap[R]? = some (.cells #[.string ⟨l.toArray⟩, .bool x] 102)

/-- Of the old blocks, only R may have turned. -/
structure OnlyR (R : Nat) (w w' : World) : Prop where
  os : w'.os = w.os
  tape : w'.tape = w.tape
  output : w'.output = w.output
  size : w.heap.size ≤ w'.heap.size
  block : ∀ k, k < w.heap.size → k ≠ R → w'.heap[k]? = w.heap[k]?
theorem OnlyR.refl (R : Nat) (w : World) : OnlyR R w w := ⟨rfl, rfl, rfl, Nat.le_refl _, fun _ _ _ => rfl⟩
theorem OnlyR.trans {R : Nat} {a b c : World} (h : OnlyR R a b) (k : OnlyR R b c) : OnlyR R a c :=
  ⟨k.os.trans h.os, k.tape.trans h.tape, k.output.trans h.output, Nat.le_trans h.size k.size, fun i hi hn => (k.block i (Nat.lt_of_lt_of_le hi h.size) hn).trans (h.block i hi hn)⟩
theorem OnlyR.set (R i : Nat) (w : World) (v : Value) : OnlyR R w (w.setCell ⟨R, i, none⟩ v) := ⟨rfl, rfl, rfl, by simp [World.setCell], fun k _ hn => Below.heap_setCell _ _ _ _ hn⟩
theorem OnlyR.of_below (R : Nat) {w w' : World} (h : Below w.heap.size w w') : OnlyR R w w' := ⟨h.os, h.tape, h.output, h.size, fun k hk _ => h.block k hk⟩
theorem OnlyR.below {R B : Nat} {w w' : World} (h : OnlyR R w w') (hB : B ≤ R) (hw : B ≤ w.heap.size) : Below B w w' := ⟨h.os, h.tape, h.output, h.size, fun k hk => h.block k (by omega) (by omega)⟩
theorem Rd.lt {w : World} {R : Nat} {l : List UInt8} {x : Bool} (h : Rd w R l x) : R < w.heap.size := (Array.getElem?_eq_some_iff.1 h).1
theorem Rd.below {w w' : World} {R : Nat} {l : List UInt8} {x : Bool} (h : Rd w R l x) (hb : Below w.heap.size w w') : Rd w' R l x := (hb.block R h.lt).trans h
theorem Rd.rest {w : World} {R : Nat} {l : List UInt8} {x : Bool} (h : Rd w R l x) : w.cell? ⟨R, 0, none⟩ = some (.string ⟨l.toArray⟩) := by simp [World.cell?, show w.heap[R]? = _ from h]
theorem Rd.wrong {w : World} {R : Nat} {l : List UInt8} {x : Bool} (h : Rd w R l x) : w.cell? ⟨R, 1, none⟩ = some (.bool x) := by simp [World.cell?, show w.heap[R]? = _ from h]
theorem Rd.free {w : World} {R : Nat} {l : List UInt8} {x : Bool} (h : Rd w R l x) (i : Nat) : w.frozen? ⟨R, i, none⟩ = false := frozen_of_row w R i _ _ h
theorem Rd.set0 {w : World} {R : Nat} {l : List UInt8} {x : Bool} (h : Rd w R l x) (l' : List UInt8) : Rd (w.setCell ⟨R, 0, none⟩ (.string ⟨l'.toArray⟩)) R l' x := heap_setCell_same w R 0 _ _ _ h
theorem Rd.set1 {w : World} {R : Nat} {l : List UInt8} {x : Bool} (h : Rd w R l x) (y : Bool) : Rd (w.setCell ⟨R, 1, none⟩ (.bool y)) R l y := heap_setCell_same w R 1 _ _ _ h

theorem cutPrefix_is (l : List UInt8) (p : ByteArray) (w : World) :
    Calls Tryd.prog 99 #[.string ⟨l.toArray⟩, .string p] w fun e w' => e = .returned (.tuple #[.string ⟨(Lib.trimPrefix l p.data.toList).toArray⟩, .bool (Lib.hasPrefix l p.data.toList)]) ∧ w = w' := by
  refine (Any.strings_CutPrefix Tryd.laysCut ⟨l.toArray⟩ p w).mono ?_
  rintro e w' ⟨rfl, rfl⟩
  exact ⟨rfl, rfl⟩

set_option maxHeartbeats 1000000 in
theorem rd_take (R : Nat) (l : List UInt8) (x : Bool) (p : ByteArray) (w : World) (h : Rd w R l x) :
    Calls Tryd.prog 70 #[.pointer (some ⟨R, 0, none⟩), .string p] w fun e w' =>
      e = .returned (.bool (Lib.hasPrefix l p.data.toList)) ∧ Rd w' R (Lib.trimPrefix l p.data.toList) x ∧ OnlyR R w w' := by
  have c0 := h.rest
  have f0 := h.free 0
  have HR := Lib.hid h
  clear h
  go_enter Tryd.func70, Tryd.ntmps70
  go_wp2_with fail
  refine (cutPrefix_is l p w).mono ?_
  rintro e w' ⟨rfl, rfl⟩
  go_wp2
  go_ret
  exact ⟨rfl, HR.out.set0 _, OnlyR.set R 0 w _⟩

set_option maxHeartbeats 1000000 in
theorem rd_fail (R : Nat) (l : List UInt8) (x : Bool) (w : World) (h : Rd w R l x) :
    Calls Tryd.prog 72 #[.pointer (some ⟨R, 0, none⟩)] w fun e w' => e = .returned (.tuple #[]) ∧ Rd w' R [] true ∧ OnlyR R w w' := by
  have c0 := h.rest
  have f0 := h.free 0
  have h2 := h.set0 []
  have HR := Lib.hid h2
  have c1 := h2.wrong
  have f1 := h2.free 1
  clear h h2
  go_enter Tryd.func72, Tryd.ntmps72
  go_wp2
  go_end0
  exact ⟨rfl, HR.out.set1 true, (OnlyR.set R 0 w _).trans (OnlyR.set R 1 _ _)⟩

/-- Wanted: there it is, or nothing is left. -/
def wantL (p l : List UInt8) : List UInt8 := if Lib.hasPrefix l p then l.drop p.length else []
set_option maxHeartbeats 1000000 in
theorem rd_want (R : Nat) (l : List UInt8) (x : Bool) (p : ByteArray) (w : World) (h : Rd w R l x) :
    Calls Tryd.prog 102 #[.pointer (some ⟨R, 0, none⟩), .string p] w fun e w' =>
      e = .returned (.tuple #[]) ∧ Rd w' R (wantL p.data.toList l) (x || !Lib.hasPrefix l p.data.toList) ∧ OnlyR R w w' := by
  go_enter Tryd.func102, Tryd.ntmps102
  go_wp2_with fail
  refine (rd_take R l x p w h).mono ?_
  rintro e w1 ⟨rfl, h1, o1⟩
  have H1 := Lib.hid h1
  have O1 := Lib.hid o1
  clear h1 o1
  cases hp : Lib.hasPrefix l p.data.toList with
  | true =>
    go_wp2
    go_end0
    have h1 := H1.out
    rw [Lib.trimPrefix, if_pos hp] at h1
    refine ⟨rfl, ?_, O1.out⟩
    rw [wantL, if_pos hp, hp, Bool.not_true, Bool.or_false]
    exact h1
  | false =>
    go_wp2_with fail
    refine (rd_fail R _ x w1 H1.out).mono ?_
    rintro e w2 ⟨rfl, h2, o2⟩
    have H2 := Lib.hid h2
    have O2 := Lib.hid o2
    clear h2 o2
    go_wp2
    go_end0
    refine ⟨rfl, ?_, O1.out.trans O2.out⟩
    rw [wantL, if_neg (by rw [hp]; decide), hp, Bool.not_false, Bool.or_true]
    exact H2.out

theorem rd_ret {s t : ByteArray} (h : s = t) : Ending.returned (.string s) = .returned (.string t) := by rw [h]
theorem ext_take (S : ByteArray) (i : Nat) : S.extract 0 i = ⟨(S.data.toList.take i).toArray⟩ := by
  apply bytes_of
  rw [ByteArray.data_extract, Array.toList_extract]
  simp [List.extract]
theorem ext_drop (S : ByteArray) (i : Nat) : S.extract i S.size = ⟨(S.data.toList.drop i).toArray⟩ := by
  apply bytes_of
  rw [ByteArray.data_extract, Array.toList_extract]
  simp only [List.extract]
  rw [List.take_of_length_le]
  rw [List.length_drop, ← Lib.size_eq]
  exact Nat.le_refl _
theorem drop_at (S : ByteArray) (i : Nat) (h : i < S.size) : S.data.toList.drop i = S[i] :: S.data.toList.drop (i + 1) := by
  have hl : i < S.data.toList.length := by rw [← Lib.size_eq]; exact h
  rw [List.drop_eq_getElem_cons hl]
  rfl
set_option maxHeartbeats 2000000 in
theorem rd_name (R : Nat) (l : List UInt8) (x : Bool) (w : World) (h : Rd w R l x) (hl : l.length ≤ 50000000) :
    Calls Tryd.prog 100 #[.pointer (some ⟨R, 0, none⟩)] w fun e w' =>
      e = .returned (.string ⟨(l.takeWhile small).toArray⟩) ∧ Rd w' R (l.dropWhile small) x ∧ OnlyR R w w' := by
  have c0 := h.rest
  have f0 := h.free 0
  have HR := Lib.hid h
  clear h
  obtain ⟨S, hS⟩ : ∃ S : ByteArray, S = ⟨l.toArray⟩ := ⟨_, rfl⟩
  have hd : S.data.toList = l := by rw [hS]
  have hz : S.size = l.length := by rw [Lib.size_eq, hd]
  rw [← hS] at c0
  have hs8 : S.size ≤ 50000000 := by omega
  have HS := Lib.hid hS
  have HD := Lib.hid hd
  have HZ := Lib.hid hz
  clear hS hd hz hl
  go_enter Tryd.func100, Tryd.ntmps100
  go_wp2
  go_loopg [3] S.size (fun g s3 wx => ∃ i : Nat, s3 = .int .i64 (i : Int) ∧ i + g = S.size ∧ wx = w ∧ l.takeWhile small = l.take i ++ (l.drop i).takeWhile small ∧ l.dropWhile small = (l.drop i).dropWhile small)
  case atStart => exact ⟨0, rfl, by omega, rfl, rfl, rfl⟩
  case round =>
    obtain ⟨i, rfl, hig, rfl, ht, hdr⟩ := hrel
    have HT := Lib.hid ht
    have HDR := Lib.hid hdr
    clear ht hdr
    cases gk with
    | zero =>
      obtain rfl : i = S.size := by omega
      have hD := HD.out
      have e1 : l.drop S.size = [] := List.drop_eq_nil_of_le (by rw [HZ.out]; exact Nat.le_refl _)
      have ht := HT.out
      have hdr := HDR.out
      rw [e1] at ht hdr
      have HE1 := Lib.hid (ht.trans (List.append_nil _))
      have HE2 := Lib.hid hdr
      clear ht hdr e1 hD
      go_wp2
      go_ret
      refine ⟨?_, ?_, OnlyR.set R 0 wr _⟩
      · exact rd_ret (by rw [HE1.out, HZ.out, List.take_length]; exact HS.out)
      · rw [HE2.out]; exact HR.out.set0 []
    | succ g =>
      have hi : i < S.size := by omega
      obtain ⟨c, hc⟩ : ∃ c : UInt8, S[i] = c := ⟨_, rfl⟩
      have hat := drop_at S i hi
      rw [HD.out, hc] at hat
      have HAT := Lib.hid hat
      clear hat
      by_cases hsm : small c = true
      · have h1 : 97 ≤ c.toNat := by simp only [small, Bool.and_eq_true, decide_eq_true_eq] at hsm; exact hsm.1
        have h2 : c.toNat ≤ 122 := by simp only [small, Bool.and_eq_true, decide_eq_true_eq] at hsm; exact hsm.2
        have HSM := Lib.hid hsm
        clear hsm
        go_wp2
        go_roundg g
        case measure => omega
        case rel =>
          refine ⟨i + 1, rfl, by omega, rfl, ?_, ?_⟩
          · rw [HT.out, HAT.out, List.takeWhile_cons_of_pos HSM.out, List.take_add_one, ← List.head?_drop, HAT.out]; simp
          · rw [HDR.out, HAT.out, List.dropWhile_cons_of_pos HSM.out]
      · have HE1 : Hid (l.takeWhile small = l.take i) := Lib.hid (by rw [HT.out, HAT.out, List.takeWhile_cons_of_neg hsm, List.append_nil])
        have HE2 : Hid (l.dropWhile small = l.drop i) := Lib.hid (by rw [HDR.out, HAT.out, List.dropWhile_cons_of_neg hsm])
        by_cases h1 : 97 ≤ c.toNat
        · have h2 : ¬ c.toNat ≤ 122 := fun h2 => hsm (by simp [small, h1, h2])
          clear hsm
          go_wp2
          go_ret
          refine ⟨?_, ?_, OnlyR.set R 0 wr _⟩
          · exact rd_ret (by rw [HE1.out, ext_take, HD.out])
          · rw [HE2.out, ext_drop, HD.out]; exact HR.out.set0 _
        · clear hsm
          go_wp2
          go_ret
          refine ⟨?_, ?_, OnlyR.set R 0 wr _⟩
          · exact rd_ret (by rw [HE1.out, ext_take, HD.out])
          · rw [HE2.out, ext_drop, HD.out]; exact HR.out.set0 _
end Go.Proofs.YtdcgffepdgldmaaDoor
