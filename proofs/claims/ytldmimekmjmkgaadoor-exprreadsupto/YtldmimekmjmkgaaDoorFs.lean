/-
  The reader's name.
-/
import Derived.Test.YtldmimekmjmkgaaDoorFr
namespace Go.Proofs.YtldmimekmjmkgaaDoor
open Go.RowKit Go.Sort Go.Maps Go.WideMaps

theorem bytesE_of {s t : ByteArray} (h : s.data.toList = t.data.toList) : s = t := ByteArray.ext (Array.ext' h)
theorem rd_ret {s t : ByteArray} (h : s = t) : Ending.returned (.string s) = .returned (.string t) := by rw [h]
theorem ext_take (S : ByteArray) (i : Nat) : S.extract 0 i = ⟨(S.data.toList.take i).toArray⟩ := by
  apply bytesE_of
  rw [ByteArray.data_extract, Array.toList_extract]
  simp [List.extract]
theorem ext_drop (S : ByteArray) (i : Nat) : S.extract i S.size = ⟨(S.data.toList.drop i).toArray⟩ := by
  apply bytesE_of
  rw [ByteArray.data_extract, Array.toList_extract]
  simp only [List.extract]
  rw [List.take_of_length_le]
  rw [List.length_drop, ← Lib.size_eq]
  exact Nat.le_refl _
theorem dropB_at (S : ByteArray) (i : Nat) (h : i < S.size) : S.data.toList.drop i = S[i] :: S.data.toList.drop (i + 1) := by
  have hl : i < S.data.toList.length := by rw [← Lib.size_eq]; exact h
  rw [List.drop_eq_getElem_cons hl]
  rfl
/-- A name's letters, in a box of the call's own, and the rest. -/
def NamePost (w : World) (R : Nat) (l : List UInt8) (m : Int) (x : Ending) (w' : World) : Prop :=
  x = .returned (.agg #[.int .u8 110, .string ⟨(l.takeWhile small).toArray⟩, .slice none 0 0]) ∧ RdE w' R (l.dropWhile small) m ∧ OnlyR R w w'

theorem name_fin {w W1 : World} {R : Nat} {l : List UInt8} {m : Int} {u0 u1 u2 : Value} (hb : Below w.heap.size w W1) (hz : W1.heap[w.heap.size]? = some (.cells #[u0, u1, u2] 24)) (h : RdE W1 R l m) (hRl : R < w.heap.size) (rest : List UInt8) (r v : ByteArray) (hr : r = ⟨rest.toArray⟩) (o : Obj) :
    (((((W1.setCell ⟨R, 0, none⟩ (.string r)).setCell ⟨w.heap.size, 0, none⟩ (.int .u8 110)).setCell ⟨w.heap.size, 1, none⟩ (.string v)).setCell ⟨w.heap.size, 2, none⟩ (.slice none 0 0)).alloc o).heap[w.heap.size]? = some (.cells #[.int .u8 110, .string v, .slice none 0 0] 24) ∧
    RdE (((((W1.setCell ⟨R, 0, none⟩ (.string r)).setCell ⟨w.heap.size, 0, none⟩ (.int .u8 110)).setCell ⟨w.heap.size, 1, none⟩ (.string v)).setCell ⟨w.heap.size, 2, none⟩ (.slice none 0 0)).alloc o) R rest m ∧
    OnlyR R w (((((W1.setCell ⟨R, 0, none⟩ (.string r)).setCell ⟨w.heap.size, 0, none⟩ (.int .u8 110)).setCell ⟨w.heap.size, 1, none⟩ (.string v)).setCell ⟨w.heap.size, 2, none⟩ (.slice none 0 0)).alloc o) := by
  subst hr
  have h1 : (W1.setCell ⟨R, 0, none⟩ (.string ⟨rest.toArray⟩)).heap[w.heap.size]? = some (.cells #[u0, u1, u2] 24) := (Below.heap_setCell _ _ _ _ (Nat.ne_of_gt hRl)).trans hz
  obtain ⟨x0, hx, hzz⟩ := put3x (v0 := .int .u8 110) (v1 := .string v) (v2 := .slice none 0 0) h1
  have hs1 : (W1.setCell ⟨R, 0, none⟩ (.string ⟨rest.toArray⟩)).heap.size = W1.heap.size := by simp [World.setCell]
  have hzl := (Array.getElem?_eq_some_iff.1 hz).1
  refine ⟨(Below.heap_alloc _ _ _ (by omega)).trans x0, (Below.heap_alloc _ _ _ (by omega)).trans ((hx R (Nat.ne_of_lt hRl)).trans (h.set0 rest)), ⟨hb.os, hb.tape, hb.output, ?_, fun k hk hne => ?_⟩⟩
  · have := hb.size
    simp [World.setCell]; omega
  · exact (Below.heap_alloc _ _ _ (by omega)).trans ((hx k (Nat.ne_of_lt hk)).trans ((Below.heap_setCell _ _ _ _ hne).trans (hb.block k hk)))

set_option maxHeartbeats 2000000 in
theorem nameE_any (R : Nat) (l : List UInt8) (m : Int) (w : World) (h : RdE w R l m) (hl : l.length ≤ 50000000) :
    Calls Tryd.prog 98 #[.pointer (some ⟨R, 0, none⟩)] w (NamePost w R l m) := by
  have HB : Hid (Below w.heap.size w (w.alloc (.cells #[.int .u8 0, .string ⟨#[]⟩, .slice none 0 0] 24))) := Lib.hid ((Below.refl _ _).alloc (Nat.le_refl _) _)
  have HZB : Hid ((w.alloc (.cells #[.int .u8 0, .string ⟨#[]⟩, .slice none 0 0] 24)).heap[w.heap.size]? = some (.cells #[.int .u8 0, .string ⟨#[]⟩, .slice none 0 0] 24)) := Lib.hid (heap_new _ _)
  have HR := Lib.hid (h.below HB.out)
  have c0 := HR.out.rest
  have f0 := HR.out.free 0
  have hRl := h.lt
  clear h
  obtain ⟨S, hS⟩ : ∃ S : ByteArray, S = ⟨l.toArray⟩ := ⟨_, rfl⟩
  have hd : S.data.toList = l := by rw [hS]
  have hz : S.size = l.length := by rw [Lib.size_eq, hd]
  rw [← hS] at c0
  have hs8 : S.size ≤ 50000000 := by omega
  have HS := Lib.hid hS
  have HD := Lib.hid hd
  have HZ := Lib.hid hz
  clear hS hd hz hl
  go_enter Tryd.func98, Tryd.ntmps98
  go_wp2
  generalize w.alloc (.cells #[.int .u8 0, .string ⟨#[]⟩, .slice none 0 0] 24) = W1 at *
  obtain ⟨q0, q1, q2⟩ := three_cells HZB.out
  have t0 := frozen_of_row _ w.heap.size 0 _ _ HZB.out
  have t1 := frozen_of_row _ w.heap.size 1 _ _ HZB.out
  have t2 := frozen_of_row _ w.heap.size 2 _ _ HZB.out
  have hzq := cell_lt q0
  have hzR := cell_lt c0
  go_loopg [3] S.size (fun g s3 wx => ∃ i : Nat, s3 = .int .i64 (i : Int) ∧ i + g = S.size ∧ wx = W1 ∧ l.takeWhile small = l.take i ++ (l.drop i).takeWhile small ∧ l.dropWhile small = (l.drop i).dropWhile small)
  case atStart => exact ⟨0, rfl, by omega, rfl, rfl, rfl⟩
  case round =>
    obtain ⟨i, rfl, hig, rfl, ht, hdr⟩ := hrel
    have HT := Lib.hid ht
    have HDR := Lib.hid hdr
    clear ht hdr
    cases gk with
    | zero =>
      obtain rfl : i = S.size := by omega
      have e1 : l.drop S.size = [] := List.drop_eq_nil_of_le (by rw [HZ.out]; exact Nat.le_refl _)
      have ht := HT.out
      have hdr := HDR.out
      rw [e1] at ht hdr
      have HE1 := Lib.hid (ht.trans (List.append_nil _))
      have HE2 := Lib.hid hdr
      clear ht hdr e1
      go_wp2
      obtain ⟨x0, x1, x2⟩ := name_fin HB.out HZB.out HR.out hRl (l.dropWhile small) (ByteArray.empty) (S) (by rw [HE2.out]; rfl) (.cells #[.int .u8 110, .string (S), .slice none 0 0] 24)
      obtain ⟨y0, y1, y2⟩ := three_cells x0
      refine bodyPost_ret (v := .agg #[.int .u8 110, .string (S), .slice none 0 0]) (by simp [results, Tryd.results98, go_sem, y0, y1, y2]) rfl ⟨?_, x1, x2⟩
      rw [HE1.out, HZ.out, List.take_length, ← HS.out]
    | succ g =>
      have hi : i < S.size := by omega
      obtain ⟨c, hc⟩ : ∃ c : UInt8, S[i] = c := ⟨_, rfl⟩
      have hat := dropB_at S i hi
      rw [HD.out, hc] at hat
      have HAT := Lib.hid hat
      clear hat
      by_cases hsm : small c = true
      · have h1 : 97 ≤ c.toNat := by simp only [small, Bool.and_eq_true, decide_eq_true_eq] at hsm; exact hsm.1
        have h2 : c.toNat ≤ 122 := by simp only [small, Bool.and_eq_true, decide_eq_true_eq] at hsm; exact hsm.2
        have HSM := Lib.hid hsm
        clear hsm
        go_wp2
        go_roundg g
        case measure => omega
        case rel =>
          refine ⟨i + 1, rfl, by omega, rfl, ?_, ?_⟩
          · rw [HT.out, HAT.out, List.takeWhile_cons_of_pos HSM.out, List.take_add_one, ← List.head?_drop, HAT.out]; simp
          · rw [HDR.out, HAT.out, List.dropWhile_cons_of_pos HSM.out]
      · have HE1 : Hid (l.takeWhile small = l.take i) := Lib.hid (by rw [HT.out, HAT.out, List.takeWhile_cons_of_neg hsm, List.append_nil])
        have HE2 : Hid (l.dropWhile small = l.drop i) := Lib.hid (by rw [HDR.out, HAT.out, List.dropWhile_cons_of_neg hsm])
        by_cases h1 : 97 ≤ c.toNat
        · have h2 : ¬ c.toNat ≤ 122 := fun h2 => hsm (by simp [small, h1, h2])
          clear hsm
          go_wp2
          obtain ⟨x0, x1, x2⟩ := name_fin HB.out HZB.out HR.out hRl (l.dropWhile small) (S.extract i S.size) (S.extract 0 i) (by rw [HE2.out, ext_drop, HD.out]) (.cells #[.int .u8 110, .string (S.extract 0 i), .slice none 0 0] 24)
          obtain ⟨y0, y1, y2⟩ := three_cells x0
          refine bodyPost_ret (v := .agg #[.int .u8 110, .string (S.extract 0 i), .slice none 0 0]) (by simp [results, Tryd.results98, go_sem, y0, y1, y2]) rfl ⟨?_, x1, x2⟩
          rw [HE1.out, ext_take, HD.out]
        · clear hsm
          go_wp2
          obtain ⟨x0, x1, x2⟩ := name_fin HB.out HZB.out HR.out hRl (l.dropWhile small) (S.extract i S.size) (S.extract 0 i) (by rw [HE2.out, ext_drop, HD.out]) (.cells #[.int .u8 110, .string (S.extract 0 i), .slice none 0 0] 24)
          obtain ⟨y0, y1, y2⟩ := three_cells x0
          refine bodyPost_ret (v := .agg #[.int .u8 110, .string (S.extract 0 i), .slice none 0 0]) (by simp [results, Tryd.results98, go_sem, y0, y1, y2]) rfl ⟨?_, x1, x2⟩
          rw [HE1.out, ext_take, HD.out]
end Go.Proofs.YtldmimekmjmkgaaDoor
