/-
  The document's Quote: what it answers (R1, for seats without tokens).
-/
import Derived.Test.YtdbpnfabcmndjaaDoorT1
import Derived.Test.YtdbpnfabcmndjaaDoorAp
namespace Go.Proofs.YtdbpnfabcmndjaaDoor
open Go.RowKit Go.Sort Go.Maps

theorem heap_lt {w : World} {g : Nat} {o : Obj} (h : w.heap[g]? = some o) : g < w.heap.size := (Array.getElem?_eq_some_iff.1 h).1
theorem rsize_of {a : ByteArray} {l : List UInt8} (h : a.data.toList = l) : a.size = l.length := by rw [← h, Array.length_toList]; rfl
theorem rapp (a b : ByteArray) : (a ++ b).data.toList = a.data.toList ++ b.data.toList := by rw [ByteArray.data_append]; simp

theorem ext_one (s : ByteArray) (k : Nat) (h : k < s.size) : (s.extract k (k + 1)).data.toList = [s[k]] := by
  have hk : k < s.data.toList.length := by rw [← Lib.size_eq]; exact h
  rw [ByteArray.data_extract, Array.toList_extract, List.extract_eq_take_drop, show k + 1 - k = 1 by omega, List.drop_eq_getElem_cons hk]
  rfl

set_option maxHeartbeats 4000000 in
set_option maxRecDepth 100000 in
theorem rquote_any (s : ByteArray) (w : World) (hs : s.size ≤ 1100000) :
    Calls Tryd.prog 29 #[.string s] w fun e w' => ∃ q : ByteArray, e = .returned (.string q) ∧ q.data.toList = quoteL s.data.toList ∧ Below w.heap.size w w' := by
  go_enter Tryd.func29, Tryd.ntmps29
  go_wp2
  go_loopw [3, 4] (fun v i wr => ∃ (k : Nat) (st : ByteArray), k ≤ s.size ∧ i = .int .i64 k ∧ v = .string st ∧ Hid (st.data.toList = 34 :: escL (s.data.toList.take k)) ∧ Below w.heap.size w wr) (fun _ i _ => s.size - (intOf i).toNat)
  case atStart => exact ⟨0, _, by omega, rfl, rfl, Lib.hid rfl, Below.refl _ _⟩
  case round =>
    obtain ⟨k, st, hk, rfl, rfl, hst, hbr⟩ := hrel
    have hel := escL_le (s.data.toList.take k)
    have htl : (s.data.toList.take k).length ≤ s.size := by rw [List.length_take, Lib.size_eq]; omega
    have hsz : st.size ≤ 3000000 := by rw [rsize_of hst.out, List.length_cons]; omega
    by_cases hlt : k < s.size
    · have HTK : Hid (escL (s.data.toList.take (k + 1)) = escL (s.data.toList.take k) ++ (if s[k] == 34 || s[k] == 92 then [92, s[k]] else [s[k]])) := Lib.hid (by rw [take_snoc_b s k hlt, escL_snoc])
      generalize hc : s[k] = c at *
      obtain ⟨sx, hsx⟩ : ∃ sx : ByteArray, s.extract k (k + 1) = sx := ⟨_, rfl⟩
      have HSX : Hid (sx.data.toList = [c]) := Lib.hid (by rw [← hsx, ext_one s k hlt, hc])
      have hsx1 : sx.size = 1 := rsize_of HSX.out
      have o1 : ¬ 9223372036854775807 < st.size + 1 := by omega
      have o2 : ¬ 9223372036854775807 < st.size + 1 + 1 := by omega
      cases q1 : ((c.toNat : Int) == 34) with
      | true =>
        have hE : (c == 34 || c == 92) = true := by
          have h1 : (c.toNat : Int) = 34 := beq_iff_eq.1 q1
          have h2 : c = 34 := UInt8.toNat_inj.1 (by show c.toNat = 34; omega)
          rw [h2]; rfl
        rw [hE, if_pos rfl] at HTK
        go_wp2
        exact ⟨⟨k + 1, _, by omega, by go_num, rfl, Lib.hid (by rw [HTK.out, rapp, rapp, hst.out, HSX.out]; simp), hbr⟩, by simp [intOf]; omega⟩
      | false =>
        cases q2 : ((c.toNat : Int) == 92) with
        | true =>
          have hE : (c == 34 || c == 92) = true := by
            have h1 : (c.toNat : Int) = 92 := beq_iff_eq.1 q2
            have h2 : c = 92 := UInt8.toNat_inj.1 (by show c.toNat = 92; omega)
            rw [h2]; rfl
          rw [hE, if_pos rfl] at HTK
          go_wp2
          exact ⟨⟨k + 1, _, by omega, by go_num, rfl, Lib.hid (by rw [HTK.out, rapp, rapp, hst.out, HSX.out]; simp), hbr⟩, by simp [intOf]; omega⟩
        | false =>
          have hE : (c == 34 || c == 92) = false := by
            rw [Bool.or_eq_false_iff]
            exact ⟨beq_eq_false_iff_ne.2 fun e => by subst e; exact absurd q1 (by decide), beq_eq_false_iff_ne.2 fun e => by subst e; exact absurd q2 (by decide)⟩
          rw [hE, if_neg Bool.false_ne_true] at HTK
          go_wp2
          exact ⟨⟨k + 1, _, by omega, by go_num, rfl, Lib.hid (by rw [HTK.out, rapp, hst.out, HSX.out]; simp), hbr⟩, by simp [intOf]; omega⟩
    · have o1 : ¬ 9223372036854775807 < st.size + 1 := by omega
      go_wp2
      go_ret
      refine ⟨_, rfl, ?_, hbr⟩
      rw [rapp, hst.out, List.take_of_length_le (by rw [← Lib.size_eq]; omega)]
      simp [quoteL]
end Go.Proofs.YtdbpnfabcmndjaaDoor
