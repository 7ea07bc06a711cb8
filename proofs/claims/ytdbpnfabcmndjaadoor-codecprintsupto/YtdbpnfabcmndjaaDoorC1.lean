/-
  What the codec's writing calls answer: Quote, Head, Print.
-/
import Derived.Test.YtdbpnfabcmndjaaDoorW14
import Derived.Test.YtdbpnfabcmndjaaDoorWri
import Derived.Test.YtdbpnfabcmndjaaDoorW11a
namespace Go.Proofs.YtdbpnfabcmndjaaDoor
open Go.RowKit Go.Sort

def renByte : Go.Shelf.Ren := ⟨fun | 167 => 59 | 240 => 57 | 276 => 65 | n => n, fun | 0 => 0 | 4 => 4 | 5 => 5 | 9 => 9 | 20 => 20 | 37 => 48 | 70 => 47 | 72 => 50 | 75 => 53 | 164 => 79 | 80 => 56 | n => n, fun | n => n⟩
theorem laysByte : Lays.n167 Tryd.prog renByte := {
  mixed := by kernel_rfl
  f167 := Tryd.func59.trans (congrArg some (by kernel_rfl))
  f240 := Tryd.func57.trans (congrArg some (by kernel_rfl))
  f276 := Tryd.func65.trans (congrArg some (by kernel_rfl))
  t0 := Tryd.underlying0
  a0 := Tryd.isAgg0
  z0 := Tryd.sizeOf0
  v0 := Tryd.zeroValue0
  t4 := Tryd.underlying4
  a4 := Tryd.isAgg4
  z4 := Tryd.sizeOf4
  v4 := Tryd.zeroValue4
  t5 := Tryd.underlying5
  a5 := Tryd.isAgg5
  z5 := Tryd.sizeOf5
  v5 := Tryd.zeroValue5
  t9 := Tryd.underlying9
  a9 := Tryd.isAgg9
  z9 := Tryd.sizeOf9
  v9 := Tryd.zeroValue9
  t20 := Tryd.underlying20
  a20 := Tryd.isAgg20
  z20 := Tryd.sizeOf20
  v20 := Tryd.zeroValue20
  t37 := Tryd.underlying48
  a37 := Tryd.isAgg48
  z37 := Tryd.sizeOf48
  v37 := Tryd.zeroValue48
  t70 := Tryd.underlying47
  a70 := Tryd.isAgg47
  z70 := Tryd.sizeOf47
  v70 := Tryd.zeroValue47
  t72 := Tryd.underlying50
  a72 := Tryd.isAgg50
  z72 := Tryd.sizeOf50
  v72 := Tryd.zeroValue50
  t75 := Tryd.underlying53
  a75 := Tryd.isAgg53
  z75 := Tryd.sizeOf53
  v75 := Tryd.zeroValue53
  t164 := Tryd.underlying79
  a164 := Tryd.isAgg79
  z164 := Tryd.sizeOf79
  v164 := Tryd.zeroValue79 }
theorem extraByte : Builder.Extra Tryd.prog renByte := {
  sizeBuilder := by kernel_rfl
  liesBuilder := by kernel_rfl
  t5 := Tryd.underlying5
  a5 := Tryd.isAgg5
  z5 := Tryd.sizeOf5
  v5 := Tryd.zeroValue5
  infoByte := by kernel_rfl
  cellsByte := by kernel_rfl
  sizeByte := by kernel_rfl
  neB5 := by decide }

/-- What a call that writes leaves. -/
def WPost (B b : Nat) (w : World) (l : List UInt8) (e : Ending) (w' : World) : Prop := e = .returned (.tuple #[]) ∧ Buil w' B b l ∧ Below B w w' ∧ Rest b w w'
theorem byte_any (B b : Nat) (l : List UInt8) (c : UInt8) (w : World) (h : Buil w B b l) (hlen : l.length ≤ 90000000) (hBw : B ≤ w.heap.size) :
    Calls Tryd.prog 59 #[.pointer (some ⟨b, 0, none⟩), .int .u8 (c.toNat : Int)] w fun e w' => e = .returned .nilIface ∧ Buil w' B b (l ++ [c]) ∧ Below B w w' ∧ Rest b w w' := by
  refine (Any.Builder_WriteByte_k laysByte extraByte B b (Lib.byteCells l) (c.toNat : Int) w h (by rw [Lib.byteCells_length]; omega) hBw).mono ?_
  rintro e w' ⟨rfl, h1, hb, hk⟩
  refine ⟨rfl, ?_, hb, hk⟩
  rw [show Lib.byteCells l ++ [.int .u8 (c.toNat : Int)] = Lib.byteCells (l ++ [c]) by simp [Lib.byteCells]] at h1
  exact Or.inr h1
theorem byteN_any (B b : Nat) (l : List UInt8) (n : Int) (c : UInt8) (w : World) (hc : (c.toNat : Int) = n) (h : Buil w B b l) (hlen : l.length ≤ 90000000) (hBw : B ≤ w.heap.size) :
    Calls Tryd.prog 59 #[.pointer (some ⟨b, 0, none⟩), .int .u8 n] w fun e w' => e = .returned .nilIface ∧ Buil w' B b (l ++ [c]) ∧ Below B w w' ∧ Rest b w w' := by
  subst hc; exact byte_any B b l c w h hlen hBw
theorem Buil.lt {w : World} {B b : Nat} {l : List UInt8} (h : Buil w B b l) : b < w.heap.size := by
  rcases h with ⟨_, v, hb, _⟩ | ⟨_, v, hb, _⟩
  · exact (Array.getElem?_eq_some_iff.1 hb).1
  · exact (Array.getElem?_eq_some_iff.1 hb).1
/-- A block of another type than bytes, kept. -/
theorem Rest.blk {b p : Nat} {w w' : World} {cs : Array Value} {T : TypeId} (h : Rest b w w') (hp : w.heap[p]? = some (.cells cs T)) (hn : p ≠ b) (hT : T ≠ 5) : w'.heap[p]? = some (.cells cs T) :=
  h p _ hp (fun e => hn (Option.some.inj e)) (fun _ _ e => by injection e with _ e _; exact hT e)

theorem take_snoc_b (s : ByteArray) (k : Nat) (h : k < s.size) : s.data.toList.take (k + 1) = s.data.toList.take k ++ [s[k]] := by
  rw [List.take_succ_eq_append_getElem (by simpa using h)]; rfl

set_option maxHeartbeats 1100000 in
theorem writeQuoted_any (B b : Nat) (acc : List UInt8) (s : ByteArray) (w : World) (h : Buil w B b acc) (hs : s.size ≤ 10000000) (hacc : acc.length ≤ 50000000) (hBw : B ≤ w.heap.size) :
    Calls Tryd.prog 48 #[.pointer (some ⟨b, 0, none⟩), .string s] w (WPost B b w (acc ++ quoteL s.data.toList)) := by
  have HB := Lib.hid h
  clear h
  go_enter Tryd.func48, Tryd.ntmps48
  go_wp2_with fail
  refine (byteN_any B b acc 34 34 w (by decide) HB.out (by omega) hBw).mono ?_
  rintro e w1 ⟨rfl, hb1, hB1, hr1⟩
  have HB1 := Lib.hid hb1
  have HW1 := Lib.hid (And.intro hB1 hr1)
  clear hb1 hB1 hr1
  go_wp2
  go_loopw [9] (fun i wr => ∃ k : Nat, k ≤ s.size ∧ i = .int .i64 k ∧ Hid (Buil wr B b (acc ++ 34 :: escL (s.data.toList.take k))) ∧ Below B w wr ∧ Hid (Rest b w wr)) (fun i _ => s.size - (intOf i).toNat)
  case atStart => exact ⟨0, by omega, rfl, Lib.hid (by simpa [escL] using HB1.out), HW1.out.1, Lib.hid HW1.out.2⟩
  case round =>
    obtain ⟨k, hk, rfl, hcr, hbr, hrr⟩ := hrel
    have hws := hbr.size
    have hel := escL_le (s.data.toList.take k)
    have htl : (s.data.toList.take k).length ≤ s.size := by rw [List.length_take, Lib.size_eq]; omega
    have hal : (acc ++ 34 :: escL (s.data.toList.take k)).length ≤ 80000000 := by rw [List.length_append, List.length_cons]; omega
    by_cases hlt : k < s.size
    · have HTK : Hid (escL (s.data.toList.take (k + 1)) = escL (s.data.toList.take k) ++ (if s[k] == 34 || s[k] == 92 then [92, s[k]] else [s[k]])) := Lib.hid (by rw [take_snoc_b s k hlt, escL_snoc])
      have HCL : Hid (acc ++ 34 :: escL (s.data.toList.take (k + 1)) = (acc ++ 34 :: escL (s.data.toList.take k)) ++ (if s[k] == 34 || s[k] == 92 then [92, s[k]] else [s[k]])) := Lib.hid (by rw [HTK.out]; simp)
      generalize acc ++ 34 :: escL (s.data.toList.take k) = A1 at *
      generalize hc : s[k] = c at *
      have hcl := UInt8.toNat_lt c
      cases q1 : ((c.toNat : Int) == 34) with
      | true =>
        have hE : (c == 34 || c == 92) = true := by
          have h1 : (c.toNat : Int) = 34 := beq_iff_eq.1 q1
          have h2 : c = 34 := UInt8.toNat_inj.1 (by show c.toNat = 34; omega)
          rw [h2]; rfl
        rw [hE] at HCL
        go_wp2_with fail
        refine (byteN_any B b A1 92 92 wr (by decide) hcr.out (by omega) (by omega)).mono ?_
        rintro e w2 ⟨rfl, hb2, hB2, hr2⟩
        have HB2 := Lib.hid hb2
        have HR2 := Lib.hid (hrr.out.trans hr2)
        have hW2 := hbr.trans hB2
        have hws2 := hW2.size
        clear hb2 hr2 hB2
        go_wp2_with fail
        refine (byteN_any B b (A1 ++ [92]) c.toNat c w2 rfl HB2.out (by rw [List.length_append, List.length_singleton]; omega) (by omega)).mono ?_
        rintro e w3 ⟨rfl, hb3, hB3, hr3⟩
        have HB3 := Lib.hid hb3
        have HR3 := Lib.hid (HR2.out.trans hr3)
        have hW3 := hW2.trans hB3
        clear hb3 hr3 hB3
        go_wp2
        exact ⟨⟨k + 1, by omega, by go_num, Lib.hid (by rw [HCL.out]; have h := HB3.out; rw [List.append_assoc] at h; exact h), hW3, HR3⟩, by simp [intOf]; omega⟩
      | false =>
        cases q2 : ((c.toNat : Int) == 92) with
        | true =>
          have hE : (c == 34 || c == 92) = true := by
            have h1 : (c.toNat : Int) = 92 := beq_iff_eq.1 q2
            have h2 : c = 92 := UInt8.toNat_inj.1 (by show c.toNat = 92; omega)
            rw [h2]; rfl
          rw [hE] at HCL
          go_wp2_with fail
          refine (byteN_any B b A1 92 92 wr (by decide) hcr.out (by omega) (by omega)).mono ?_
          rintro e w2 ⟨rfl, hb2, hB2, hr2⟩
          have HB2 := Lib.hid hb2
          have HR2 := Lib.hid (hrr.out.trans hr2)
          have hW2 := hbr.trans hB2
          have hws2 := hW2.size
          clear hb2 hr2 hB2
          go_wp2_with fail
          refine (byteN_any B b (A1 ++ [92]) c.toNat c w2 rfl HB2.out (by rw [List.length_append, List.length_singleton]; omega) (by omega)).mono ?_
          rintro e w3 ⟨rfl, hb3, hB3, hr3⟩
          have HB3 := Lib.hid hb3
          have HR3 := Lib.hid (HR2.out.trans hr3)
          have hW3 := hW2.trans hB3
          clear hb3 hr3 hB3
          go_wp2
          exact ⟨⟨k + 1, by omega, by go_num, Lib.hid (by rw [HCL.out]; have h := HB3.out; rw [List.append_assoc] at h; exact h), hW3, HR3⟩, by simp [intOf]; omega⟩
        | false =>
          have hE : (c == 34 || c == 92) = false := by
            have h1 : (c.toNat : Int) ≠ 34 := beq_eq_false_iff_ne.1 q1
            have h2 : (c.toNat : Int) ≠ 92 := beq_eq_false_iff_ne.1 q2
            have h3 : (c == 34) = false := beq_eq_false_iff_ne.2 (fun e => h1 (by rw [e]; rfl))
            have h4 : (c == 92) = false := beq_eq_false_iff_ne.2 (fun e => h2 (by rw [e]; rfl))
            rw [h3, h4]; rfl
          rw [hE] at HCL
          go_wp2_with fail
          refine (byteN_any B b A1 c.toNat c wr rfl hcr.out (by omega) (by omega)).mono ?_
          rintro e w3 ⟨rfl, hb3, hB3, hr3⟩
          have HB3 := Lib.hid hb3
          have HR3 := Lib.hid (hrr.out.trans hr3)
          have hW3 := hbr.trans hB3
          clear hb3 hr3 hB3
          go_wp2
          exact ⟨⟨k + 1, by omega, by go_num, Lib.hid (by rw [HCL.out]; exact HB3.out), hW3, HR3⟩, by simp [intOf]; omega⟩
    · have hfull : s.data.toList.take k = s.data.toList := List.take_of_length_le (by rw [← Lib.size_eq]; omega)
      rw [hfull] at hcr hal
      clear hel htl hfull
      go_wp2_with fail
      refine (byteN_any B b _ 34 34 wr (by decide) hcr.out (by omega) (by omega)).mono ?_
      rintro e w3 ⟨rfl, hb3, hB3, hr3⟩
      have HB3 := Lib.hid hb3
      have HR3 := Lib.hid (hrr.out.trans hr3)
      have hW3 := hbr.trans hB3
      clear hb3 hr3 hB3
      go_wp2
      go_end0
      refine ⟨rfl, ?_, hW3, HR3.out⟩
      have h := HB3.out
      rw [List.append_assoc] at h
      exact h

/-- A new builder. -/
theorem buil_new (w : World) : Buil (w.alloc (.cells #[.pointer none, .slice none 0 0] 50)) w.heap.size w.heap.size [] := Lib.IsBuilderF.of (Lib.fresh_isBuilder 50 5 w)
theorem list_bytes {l : List UInt8} : ([] : List UInt8) ++ l = l := rfl

set_option maxHeartbeats 1100000 in
theorem quote_any (s : ByteArray) (w : World) (hs : s.size ≤ 10000000) :
    Calls Tryd.prog 28 #[.string s] w fun e w' => e = .returned (.string ⟨(quoteL s.data.toList).toArray⟩) ∧ Below w.heap.size w w' := by
  go_enter Tryd.func28, Tryd.ntmps28
  go_wp2_with fail
  have HB := Lib.hid (buil_new w)
  have HW : Hid (Below w.heap.size w (w.alloc (.cells #[.pointer none, .slice none 0 0] 50))) := Lib.hid ((Below.refl _ _).alloc (Nat.le_refl _) _)
  generalize w.alloc (.cells #[.pointer none, .slice none 0 0] 50) = W1 at *
  refine (writeQuoted_any w.heap.size w.heap.size [] s W1 HB.out hs (by simp) HW.out.size).mono ?_
  rintro e w2 ⟨rfl, hb2, hB2, _⟩
  have HB2 := Lib.hid hb2
  have hW2 := HW.out.trans hB2
  clear hb2 hB2
  go_wp2_with fail
  refine (string_any w.heap.size w.heap.size _ w2 HB2.out hW2.size).mono ?_
  rintro e w3 ⟨rfl, _, hB3, _⟩
  have hW3 := hW2.trans hB3
  clear hB3
  go_wp2
  go_ret
  exact ⟨rfl, hW3⟩
end Go.Proofs.YtdbpnfabcmndjaaDoor
