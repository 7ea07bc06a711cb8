/-
  Lists of nothing; a row of one node.
  What the codec's writing calls answer: Quote, Head, Print.
  What the codec's writing calls answer: writeMarks, writeAttrs, writeHead, writeAll, written, Print.
  What codec.Head answers.
  append of one thing to a row of the call's own.
  Tokens: what they are, and a row of them as the call's own; what token.Of answers.
  The tokens of rows that are joined (no program is named here but for the type of tokens).
  Rows that are right, of the same tokens, are the same (no program is named here but for the type of tokens).
  What the codec's writing calls answer: writeAll, written, Print.
-/
import Derived.Test.YtaepolgmojkglaaDoorW6
import Derived.Test.YtaepolgmojkglaaDoorMA
import Derived.Laws.RangeAny
import Derived.Laws.Runes
import Derived.WalkMore
namespace Go.Proofs.YtaepolgmojkglaaDoor
open Go.RowKit Go.Sort

theorem strs_none {w : World} {S : Nat → Prop} : Strs w S (.slice none 0 0) [] := ⟨none, 0, rfl, Nat.le_refl _, by unfold maxLen; omega, .inl rfl⟩
theorem pairs_none {w : World} {S : Nat → Prop} : Pairs w S (.slice none 0 0) [] := ⟨none, 0, rfl, Nat.le_refl _, by unfold maxLen; omega, .inl rfl⟩
theorem kids_none {w : World} {S : Nat → Prop} : Kids w S (.slice none 0 0) [] := ⟨none, 0, rfl, Nat.le_refl _, by unfold maxLen; omega, .inl rfl⟩
theorem kids_row1 {w : World} {S : Nat → Prop} {g : Nat} {t : Tree} {vm va vk : Value} (c0 : w.cell? ⟨g, 0, none⟩ = some (.string t.kind)) (c1 : w.cell? ⟨g, 1, none⟩ = some (.string t.text)) (c2 : w.cell? ⟨g, 2, none⟩ = some vm) (c3 : w.cell? ⟨g, 3, none⟩ = some va) (c4 : w.cell? ⟨g, 4, none⟩ = some vk)
    (hm : Strs w S vm t.marks) (ha : Pairs w S va t.attrs) (hk : Kids w S vk t.kids) (hg : S g) : Kids w S (.slice (some ⟨g, 0, none⟩) 1 1) [t] :=
  kids_one rfl (Nat.le_refl _) (by unfold maxLen; omega) hg ((nodeAt_iff t g 0).2 ⟨vm, va, vk, c0, c1, c2, c3, c4, hm, ha, hk⟩)
end Go.Proofs.YtaepolgmojkglaaDoor

namespace Go.Proofs.YtaepolgmojkglaaDoor
open Go.RowKit Go.Sort

def renByte : Go.Shelf.Ren := ⟨fun | 167 => 64 | 240 => 39 | 276 => 50 | n => n, fun | 0 => 0 | 4 => 4 | 5 => 5 | 9 => 9 | 20 => 20 | 37 => 55 | 70 => 54 | 72 => 57 | 75 => 62 | 164 => 87 | 80 => 66 | n => n, fun | n => n⟩
theorem laysByte : Lays.n167 Tryd.prog renByte := {
  mixed := by kernel_rfl
  f167 := Tryd.func64.trans (congrArg some (by kernel_rfl))
  f240 := Tryd.func39.trans (congrArg some (by kernel_rfl))
  f276 := Tryd.func50.trans (congrArg some (by kernel_rfl))
  t0 := Tryd.underlying0
  a0 := Tryd.isAgg0
  z0 := Tryd.sizeOf0
  v0 := Tryd.zeroValue0
  t4 := Tryd.underlying4
  a4 := Tryd.isAgg4
  z4 := Tryd.sizeOf4
  v4 := Tryd.zeroValue4
  t5 := Tryd.underlying5
  a5 := Tryd.isAgg5
  z5 := Tryd.sizeOf5
  v5 := Tryd.zeroValue5
  t9 := Tryd.underlying9
  a9 := Tryd.isAgg9
  z9 := Tryd.sizeOf9
  v9 := Tryd.zeroValue9
  t20 := Tryd.underlying20
  a20 := Tryd.isAgg20
  z20 := Tryd.sizeOf20
  v20 := Tryd.zeroValue20
  t37 := Tryd.underlying55
  a37 := Tryd.isAgg55
  z37 := Tryd.sizeOf55
  v37 := Tryd.zeroValue55
  t70 := Tryd.underlying54
  a70 := Tryd.isAgg54
  z70 := Tryd.sizeOf54
  v70 := Tryd.zeroValue54
  t72 := Tryd.underlying57
  a72 := Tryd.isAgg57
  z72 := Tryd.sizeOf57
  v72 := Tryd.zeroValue57
  t75 := Tryd.underlying62
  a75 := Tryd.isAgg62
  z75 := Tryd.sizeOf62
  v75 := Tryd.zeroValue62
  t164 := Tryd.underlying87
  a164 := Tryd.isAgg87
  z164 := Tryd.sizeOf87
  v164 := Tryd.zeroValue87 }
theorem extraByte : Builder.Extra Tryd.prog renByte := {
  sizeBuilder := by kernel_rfl
  liesBuilder := by kernel_rfl
  t5 := Tryd.underlying5
  a5 := Tryd.isAgg5
  z5 := Tryd.sizeOf5
  v5 := Tryd.zeroValue5
  infoByte := by kernel_rfl
  cellsByte := by kernel_rfl
  sizeByte := by kernel_rfl
  neB5 := by decide }

/-- What a call that writes leaves. -/
def WPost (B b : Nat) (w : World) (l : List UInt8) (e : Ending) (w' : World) : Prop := e = .returned (.tuple #[]) ∧ Buil w' B b l ∧ Below B w w' ∧ Rest b w w'
theorem byte_any (B b : Nat) (l : List UInt8) (c : UInt8) (w : World) (h : Buil w B b l) (hlen : l.length ≤ 90000000) (hBw : B ≤ w.heap.size) :
    Calls Tryd.prog 64 #[.pointer (some ⟨b, 0, none⟩), .int .u8 (c.toNat : Int)] w fun e w' => e = .returned .nilIface ∧ Buil w' B b (l ++ [c]) ∧ Below B w w' ∧ Rest b w w' := by
  refine (Any.Builder_WriteByte_k laysByte extraByte B b (Lib.byteCells l) (c.toNat : Int) w h (by rw [Lib.byteCells_length]; omega) hBw).mono ?_
  rintro e w' ⟨rfl, h1, hb, hk⟩
  refine ⟨rfl, ?_, hb, hk⟩
  rw [show Lib.byteCells l ++ [.int .u8 (c.toNat : Int)] = Lib.byteCells (l ++ [c]) by simp [Lib.byteCells]] at h1
  exact Or.inr h1
theorem byteN_any (B b : Nat) (l : List UInt8) (n : Int) (c : UInt8) (w : World) (hc : (c.toNat : Int) = n) (h : Buil w B b l) (hlen : l.length ≤ 90000000) (hBw : B ≤ w.heap.size) :
    Calls Tryd.prog 64 #[.pointer (some ⟨b, 0, none⟩), .int .u8 n] w fun e w' => e = .returned .nilIface ∧ Buil w' B b (l ++ [c]) ∧ Below B w w' ∧ Rest b w w' := by
  subst hc; exact byte_any B b l c w h hlen hBw
theorem Buil.lt {w : World} {B b : Nat} {l : List UInt8} (h : Buil w B b l) : b < w.heap.size := by
  rcases h with ⟨_, v, hb, _⟩ | ⟨_, v, hb, _⟩
  · exact (Array.getElem?_eq_some_iff.1 hb).1
  · exact (Array.getElem?_eq_some_iff.1 hb).1
/-- A block of another type than bytes, kept. -/
theorem Rest.blk {b p : Nat} {w w' : World} {cs : Array Value} {T : TypeId} (h : Rest b w w') (hp : w.heap[p]? = some (.cells cs T)) (hn : p ≠ b) (hT : T ≠ 5) : w'.heap[p]? = some (.cells cs T) :=
  h p _ hp (fun e => hn (Option.some.inj e)) (fun _ _ e => by injection e with _ e _; exact hT e)

theorem take_snoc_b (s : ByteArray) (k : Nat) (h : k < s.size) : s.data.toList.take (k + 1) = s.data.toList.take k ++ [s[k]] := by
  rw [List.take_succ_eq_append_getElem (by simpa using h)]; rfl

set_option maxHeartbeats 1000000 in
theorem writeQuoted_any (B b : Nat) (acc : List UInt8) (s : ByteArray) (w : World) (h : Buil w B b acc) (hs : s.size ≤ 10000000) (hacc : acc.length ≤ 50000000) (hBw : B ≤ w.heap.size) :
    Calls Tryd.prog 49 #[.pointer (some ⟨b, 0, none⟩), .string s] w (WPost B b w (acc ++ quoteL s.data.toList)) := by
  have HB := Lib.hid h
  clear h
  go_enter Tryd.func49, Tryd.ntmps49
  go_wp2_with fail
  refine (byteN_any B b acc 34 34 w (by decide) HB.out (by omega) hBw).mono ?_
  rintro e w1 ⟨rfl, hb1, hB1, hr1⟩
  have HB1 := Lib.hid hb1
  have HW1 := Lib.hid (And.intro hB1 hr1)
  clear hb1 hB1 hr1
  go_wp2
  go_loopw [9] (fun i wr => ∃ k : Nat, k ≤ s.size ∧ i = .int .i64 k ∧ Hid (Buil wr B b (acc ++ 34 :: escL (s.data.toList.take k))) ∧ Below B w wr ∧ Hid (Rest b w wr)) (fun i _ => s.size - (intOf i).toNat)
  case atStart => exact ⟨0, by omega, rfl, Lib.hid (by simpa [escL] using HB1.out), HW1.out.1, Lib.hid HW1.out.2⟩
  case round =>
    obtain ⟨k, hk, rfl, hcr, hbr, hrr⟩ := hrel
    have hws := hbr.size
    have hel := escL_le (s.data.toList.take k)
    have htl : (s.data.toList.take k).length ≤ s.size := by rw [List.length_take, Lib.size_eq]; omega
    have hal : (acc ++ 34 :: escL (s.data.toList.take k)).length ≤ 80000000 := by rw [List.length_append, List.length_cons]; omega
    by_cases hlt : k < s.size
    · have HTK : Hid (escL (s.data.toList.take (k + 1)) = escL (s.data.toList.take k) ++ (if s[k] == 34 || s[k] == 92 then [92, s[k]] else [s[k]])) := Lib.hid (by rw [take_snoc_b s k hlt, escL_snoc])
      have HCL : Hid (acc ++ 34 :: escL (s.data.toList.take (k + 1)) = (acc ++ 34 :: escL (s.data.toList.take k)) ++ (if s[k] == 34 || s[k] == 92 then [92, s[k]] else [s[k]])) := Lib.hid (by rw [HTK.out]; simp)
      generalize acc ++ 34 :: escL (s.data.toList.take k) = A1 at *
      generalize hc : s[k] = c at *
      have hcl := UInt8.toNat_lt c
      cases q1 : ((c.toNat : Int) == 34) with
      | true =>
        have hE : (c == 34 || c == 92) = true := by
          have h1 : (c.toNat : Int) = 34 := beq_iff_eq.1 q1
          have h2 : c = 34 := UInt8.toNat_inj.1 (by show c.toNat = 34; omega)
          rw [h2]; rfl
        rw [hE] at HCL
        go_wp2_with fail
        refine (byteN_any B b A1 92 92 wr (by decide) hcr.out (by omega) (by omega)).mono ?_
        rintro e w2 ⟨rfl, hb2, hB2, hr2⟩
        have HB2 := Lib.hid hb2
        have HR2 := Lib.hid (hrr.out.trans hr2)
        have hW2 := hbr.trans hB2
        have hws2 := hW2.size
        clear hb2 hr2 hB2
        go_wp2_with fail
        refine (byteN_any B b (A1 ++ [92]) c.toNat c w2 rfl HB2.out (by rw [List.length_append, List.length_singleton]; omega) (by omega)).mono ?_
        rintro e w3 ⟨rfl, hb3, hB3, hr3⟩
        have HB3 := Lib.hid hb3
        have HR3 := Lib.hid (HR2.out.trans hr3)
        have hW3 := hW2.trans hB3
        clear hb3 hr3 hB3
        go_wp2
        exact ⟨⟨k + 1, by omega, by go_num, Lib.hid (by rw [HCL.out]; have h := HB3.out; rw [List.append_assoc] at h; exact h), hW3, HR3⟩, by simp [intOf]; omega⟩
      | false =>
        cases q2 : ((c.toNat : Int) == 92) with
        | true =>
          have hE : (c == 34 || c == 92) = true := by
            have h1 : (c.toNat : Int) = 92 := beq_iff_eq.1 q2
            have h2 : c = 92 := UInt8.toNat_inj.1 (by show c.toNat = 92; omega)
            rw [h2]; rfl
          rw [hE] at HCL
          go_wp2_with fail
          refine (byteN_any B b A1 92 92 wr (by decide) hcr.out (by omega) (by omega)).mono ?_
          rintro e w2 ⟨rfl, hb2, hB2, hr2⟩
          have HB2 := Lib.hid hb2
          have HR2 := Lib.hid (hrr.out.trans hr2)
          have hW2 := hbr.trans hB2
          have hws2 := hW2.size
          clear hb2 hr2 hB2
          go_wp2_with fail
          refine (byteN_any B b (A1 ++ [92]) c.toNat c w2 rfl HB2.out (by rw [List.length_append, List.length_singleton]; omega) (by omega)).mono ?_
          rintro e w3 ⟨rfl, hb3, hB3, hr3⟩
          have HB3 := Lib.hid hb3
          have HR3 := Lib.hid (HR2.out.trans hr3)
          have hW3 := hW2.trans hB3
          clear hb3 hr3 hB3
          go_wp2
          exact ⟨⟨k + 1, by omega, by go_num, Lib.hid (by rw [HCL.out]; have h := HB3.out; rw [List.append_assoc] at h; exact h), hW3, HR3⟩, by simp [intOf]; omega⟩
        | false =>
          have hE : (c == 34 || c == 92) = false := by
            have h1 : (c.toNat : Int) ≠ 34 := beq_eq_false_iff_ne.1 q1
            have h2 : (c.toNat : Int) ≠ 92 := beq_eq_false_iff_ne.1 q2
            have h3 : (c == 34) = false := beq_eq_false_iff_ne.2 (fun e => h1 (by rw [e]; rfl))
            have h4 : (c == 92) = false := beq_eq_false_iff_ne.2 (fun e => h2 (by rw [e]; rfl))
            rw [h3, h4]; rfl
          rw [hE] at HCL
          go_wp2_with fail
          refine (byteN_any B b A1 c.toNat c wr rfl hcr.out (by omega) (by omega)).mono ?_
          rintro e w3 ⟨rfl, hb3, hB3, hr3⟩
          have HB3 := Lib.hid hb3
          have HR3 := Lib.hid (hrr.out.trans hr3)
          have hW3 := hbr.trans hB3
          clear hb3 hr3 hB3
          go_wp2
          exact ⟨⟨k + 1, by omega, by go_num, Lib.hid (by rw [HCL.out]; exact HB3.out), hW3, HR3⟩, by simp [intOf]; omega⟩
    · have hfull : s.data.toList.take k = s.data.toList := List.take_of_length_le (by rw [← Lib.size_eq]; omega)
      rw [hfull] at hcr hal
      clear hel htl hfull
      go_wp2_with fail
      refine (byteN_any B b _ 34 34 wr (by decide) hcr.out (by omega) (by omega)).mono ?_
      rintro e w3 ⟨rfl, hb3, hB3, hr3⟩
      have HB3 := Lib.hid hb3
      have HR3 := Lib.hid (hrr.out.trans hr3)
      have hW3 := hbr.trans hB3
      clear hb3 hr3 hB3
      go_wp2
      go_end0
      refine ⟨rfl, ?_, hW3, HR3.out⟩
      have h := HB3.out
      rw [List.append_assoc] at h
      exact h

/-- A new builder. -/
theorem buil_new (w : World) : Buil (w.alloc (.cells #[.pointer none, .slice none 0 0] 57)) w.heap.size w.heap.size [] := Lib.IsBuilderF.of (Lib.fresh_isBuilder 57 5 w)
theorem list_bytes {l : List UInt8} : ([] : List UInt8) ++ l = l := rfl

set_option maxHeartbeats 1000000 in
theorem quote_any (s : ByteArray) (w : World) (hs : s.size ≤ 10000000) :
    Calls Tryd.prog 38 #[.string s] w fun e w' => e = .returned (.string ⟨(quoteL s.data.toList).toArray⟩) ∧ Below w.heap.size w w' := by
  go_enter Tryd.func38, Tryd.ntmps38
  go_wp2_with fail
  have HB := Lib.hid (buil_new w)
  have HW : Hid (Below w.heap.size w (w.alloc (.cells #[.pointer none, .slice none 0 0] 57))) := Lib.hid ((Below.refl _ _).alloc (Nat.le_refl _) _)
  generalize w.alloc (.cells #[.pointer none, .slice none 0 0] 57) = W1 at *
  refine (writeQuoted_any w.heap.size w.heap.size [] s W1 HB.out hs (by simp) HW.out.size).mono ?_
  rintro e w2 ⟨rfl, hb2, hB2, _⟩
  have HB2 := Lib.hid hb2
  have hW2 := HW.out.trans hB2
  clear hb2 hB2
  go_wp2_with fail
  refine (string_any w.heap.size w.heap.size _ w2 HB2.out hW2.size).mono ?_
  rintro e w3 ⟨rfl, _, hB3, _⟩
  have hW3 := hW2.trans hB3
  clear hB3
  go_wp2
  go_ret
  exact ⟨rfl, hW3⟩
end Go.Proofs.YtaepolgmojkglaaDoor

namespace Go.Proofs.YtaepolgmojkglaaDoor
open Go.RowKit Go.Sort

theorem marksW_cons {l : List ByteArray} (h : l ≠ []) : marksW l = 60 :: (commaM l ++ [62]) := by cases l with | nil => exact absurd rfl h | cons x l => rfl
theorem attrsW_cons {l : List (ByteArray × ByteArray)} (h : l ≠ []) : attrsW l = 40 :: (blankA l ++ [41]) := by cases l with | nil => exact absurd rfl h | cons x l => rfl
theorem commaM_take_le (l : List ByteArray) (k : Nat) : (commaM (l.take k)).length ≤ weighL l := by
  have h1 := commaM_le (l.take k)
  have h2 : weighL (l.take k) + weighL (l.drop k) = weighL l := by unfold weighL; rw [← List.sum_append, ← List.map_append, List.take_append_drop]
  omega
theorem blankA_take_le (l : List (ByteArray × ByteArray)) (k : Nat) : (blankA (l.take k)).length ≤ 4 * weighP l := by
  have h1 := blankA_le (l.take k)
  have h2 : weighP (l.take k) + weighP (l.drop k) = weighP l := by unfold weighP; rw [← List.sum_append, ← List.map_append, List.take_append_drop]
  omega

set_option maxHeartbeats 1000000 in
theorem writeMarks_any (B b : Nat) (acc : List UInt8) (v : Value) (l : List ByteArray) (w : World) (hB : Buil w B b acc) (h : Strs w (Under B) v l) (hw : weighL l ≤ 1000000) (hacc : acc.length ≤ 45000000) (hBw : B ≤ w.heap.size) :
    Calls Tryd.prog 45 #[.pointer (some ⟨b, 0, none⟩), v] w (WPost B b w (acc ++ marksW l)) := by
  have hlen := length_le_weighL l
  obtain ⟨A, c, rfl, hc⟩ := h.form
  have HB := Lib.hid hB
  have HL := Lib.hid h
  clear hB h
  rcases Nat.eq_zero_or_pos l.length with h0 | h0
  · have HE : Hid (acc ++ marksW l = acc) := Lib.hid (by rw [List.eq_nil_of_length_eq_zero h0]; simp [marksW])
    have q : ((l.length : Int) == 0) = true := by rw [beq_iff_eq]; omega
    clear h0
    go_enter Tryd.func45, Tryd.ntmps45
    go_wp2
    go_end0
    exact ⟨rfl, by rw [HE.out]; exact HB.out, Below.refl _ _, Rest.refl _ _⟩
  · have HE : Hid (acc ++ marksW l = (acc ++ 60 :: commaM l) ++ [62]) := Lib.hid (by rw [marksW_cons (fun e => by rw [e] at h0; simp at h0)]; simp)
    have q : ((l.length : Int) == 0) = false := by rw [beq_eq_false_iff_ne]; omega
    go_enter Tryd.func45, Tryd.ntmps45
    go_wp2_with fail
    refine (byteN_any B b acc 60 60 w (by decide) HB.out (by omega) hBw).mono ?_
    rintro e w1 ⟨rfl, hb1, hB1, hr1⟩
    have HB1 := Lib.hid hb1
    have HW1 := Lib.hid (And.intro hB1 hr1)
    clear hb1 hB1 hr1
    go_wp2
    go_loopw [13] (fun i wr => ∃ k : Nat, k ≤ l.length ∧ i = .int .i64 k ∧ Hid (Buil wr B b (acc ++ 60 :: commaM (l.take k))) ∧ Below B w wr ∧ Hid (Rest b w wr)) (fun i _ => l.length - (intOf i).toNat)
    case atStart => exact ⟨0, by omega, rfl, Lib.hid (by simpa [commaM] using HB1.out), HW1.out.1, Lib.hid HW1.out.2⟩
    case round =>
      obtain ⟨k, hk, rfl, hcr, hbr, hrr⟩ := hrel
      have hws := hbr.size
      have hel := commaM_take_le l k
      have hal : (acc ++ 60 :: commaM (l.take k)).length ≤ 80000000 := by rw [List.length_append, List.length_cons]; omega
      by_cases hlt : k < l.length
      · obtain ⟨g, o, rfl, hub, hcell⟩ := HL.out.get hlt
        have hc1 := (hbr.cell (p := ⟨g, o + k, none⟩) hub).trans (hcell k hlt)
        have hsz := weighL_get (getD_some ByteArray.empty hlt)
        have HTK : Hid (commaM (l.take (k + 1)) = if (l.take k).isEmpty then (l.getD k ByteArray.empty).data.toList else commaM (l.take k) ++ 44 :: (l.getD k ByteArray.empty).data.toList) := Lib.hid (by
          rw [show l.take (k + 1) = l.take k ++ [l.getD k ByteArray.empty] by rw [List.take_succ_eq_append_getElem hlt, List.getD_eq_getElem?_getD, List.getElem?_eq_getElem hlt]; rfl, commaM_snoc])
        generalize l.getD k ByteArray.empty = x at *
        clear hcell
        rcases Nat.eq_zero_or_pos k with hk0 | hk0
        · have HTK' : Hid (acc ++ 60 :: commaM (l.take (k + 1)) = (acc ++ 60 :: commaM (l.take k)) ++ x.data.toList) := Lib.hid (by rw [HTK.out, hk0]; simp [commaM])
          have g0 : decide (0 < k) = false := by simp; omega
          generalize acc ++ 60 :: commaM (l.take k) = A1 at *
          clear hk0
          go_wp2_with fail
          refine (write_any B b A1 x wr hcr.out (by omega) (by omega)).mono ?_
          rintro e w3 ⟨rfl, hb3, hB3, hr3⟩
          have HB3 := Lib.hid hb3
          have HR3 := Lib.hid (hrr.out.trans hr3)
          have hW3 := hbr.trans hB3
          clear hb3 hr3 hB3
          go_wp2
          exact ⟨⟨k + 1, by omega, by go_num, Lib.hid (by rw [HTK'.out]; exact HB3.out), hW3, HR3⟩, by simp [intOf]; omega⟩
        · have HTK' : Hid (acc ++ 60 :: commaM (l.take (k + 1)) = ((acc ++ 60 :: commaM (l.take k)) ++ [44]) ++ x.data.toList) := Lib.hid (by
            have : (l.take k).isEmpty = false := by rw [List.isEmpty_eq_false_iff]; intro e; have := congrArg List.length e; rw [List.length_take, List.length_nil] at this; omega
            rw [HTK.out, this]; simp)
          generalize acc ++ 60 :: commaM (l.take k) = A1 at *
          have g0 : decide (0 < k) = true := by simpa using hk0
          go_wp2_with fail
          refine (byteN_any B b A1 44 44 wr (by decide) hcr.out (by omega) (by omega)).mono ?_
          rintro e w2 ⟨rfl, hb2, hB2, hr2⟩
          have HB2 := Lib.hid hb2
          have HR2 := Lib.hid (hrr.out.trans hr2)
          have hW2 := hbr.trans hB2
          have hws2 := hW2.size
          clear hb2 hr2 hB2
          go_wp2_with fail
          refine (write_any B b (A1 ++ [44]) x w2 HB2.out (by rw [List.length_append, List.length_singleton]; omega) (by omega)).mono ?_
          rintro e w3 ⟨rfl, hb3, hB3, hr3⟩
          have HB3 := Lib.hid hb3
          have HR3 := Lib.hid (HR2.out.trans hr3)
          have hW3 := hW2.trans hB3
          clear hb3 hr3 hB3
          go_wp2
          exact ⟨⟨k + 1, by omega, by go_num, Lib.hid (by rw [HTK'.out]; exact HB3.out), hW3, HR3⟩, by simp [intOf]; omega⟩
      · rw [List.take_of_length_le (by omega)] at hcr hal
        clear hel
        go_wp2_with fail
        refine (byteN_any B b _ 62 62 wr (by decide) hcr.out (by omega) (by omega)).mono ?_
        rintro e w3 ⟨rfl, hb3, hB3, hr3⟩
        have HB3 := Lib.hid hb3
        have HR3 := Lib.hid (hrr.out.trans hr3)
        have hW3 := hbr.trans hB3
        clear hb3 hr3 hB3
        go_wp2
        go_end0
        exact ⟨rfl, by rw [HE.out]; exact HB3.out, hW3, HR3.out⟩

set_option maxHeartbeats 2000000 in
theorem writeAttrs_any (B b : Nat) (acc : List UInt8) (v : Value) (l : List (ByteArray × ByteArray)) (w : World) (hB : Buil w B b acc) (h : Pairs w (Under B) v l) (hw : weighP l ≤ 1000000) (hacc : acc.length ≤ 40000000) (hBw : B ≤ w.heap.size) :
    Calls Tryd.prog 46 #[.pointer (some ⟨b, 0, none⟩), v] w (WPost B b w (acc ++ attrsW l)) := by
  have hlen := length_le_weighP l
  obtain ⟨A, c, rfl, hc⟩ := h.form
  have HB := Lib.hid hB
  have HL := Lib.hid h
  clear hB h
  rcases Nat.eq_zero_or_pos l.length with h0 | h0
  · have HE : Hid (acc ++ attrsW l = acc) := Lib.hid (by rw [List.eq_nil_of_length_eq_zero h0]; simp [attrsW])
    have q : ((l.length : Int) == 0) = true := by rw [beq_iff_eq]; omega
    clear h0
    go_enter Tryd.func46, Tryd.ntmps46
    go_wp2
    go_end0
    exact ⟨rfl, by rw [HE.out]; exact HB.out, Below.refl _ _, Rest.refl _ _⟩
  · have HE : Hid (acc ++ attrsW l = (acc ++ 40 :: blankA l) ++ [41]) := Lib.hid (by rw [attrsW_cons (fun e => by rw [e] at h0; simp at h0)]; simp)
    have q : ((l.length : Int) == 0) = false := by rw [beq_eq_false_iff_ne]; omega
    go_enter Tryd.func46, Tryd.ntmps46
    go_wp2_with fail
    refine (byteN_any B b acc 40 40 w (by decide) HB.out (by omega) hBw).mono ?_
    rintro e w1 ⟨rfl, hb1, hB1, hr1⟩
    have HB1 := Lib.hid hb1
    have HW1 := Lib.hid (And.intro hB1 hr1)
    clear hb1 hB1 hr1
    go_wp2
    go_loopw [13] (fun i wr => ∃ k : Nat, k ≤ l.length ∧ i = .int .i64 k ∧ Hid (Buil wr B b (acc ++ 40 :: blankA (l.take k))) ∧ Below B w wr ∧ Hid (Rest b w wr)) (fun i _ => l.length - (intOf i).toNat)
    case atStart => exact ⟨0, by omega, rfl, Lib.hid (by simpa [blankA] using HB1.out), HW1.out.1, Lib.hid HW1.out.2⟩
    case round =>
      obtain ⟨k, hk, rfl, hcr, hbr, hrr⟩ := hrel
      have hws := hbr.size
      have hel := blankA_take_le l k
      have hal : (acc ++ 40 :: blankA (l.take k)).length ≤ 45000000 := by rw [List.length_append, List.length_cons]; omega
      by_cases hlt : k < l.length
      · obtain ⟨g, o, rfl, hub, hcell⟩ := HL.out.get hlt
        have hc1 := (hbr.cell (p := ⟨g, o + k * 2, none⟩) hub).trans (hcell k hlt).1
        have hc2 := (hbr.cell (p := ⟨g, o + k * 2 + 1, none⟩) hub).trans (hcell k hlt).2
        have hsz := weighP_get (getD_some (ByteArray.empty, ByteArray.empty) hlt)
        have HTK : Hid (blankA (l.take (k + 1)) = if (l.take k).isEmpty then attrW (pairAt l k) else blankA (l.take k) ++ 32 :: attrW (pairAt l k)) := Lib.hid (by
          rw [show l.take (k + 1) = l.take k ++ [pairAt l k] by rw [List.take_succ_eq_append_getElem hlt, pairAt, List.getD_eq_getElem?_getD, List.getElem?_eq_getElem hlt]; rfl, blankA_snoc])
        change (pairAt l k).1.size + (pairAt l k).2.size < _ at hsz
        generalize pairAt l k = x at *
        have hbl := hcr.out.lt
        have HCR := Lib.hid (hcr.out.below ((Below.refl _ wr).alloc (Nat.le_refl _) (.cells #[.string x.1, .string x.2] 51)))
        have HPB : Hid ((wr.alloc (.cells #[.string x.1, .string x.2] 51)).heap[wr.heap.size]? = some (.cells #[.string x.1, .string x.2] 51)) := Lib.hid (by show (wr.heap.push _)[wr.heap.size]? = _; simp)
        have hWA : Below B w (wr.alloc (.cells #[.string x.1, .string x.2] 51)) := hbr.alloc (by omega) _
        have HRA : Hid (Rest b w (wr.alloc (.cells #[.string x.1, .string x.2] 51))) := Lib.hid (hrr.out.trans (Rest.of_below ((Below.refl _ _).alloc (Nat.le_refl _) _)))
        have hzA : (wr.alloc (.cells #[.string x.1, .string x.2] 51)).heap.size = wr.heap.size + 1 := by simp
        clear hcell hcr
        have key : ∀ (A1 : List UInt8), Hid (acc ++ 40 :: blankA (l.take (k + 1)) = A1 ++ attrW x) → Hid (acc ++ 40 :: blankA (l.take (k + 1)) = ((A1 ++ x.1.data.toList) ++ [61]) ++ quoteL x.2.data.toList) := fun A1 h => Lib.hid (by rw [h.out]; simp [attrW])
        rcases Nat.eq_zero_or_pos k with hk0 | hk0
        · have HTK' := key (acc ++ 40 :: blankA (l.take k)) (Lib.hid (by rw [HTK.out, hk0]; simp [blankA]))
          clear key
          have g0 : decide (0 < k) = false := by simp; omega
          generalize acc ++ 40 :: blankA (l.take k) = A1 at *
          clear hk0
          go_wp2_with fail
          generalize wr.alloc (.cells #[.string x.1, .string x.2] 51) = W2 at *
          refine (write_any B b A1 x.1 W2 HCR.out (by omega) (by omega)).mono ?_
          rintro e w3 ⟨rfl, hb3, hB3, hr3⟩
          have HB3 := Lib.hid hb3
          have HR3 := Lib.hid (HRA.out.trans hr3)
          have HP3 := Lib.hid (hr3.blk HPB.out (by omega) (by decide))
          have hW3 := hWA.trans hB3
          have hws3 := hW3.size
          clear hb3 hr3 hB3
          go_wp2_with fail
          refine (byteN_any B b (A1 ++ x.1.data.toList) 61 61 w3 (by decide) HB3.out (by rw [List.length_append, ← Lib.size_eq]; omega) (by omega)).mono ?_
          rintro e w4 ⟨rfl, hb4, hB4, hr4⟩
          have HB4 := Lib.hid hb4
          have HR4 := Lib.hid (HR3.out.trans hr4)
          have hp4 := hr4.blk HP3.out (by omega) (by decide)
          have p1 : w4.cell? ⟨wr.heap.size, 1, none⟩ = some (.string x.2) := by simp only [World.cell?, hp4]; rfl
          have hW4 := hW3.trans hB4
          have hws4 := hW4.size
          clear hb4 hr4 hB4 hp4
          go_wp2_with fail
          refine (writeQuoted_any B b ((A1 ++ x.1.data.toList) ++ [61]) x.2 w4 HB4.out (by omega) (by rw [List.length_append, List.length_append, ← Lib.size_eq, List.length_singleton]; omega) (by omega)).mono ?_
          rintro e w5 ⟨rfl, hb5, hB5, hr5⟩
          have HB5 := Lib.hid hb5
          have HR5 := Lib.hid (HR4.out.trans hr5)
          have hW5 := hW4.trans hB5
          clear hb5 hr5 hB5 p1
          go_wp2
          exact ⟨⟨k + 1, by omega, by go_num, Lib.hid (by rw [HTK'.out]; exact HB5.out), hW5, HR5⟩, by simp [intOf]; omega⟩
        · have HTK' := key ((acc ++ 40 :: blankA (l.take k)) ++ [32]) (Lib.hid (by
            have : (l.take k).isEmpty = false := by rw [List.isEmpty_eq_false_iff]; intro e; have := congrArg List.length e; rw [List.length_take, List.length_nil] at this; omega
            rw [HTK.out, this]; simp))
          clear key
          generalize acc ++ 40 :: blankA (l.take k) = A0 at *
          have g0 : decide (0 < k) = true := by simpa using hk0
          go_wp2_with fail
          generalize wr.alloc (.cells #[.string x.1, .string x.2] 51) = W2 at *
          refine (byteN_any B b A0 32 32 W2 (by decide) HCR.out (by omega) (by omega)).mono ?_
          rintro e w2 ⟨rfl, hb2, hB2, hr2⟩
          have HB2 := Lib.hid hb2
          have HR2 := Lib.hid (HRA.out.trans hr2)
          have hp2 := hr2.blk HPB.out (by omega) (by decide)
          have p0 : w2.cell? ⟨wr.heap.size, 0, none⟩ = some (.string x.1) := by simp only [World.cell?, hp2]; rfl
          have HP2 := Lib.hid hp2
          have hW2 := hWA.trans hB2
          have hws2 := hW2.size
          have hA1 : (A0 ++ [32]).length ≤ 45000001 := by rw [List.length_append, List.length_singleton]; omega
          generalize A0 ++ [32] = A1 at *
          clear hb2 hr2 hB2 hp2
          go_wp2_with fail
          refine (write_any B b A1 x.1 w2 HB2.out (by omega) (by omega)).mono ?_
          rintro e w3 ⟨rfl, hb3, hB3, hr3⟩
          have HB3 := Lib.hid hb3
          have HR3 := Lib.hid (HR2.out.trans hr3)
          have HP3 := Lib.hid (hr3.blk HP2.out (by omega) (by decide))
          have hW3 := hW2.trans hB3
          have hws3 := hW3.size
          clear hb3 hr3 hB3 p0
          go_wp2_with fail
          refine (byteN_any B b (A1 ++ x.1.data.toList) 61 61 w3 (by decide) HB3.out (by rw [List.length_append, ← Lib.size_eq]; omega) (by omega)).mono ?_
          rintro e w4 ⟨rfl, hb4, hB4, hr4⟩
          have HB4 := Lib.hid hb4
          have HR4 := Lib.hid (HR3.out.trans hr4)
          have hp4 := hr4.blk HP3.out (by omega) (by decide)
          have p1 : w4.cell? ⟨wr.heap.size, 1, none⟩ = some (.string x.2) := by simp only [World.cell?, hp4]; rfl
          have hW4 := hW3.trans hB4
          have hws4 := hW4.size
          clear hb4 hr4 hB4 hp4
          go_wp2_with fail
          refine (writeQuoted_any B b ((A1 ++ x.1.data.toList) ++ [61]) x.2 w4 HB4.out (by omega) (by rw [List.length_append, List.length_append, ← Lib.size_eq, List.length_singleton]; omega) (by omega)).mono ?_
          rintro e w5 ⟨rfl, hb5, hB5, hr5⟩
          have HB5 := Lib.hid hb5
          have HR5 := Lib.hid (HR4.out.trans hr5)
          have hW5 := hW4.trans hB5
          clear hb5 hr5 hB5 p1
          go_wp2
          exact ⟨⟨k + 1, by omega, by go_num, Lib.hid (by rw [HTK'.out]; exact HB5.out), hW5, HR5⟩, by simp [intOf]; omega⟩
      · rw [List.take_of_length_le (by omega)] at hcr hal
        clear hel
        go_wp2_with fail
        refine (byteN_any B b _ 41 41 wr (by decide) hcr.out (by omega) (by omega)).mono ?_
        rintro e w3 ⟨rfl, hb3, hB3, hr3⟩
        have HB3 := Lib.hid hb3
        have HR3 := Lib.hid (hrr.out.trans hr3)
        have hW3 := hbr.trans hB3
        clear hb3 hr3 hB3
        go_wp2
        go_end0
        exact ⟨rfl, by rw [HE.out]; exact HB3.out, hW3, HR3.out⟩

set_option maxHeartbeats 1000000 in
theorem writeHead_any (B b : Nat) (acc : List UInt8) (v : Value) (t : Tree) (w : World) (hB : Buil w B b acc) (h : Node w (Under B) v t) (hw : weigh t ≤ 1000000) (hacc : acc.length ≤ 30000000) (hBw : B ≤ w.heap.size) :
    Calls Tryd.prog 34 #[.pointer (some ⟨b, 0, none⟩), v] w (WPost B b w (acc ++ headW t)) := by
  have HB := Lib.hid hB
  obtain ⟨vm, va, vk, rfl, hm, ha, hk⟩ := h
  have HM := Lib.hid hm
  have HA := Lib.hid ha
  obtain ⟨A1, c1, rfl, _⟩ := hm.form
  obtain ⟨A2, c2, rfl, _⟩ := ha.form
  have hbl := hB.lt
  have hwk : t.kind.size + weighL t.marks + weighP t.attrs + 2 ≤ weigh t := by obtain ⟨k, t, m, a, l⟩ := t; simp only [weigh, Tree.kind, Tree.marks, Tree.attrs]; omega
  have HW : Hid (Below B w (w.alloc (.cells #[.string t.kind, .string t.text, .slice A1 t.marks.length c1, .slice A2 t.attrs.length c2, vk] 47))) := Lib.hid ((Below.refl _ _).alloc hBw _)
  have HR : Hid (Rest b w (w.alloc (.cells #[.string t.kind, .string t.text, .slice A1 t.marks.length c1, .slice A2 t.attrs.length c2, vk] 47))) := Lib.hid (Rest.of_below ((Below.refl _ _).alloc (Nat.le_refl _) _))
  have HB1 := Lib.hid (HB.out.below ((Below.refl _ w).alloc (Nat.le_refl _) (.cells #[.string t.kind, .string t.text, .slice A1 t.marks.length c1, .slice A2 t.attrs.length c2, vk] 47)))
  have HP : Hid ((w.alloc (.cells #[.string t.kind, .string t.text, .slice A1 t.marks.length c1, .slice A2 t.attrs.length c2, vk] 47)).heap[w.heap.size]? = some (.cells #[.string t.kind, .string t.text, .slice A1 t.marks.length c1, .slice A2 t.attrs.length c2, vk] 47)) := Lib.hid (by show (w.heap.push _)[w.heap.size]? = _; simp)
  have hz : (w.alloc (.cells #[.string t.kind, .string t.text, .slice A1 t.marks.length c1, .slice A2 t.attrs.length c2, vk] 47)).heap.size = w.heap.size + 1 := by simp
  clear hm ha hk hB HB
  cases hk : isTxt t.kind with
  | true =>
    have hk' : (t.kind.toList == [116, 101, 120, 116]) = true := hk
    have HE : Hid (headW t = marksW t.marks) := Lib.hid (by simp [headW, hk])
    clear hk
    go_enter Tryd.func34, Tryd.ntmps34
    go_wp2_with fail
    generalize w.alloc (.cells #[.string t.kind, .string t.text, .slice A1 t.marks.length c1, .slice A2 t.attrs.length c2, vk] 47) = W1 at *
    refine (writeMarks_any B b acc _ t.marks W1 HB1.out (HM.out.below HW.out) (by omega) (by omega) (by omega)).mono ?_
    rintro e w2 ⟨rfl, hb2, hB2, hr2⟩
    have HB2 := Lib.hid hb2
    have HR2 := Lib.hid (HR.out.trans hr2)
    have hW2 := HW.out.trans hB2
    clear hb2 hB2 hr2
    go_wp2
    refine bodyPost_ret (results_none rfl _ _ _) rfl ?_
    exact ⟨rfl, by rw [HE.out]; exact HB2.out, hW2, HR2.out⟩
  | false =>
    have hk' : (t.kind.toList == [116, 101, 120, 116]) = false := hk
    have HE : Hid (acc ++ headW t = (acc ++ t.kind.data.toList) ++ attrsW t.attrs) := Lib.hid (by simp [headW, hk])
    clear hk
    go_enter Tryd.func34, Tryd.ntmps34
    go_wp2_with fail
    generalize w.alloc (.cells #[.string t.kind, .string t.text, .slice A1 t.marks.length c1, .slice A2 t.attrs.length c2, vk] 47) = W1 at *
    refine (write_any B b acc t.kind W1 HB1.out (by omega) (by omega)).mono ?_
    rintro e w2 ⟨rfl, hb2, hB2, hr2⟩
    have HB2 := Lib.hid hb2
    have HR2 := Lib.hid (HR.out.trans hr2)
    have hp2 := hr2.blk HP.out (by omega) (by decide)
    have p3 : w2.cell? ⟨w.heap.size, 3, none⟩ = some (.slice A2 t.attrs.length c2) := by simp only [World.cell?, hp2]; rfl
    have hW2 := HW.out.trans hB2
    have hws2 := hW2.size
    clear hb2 hB2 hr2 hp2
    go_wp2_with fail
    refine (writeAttrs_any B b (acc ++ t.kind.data.toList) _ t.attrs w2 HB2.out (HA.out.below hW2) (by omega) (by rw [List.length_append, ← Lib.size_eq]; omega) (by omega)).mono ?_
    rintro e w3 ⟨rfl, hb3, hB3, hr3⟩
    have HB3 := Lib.hid hb3
    have HR3 := Lib.hid (HR2.out.trans hr3)
    have hW3 := hW2.trans hB3
    clear hb3 hB3 hr3 p3
    go_wp2
    go_end0
    exact ⟨rfl, by rw [HE.out]; exact HB3.out, hW3, HR3.out⟩
end Go.Proofs.YtaepolgmojkglaaDoor

namespace Go.Proofs.YtaepolgmojkglaaDoor
open Go.RowKit Go.Sort

set_option maxHeartbeats 1000000 in
theorem head_any (v : Value) (t : Tree) (w : World) (h : Node w (Under w.heap.size) v t) (hw : weigh t ≤ 1000000) :
    Calls Tryd.prog 20 #[v] w fun e w' => e = .returned (.string ⟨(headW t).toArray⟩) ∧ Below w.heap.size w w' := by
  obtain ⟨vm, va, vk, rfl, hm, ha, hk⟩ := h
  obtain ⟨A1, c1, rfl, _⟩ := hm.form
  obtain ⟨A2, c2, rfl, _⟩ := ha.form
  obtain ⟨A3, c3, rfl, _⟩ := hk.form
  have HN : Hid (Node w (Under w.heap.size) (.agg #[.string t.kind, .string t.text, .slice A1 t.marks.length c1, .slice A2 t.attrs.length c2, .slice A3 t.kids.length c3]) t) := Lib.hid ⟨_, _, _, rfl, hm, ha, hk⟩
  clear hm ha hk
  have hb0 : Below w.heap.size w (w.alloc (.cells #[.string t.kind, .string t.text, .slice A1 t.marks.length c1, .slice A2 t.attrs.length c2, .slice A3 t.kids.length c3] 47)) := (Below.refl _ _).alloc (Nat.le_refl _) _
  have hz0 : (w.alloc (.cells #[.string t.kind, .string t.text, .slice A1 t.marks.length c1, .slice A2 t.attrs.length c2, .slice A3 t.kids.length c3] 47)).heap.size = w.heap.size + 1 := by simp
  have HB0 := Lib.hid hb0
  clear hb0
  go_enter Tryd.func20, Tryd.ntmps20
  go_wp2_with fail
  have HB := Lib.hid (buil_new (w.alloc (.cells #[.string t.kind, .string t.text, .slice A1 t.marks.length c1, .slice A2 t.attrs.length c2, .slice A3 t.kids.length c3] 47)))
  have HW : Hid (Below (w.alloc (.cells #[.string t.kind, .string t.text, .slice A1 t.marks.length c1, .slice A2 t.attrs.length c2, .slice A3 t.kids.length c3] 47)).heap.size (w.alloc (.cells #[.string t.kind, .string t.text, .slice A1 t.marks.length c1, .slice A2 t.attrs.length c2, .slice A3 t.kids.length c3] 47)) ((w.alloc (.cells #[.string t.kind, .string t.text, .slice A1 t.marks.length c1, .slice A2 t.attrs.length c2, .slice A3 t.kids.length c3] 47)).alloc (.cells #[.pointer none, .slice none 0 0] 57))) := Lib.hid ((Below.refl _ _).alloc (Nat.le_refl _) _)
  rw [← hz0]
  clear hz0
  generalize w.alloc (.cells #[.string t.kind, .string t.text, .slice A1 t.marks.length c1, .slice A2 t.attrs.length c2, .slice A3 t.kids.length c3] 47) = W0 at *
  generalize W0.alloc (.cells #[.pointer none, .slice none 0 0] 57) = W1 at *
  refine (writeHead_any W0.heap.size W0.heap.size [] _ t W1 HB.out (((HN.out.below HB0.out).more HB0.out.size).below HW.out) hw (by simp) HW.out.size).mono ?_
  rintro e w2 ⟨rfl, hb2, hB2, _⟩
  have HB2 := Lib.hid hb2
  have hW2 := HW.out.trans hB2
  clear hb2 hB2
  go_wp2_with fail
  refine (string_any W0.heap.size W0.heap.size _ w2 HB2.out hW2.size).mono ?_
  rintro e w3 ⟨rfl, _, hB3, _⟩
  have hW3 := belowNext HB0.out (hW2.trans hB3)
  clear hB3
  go_wp2
  go_ret
  exact ⟨rfl, hW3⟩
end Go.Proofs.YtaepolgmojkglaaDoor

namespace Go.Proofs.YtaepolgmojkglaaDoor
open Go.RowKit Go.Sort Go.Maps

section
variable {w : World} {ops : Array Oper} {rest : List Oper} {o : Oper} {a : Act} {Q : Exit → Act → World → Prop}
theorem wp_append_gen {K : Act → World → Prop} {t e : TypeId} {z : Value} {size bytes : Nat} (ht : Tryd.prog.underlying t = some (.slice e)) (hinfo : (Tryd.prog.info? e).map (fun i => (i.zero, i.size, i.bytes)) = some (some z, size, bytes)) (hzs : z.cells.size = size) (hsz : 0 < size) (hby : bytes ≤ 1000)
    (s x : Operand) (ho : o.op = .call { callee := .builtin .append, args := #[s, x], argTypes := #[t, t] })
    (base : Nat) (v : Value) (n : Nat) (xs : List Value) (g c : Nat) (news : List Value) (hs : a.eval s = v) (hx : a.eval x = .slice (some ⟨g, 0, none⟩) 1 c) (hown : w.ownsRow base e size v n xs)
    (hl : news.length = size) (hnews : ∀ j u, news[j]? = some u → w.cell? ⟨g, j, none⟩ = some u) (h1 : ∀ u ∈ news, u.oneCell' = true) (hn : n + 1 ≤ 100000000) (hbase : base ≤ w.heap.size)
    (h : ∀ v' w', w'.ownsRow base e size v' (n + 1) (xs ++ news) → w.grownBy w' v.ownBlock → K (a.put o.dst v') w') : o.wp Tryd.prog a w K Q := by
  obtain ⟨i, hi, hz0, hz1, hz2⟩ := info_parts hinfo
  obtain ⟨v', w', hr, h2, h3, _, _⟩ := run_append_own_at (P := Tryd.prog) w base t o.type e i z size bytes ht hi hz0 hz1 hz2 hzs hsz v n xs hown ⟨g, 0, none⟩ 1 c news (by rw [hl, Nat.one_mul]) (fun j u hj => by rw [add_cell, Nat.zero_add]; exact hnews j u hj) h1 (by unfold maxLen; omega) (Nat.le_trans (Nat.mul_le_mul hn hby) (by decide)) hbase
  unfold Oper.wp execOp
  simp only [ho, resolve, invoke, builtin, Sem.run_bind, Sem.run_pure, Result.andThen_ok, List.map_toArray, List.map_cons, List.map_nil, hs, hx, hr]
  exact h v' w' h2 h3
theorem step_append_gen {K : Act → World → Prop} {E : Prop} {t e : TypeId} {z : Value} {size bytes : Nat} (ht : Tryd.prog.underlying t = some (.slice e)) (hinfo : (Tryd.prog.info? e).map (fun i => (i.zero, i.size, i.bytes)) = some (some z, size, bytes)) (hzs : z.cells.size = size) (hsz : 0 < size) (hby : bytes ≤ 1000)
    (hgd : o.guard = none) (s x : Operand) (ho : o.op = .call { callee := .builtin .append, args := #[s, x], argTypes := #[t, t] })
    (base : Nat) (v : Value) (n : Nat) (xs : List Value) (g c : Nat) (news : List Value) (hs : a.eval s = v) (hx : a.eval x = .slice (some ⟨g, 0, none⟩) 1 c) (hown : w.ownsRow base e size v n xs)
    (hl : news.length = size) (hnews : ∀ j u, news[j]? = some u → w.cell? ⟨g, j, none⟩ = some u) (h1 : ∀ u ∈ news, u.oneCell' = true) (hn : n + 1 ≤ 100000000) (hbase : base ≤ w.heap.size)
    (h : ∀ v' w', w'.ownsRow base e size v' (n + 1) (xs ++ news) → w.grownBy w' v.ownBlock → K (a.put o.dst v') w') :
    if Region.wanted o (yielded ops a.tmps) = true then Oper.wp Tryd.prog o a w K Q else E := by
  have hw : Region.wanted o (yielded ops a.tmps) = true := by simp [Region.wanted, hgd]
  rw [if_pos hw]
  exact wp_append_gen ht hinfo hzs hsz hby s x ho base v n xs g c news hs hx hown hl hnews h1 hn hbase h
theorem wpList_append_gen {t e : TypeId} {z : Value} {size bytes : Nat} (ht : Tryd.prog.underlying t = some (.slice e)) (hinfo : (Tryd.prog.info? e).map (fun i => (i.zero, i.size, i.bytes)) = some (some z, size, bytes)) (hzs : z.cells.size = size) (hsz : 0 < size) (hby : bytes ≤ 1000)
    (hgd : o.guard = none) (s x : Operand) (ho : o.op = .call { callee := .builtin .append, args := #[s, x], argTypes := #[t, t] })
    (base : Nat) (v : Value) (n : Nat) (xs : List Value) (g c : Nat) (news : List Value) (hs : a.eval s = v) (hx : a.eval x = .slice (some ⟨g, 0, none⟩) 1 c) (hown : w.ownsRow base e size v n xs)
    (hl : news.length = size) (hnews : ∀ j u, news[j]? = some u → w.cell? ⟨g, j, none⟩ = some u) (h1 : ∀ u ∈ news, u.oneCell' = true) (hn : n + 1 ≤ 100000000) (hbase : base ≤ w.heap.size)
    (h : ∀ v' w', w'.ownsRow base e size v' (n + 1) (xs ++ news) → w.grownBy w' v.ownBlock → wpList Tryd.prog ops Q rest (a.put o.dst v') w') : wpList Tryd.prog ops Q (o :: rest) a w :=
  wpList_plain hgd fun _ hK => wp_append_gen ht hinfo hzs hsz hby s x ho base v n xs g c news hs hx hown hl hnews h1 hn hbase fun v' w' h1 h2 => hK _ _ (h v' w' h1 h2)
end

theorem str_info : (Tryd.prog.info? 9).map (fun i => (i.zero, i.size, i.bytes)) = some (some (.string ⟨#[]⟩), 1, 16) := by kernel_rfl
theorem pair_info : (Tryd.prog.info? 51).map (fun i => (i.zero, i.size, i.bytes)) = some (some (.agg #[.string ⟨#[]⟩, .string ⟨#[]⟩]), 2, 32) := by kernel_rfl

theorem fresh_cell (w : World) (cs : Array Value) (T : TypeId) (j : Nat) (v : Value) (h : cs[j]? = some v) : (w.alloc (.cells cs T)).cell? ⟨w.heap.size, j, none⟩ = some v := by
  unfold World.cell?
  simp only [heap_alloc_new]
  exact h
theorem five_cells {w : World} {g : Nat} {u0 u1 u2 u3 u4 : Value} {T : TypeId} (h : w.heap[g]? = some (.cells #[u0, u1, u2, u3, u4] T)) :
    w.cell? ⟨g, 0, none⟩ = some u0 ∧ w.cell? ⟨g, 1, none⟩ = some u1 ∧ w.cell? ⟨g, 2, none⟩ = some u2 ∧ w.cell? ⟨g, 3, none⟩ = some u3 ∧ w.cell? ⟨g, 4, none⟩ = some u4 := by
  simp [World.cell?, h]
theorem iter_below (w : World) (s : ByteArray) (p : Nat) : Below w.heap.size w (w.iter s p) := (Below.refl _ _).alloc (Nat.le_refl _) _
end Go.Proofs.YtaepolgmojkglaaDoor

namespace Go.Proofs.YtaepolgmojkglaaDoor
open Go.RowKit Go.Sort Go.Maps

/-- A token. -/
structure Tok where
  kind : Nat
  text : ByteArray
  head : ByteArray
deriving DecidableEq
/-- The text of one code point. -/
def encB (r : Nat) : ByteArray := Utf8.encode (r : Int)
theorem encB_eq (r : Nat) : encB r = Utf8.encode (r : Int) := rfl
def signT (h : ByteArray) (r : Nat) : Tok := ⟨116, encB r, h⟩
def openT (h : ByteArray) : Tok := ⟨111, ⟨#[]⟩, h⟩
def closeT : Tok := ⟨99, ⟨#[]⟩, ⟨#[]⟩⟩
def headT (t : Tree) : ByteArray := ⟨(headW t).toArray⟩
/-! ### the tokens of a node, and of nodes -/
mutual
def tokB : Tree → List Tok
  | .mk k t m a l => if isTxt k then (pts t.data.toList).map (signT (headT (.mk k t m a l))) else openT (headT (.mk k t m a l)) :: (toksB l ++ [closeT])
def toksB : List Tree → List Tok
  | [] => []
  | t :: l => tokB t ++ toksB l
end
theorem tokB_text (t : Tree) (h : isTxt t.kind = true) : tokB t = (pts t.text.data.toList).map (signT (headT t)) := by
  obtain ⟨k, x, m, a, l⟩ := t; simp only [Tree.kind] at h; simp [tokB, h, Tree.text]
theorem tokB_node (t : Tree) (h : isTxt t.kind = false) : tokB t = openT (headT t) :: (toksB t.kids ++ [closeT]) := by
  obtain ⟨k, x, m, a, l⟩ := t; simp only [Tree.kind] at h; simp [tokB, h, Tree.kids]
theorem toksB_append : ∀ a b : List Tree, toksB (a ++ b) = toksB a ++ toksB b
  | [], b => by simp [toksB]
  | x :: a, b => by rw [List.cons_append, toksB, toksB, toksB_append a b, List.append_assoc]
theorem toksB_one (t : Tree) : toksB [t] = tokB t := by simp [toksB]
theorem ptsF_len : ∀ (n : Nat) (l : List UInt8), (ptsF n l).length ≤ n
  | 0, _ => by simp [ptsF]
  | n + 1, l => by
    simp only [ptsF]; split
    · simp
    · have := ptsF_len n (l.drop (Lib.decodeL l).2); simp only [List.length_cons]; omega
theorem pts_len (l : List UInt8) : (pts l).length ≤ l.length := ptsF_len _ l

def tokCells (t : Tok) : List Value := [.int .u8 (t.kind : Int), .string t.text, .string t.head]
theorem tokCells_len (t : Tok) : (tokCells t).length = 3 := rfl
/-- A row of tokens of the call's own. -/
def TRow (w : World) (base : Nat) (v : Value) (l : List Tok) : Prop := w.ownsRow base 34 3 v l.length (l.flatMap tokCells)
theorem tok_info : (Tryd.prog.info? 34).map (fun i => (i.zero, i.size, i.bytes)) = some (some (.agg #[.int .u8 0, .string ⟨#[]⟩, .string ⟨#[]⟩]), 3, 40) := by kernel_rfl

theorem ownsRow_keep {w w' : World} {base : Nat} {e : TypeId} {size : Nat} {v : Value} {n : Nat} {xs : List Value} (h : w.ownsRow base e size v n xs) (k : ∀ g, v.ownBlock = some g → w'.heap[g]? = w.heap[g]?) : w'.ownsRow base e size v n xs := by
  refine ⟨h.1, ?_⟩
  rcases h.2 with hn | ⟨g, cap, cur, hv, hb, hg, rest⟩
  · exact .inl hn
  · exact .inr ⟨g, cap, cur, hv, hb, (k g (by rw [hv]; rfl)).trans hg, rest⟩
theorem TRow.block {w : World} {base : Nat} {v : Value} {l : List Tok} (h : TRow w base v l) {g : Nat} (hg : v.ownBlock = some g) : base ≤ g ∧ ∃ cur, w.heap[g]? = some (.cells cur 34) := by
  rcases h.2 with ⟨rfl, _⟩ | ⟨g', cap, cur, rfl, hb, hg', _⟩
  · cases hg
  · injection hg with hg; subst hg; exact ⟨hb, cur, hg'⟩

/-- The variable that holds the row (block pt), the walk itself (block p). -/
structure TokAt (w : World) (base pt p : Nat) (v : Value) (l : List Tok) : Prop where
  var : w.heap[pt]? = some (.cells #[v] 26)
  row : TRow w base v l
  self : w.heap[p]? = some (.cells #[.func (.func 19) #[] #[.pointer (some ⟨pt, 0, none⟩), .pointer (some ⟨p, 0, none⟩)]] 52)
  nn : v ≠ .slice none 0 0
theorem TokAt.ne {w : World} {base pt p : Nat} {v : Value} {l : List Tok} (h : TokAt w base pt p v l) : pt ≠ p := fun e => by
  subst e; have := h.var.symm.trans h.self; injection this with this; injection this with _ this; exact absurd this (by decide)
theorem TokAt.neV {w : World} {base pt p : Nat} {v : Value} {l : List Tok} (h : TokAt w base pt p v l) {g : Nat} (hg : v.ownBlock = some g) : pt ≠ g := fun e => by
  subst e; obtain ⟨_, cur, hc⟩ := h.row.block hg; have := h.var.symm.trans hc; injection this with this; injection this with _ this; exact absurd this (by decide)
theorem TokAt.neS {w : World} {base pt p : Nat} {v : Value} {l : List Tok} (h : TokAt w base pt p v l) {g : Nat} (hg : v.ownBlock = some g) : p ≠ g := fun e => by
  subst e; obtain ⟨_, cur, hc⟩ := h.row.block hg; have := h.self.symm.trans hc; injection this with this; injection this with _ this; exact absurd this (by decide)
theorem heap_lt {w : World} {g : Nat} {o : Obj} (h : w.heap[g]? = some o) : g < w.heap.size := (Array.getElem?_eq_some_iff.1 h).1
theorem TokAt.below {w w' : World} {base pt p : Nat} {v : Value} {l : List Tok} (h : TokAt w base pt p v l) (b : Below w.heap.size w w') : TokAt w' base pt p v l :=
  ⟨(b.block _ (heap_lt h.var)).trans h.var, ownsRow_keep h.row fun g hg => b.block _ (by obtain ⟨_, cur, hc⟩ := h.row.block hg; exact heap_lt hc), (b.block _ (heap_lt h.self)).trans h.self, h.nn⟩

/-- One more token behind the row. -/
theorem TokAt.push {w w' : World} {base pt p : Nat} {v v' : Value} {l : List Tok} {t : Tok} (h : TokAt w base pt p v l) (hpt : base ≤ pt) (hbw : base ≤ w.heap.size)
    (ho : w'.ownsRow base 34 3 v' (l.length + 1) (l.flatMap tokCells ++ tokCells t)) (hg : w.grownBy w' v.ownBlock) :
    TokAt (w'.setCell ⟨pt, 0, none⟩ v') base pt p v' (l ++ [t]) ∧ Below base w (w'.setCell ⟨pt, 0, none⟩ v') ∧ ∀ b, b < w.heap.size → b ≠ pt → some b ≠ v.ownBlock → (w'.setCell ⟨pt, 0, none⟩ v').heap[b]? = w.heap[b]? := by
  have hv : w'.heap[pt]? = some (.cells #[v] 26) := (hg.block pt (heap_lt h.var) (fun e => h.neV e.symm rfl)).trans h.var
  have hs : w'.heap[p]? = some (.cells #[.func (.func 19) #[] #[.pointer (some ⟨pt, 0, none⟩), .pointer (some ⟨p, 0, none⟩)]] 52) := (hg.block p (heap_lt h.self) (fun e => h.neS e.symm rfl)).trans h.self
  have hr : TRow w' base v' (l ++ [t]) := by unfold TRow; rw [List.length_append, List.flatMap_append]; simpa using ho
  have hnn : v' ≠ .slice none 0 0 := by
    rcases ho.2 with ⟨_, h0⟩ | ⟨g, cap, cur, hv', _⟩
    · omega
    · rw [hv']; simp
  have hne : ∀ g, v'.ownBlock = some g → g ≠ pt := fun g hg' e => by
    subst e; obtain ⟨_, cur, hc⟩ := hr.block hg'; have := hv.symm.trans hc; injection this with this; injection this with _ this; exact absurd this (by decide)
  refine ⟨⟨heap_setCell_same w' pt 0 _ _ v' hv, ownsRow_keep hr fun g hg' => Below.heap_setCell _ _ _ _ (hne g hg'), (Below.heap_setCell _ _ _ _ (fun e => h.ne e.symm)).trans hs, hnn⟩, ?_, fun b hb h1 h2 => (Below.heap_setCell _ _ _ _ h1).trans (hg.block b hb h2)⟩
  have hb : Below base w w' := (Below.refl _ _).grown hg hbw fun k hk => (h.row.block hk).1
  exact hb.trans ⟨rfl, rfl, rfl, by simp [World.setCell], fun i hi => Below.heap_setCell _ _ _ _ (show i ≠ pt by omega)⟩
theorem TokAt.other {w : World} {base pt p : Nat} {v : Value} {l : List Tok} (h : TokAt w base pt p v l) {b : Nat} {o : Obj} (hb : w.heap[b]? = some o) (ho : ∀ cs, o ≠ .cells cs 26) (hr : ∀ cs, o ≠ .cells cs 34) : b ≠ pt ∧ some b ≠ v.ownBlock :=
  ⟨fun e => by subst e; exact ho _ (Option.some.inj (hb.symm.trans h.var)), fun e => by obtain ⟨_, cur, hc⟩ := h.row.block e.symm; exact hr _ (Option.some.inj (hb.symm.trans hc))⟩
theorem TokAt.cell {w : World} {base pt p : Nat} {v : Value} {l : List Tok} (h : TokAt w base pt p v l) : w.cell? ⟨pt, 0, none⟩ = some v := by simp only [World.cell?, h.var]; rfl
theorem TokAt.frozen {w : World} {base pt p : Nat} {v : Value} {l : List Tok} (h : TokAt w base pt p v l) : w.frozen? ⟨pt, 0, none⟩ = false := frozen_of_row _ _ 0 _ _ h.var
theorem TokAt.call {w : World} {base pt p : Nat} {v : Value} {l : List Tok} (h : TokAt w base pt p v l) : w.cell? ⟨p, 0, none⟩ = some (.func (.func 19) #[] #[.pointer (some ⟨pt, 0, none⟩), .pointer (some ⟨p, 0, none⟩)]) := by simp only [World.cell?, h.self]; rfl
theorem TokAt.var2 {w w' : World} {base pt p : Nat} {v : Value} {l : List Tok} (h : TokAt w base pt p v l) (hg : w.grownBy w' v.ownBlock) : w'.cell? ⟨pt, 0, none⟩ = some v ∧ w'.frozen? ⟨pt, 0, none⟩ = false := by
  have hv : w'.heap[pt]? = some (.cells #[v] 26) := (hg.block pt (heap_lt h.var) (fun e => h.neV e.symm rfl)).trans h.var
  exact ⟨by simp only [World.cell?, hv]; rfl, frozen_of_row _ _ 0 _ _ hv⟩
theorem ownsRow_form {w : World} {base : Nat} {e : TypeId} {size : Nat} {v : Value} {n : Nat} {xs : List Value} (h : w.ownsRow base e size v n xs) : ∃ A m c, v = .slice A m c := by
  rcases h.2 with ⟨rfl, _⟩ | ⟨g, cap, cur, rfl, _⟩
  · exact ⟨_, _, _, rfl⟩
  · exact ⟨_, _, _, rfl⟩
/-- The literal row of one token lies in a block of its own. -/
theorem TokAt.lit {w : World} {base pt p : Nat} {v : Value} {l : List Tok} (h : TokAt w base pt p v l) (o : Obj) : TokAt (w.alloc o) base pt p v l := h.below ((Below.refl _ _).alloc (Nat.le_refl _) o)
theorem tok_fresh (w : World) (t : Tok) : ∀ j u, (tokCells t)[j]? = some u → (w.alloc (.cells (tokCells t).toArray 34)).cell? ⟨w.heap.size, j, none⟩ = some u := fun j u hj => fresh_cell w _ _ j u (by simpa using hj)
theorem tok_one (t : Tok) : ∀ u ∈ tokCells t, u.oneCell' = true := by intro u hu; simp only [tokCells, List.mem_cons, List.not_mem_nil, or_false] at hu; rcases hu with rfl | rfl | rfl <;> rfl
mutual
theorem tokB_len : ∀ t : Tree, (tokB t).length = sizeB t
  | .mk k t m a l => by
    rw [tokB, sizeB]
    split
    · rw [List.length_map, pts_count]; rfl
    · simp only [List.length_cons, List.length_append, List.length_nil, toksB_len l]; omega
theorem toksB_len : ∀ l : List Tree, (toksB l).length = totalB l
  | [] => rfl
  | t :: l => by rw [toksB, totalB, List.length_append, tokB_len t, toksB_len l]
end

def OfSaid (n : Nat) : Prop := ∀ (l : List Tree) (vl v : Value) (w : World) (base pt p : Nat) (acc : List Tok), weighAll l ≤ n → Kids w (Under base) vl l → weighAll l ≤ 1000000 → TokAt w base pt p v acc → base ≤ pt → base ≤ p → base ≤ w.heap.size → acc.length + weighAll l ≤ 50000000 →
    Calls Tryd.prog 19 #[vl, .pointer (some ⟨pt, 0, none⟩), .pointer (some ⟨p, 0, none⟩)] w fun e w' => e = .returned (.tuple #[]) ∧ Below base w w' ∧ ∃ v', TokAt w' base pt p v' (acc ++ toksB l)

set_option maxHeartbeats 4000000 in
set_option maxRecDepth 100000 in
theorem of_walk : ∀ n, OfSaid n := by
  intro n
  induction n using Nat.strongRecOn with
  | ind n ih =>
    have IH := Lib.hid ih
    clear ih
    intro l vl v w base pt p acc hn hK hw hat hpt hp hbw hacc
    have hlen : l.length ≤ 1000000 := by have := length_le_weigh l; omega
    obtain ⟨A, c, rfl, hlc⟩ := hK.form
    have HL := Lib.hid hK
    have HA := Lib.hid hat
    clear hK hat
    go_enter Tryd.func19, Tryd.ntmps19
    go_wp2
    go_loopw [11] (fun i wr => ∃ k : Nat, k ≤ l.length ∧ i = .int .i64 k ∧ Below base w wr ∧ ∃ v', Hid (TokAt wr base pt p v' (acc ++ toksB (l.take k)))) (fun i _ => l.length - (intOf i).toNat)
    case atStart => exact ⟨0, by omega, rfl, Below.refl _ _, v, Lib.hid (by simpa [toksB] using HA.out)⟩
    case round =>
      obtain ⟨i, hi, rfl, hbr, v1, hat⟩ := hrel
      have hws := hbr.size
      by_cases hlt : i < l.length
      · obtain ⟨g, o, rfl, hub, hrow⟩ := HL.out.get hlt
        have hlx : l[i]? = some l[i] := List.getElem?_eq_getElem hlt
        have HTK : Hid (l.take (i + 1) = l.take i ++ [l[i]]) := Lib.hid (List.take_succ_eq_append_getElem hlt)
        generalize hx : l[i] = x at *
        have hwx := weighAll_take_get l i x HTK.out
        have hwl : (toksB (l.take i)).length ≤ weighAll (l.take i) := by rw [toksB_len]; exact total_le_weigh _
        have hal : (acc ++ toksB (l.take i)).length + weigh x ≤ 50000000 := by rw [List.length_append]; omega
        have HTW : Hid (acc ++ toksB (l.take (i + 1)) = (acc ++ toksB (l.take i)) ++ tokB x) := Lib.hid (by rw [HTK.out, toksB_append, toksB_one, List.append_assoc])
        obtain ⟨xm, xa, xk, e0, e1, e2, e3, e4, exm, exa, exk⟩ := hrow.node hlx
        have f0 := (hbr.cell (p := ⟨g, o + i * 5, none⟩) hub).trans e0
        have f1 := (hbr.cell (p := ⟨g, o + i * 5 + 1, none⟩) hub).trans e1
        have f2 := (hbr.cell (p := ⟨g, o + i * 5 + 2, none⟩) hub).trans e2
        have f3 := (hbr.cell (p := ⟨g, o + i * 5 + 3, none⟩) hub).trans e3
        have f4 := (hbr.cell (p := ⟨g, o + i * 5 + 4, none⟩) hub).trans e4
        have hxn : Node w (Under base) (.agg #[.string x.kind, .string x.text, xm, xa, xk]) x := ⟨_, _, _, rfl, exm, exa, exk⟩
        have HXN := Lib.hid (hxn.below hbr)
        have HXK := Lib.hid (exk.below hbr)
        obtain ⟨A1, c1, rfl, _⟩ := exm.form
        obtain ⟨A2, c2, rfl, _⟩ := exa.form
        obtain ⟨A3, c3, rfl, _⟩ := exk.form
        have hkw := kids_weigh x
        have hxt := text_le_weigh x
        generalize acc ++ toksB (l.take i) = A0 at *
        have hgl := cell_lt f0
        clear e0 e1 e2 e3 e4 exm exa exk hx hlx hrow hxn
        go_wp2_with fail
        have hA2 : Below wr.heap.size wr (wr.alloc (.cells #[.string x.kind, .string x.text, .slice A1 x.marks.length c1, .slice A2 x.attrs.length c2, .slice A3 x.kids.length c3] 47)) := (Below.refl _ _).alloc (Nat.le_refl _) _
        have hP := heap_alloc_new wr (.cells #[.string x.kind, .string x.text, .slice A1 x.marks.length c1, .slice A2 x.attrs.length c2, .slice A3 x.kids.length c3] 47)
        generalize wr.alloc (.cells #[.string x.kind, .string x.text, .slice A1 x.marks.length c1, .slice A2 x.attrs.length c2, .slice A3 x.kids.length c3] 47) = W2 at *
        have hz2 := hA2.size
        refine (head_any _ x W2 ((HXN.out.below (hA2.mono (Nat.le_trans hbw hws))).more (by omega)) (by omega)).mono ?_
        rintro e w3 ⟨rfl, hb3⟩
        have hz3 := hb3.size
        have hb23 := hA2.trans (hb3.mono hz2)
        have HAT3 := Lib.hid (hat.out.below hb23)
        have HP3 := Lib.hid ((hb3.block _ (heap_lt hP)).trans hP)
        have HB3 := Lib.hid (hbr.trans (hb23.mono (Nat.le_trans hbw hws)))
        have HXK3 := Lib.hid (HXK.out.below (hb23.mono (Nat.le_trans hbw hws)))
        obtain ⟨k0, k1, k2, k3, k4⟩ := five_cells HP3.out
        obtain ⟨hh, hhe⟩ : ∃ hh : ByteArray, hh = headT x := ⟨_, rfl⟩
        rw [show (⟨(headW x).toArray⟩ : ByteArray) = hh from hhe.symm]
        clear hb3 hb23 hA2 hP f0 f1 f2 f3 f4 hat HXK HXN
        cases hk : isTxt x.kind with
        | true =>
          have hk' : (x.kind.toList == [116, 101, 120, 116]) = true := hk
          have HTX : Hid (tokB x = (pts x.text.data.toList).map (signT hh)) := Lib.hid (by rw [hhe]; exact tokB_text x hk)
          clear hk hhe
          have hsl : (tokB x).length ≤ weigh x := by rw [tokB_len]; exact size_le_weigh x
          have hb3s : base ≤ w3.heap.size := by omega
          go_wp2
          have HAT4 := Lib.hid (HAT3.out.below (iter_below w3 x.text 0))
          have HB4 := Lib.hid (HB3.out.trans ((iter_below w3 x.text 0).mono hb3s))
          go_loopg [8] x.text.size (fun g _ wx => ∃ (i' : Nat) (vv : Value) (done : List Tok), g = x.text.size - i' ∧ wx.heap[w3.heap.size]? = some (.stringIter x.text i') ∧ Below base w wx ∧ Hid (TokAt wx base pt p vv done) ∧ Hid (done ++ (pts (x.text.data.toList.drop i')).map (signT hh) = A0 ++ tokB x))
          case atStart => exact ⟨0, v1, A0, rfl, World.iter_heap w3 x.text 0, HB4.out, HAT4, Lib.hid (by rw [HTX.out]; rfl)⟩
          case round =>
            obtain ⟨i', vv, done, hig, hk5, hb5, hat5, hdone⟩ := hrel
            have HK5 := Lib.hid hk5
            have HB5 := Lib.hid hb5
            have hz5 := heap_lt hk5
            clear hk5 hb5
            cases gk with
            | zero =>
              have hge : ¬ i' < x.text.size := by omega
              clear hig
              have hnx := fun ty => Lib.run_next_end_at (P := Tryd.prog) wr w3.heap.size x.text i' ty HK5.out hge
              go_wp2
              refine ⟨⟨i + 1, by omega, by go_num, HB5.out, vv, Lib.hid ?_⟩, by simp [intOf]; omega⟩
              rw [HTW.out, ← hdone.out, List.drop_of_length_le (by rw [← Lib.size_eq]; omega)]
              simpa [pts_nil] using hat5.out
            | succ g' =>
              have hi' : i' < x.text.size := by omega
              have HIG := Lib.hid hig
              clear hig
              have hnx := fun ty => Lib.run_next_any_at (P := Tryd.prog) wr w3.heap.size x.text i' ty HK5.out hi'
              have hne : x.text.data.toList.drop i' ≠ [] := fun e => by
                have := congrArg List.length e
                rw [List.length_drop, ← Lib.size_eq] at this; simp at this; omega
              have hwd := Lib.decodeL_width (x.text.data.toList.drop i')
              have hst := pts_step _ hne
              rw [Lib.decodeL_drop, List.drop_drop] at hst
              rw [Lib.decodeL_drop] at hwd
              generalize (Utf8.decode x.text i').1 = r at *
              generalize (Utf8.decode x.text i').2 = d at *
              obtain ⟨er, her⟩ : ∃ er : ByteArray, Utf8.encode (r : Int) = er := ⟨_, rfl⟩
              have HK6 := Lib.hid (Lib.iterAt_heap wr w3.heap.size x.text i' (i' + d) HK5.out)
              have HB6 := Lib.hid (Lib.below_iterAt HB5.out hb3s x.text (i' + d))
              have HAT6 : Hid (TokAt (wr.iterAt w3.heap.size x.text (i' + d)) base pt p vv done) := Lib.hid (by
                have o := hat5.out.other HK5.out (fun _ e => by cases e) (fun _ e => by cases e)
                exact ⟨(Lib.iterAt_other _ _ _ _ _ (Ne.symm o.1)).trans hat5.out.var, ownsRow_keep hat5.out.row fun g hg => Lib.iterAt_other _ _ _ _ _ (fun e => o.2 (by rw [hg, e])), (Lib.iterAt_other _ _ _ _ _ (fun e => by subst e; have := HK5.out.symm.trans hat5.out.self; cases this)).trans hat5.out.self, hat5.out.nn⟩)
              have hz6 : wr.heap.size ≤ (wr.iterAt w3.heap.size x.text (i' + d)).heap.size := Nat.le_of_eq (Lib.iterAt_size _ _ _ _).symm
              have HST := Lib.hid hst
              generalize wr.iterAt w3.heap.size x.text (i' + d) = Wi at *
              have hbi : base ≤ Wi.heap.size := by omega
              have hln : done.length + 1 ≤ 100000000 := by
                have := congrArg List.length hdone.out
                rw [List.length_append, List.length_append] at this; omega
              clear hst hne
              have q7 := HAT6.out.cell
              have HBA7 : Hid (Below Wi.heap.size Wi (Wi.alloc (.cells #[.int .u8 116, .string er, .string hh] 34))) := Lib.hid ((Below.refl _ _).alloc (Nat.le_refl _) _)
              have HL7 : Hid (TokAt (Wi.alloc (.cells #[.int .u8 116, .string er, .string hh] 34)) base pt p vv done) := Lib.hid (HAT6.out.below HBA7.out)
              have HF7 : Hid (∀ j u, (tokCells ⟨116, er, hh⟩)[j]? = some u → (Wi.alloc (.cells #[.int .u8 116, .string er, .string hh] 34)).cell? ⟨Wi.heap.size, j, none⟩ = some u) := Lib.hid (tok_fresh Wi ⟨116, er, hh⟩)
              have HP7 : Hid ((Wi.alloc (.cells #[.int .u8 116, .string er, .string hh] 34)).heap[w3.heap.size]? = some (.stringIter x.text (i' + d))) := Lib.hid ((HBA7.out.block _ (heap_lt HK6.out)).trans HK6.out)
              have HO7 := Lib.hid (HL7.out.other HP7.out (fun _ e => by cases e) (fun _ e => by cases e))
              go_wp2_with (at_builtin; refine wpList_append_gen Tryd.underlying26 tok_info rfl (by decide) (by decide) rfl (.tmp 26) (.tmp 31) rfl base vv (done).length _ Wi.heap.size 1 (tokCells ⟨116, er, hh⟩) rfl rfl HL7.out.row rfl HF7.out (tok_one _) hln (Nat.le_trans hbi HBA7.out.size) ?_; intro v7 w7 hown7 hg7; obtain ⟨B7, m7, d7, rfl⟩ := ownsRow_form hown7; obtain ⟨ht7, hbb7, hoo7⟩ := HL7.out.push hpt (Nat.le_trans hbi HBA7.out.size) hown7 hg7; have HT7 := Lib.hid ht7; have HBB7 := Lib.hid hbb7; have HOO7 := Lib.hid hoo7; obtain ⟨y7, z7⟩ := HL7.out.var2 hg7; clear hown7 hg7 ht7 hbb7 hoo7)
              go_wp2
              go_roundg (x.text.size - (i' + d))
              case measure => have := HIG.out; omega
              case rel =>
                refine ⟨i' + d, .slice B7 m7 d7, done ++ [⟨116, er, hh⟩], rfl, (HOO7.out _ (heap_lt HP7.out) HO7.out.1 HO7.out.2).trans HP7.out, HB6.out.trans ((HBA7.out.mono hbi).trans HBB7.out), HT7, Lib.hid ?_⟩
                rw [← hdone.out, HST.out, List.map_cons, show signT hh r = ⟨116, er, hh⟩ from by unfold signT; rw [encB_eq, her], List.append_assoc]
                rfl
        | false =>
          have hk' : (x.kind.toList == [116, 101, 120, 116]) = false := hk
          have HTX : Hid (tokB x = openT hh :: (toksB x.kids ++ [closeT])) := Lib.hid (by rw [hhe]; exact tokB_node x hk)
          have q6 := HAT3.out.cell
          have HBA6 : Hid (Below w3.heap.size w3 (w3.alloc (.cells #[.int .u8 111, .string ⟨#[]⟩, .string hh] 34))) := Lib.hid ((Below.refl _ _).alloc (Nat.le_refl _) _)
          have HL6 : Hid (TokAt (w3.alloc (.cells #[.int .u8 111, .string ⟨#[]⟩, .string hh] 34)) base pt p v1 A0) := Lib.hid (HAT3.out.below HBA6.out)
          have HF6 : Hid (∀ j u, (tokCells (openT hh))[j]? = some u → (w3.alloc (.cells #[.int .u8 111, .string ⟨#[]⟩, .string hh] 34)).cell? ⟨w3.heap.size, j, none⟩ = some u) := Lib.hid (tok_fresh w3 (openT hh))
          clear hk hhe
          have hb3s : base ≤ w3.heap.size := by omega
          have HP6 : Hid ((w3.alloc (.cells #[.int .u8 111, .string ⟨#[]⟩, .string hh] 34)).heap[wr.heap.size]? = some (.cells #[.string x.kind, .string x.text, .slice A1 x.marks.length c1, .slice A2 x.attrs.length c2, .slice A3 x.kids.length c3] 47)) := Lib.hid ((HBA6.out.block _ (heap_lt HP3.out)).trans HP3.out)
          have HO6 := Lib.hid (HL6.out.other HP6.out (fun cs e => by injection e with _ e; exact absurd e (by decide)) (fun cs e => by injection e with _ e; exact absurd e (by decide)))
          go_wp2_with (at_builtin; refine wpList_append_gen Tryd.underlying26 tok_info rfl (by decide) (by decide) rfl (.tmp 33) (.tmp 36) rfl base v1 (A0).length _ w3.heap.size 1 (tokCells (openT hh)) rfl rfl HL6.out.row rfl HF6.out (tok_one _) (by omega) (Nat.le_trans hb3s HBA6.out.size) ?_; intro v6 w6 hown6 hg6; obtain ⟨B6, m6, d6, rfl⟩ := ownsRow_form hown6; obtain ⟨ht6, hbb6, hoo6⟩ := HL6.out.push hpt (Nat.le_trans hb3s HBA6.out.size) hown6 hg6; have HT6 := Lib.hid ht6; have HBB6 := Lib.hid hbb6; have HOO6 := Lib.hid hoo6; obtain ⟨y6, z6⟩ := HL6.out.var2 hg6; clear hown6 hg6 ht6 hbb6 hoo6; have s6 := HT6.out.call; have HN6 := Lib.hid ((HOO6.out _ (heap_lt HP6.out) HO6.out.1 HO6.out.2).trans HP6.out); obtain ⟨n0, n1, n2, n3, n4⟩ := five_cells HN6.out)
          have hbase6 := (HBA6.out.mono hb3s).trans HBB6.out
          have HB7 := Lib.hid (HB3.out.trans hbase6)
          have HXK7 := Lib.hid (HXK3.out.below hbase6)
          have hz7 := hbase6.size
          clear y6 z6 q6 s6 n0 n1 n2 n3 n4 hbase6 k0 k1 k2 k3 k4
          generalize w6.setCell ⟨pt, 0, none⟩ (.slice B6 m6 d6) = W7 at *
          refine (IH.out (weighAll x.kids) (by omega) x.kids _ (.slice B6 m6 d6) W7 base pt p _ (Nat.le_refl _) HXK7.out (by omega) HT6.out hpt hp (by omega) (by rw [List.length_append, List.length_singleton]; omega)).mono ?_
          rintro e w8 ⟨rfl, hb8, v8, hat8⟩
          have HB8 := Lib.hid (HB7.out.trans hb8)
          have HAT8 := Lib.hid hat8
          have hz8 := hb8.size
          have hl8 : (A0 ++ [openT hh] ++ toksB x.kids).length + 1 ≤ 100000000 := by
            rw [List.length_append, List.length_append, toksB_len, List.length_singleton]; have := total_le_weigh x.kids; omega
          have hb8s : base ≤ w8.heap.size := by omega
          clear hb8 hat8
          generalize hA8 : A0 ++ [openT hh] ++ toksB x.kids = A8 at *
          have q9 := HAT8.out.cell
          have HBA9 : Hid (Below w8.heap.size w8 (w8.alloc (.cells #[.int .u8 99, .string ⟨#[]⟩, .string ⟨#[]⟩] 34))) := Lib.hid ((Below.refl _ _).alloc (Nat.le_refl _) _)
          have HL9 : Hid (TokAt (w8.alloc (.cells #[.int .u8 99, .string ⟨#[]⟩, .string ⟨#[]⟩] 34)) base pt p v8 A8) := Lib.hid (HAT8.out.below HBA9.out)
          have HF9 : Hid (∀ j u, (tokCells closeT)[j]? = some u → (w8.alloc (.cells #[.int .u8 99, .string ⟨#[]⟩, .string ⟨#[]⟩] 34)).cell? ⟨w8.heap.size, j, none⟩ = some u) := Lib.hid (tok_fresh w8 closeT)
          go_wp2_with (at_builtin; refine wpList_append_gen Tryd.underlying26 tok_info rfl (by decide) (by decide) rfl (.tmp 42) (.tmp 44) rfl base v8 (A8).length _ w8.heap.size 1 (tokCells closeT) rfl rfl HL9.out.row rfl HF9.out (tok_one _) hl8 (Nat.le_trans hb8s HBA9.out.size) ?_; intro v9 w9 hown9 hg9; obtain ⟨B9, m9, d9, rfl⟩ := ownsRow_form hown9; obtain ⟨ht9, hbb9, hoo9⟩ := HL9.out.push hpt (Nat.le_trans hb8s HBA9.out.size) hown9 hg9; have HT9 := Lib.hid ht9; have HBB9 := Lib.hid hbb9; have HOO9 := Lib.hid hoo9; obtain ⟨y9, z9⟩ := HL9.out.var2 hg9; clear hown9 hg9 ht9 hbb9 hoo9)
          go_wp2
          refine ⟨⟨i + 1, by omega, by go_num, HB8.out.trans ((HBA9.out.mono hb8s).trans HBB9.out), .slice B9 m9 d9, Lib.hid ?_⟩, by simp [intOf]; omega⟩
          have ht := HT9.out
          rw [← hA8] at ht
          rw [HTW.out, HTX.out, show A0 ++ openT hh :: (toksB x.kids ++ [closeT]) = A0 ++ [openT hh] ++ toksB x.kids ++ [closeT] by simp]
          exact ht
      · go_wp2
        go_end0
        have h := hat.out
        rw [List.take_of_length_le (by omega)] at h
        exact ⟨rfl, hbr, _, h⟩
end Go.Proofs.YtaepolgmojkglaaDoor

namespace Go.Proofs.YtaepolgmojkglaaDoor
open Go.RowKit Go.Sort Go.Maps

theorem pts_app : ∀ (n : Nat) (a b : List UInt8), a.length ≤ n → Lib.validD a = true → pts (a ++ b) = pts a ++ pts b
  | 0, a, b, hn, _ => by
    have : a = [] := List.eq_nil_of_length_eq_zero (by omega)
    subst this; rw [List.nil_append, pts_nil, List.nil_append]
  | n + 1, a, b, hn, ha => by
    by_cases hne : a = []
    · subst hne; rw [List.nil_append, pts_nil, List.nil_append]
    · rw [Lib.validD_step a hne] at ha
      split at ha
      · cases ha
      · rename_i hv
        have hw := Lib.decodeL_width a
        have hle := Lib.decodeL_le a hne
        have hl : 0 < a.length := List.length_pos_iff.2 hne
        rw [pts_step (a ++ b) (by simp [hne]), pts_step a hne, decodeL_app a b hne hv, List.drop_append_of_le_length hle, pts_app n _ b (by rw [List.length_drop]; omega) ha, List.cons_append]
theorem head_like {x y : Tree} (hk : x.kind = y.kind) (hm : x.marks = y.marks) (ha : x.attrs = y.attrs) : headT x = headT y := by unfold headT headW; rw [hk, hm, ha]
theorem tok_cat (a b : ByteArray) (m : List ByteArray) (h : Lib.validD a.data.toList = true) : tokB (.mk TEXT (a ++ b) m [] []) = tokB (.mk TEXT a m [] []) ++ tokB (.mk TEXT b m [] []) := by
  rw [tokB_text (.mk TEXT (a ++ b) m [] []) isTxt_TEXT, tokB_text (.mk TEXT a m [] []) isTxt_TEXT, tokB_text (.mk TEXT b m [] []) isTxt_TEXT]
  have h1 : headT (.mk TEXT (a ++ b) m [] []) = headT (.mk TEXT a m [] []) := head_like rfl rfl rfl
  have h2 : headT (.mk TEXT b m [] []) = headT (.mk TEXT a m [] []) := head_like rfl rfl rfl
  rw [h1, h2, ← List.map_append]
  congr 1
  show pts (a ++ b).data.toList = _
  rw [ByteArray.data_append, Array.toList_append]
  exact pts_app _ _ _ (Nat.le_refl _) h
theorem toks_two {A C : List Tree} (hA : rowB none A = true) (hC : rowB none C = true) : toksB (joinB (A ++ C)) = toksB A ++ toksB C := by
  rcases join_forms hA hC with e | ⟨A0, C0, tz, tc, m, rfl, rfl, e, z1, c1, z2⟩
  · rw [e, toksB_append]
  · rw [e, toksB_append, toksB_append, toksB_one, toksB, toksB, tok_cat tz tc m z2, List.append_assoc, List.append_assoc]
end Go.Proofs.YtaepolgmojkglaaDoor

namespace Go.Proofs.YtaepolgmojkglaaDoor
open Go.RowKit Go.Sort Go.Maps

def Shut (r : List Tok) : Prop := ∀ x, r.head? = some x → x.kind = 99
theorem runs_eq {α : Type} (P : α → Prop) : ∀ (a b s s' : List α), (∀ x ∈ a, P x) → (∀ x ∈ b, P x) → (∀ x, s.head? = some x → ¬ P x) → (∀ x, s'.head? = some x → ¬ P x) → a ++ s = b ++ s' → a = b ∧ s = s'
  | [], [], s, s', _, _, _, _, h => ⟨rfl, by simpa using h⟩
  | [], y :: b, s, s', _, hb, hs, _, h => by
    exfalso
    rw [List.nil_append] at h
    exact hs y (by rw [h]; rfl) (hb y (by simp))
  | x :: a, [], s, s', ha, _, _, hs', h => by
    exfalso
    rw [List.nil_append] at h
    exact hs' x (by rw [← h]; rfl) (ha x (by simp))
  | x :: a, y :: b, s, s', ha, hb, hs, hs', h => by
    rw [List.cons_append, List.cons_append] at h
    injection h with h1 h2
    obtain ⟨e1, e2⟩ := runs_eq P a b s s' (fun z hz => ha z (by simp [hz])) (fun z hz => hb z (by simp [hz])) hs hs' h2
    exact ⟨by rw [h1, e1], e2⟩
theorem headT_eq {x y : Tree} (h : headT x = headT y) : headW x = headW y := by
  unfold headT at h
  have := congrArg (fun s : ByteArray => s.data.toList) h
  simpa using this
theorem head_marks {x y : Tree} (hx : isTxt x.kind = true) (hy : isTxt y.kind = true) (fx : formedB x = true) (fy : formedB y = true) (h : headT x = headT y) : x.marks = y.marks := by
  have h1 := headT_eq h
  rw [headW, if_pos hx, headW, if_pos hy] at h1
  rw [formed_text hx] at fx
  rw [formed_text hy] at fy
  exact (marks_inj x.marks y.marks [] [] (marks_names (textB_parts fx).2.2.1) (marks_names (textB_parts fy).2.2.1) (by intro c hc; cases hc) (by intro c hc; cases hc) (by simpa using h1)).1
theorem attrsW_head (a : List (ByteArray × ByteArray)) (r : List UInt8) : ∃ c s, attrsW a ++ 91 :: r = c :: s ∧ small c = false := by
  unfold attrsW
  split
  · exact ⟨91, r, rfl, by decide⟩
  · exact ⟨40, _, rfl, by decide⟩
theorem head_node {x y : Tree} (hx : isTxt x.kind = false) (hy : isTxt y.kind = false) (fx : formedB x = true) (fy : formedB y = true) (h : headT x = headT y) : x.kind = y.kind ∧ x.attrs = y.attrs ∧ x.text = y.text ∧ x.marks = y.marks := by
  have h1 := headT_eq h
  rw [headW, if_neg (by rw [hx]; decide), headW, if_neg (by rw [hy]; decide)] at h1
  obtain ⟨k, t, m, a, l⟩ := x
  obtain ⟨k', t', m', a', l'⟩ := y
  simp only [Tree.kind, Tree.text, Tree.marks, Tree.attrs] at *
  obtain ⟨p1, p2, p3, p4, _⟩ := node_parts hx fx
  obtain ⟨q1, q2, q3, q4, _⟩ := node_parts hy fy
  have h2 := congrArg (fun l => l ++ [(91 : UInt8)]) h1
  simp only [List.append_assoc] at h2
  obtain ⟨c, s, e1, e2⟩ := attrsW_head a []
  obtain ⟨c', s', e3, e4⟩ := attrsW_head a' []
  rw [e1, e3] at h2
  obtain ⟨i1, i2, i3⟩ := letters_inj k.data.toList k'.data.toList s s' c c' (name_small p1) (name_small q1) e2 e4 h2
  have e5 : attrsW a ++ 91 :: [] = attrsW a' ++ 91 :: [] := by rw [e1, e3, i2, i3]
  obtain ⟨j1, _⟩ := attrs_inj a a' [] [] (attrs_names p4) (attrs_names q4) e5
  exact ⟨bytes_of i1, j1, bytes_of (by rw [p2, q2]), by rw [p3, q3]⟩
theorem tok_text_kind {x : Tree} (hx : isTxt x.kind = true) : ∀ z ∈ tokB x, z.kind = 116 ∧ z.head = headT x := by
  intro z hz
  rw [tokB_text x hx] at hz
  obtain ⟨r, _, rfl⟩ := List.mem_map.1 hz
  exact ⟨rfl, rfl⟩
theorem tok_text_cons {x : Tree} (hx : isTxt x.kind = true) (fx : formedB x = true) : ∃ z s, tokB x = z :: s := by
  rw [formed_text hx] at fx
  rw [tokB_text x hx, pts_step _ (textB_parts fx).1]
  exact ⟨_, _, rfl⟩
/-- What a row of tokens begins with. -/
theorem toks_head {x : Tree} {l : List Tree} {r : List Tok} (fx : formedB x = true) : ∃ z, (toksB (x :: l) ++ r).head? = some z ∧ (isTxt x.kind = true → z.kind = 116 ∧ z.head = headT x) ∧ (isTxt x.kind = false → z = openT (headT x)) := by
  rw [toksB, List.append_assoc]
  cases hk : isTxt x.kind with
  | true =>
    obtain ⟨z, s, e⟩ := tok_text_cons hk fx
    rw [e]
    exact ⟨z, rfl, fun _ => tok_text_kind hk z (by rw [e]; simp), fun h => by cases h⟩
  | false =>
    rw [tokB_node x hk]
    exact ⟨_, rfl, fun h => (by cases h), fun _ => rfl⟩
theorem pts_back {a b : ByteArray} (ha : Lib.validD a.data.toList = true) (hb : Lib.validD b.data.toList = true) (h : (pts a.data.toList).map encL = (pts b.data.toList).map encL) : a = b := by
  have h1 := back_valid _ _ (Nat.le_refl _) ha
  have h2 := back_valid _ _ (Nat.le_refl _) hb
  unfold backB at h1 h2
  rw [h, h2] at h1
  exact bytes_of h1.symm
theorem signT_text (h : ByteArray) (r : Nat) : (signT h r).text = encB r := by
  unfold signT
  generalize encB r = s
  rfl
theorem signs_text (h h' : ByteArray) : ∀ (a b : List Nat), a.map (signT h) = b.map (signT h') → a.map encL = b.map encL
  | [], [], _ => rfl
  | [], y :: b, e => by simp at e
  | x :: a, [], e => by simp at e
  | x :: a, y :: b, e => by
    rw [List.map_cons, List.map_cons] at e
    obtain ⟨e1, e2⟩ := List.cons.inj e
    have e3 : encB x = encB y := by rw [← signT_text h x, e1, signT_text]
    have e4 : encL x = encL y := by
      rw [encL_eq, encL_eq, encZ_eq, encZ_eq, ← encB_eq, ← encB_eq, e3]
    rw [List.map_cons, List.map_cons, e4, signs_text h h' a b e2]
theorem toks_inj : ∀ (n : Nat) (l l' : List Tree) (r r' : List Tok), (toksB l).length ≤ n → rowB none l = true → rowB none l' = true → Shut r → Shut r' → toksB l ++ r = toksB l' ++ r' → l = l' ∧ r = r'
  | _, [], [], r, r', _, _, _, _, _, h => ⟨rfl, by simpa [toksB] using h⟩
  | _, [], y :: l', r, r', _, _, hl', hr, _, h => by
    exfalso
    obtain ⟨z, h1, h2, h3⟩ := toks_head (l := l') (r := r') (row_tail hl').2.1
    rw [← h, toksB, List.nil_append] at h1
    have := hr z h1
    cases hk : isTxt y.kind with
    | true => rw [(h2 hk).1] at this; cases this
    | false => rw [h3 hk] at this; cases this
  | _, x :: l, [], r, r', _, hl, _, _, hr', h => by
    exfalso
    obtain ⟨z, h1, h2, h3⟩ := toks_head (l := l) (r := r) (row_tail hl).2.1
    rw [h, toksB, List.nil_append] at h1
    have := hr' z h1
    cases hk : isTxt x.kind with
    | true => rw [(h2 hk).1] at this; cases this
    | false => rw [h3 hk] at this; cases this
  | 0, x :: l, y :: l', r, r', hn, hl, _, _, _, _ => by
    exfalso
    rw [toksB_len, totalB] at hn
    have := size_pos (row_tail hl).2.1
    omega
  | n + 1, x :: l, y :: l', r, r', hn, hl, hl', hr, hr', h => by
    obtain ⟨_, fx, gx⟩ := row_tail hl
    obtain ⟨_, fy, gy⟩ := row_tail hl'
    obtain ⟨z, z1, z2, z3⟩ := toks_head (l := l) (r := r) fx
    obtain ⟨z', z1', z2', z3'⟩ := toks_head (l := l') (r := r') fy
    rw [h, z1', Option.some.injEq] at z1
    subst z1
    cases hx : isTxt x.kind with
    | true =>
      cases hy : isTxt y.kind with
      | false => have := (z2 hx).1; rw [z3' hy] at this; cases this
      | true =>
        have hh : headT x = headT y := by rw [← (z2 hx).2, (z2' hy).2]
        have hm := head_marks hx hy fx fy hh
        have P1 : ∀ (w : Tree) (k : List Tree) (s : List Tok), isTxt w.kind = true → formedB w = true → headT w = headT x → rowB (some w) k = true → Shut s → ∀ q, (toksB k ++ s).head? = some q → ¬ (q.kind = 116 ∧ q.head = headT x) := by
          intro w k s hw fw hwx hk hs q hq hP
          cases k with
          | nil =>
            rw [toksB, List.nil_append] at hq
            have := hs q hq
            rw [hP.1] at this; cases this
          | cons v k =>
            obtain ⟨av, fv, _⟩ := row_tail hk
            obtain ⟨q', q1, q2, q3⟩ := toks_head (l := k) (r := s) fv
            rw [hq, Option.some.injEq] at q1
            subst q1
            cases hv : isTxt v.kind with
            | false => rw [q3 hv] at hP; exact absurd hP.1 (show ¬ (111 : Nat) = 116 by decide)
            | true =>
              have hvx : headT w = headT v := by rw [hwx, ← hP.2, (q2 hv).2]
              have := head_marks hw hv fw fv hvx
              simp only [alikeO, alikeB, hw, hv, Bool.true_and] at av
              rw [this, sameL_all rfl fun _ _ => by simp] at av
              cases av
        rw [toksB, toksB, List.append_assoc, List.append_assoc] at h
        obtain ⟨e1, e2⟩ := runs_eq (fun q : Tok => q.kind = 116 ∧ q.head = headT x) _ _ _ _ (tok_text_kind hx) (fun q hq => by have := tok_text_kind hy q hq; rw [hh]; exact this) (P1 x l r hx fx rfl gx hr) (P1 y l' r' hy fy hh.symm gy hr') h
        obtain ⟨tx, mx, rfl, x1, x2⟩ := text_form hx fx
        obtain ⟨ty, my, rfl, y1, y2⟩ := text_form hy fy
        have hm' : mx = my := hm
        subst hm'
        rw [tokB_text (.mk TEXT tx mx [] []) isTxt_TEXT, tokB_text (.mk TEXT ty mx [] []) isTxt_TEXT] at e1
        have ht : tx = ty := pts_back x2 y2 (signs_text _ _ _ _ e1)
        subst ht
        have hlen : (toksB l).length ≤ n := by
          rw [toksB_len, totalB] at hn
          have := size_pos fx
          rw [toksB_len]; omega
        obtain ⟨i1, i2⟩ := toks_inj n l l' r r' hlen (row_none gx) (row_none gy) hr hr' e2
        exact ⟨by rw [i1], i2⟩
    | false =>
      cases hy : isTxt y.kind with
      | true => have := (z2' hy).1; rw [z3 hx] at this; cases this
      | false =>
        have hh : headT x = headT y := by
          have := z3 hx
          rw [z3' hy] at this
          exact (congrArg Tok.head this).symm
        obtain ⟨k1, k2, k3, k4⟩ := head_node hx hy fx fy hh
        rw [toksB, toksB, tokB_node x hx, tokB_node y hy, hh] at h
        simp only [List.cons_append, List.append_assoc, List.nil_append] at h
        injection h with _ h
        have hlx : (toksB x.kids).length ≤ n ∧ (toksB l).length ≤ n := by
          rw [toksB_len, totalB, sizeB_node hx] at hn
          rw [toksB_len, toksB_len]; omega
        obtain ⟨i1, i2⟩ := toks_inj n x.kids y.kids _ _ hlx.1 (kids_row hx fx) (kids_row hy fy) (by intro q hq; simp at hq; subst hq; rfl) (by intro q hq; simp at hq; subst hq; rfl) h
        injection i2 with _ i3
        obtain ⟨j1, j2⟩ := toks_inj n l l' r r' hlx.2 (row_none gx) (row_none gy) hr hr' i3
        refine ⟨?_, j2⟩
        rw [j1]
        congr 1
        obtain ⟨k, t, m, a, lx⟩ := x
        obtain ⟨k', t', m', a', ly⟩ := y
        simp only [Tree.kind, Tree.text, Tree.marks, Tree.attrs, Tree.kids] at *
        rw [k1, k2, k3, k4, i1]
theorem kids_inj {l l' : List Tree} (h : rowB none l = true) (h' : rowB none l' = true) (e : toksB l = toksB l') : l = l' :=
  (toks_inj _ l l' [] [] (Nat.le_refl _) h h' (by intro x hx; cases hx) (by intro x hx; cases hx) (by rw [e])).1
end Go.Proofs.YtaepolgmojkglaaDoor

namespace Go.Proofs.YtaepolgmojkglaaDoor
open Go.RowKit Go.Sort

theorem write_text {x : Tree} (h : isTxt x.kind = true) : writeB x = quoteL x.text.data.toList ++ headW x := by
  obtain ⟨k, t, m, a, l⟩ := x; simp only [Tree.kind] at h; simp [writeB, headW, h, Tree.kind, Tree.text, Tree.marks]
theorem write_node {x : Tree} (h : isTxt x.kind = false) : writeB x = headW x ++ 91 :: (writeAllB x.kids ++ [93]) := by
  obtain ⟨k, t, m, a, l⟩ := x; simp only [Tree.kind] at h; simp [writeB, headW, h, Tree.kind, Tree.attrs, Tree.kids]
theorem headW_le (x : Tree) : (headW x).length ≤ 4 * weigh x := by
  have h1 := writeB_le x
  cases h : isTxt x.kind with
  | true => rw [write_text h, List.length_append] at h1; omega
  | false => rw [write_node h, List.length_append] at h1; omega
theorem headW_kids (x : Tree) : (headW x).length + 4 * weighAll x.kids + 6 ≤ 4 * weigh x := by
  have h1 := marksW_le x.marks
  have h2 := attrsW_le x.attrs
  have h3 := Lib.size_eq x.kind
  have h4 : x.kind.size + weighL x.marks + weighP x.attrs + weighAll x.kids + 2 ≤ weigh x := by obtain ⟨k, t, m, a, l⟩ := x; simp only [weigh, Tree.kind, Tree.marks, Tree.attrs, Tree.kids]; omega
  cases h : isTxt x.kind with
  | true =>
    have e : headW x = marksW x.marks := by simp [headW, h]
    rw [e]; omega
  | false =>
    have e : headW x = x.kind.data.toList ++ attrsW x.attrs := by simp [headW, h]
    rw [e, List.length_append]; omega
theorem quote_le_weigh (x : Tree) : (quoteL x.text.data.toList).length ≤ 4 * weigh x := by
  have h1 := quoteL_le x.text.data.toList
  have h2 := Lib.size_eq x.text
  obtain ⟨k, t, m, a, l⟩ := x
  simp only [weigh, Tree.text] at *; omega

/-- What Print answers. -/
def printB (t : Tree) : List UInt8 := if checkB t = 0 then writeB t else []
theorem ret_pair {s t : ByteArray} {a b : Int} (h : s = t) (h2 : a = b) : Ending.returned (.tuple #[.string s, .int .i64 a]) = .returned (.tuple #[.string t, .int .i64 b]) := by rw [h, h2]

end Go.Proofs.YtaepolgmojkglaaDoor
