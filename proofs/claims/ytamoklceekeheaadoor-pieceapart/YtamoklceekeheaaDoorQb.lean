/-
  What cutText answers: a text in two, behind some of its code points.
-/
import Derived.Test.YtamoklceekeheaaDoorQa
import Derived.Test.YtamoklceekeheaaDoorShelfD
import Derived.Test.YtamoklceekeheaaDoorV
namespace Go.Proofs.YtamoklceekeheaaDoor
open Go.RowKit Go.Sort

theorem Tabs.under {w w' : World} (h : Tabs w) (hb : Below w.heap.size w w') : Tabs w' := h.below hb
theorem decode_any (s : ByteArray) (w : World) (hT : Tabs w) :
    Calls Tryd.prog 67 #[.string s] w fun e w' => e = .returned (.tuple #[.int .i32 (Lib.decodeGo s).1, .int .i64 (Lib.decodeGo s).2]) ∧ Below w.heap.size w w' :=
  Any.utf8_DecodeRuneInString Tryd.laysDecode s w hT
theorem decodeGo_width (t : ByteArray) : (Lib.decodeGo t).2 = widthB t.data.toList := by
  have hs : t.size = t.data.toList.length := Lib.size_eq t
  have ht : t = ⟨t.data.toList.toArray⟩ := ByteArray.ext (by simp)
  unfold Lib.decodeGo widthB
  by_cases h : t.size = 0
  · rw [if_pos h, if_pos (List.eq_nil_of_length_eq_zero (by omega))]
  · rw [if_neg h, if_neg (fun e => h (by rw [hs, e]; rfl))]
    unfold Lib.decodeL
    rw [← ht]
theorem extract_list (s : ByteArray) (a b : Nat) : (s.extract a b).data.toList = (s.data.toList.take b).drop a := by
  simp [List.extract_eq_take_drop, List.drop_take]

set_option maxHeartbeats 2000000 in
set_option maxRecDepth 100000 in
theorem cutText_any (s : ByteArray) (n : Nat) (w : World) (hs : s.size ≤ 1000000) (hn : n ≤ 1000000) (hT : Tabs w) :
    Calls Tryd.prog 47 #[.string s, .int .i64 (n : Int)] w fun e w' => e = .returned (.tuple #[.string (s.extract 0 (atB n s.data.toList)), .string (s.extract (atB n s.data.toList) s.size)]) ∧ Below w.heap.size w w' := by
  have HT := Lib.hid hT
  have hsl : s.size = s.data.toList.length := Lib.size_eq s
  have hat : ∀ k, atB k s.data.toList ≤ s.size := fun k => by rw [hsl]; exact atB_le k _
  have HST : Hid (∀ k, atB (k + 1) s.data.toList = atB k s.data.toList + (Lib.decodeGo (s.extract (atB k s.data.toList) s.size)).2) := Lib.hid fun k => by
    rw [atB_succ, decodeGo_width, extract_list, hsl, List.take_length]
  have HAT := Lib.hid hat
  clear hT hat hsl
  generalize s.data.toList = l at *
  go_enter Tryd.func47, Tryd.ntmps47
  go_wp2
  go_loopw [6, 10] (fun a i wr => ∃ k : Nat, k ≤ n ∧ i = .int .i64 k ∧ a = .int .i64 (atB k l : Nat) ∧ Below w.heap.size w wr) (fun _ i _ => n - (intOf i).toNat)
  case atStart => exact ⟨0, by omega, rfl, rfl, Below.refl _ _⟩
  case round =>
    obtain ⟨k, hk, rfl, rfl, hb⟩ := hrel
    have ha := HAT.out k
    have HB := Lib.hid hb
    clear hb
    by_cases hlt : k < n
    · have ha2 := HAT.out (k + 1)
      have hst := HST.out k
      generalize atB k l = a at *
      generalize hA' : atB (k + 1) l = a' at *
      have HA' := Lib.hid hA'
      clear hA'
      go_wp2_with fail
      refine (decode_any (s.extract a s.size) wr (HT.out.under HB.out)).mono ?_
      rintro e w1 ⟨rfl, hb1⟩
      have HB1 := Lib.hid (belowNext HB.out hb1)
      generalize (Lib.decodeGo (s.extract a s.size)).2 = d at *
      clear hb1
      go_wp2
      exact ⟨⟨k + 1, by omega, by go_num, by rw [HA'.out, hst]; go_num, HB1.out⟩, by simp [intOf]; omega⟩
    · obtain rfl : k = n := by omega
      generalize hA : atB k l = a at *
      have HA := Lib.hid hA
      clear hA
      go_wp2_with fail
      go_quiet (fail)
      go_wp2
      exact bodyPost_ret (results_tmp2 rfl _ _ _) rfl ⟨by rw [HA.out]; rfl, by first | exact HB.out | exact HB.out.drew | exact HB.out.trans ⟨rfl, rfl, rfl, Nat.le_refl _, fun _ _ => rfl⟩⟩
end Go.Proofs.YtamoklceekeheaaDoor
