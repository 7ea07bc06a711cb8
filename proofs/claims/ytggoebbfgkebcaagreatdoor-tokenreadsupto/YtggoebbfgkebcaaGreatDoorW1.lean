/-
  What the small calls answer: pick, isText, Name.
-/
import Derived.Test.YtggoebbfgkebcaaGreatDoorRows
import Derived.Test.YtggoebbfgkebcaaGreatDoorPure
import Derived.WalkKit
import Derived.WalkSpells
import Derived.WalkLawsBesides
import Derived.Lib.Hide
import Derived.Deep.QuietTactic
import Derived.BigQuiet
import Derived.Deep.LoopGhost
namespace Go.Proofs.YtggoebbfgkebcaaGreatDoor
open Go.RowKit

theorem ret_bool {a b : Bool} (h : a = b) : Ending.returned (.bool a) = .returned (.bool b) := by rw [h]
theorem ret_num {k : IntKind} {a b : Int} (h : a = b) : Ending.returned (.int k a) = .returned (.int k b) := by rw [h]

set_option maxHeartbeats 400000 in
theorem isText_any (k t : ByteArray) (vm va vk : Value) (w : World) :
    Calls Tryz.prog 50 #[.agg #[.string k, .string t, vm, va, vk]] w fun e w' => e = .returned (.bool (isTxt k)) ∧ Below w.heap.size w w' := by
  go_enter Tryz.func50, Tryz.ntmps50
  go_wp2
  go_ret
  exact ⟨rfl, (Below.refl _ _).alloc (Nat.le_refl _) _⟩

def pickN (c n : Int) : Int := (if c < 0 then -(c + 1) else c) % n

theorem pickN_lo (c n : Int) (h : 0 < n) : 0 ≤ pickN c n := Int.emod_nonneg _ (by omega)
theorem pickN_hi (c n : Int) (h : 0 < n) : pickN c n < n := Int.emod_lt_of_pos _ h

theorem byte_getD (s : ByteArray) (k : Nat) (h : k < s.size) : s.data.toList.getD k 0 = s[k] := by
  have h' : k < s.data.toList.length := by simpa using h
  rw [List.getD_eq_getElem?_getD, List.getElem?_eq_getElem h']
  rfl
theorem nameB_true (s : ByteArray) (h1 : 1 ≤ s.size) (h8 : s.size ≤ 8) (ht : isTxt s = false) (h : ∀ j, j < s.size → small (s.data.toList.getD j 0) = true) : nameB s = true := by
  have hall : s.data.toList.all small = true := by
    rw [List.all_eq_true]
    intro c hc
    obtain ⟨j, hj, rfl⟩ := List.getElem_of_mem hc
    have := h j (by simpa using hj)
    rwa [List.getD_eq_getElem?_getD, List.getElem?_eq_getElem hj] at this
  simp only [nameB, h1, h8, ht, hall]; rfl
theorem nameB_bad (s : ByteArray) (k : Nat) (hk : k < s.size) (h : small s[k] = false) : nameB s = false := by
  have hall : s.data.toList.all small = false := by
    rw [List.all_eq_false]
    refine ⟨s[k], ?_, by simp [h]⟩
    have h' : k < s.data.toList.length := by simpa using hk
    exact List.mem_iff_getElem.2 ⟨k, h', rfl⟩
  simp only [nameB, hall, Bool.and_false]

set_option maxHeartbeats 400000 in
theorem name_any (s : ByteArray) (w : World) (hs : s.size ≤ maxLen) :
    Calls Tryz.prog 91 #[.string s] w fun e w' => e = .returned (.bool (nameB s)) ∧ w = w' := by
  unfold maxLen at hs
  by_cases h1 : 1 ≤ s.size
  · by_cases h8 : s.size ≤ 8
    · cases ht : isTxt s with
      | true =>
        have ht' : (s.toList == [116, 101, 120, 116]) = true := ht
        have hN : nameB s = false := by simp [nameB, ht]
        rw [hN]
        clear hN ht
        go_enter Tryz.func91, Tryz.ntmps91
        go_wp2
        go_ret
        exact ⟨rfl, rfl⟩
      | false =>
        have ht' : (s.toList == [116, 101, 120, 116]) = false := ht
        have HT := Lib.hid (nameB_true s h1 h8 ht)
        clear ht
        go_enter Tryz.func91, Tryz.ntmps91
        go_wp2
        go_loop [18] (fun i => ∃ k : Nat, k ≤ s.size ∧ i = .int .i64 k ∧ Hid (∀ j, j < k → small (s.data.toList.getD j 0) = true)) (fun i => s.size - (intOf i).toNat)
        case atStart => exact ⟨0, by omega, rfl, fun j hj => absurd hj (by omega)⟩
        case round =>
          obtain ⟨k, hk, rfl, hall⟩ := hrel
          by_cases hlt : k < s.size
          · have HB := Lib.hid (nameB_bad s k hlt)
            have HG := Lib.hid (byte_getD s k hlt)
            go_wp2
            · go_ret
              exact ⟨ret_bool (HB.out (by unfold small; rw [decide_eq_false (p := s[k].toNat ≤ 122) (by omega), Bool.and_false])).symm, rfl⟩
            · refine ⟨⟨k + 1, by omega, by go_num, fun j hj => ?_⟩, by simp [intOf]; omega⟩
              by_cases e : j < k
              · exact hall j e
              · obtain rfl : j = k := by omega
                rw [HG.out]; unfold small
                rw [decide_eq_true (p := 97 ≤ s[j].toNat) (by omega), decide_eq_true (p := s[j].toNat ≤ 122) (by omega)]; rfl
            · go_ret
              exact ⟨ret_bool (HB.out (by unfold small; rw [decide_eq_false (p := 97 ≤ s[k].toNat) (by omega), Bool.false_and])).symm, rfl⟩
          · go_wp2
            go_ret
            exact ⟨ret_bool (HT.out (fun j hj => hall j (by omega))).symm, rfl⟩
    · have hN : nameB s = false := by simp [nameB, h8]
      rw [hN]
      clear hN
      go_enter Tryz.func91, Tryz.ntmps91
      go_wp2
      go_ret
      exact ⟨rfl, rfl⟩
  · have hN : nameB s = false := by simp [nameB, h1]
    rw [hN]
    clear hN
    go_enter Tryz.func91, Tryz.ntmps91
    go_wp2
    go_ret
    exact ⟨rfl, rfl⟩
end Go.Proofs.YtggoebbfgkebcaaGreatDoor
