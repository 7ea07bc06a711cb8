/-
  What the small calls answer: pick, isText, Name.
-/
import Derived.Test.YtmmifednhleggaaRows
import Derived.Test.YtmmifednhleggaaPure
import Derived.WalkKit
import Derived.WalkSpells
import Derived.WalkLawsBesides
import Derived.Lib.Hide
import Derived.Deep.QuietTactic
import Derived.BigQuiet
import Derived.Deep.LoopGhost
namespace Go.Proofs.Ytmmifednhleggaa
open Go.RowKit

theorem ret_bool {a b : Bool} (h : a = b) : Ending.returned (.bool a) = .returned (.bool b) := by rw [h]
theorem ret_num {k : IntKind} {a b : Int} (h : a = b) : Ending.returned (.int k a) = .returned (.int k b) := by rw [h]

set_option maxHeartbeats 400000 in
theorem isText_any (k t : ByteArray) (vm va vk : Value) (w : World) :
    Calls Try.prog 37 #[.agg #[.string k, .string t, vm, va, vk]] w fun e w' => e = .returned (.bool (isTxt k)) ∧ Below w.heap.size w w' := by
  go_enter Try.func37, Try.ntmps37
  go_wp2
  go_ret
  exact ⟨rfl, (Below.refl _ _).alloc (Nat.le_refl _) _⟩

def pickN (c n : Int) : Int := (if c < 0 then -(c + 1) else c) % n

theorem pickN_lo (c n : Int) (h : 0 < n) : 0 ≤ pickN c n := Int.emod_nonneg _ (by omega)
theorem pickN_hi (c n : Int) (h : 0 < n) : pickN c n < n := Int.emod_lt_of_pos _ h

set_option maxHeartbeats 400000 in
theorem pick_any (c n : Int) (w : World) (hn : 0 < n) (hn2 : n ≤ 1000000) (hc : -9223372036854775808 ≤ c) (hc2 : c ≤ 9223372036854775807) :
    Calls Try.prog 33 #[.int .i64 c, .int .i64 n] w fun e w' => e = .returned (.int .i64 (pickN c n)) ∧ w = w' := by
  by_cases h : c < 0
  · go_enter Try.func33, Try.ntmps33
    go_wp2
    go_ret
    refine ⟨ret_num ?_, rfl⟩
    unfold pickN; rw [if_pos h]
    show (-((c + 1).tmod n)) = _
    rw [← Int.neg_tmod, Int.tmod_eq_emod_of_nonneg (by omega)]
  · go_enter Try.func33, Try.ntmps33
    go_wp2
    go_ret
    refine ⟨ret_num ?_, rfl⟩
    unfold pickN; rw [if_neg (by omega)]

theorem byte_getD (s : ByteArray) (k : Nat) (h : k < s.size) : s.data.toList.getD k 0 = s[k] := by
  have h' : k < s.data.toList.length := by simpa using h
  rw [List.getD_eq_getElem?_getD, List.getElem?_eq_getElem h']
  rfl
theorem nameB_true (s : ByteArray) (h1 : 1 ≤ s.size) (h8 : s.size ≤ 8) (ht : isTxt s = false) (h : ∀ j, j < s.size → small (s.data.toList.getD j 0) = true) : nameB s = true := by
  have hall : s.data.toList.all small = true := by
    rw [List.all_eq_true]
    intro c hc
    obtain ⟨j, hj, rfl⟩ := List.getElem_of_mem hc
    have := h j (by simpa using hj)
    rwa [List.getD_eq_getElem?_getD, List.getElem?_eq_getElem hj] at this
  simp only [nameB, h1, h8, ht, hall]; rfl
theorem nameB_bad (s : ByteArray) (k : Nat) (hk : k < s.size) (h : small s[k] = false) : nameB s = false := by
  have hall : s.data.toList.all small = false := by
    rw [List.all_eq_false]
    refine ⟨s[k], ?_, by simp [h]⟩
    have h' : k < s.data.toList.length := by simpa using hk
    exact List.mem_iff_getElem.2 ⟨k, h', rfl⟩
  simp only [nameB, hall, Bool.and_false]

end Go.Proofs.Ytmmifednhleggaa
