/-
  What the layers above the documents want of a walk's helpers; node.Name (as in wip/node/W1 and W3, whose other functions are not in these programs).
-/
import Derived.Test.YtldmimekmjmkgaaDoorRows
import Derived.Test.YtldmimekmjmkgaaDoorFb
import Derived.WalkKit
import Derived.WalkSpells
import Derived.WalkLawsBesides
import Derived.Lib.Hide
import Derived.Deep.QuietTactic
import Derived.BigQuiet
import Derived.Deep.LoopGhost
import Derived.Lib.QuietBelow
import Derived.Deep.RegionLaw
import Derived.Deep.DeepCutAuto
namespace Go.Proofs.YtldmimekmjmkgaaDoor
open Go.RowKit Go.Sort

theorem ret_bool {a b : Bool} (h : a = b) : Ending.returned (.bool a) = .returned (.bool b) := by rw [h]
theorem ret_num {k : IntKind} {a b : Int} (h : a = b) : Ending.returned (.int k a) = .returned (.int k b) := by rw [h]

theorem byte_getD (s : ByteArray) (k : Nat) (h : k < s.size) : s.data.toList.getD k 0 = s[k] := by
  have h' : k < s.data.toList.length := by simpa using h
  rw [List.getD_eq_getElem?_getD, List.getElem?_eq_getElem h']
  rfl
theorem nameB_true (s : ByteArray) (h1 : 1 ≤ s.size) (h8 : s.size ≤ 8) (ht : isTxt s = false) (h : ∀ j, j < s.size → small (s.data.toList.getD j 0) = true) : nameB s = true := by
  have hall : s.data.toList.all small = true := by
    rw [List.all_eq_true]
    intro c hc
    obtain ⟨j, hj, rfl⟩ := List.getElem_of_mem hc
    have := h j (by simpa using hj)
    rwa [List.getD_eq_getElem?_getD, List.getElem?_eq_getElem hj] at this
  simp only [nameB, h1, h8, ht, hall]; rfl
theorem nameB_bad (s : ByteArray) (k : Nat) (hk : k < s.size) (h : small s[k] = false) : nameB s = false := by
  have hall : s.data.toList.all small = false := by
    rw [List.all_eq_false]
    refine ⟨s[k], ?_, by simp [h]⟩
    have h' : k < s.data.toList.length := by simpa using hk
    exact List.mem_iff_getElem.2 ⟨k, h', rfl⟩
  simp only [nameB, hall, Bool.and_false]

set_option maxHeartbeats 400000 in
theorem name_any (s : ByteArray) (w : World) (hs : s.size ≤ maxLen) :
    Calls Tryd.prog 58 #[.string s] w fun e w' => e = .returned (.bool (nameB s)) ∧ w = w' := by
  unfold maxLen at hs
  by_cases h1 : 1 ≤ s.size
  · by_cases h8 : s.size ≤ 8
    · cases ht : isTxt s with
      | true =>
        have ht' : (s.toList == [116, 101, 120, 116]) = true := ht
        have hN : nameB s = false := by simp [nameB, ht]
        rw [hN]
        clear hN ht
        go_enter Tryd.func58, Tryd.ntmps58
        go_wp2
        go_ret
        exact ⟨rfl, rfl⟩
      | false =>
        have ht' : (s.toList == [116, 101, 120, 116]) = false := ht
        have HT := Lib.hid (nameB_true s h1 h8 ht)
        clear ht
        go_enter Tryd.func58, Tryd.ntmps58
        go_wp2
        go_loop [18] (fun i => ∃ k : Nat, k ≤ s.size ∧ i = .int .i64 k ∧ Hid (∀ j, j < k → small (s.data.toList.getD j 0) = true)) (fun i => s.size - (intOf i).toNat)
        case atStart => exact ⟨0, by omega, rfl, fun j hj => absurd hj (by omega)⟩
        case round =>
          obtain ⟨k, hk, rfl, hall⟩ := hrel
          by_cases hlt : k < s.size
          · have HB := Lib.hid (nameB_bad s k hlt)
            have HG := Lib.hid (byte_getD s k hlt)
            go_wp2
            · go_ret
              exact ⟨ret_bool (HB.out (by unfold small; rw [decide_eq_false (p := s[k].toNat ≤ 122) (by omega), Bool.and_false])).symm, rfl⟩
            · refine ⟨⟨k + 1, by omega, by go_num, fun j hj => ?_⟩, by simp [intOf]; omega⟩
              by_cases e : j < k
              · exact hall j e
              · obtain rfl : j = k := by omega
                rw [HG.out]; unfold small
                rw [decide_eq_true (p := 97 ≤ s[j].toNat) (by omega), decide_eq_true (p := s[j].toNat ≤ 122) (by omega)]; rfl
            · go_ret
              exact ⟨ret_bool (HB.out (by unfold small; rw [decide_eq_false (p := 97 ≤ s[k].toNat) (by omega), Bool.false_and])).symm, rfl⟩
          · go_wp2
            go_ret
            exact ⟨ret_bool (HT.out (fun j hj => hall j (by omega))).symm, rfl⟩
    · have hN : nameB s = false := by simp [nameB, h8]
      rw [hN]
      clear hN
      go_enter Tryd.func58, Tryd.ntmps58
      go_wp2
      go_ret
      exact ⟨rfl, rfl⟩
  · have hN : nameB s = false := by simp [nameB, h1]
    rw [hN]
    clear hN
    go_enter Tryd.func58, Tryd.ntmps58
    go_wp2
    go_ret
    exact ⟨rfl, rfl⟩
theorem name_no (s : ByteArray) (w : World) (hs : s.size ≤ maxLen) (h : nameB s = false) :
    Calls Tryd.prog 58 #[.string s] w fun e w' => e = .returned (.bool false) ∧ w' = w :=
  (name_any s w hs).mono fun _ _ ⟨he, hw⟩ => ⟨by rw [he, h], hw.symm⟩
theorem name_yes (s : ByteArray) (w : World) (hs : s.size ≤ maxLen) (h : nameB s = true) :
    Calls Tryd.prog 58 #[.string s] w fun e w' => e = .returned (.bool true) ∧ w' = w :=
  (name_any s w hs).mono fun _ _ ⟨he, hw⟩ => ⟨by rw [he, h], hw.symm⟩

theorem cell_lt {w : World} {g o : Nat} {v : Value} (hc : w.cell? ⟨g, o, none⟩ = some v) : g < w.heap.size := by
  rcases Nat.lt_or_ge g w.heap.size with hlt | hge
  · exact hlt
  · simp [World.cell?, Array.getElem?_eq_none hge] at hc
theorem cell_kept {w w' : World} {g o : Nat} {v : Value} (hc : w.cell? ⟨g, o, none⟩ = some v) (hb : Below w.heap.size w w') : w'.cell? ⟨g, o, none⟩ = some v :=
  (hb.cell (p := ⟨g, o, none⟩) (cell_lt hc)).trans hc
theorem belowNext {w a b : World} (h : Below w.heap.size w a) (k : Below a.heap.size a b) : Below w.heap.size w b := h.trans (k.mono h.size)
theorem regrown_same {P : Program} {f : FuncId} {args : Array Value} {w : World} {v : Value} (h : ∀ W, Calls P f args W fun e w' => e = .returned v ∧ w' = W) :
    ∀ (d : Nat) (os : Array Obj), Calls P f args (grow (redrawn w d) os) fun e w'' => e = .returned v ∧ ∃ p : Regrown, w'' = grow (redrawn w p.d) p.os :=
  fun d os => (h _).mono fun _ _ ⟨he, hw⟩ => ⟨he, ⟨d, os⟩, hw⟩
theorem regrown_any {P : Program} {f : FuncId} {args : Array Value} {w : World} {v : Value} (h : ∀ W, Below w.heap.size w W → Calls P f args W fun e w' => e = .returned v ∧ Below W.heap.size W w') :
    ∀ (d : Nat) (os : Array Obj), Calls P f args (grow (redrawn w d) os) fun e w'' => e = .returned v ∧ ∃ p : Regrown, w'' = grow (redrawn w p.d) p.os :=
  fun d os => Calls.regrown_of (h _ (below_regrown w d os))

theorem heap_new (W : World) (ob : Obj) : (W.alloc ob).heap[W.heap.size]? = some ob := by show (W.heap.push _)[W.heap.size]? = _; simp
theorem heap_new' (W : World) (ob : Obj) {g : Nat} (hg : W.heap.size = g) : (W.alloc ob).heap[g]? = some ob := by subst hg; exact heap_new W ob
/-- Of the old blocks, only R may have turned. -/
structure OnlyR (R : Nat) (w w' : World) : Prop where
  os : w'.os = w.os
  tape : w'.tape = w.tape
  output : w'.output = w.output
  size : w.heap.size ≤ w'.heap.size
  block : ∀ k, k < w.heap.size → k ≠ R → w'.heap[k]? = w.heap[k]?
theorem OnlyR.refl (R : Nat) (w : World) : OnlyR R w w := ⟨rfl, rfl, rfl, Nat.le_refl _, fun _ _ _ => rfl⟩
theorem OnlyR.trans {R : Nat} {a b c : World} (h : OnlyR R a b) (k : OnlyR R b c) : OnlyR R a c :=
  ⟨k.os.trans h.os, k.tape.trans h.tape, k.output.trans h.output, Nat.le_trans h.size k.size, fun i hi hn => (k.block i (Nat.lt_of_lt_of_le hi h.size) hn).trans (h.block i hi hn)⟩
theorem OnlyR.set (R i : Nat) (w : World) (v : Value) : OnlyR R w (w.setCell ⟨R, i, none⟩ v) := ⟨rfl, rfl, rfl, by simp [World.setCell], fun k _ hn => Below.heap_setCell _ _ _ _ hn⟩
theorem OnlyR.of_below (R : Nat) {w w' : World} (h : Below w.heap.size w w') : OnlyR R w w' := ⟨h.os, h.tape, h.output, h.size, fun k hk _ => h.block k hk⟩
theorem OnlyR.below {R B : Nat} {w w' : World} (h : OnlyR R w w') (hB : B ≤ R) (hw : B ≤ w.heap.size) : Below B w w' := ⟨h.os, h.tape, h.output, h.size, fun k hk => h.block k (by omega) (by omega)⟩
end Go.Proofs.YtldmimekmjmkgaaDoor
