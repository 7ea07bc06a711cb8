/-
  What expr's small calls answer: repeats, anyOf.
-/
import Derived.Test.YtldmimekmjmkgaaDoorF0
namespace Go.Proofs.YtldmimekmjmkgaaDoor
open Go.RowKit Go.Sort

set_option maxHeartbeats 400000 in
theorem repeats_any (o : Nat) (w : World) (ho : o < 256) : Calls Tryd.prog 60 #[.int .u8 o] w fun e w' => e = .returned (.bool (repE o)) ∧ w = w' := by
  by_cases h1 : o = 42
  · subst h1
    go_enter Tryd.func60, Tryd.ntmps60
    go_wp2
    go_ret
    exact ⟨rfl, rfl⟩
  · by_cases h2 : o = 43
    · subst h2
      go_enter Tryd.func60, Tryd.ntmps60
      go_wp2
      go_ret
      exact ⟨rfl, rfl⟩
    · by_cases h3 : o = 63
      · subst h3
        go_enter Tryd.func60, Tryd.ntmps60
        go_wp2
        go_ret
        exact ⟨rfl, rfl⟩
      · have e1 : ((o : Int) == 42) = false := by simp; omega
        have e2 : ((o : Int) == 43) = false := by simp; omega
        have e3 : ((o : Int) == 63) = false := by simp; omega
        have HR : Hid (repE o = false) := Lib.hid (by simp [repE, h1, h2, h3])
        clear h1 h2 h3
        go_enter Tryd.func60, Tryd.ntmps60
        go_wp2
        go_ret
        exact ⟨ret_bool HR.out.symm, rfl⟩

set_option maxHeartbeats 400000 in
theorem opIs_any (x : Ex) (A : Option Addr) (n c p o : Nat) (w : World) (hp : w.cell? ⟨p, 0, none⟩ = some (.int .u8 o)) :
    Calls Tryd.prog 79 #[.agg #[.int .u8 x.op, .string x.name, .slice A n c], .pointer (some ⟨p, 0, none⟩)] w fun e w' => e = .returned (.bool (x.op == o)) ∧ Below w.heap.size w w' := by
  have hlt := cell_lt hp
  by_cases h : x.op = o
  · have e1 : ((x.op : Int) == (o : Int)) = true := by simp [h]
    have HE : Hid ((x.op == o) = true) := Lib.hid (by simp [h])
    clear h
    generalize x.op = q at *
    generalize x.name = s at *
    go_enter Tryd.func79, Tryd.ntmps79
    go_wp2
    go_ret
    exact ⟨ret_bool HE.out.symm, (Below.refl _ _).alloc (Nat.le_refl _) _⟩
  · have e1 : ((x.op : Int) == (o : Int)) = false := by simp; omega
    have HE : Hid ((x.op == o) = false) := Lib.hid (by simp [h])
    clear h
    generalize x.op = q at *
    generalize x.name = s at *
    go_enter Tryd.func79, Tryd.ntmps79
    go_wp2
    go_ret
    exact ⟨ret_bool HE.out.symm, (Below.refl _ _).alloc (Nat.le_refl _) _⟩

theorem any_at {l : List Ex} {o k : Nat} {x : Ex} (hx : l[k]? = some x) (h : (x.op == o) = true) : (l.any fun y => y.op == o) = true := List.any_eq_true.2 ⟨x, List.mem_of_getElem? hx, h⟩
theorem any_none {l : List Ex} {o : Nat} (h : ∀ (j : Nat) (x : Ex), l[j]? = some x → (x.op == o) = false) : (l.any fun y => y.op == o) = false := by
  rw [List.any_eq_false]
  intro x hx
  obtain ⟨j, hj⟩ := List.mem_iff_getElem?.1 hx
  rw [h j x hj]; exact Bool.false_ne_true

set_option maxHeartbeats 1000000 in
theorem indexFunc_op (l : List Ex) (A : Option Addr) (n c p o : Nat) (w : World) (hl : Exs w (Under w.heap.size) (.slice A n c) l) (hp : w.cell? ⟨p, 0, none⟩ = some (.int .u8 o)) :
    Calls Tryd.prog 90 #[.slice A n c, .func (.func 79) #[] #[.pointer (some ⟨p, 0, none⟩)]] w fun e w' => (∃ i : Int, e = .returned (.int .i64 i) ∧ -1 ≤ i ∧ i ≤ 9223372036854775807 ∧ decide (0 ≤ i) = l.any fun y => y.op == o) ∧ Below w.heap.size w w' := by
  have hlen := hl.len
  obtain ⟨A', c', hv, hc, hm, _⟩ := id hl
  injection hv with hA hn hc'
  subst hA hn hc'
  unfold maxLen at hm
  have HA := Lib.hid hl
  have HP := Lib.hid hp
  clear hl hp
  go_enter Tryd.func90, Tryd.ntmps90
  go_wp2
  go_loopw [8] (fun i wr => ∃ k : Nat, k ≤ l.length ∧ i = .int .i64 k ∧ Below w.heap.size w wr ∧ Hid (∀ (j : Nat) (x : Ex), j < k → l[j]? = some x → (x.op == o) = false)) (fun i _ => l.length - (intOf i).toNat)
  case atStart => exact ⟨0, by omega, rfl, Below.refl _ _, fun j _ hj => absurd hj (by omega)⟩
  case round =>
    obtain ⟨k, hk, rfl, hbr, hall⟩ := hrel
    by_cases hlt : k < l.length
    · have hlx : l[k]? = some l[k] := List.getElem?_eq_getElem hlt
      generalize hx : l[k] = x at *
      obtain ⟨b, off, rfl, hb, hat⟩ := HA.out.get hlx
      obtain ⟨vk, e0, e1, e2, exk⟩ := (exAt_iff x b _).1 hat
      obtain ⟨A3, c3, rfl, _⟩ := id exk
      have f0 := cell_kept e0 hbr
      have f1 := cell_kept e1 hbr
      have f2 := cell_kept e2 hbr
      have hl3 := cell_lt f0
      have HX := Lib.hid hlx
      have HPR := Lib.hid (cell_kept HP.out hbr)
      clear e0 e1 e2 exk hx hlx hat hb
      go_wp2_with fail
      refine (opIs_any x _ _ _ p o _ HPR.out).mono ?_
      rintro e w3 ⟨rfl, hb3⟩
      have hB3 := belowNext hbr hb3
      generalize hs : (x.op == o) = r at *
      have HSR := Lib.hid hs
      clear hs hb3 f0 f1 f2
      cases r with
      | true =>
        go_wp2
        go_ret
        exact ⟨⟨k, rfl, by omega, by omega, (decide_eq_true (by omega)).trans (any_at HX.out HSR.out).symm⟩, hB3⟩
      | false =>
        go_wp2
        refine ⟨⟨k + 1, by omega, by go_num, hB3, fun j y hj hy => ?_⟩, by simp [intOf]; omega⟩
        by_cases e : j < k
        · exact hall.out j y e hy
        · obtain rfl : j = k := by omega
          rw [Option.some.inj (hy.symm.trans HX.out)]; exact HSR.out
    · go_wp2
      go_ret
      exact ⟨⟨-1, rfl, by omega, by omega, (any_none fun j y hy => hall.out j y (by have := (List.getElem?_eq_some_iff.1 hy).1; omega) hy).symm⟩, hbr⟩
set_option maxHeartbeats 400000 in
theorem contains_op (l : List Ex) (A : Option Addr) (n c p o : Nat) (w : World) (hl : Exs w (Under w.heap.size) (.slice A n c) l) (hp : w.cell? ⟨p, 0, none⟩ = some (.int .u8 o)) :
    Calls Tryd.prog 78 #[.slice A n c, .func (.func 79) #[] #[.pointer (some ⟨p, 0, none⟩)]] w fun e w' => e = .returned (.bool (l.any fun y => y.op == o)) ∧ Below w.heap.size w w' := by
  have HA := Lib.hid hl
  have HP := Lib.hid hp
  clear hl hp
  go_enter Tryd.func78, Tryd.ntmps78
  go_wp2_with fail
  refine (indexFunc_op l A n c p o w HA.out HP.out).mono ?_
  rintro e w1 ⟨⟨i, rfl, hi1, hi2, hi⟩, hb⟩
  have HI := Lib.hid hi
  clear hi
  by_cases h0 : 0 ≤ i
  · go_wp2
    go_ret
    exact ⟨ret_bool ((decide_eq_true (p := 0 ≤ i) (by omega)).symm.trans HI.out), hb⟩
  · go_wp2
    go_ret
    exact ⟨ret_bool HI.out, hb⟩
set_option maxHeartbeats 400000 in
theorem anyOf_any (l : List Ex) (A : Option Addr) (n c o : Nat) (w : World) (hl : Exs w (Under w.heap.size) (.slice A n c) l) :
    Calls Tryd.prog 59 #[.slice A n c, .int .u8 o] w fun e w' => e = .returned (.bool (l.any fun y => y.op == o)) ∧ Below w.heap.size w w' := by
  have HA := Lib.hid hl
  clear hl
  go_enter Tryd.func59, Tryd.ntmps59
  go_wp2_with fail
  have HB : Hid (Below w.heap.size w (w.alloc (.cells #[.int .u8 o] 5))) := Lib.hid ((Below.refl _ _).alloc (Nat.le_refl _) _)
  refine (contains_op l A n c w.heap.size o _ ((HA.out.below HB.out).more HB.out.size) (by simp only [World.cell?, heap_new]; rfl)).mono ?_
  rintro e w1 ⟨rfl, hb⟩
  have HB1 := Lib.hid (belowNext HB.out hb)
  clear hb
  go_wp2
  go_ret
  exact ⟨rfl, HB1.out⟩
end Go.Proofs.YtldmimekmjmkgaaDoor
