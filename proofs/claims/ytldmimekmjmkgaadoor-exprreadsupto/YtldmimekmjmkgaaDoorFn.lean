/-
  How a right expression is written; what joined answers.
-/
import Derived.Test.YtldmimekmjmkgaaDoorFm
import Derived.Test.YtldmimekmjmkgaaDoorShelfJ
import Derived.OwnWalk
import Derived.Lib.Join
namespace Go.Proofs.YtldmimekmjmkgaaDoor
open Go.RowKit Go.Sort Go.Maps Go.WideMaps

theorem extraJoin : Builder.Extra Tryd.prog Tryd.laysJoin_ren := {
  sizeBuilder := by kernel_rfl
  liesBuilder := by kernel_rfl
  t5 := Tryd.underlying5
  a5 := Tryd.isAgg5
  z5 := Tryd.sizeOf5
  v5 := Tryd.zeroValue5
  infoByte := by kernel_rfl
  cellsByte := by kernel_rfl
  sizeByte := by kernel_rfl
  neB5 := by decide }
def joinE (sep : ByteArray) (l : List ByteArray) : ByteArray := ⟨(Lib.join (l.map (·.data.toList)) sep.data.toList).toArray⟩
theorem joins_any (g c : Nat) (xs : List ByteArray) (sep : ByteArray) (w : World) (hg : g < w.heap.size) (hc : xs.length ≤ c) (hcells : ∀ (j : Nat) x, xs[j]? = some x → w.cell? ⟨g, j, none⟩ = some (.string x)) (hN : xs.length ≤ 100000) (hlen : (joinE sep xs).size ≤ 100000) :
    Calls Tryd.prog 57 #[.slice (some ⟨g, 0, none⟩) xs.length c, .string sep] w fun e w' => e = .returned (.string (joinE sep xs)) ∧ Below w.heap.size w w' :=
  Any.strings_Join Tryd.laysJoin extraJoin g 0 c xs sep w (fun j x h => by rw [Nat.zero_add]; exact hcells j x h) hg (by omega) hc (by
    have e : (joinE sep xs).size = (Lib.join (xs.map (·.data.toList)) sep.data.toList).length := by simp [joinE, ByteArray.size]
    omega)

/-- Written in ( ) ahead of a sign, and in a sequence. -/
def parE (e : Ex) : Bool := e.op == 97 || (e.op == 115 && decide (0 < e.kids.length))
def inE (e : Ex) (s : ByteArray) : ByteArray := if parE e then (⟨#[40]⟩ : ByteArray) ++ s ++ ⟨#[41]⟩ else s
mutual
/-- How a right expression is written. -/
def writeE : Ex → ByteArray
  | .mk o s l => if o = 110 then s else if o = 97 then joinE ⟨#[124]⟩ (writesE l) else if o = 115 then (if l.length = 0 then ⟨#[40, 41]⟩ else joinE ⟨#[32]⟩ (innersE l)) else firstE l ++ ⟨#[UInt8.ofNat o]⟩
def writesE : List Ex → List ByteArray
  | [] => []
  | x :: l => writeE x :: writesE l
def innersE : List Ex → List ByteArray
  | [] => []
  | x :: l => inE x (writeE x) :: innersE l
def firstE : List Ex → ByteArray
  | [] => ByteArray.empty
  | x :: _ => inE x (writeE x)
end
theorem writesE_map : ∀ l, writesE l = l.map writeE
  | [] => rfl
  | x :: l => by rw [writesE, writesE_map l]; rfl
theorem innersE_map : ∀ l, innersE l = l.map fun x => inE x (writeE x)
  | [] => rfl
  | x :: l => by rw [innersE, innersE_map l]; rfl

theorem strE_info : (Tryd.prog.info? 9).map (fun i => (i.zero, i.size, i.bytes)) = some (some (.string ⟨#[]⟩), 1, 16) := by kernel_rfl
theorem below_set {B g : Nat} {w w' : World} (h : Below B w w') (i : Nat) (v : Value) (hg : B ≤ g) : Below B w (w'.setCell ⟨g, i, none⟩ v) :=
  ⟨h.os, h.tape, h.output, by simpa [World.setCell] using h.size, fun b hb => (Below.heap_setCell _ _ _ _ (by dsimp only; omega)).trans (h.block b hb)⟩
/-- The parts so far, in a row of the call's own. -/
def PartsAt (w : World) (g n k : Nat) (xs : List ByteArray) : Prop := ∃ cur, w.heap[g]? = some (.cells cur 9 (0, 0)) ∧ cur.size = n ∧ ∀ (j : Nat) x, j < k → xs[j]? = some x → cur[j]? = some (.string x)
theorem PartsAt.next {w : World} {g n k : Nat} {xs : List ByteArray} {x : ByteArray} (h : PartsAt w g n k xs) (hk : k < n) (hx : xs[k]? = some x) : PartsAt (w.setCell ⟨g, k, none⟩ (.string x)) g n (k + 1) xs := by
  obtain ⟨cur, h1, h2, h3⟩ := h
  refine ⟨_, heap_setCell_same w g k _ _ _ h1, by simpa using h2, fun j y hj hy => ?_⟩
  by_cases e : k = j
  · subst e
    rw [Array.getElem?_setIfInBounds_self_of_lt (by omega), Option.some.inj (hx.symm.trans hy)]
  · rw [Array.getElem?_setIfInBounds_ne e]
    exact h3 j y (by omega) hy
theorem PartsAt.keep {w w' : World} {g n k : Nat} {xs : List ByteArray} (h : PartsAt w g n k xs) (hk : w'.heap[g]? = w.heap[g]?) : PartsAt w' g n k xs := by
  obtain ⟨cur, h1, h2⟩ := h
  exact ⟨cur, hk.trans h1, h2⟩

set_option maxRecDepth 100000 in
set_option maxHeartbeats 2000000 in
theorem joined_w (pt : Ex → ByteArray) (l : List Ex) (sep : ByteArray) (A : Option Addr) (n c : Nat) (w : World) (hl : Exs w (Under w.heap.size) (.slice A n c) l)
    (IH : Hid (∀ x ∈ l, ∀ (A' : Option Addr) (n' c' : Nat) (W : World), Exs W (Under W.heap.size) (.slice A' n' c') x.kids → Calls Tryd.prog 28 #[.agg #[.int .u8 x.op, .string x.name, .slice A' n' c']] W fun e w' => e = .returned (.string (pt x)) ∧ Below W.heap.size W w'))
    (hN : l.length ≤ 1000) (hlen : (joinE sep (l.map pt)).size ≤ 100000) :
    Calls Tryd.prog 42 #[.slice A n c, .string sep, .func (.func 28) #[] #[]] w fun e w' => e = .returned (.string (joinE sep (l.map pt))) ∧ Below w.heap.size w w' := by
  have hlen' := hl.len
  obtain ⟨A', c', hv, hc', hm, _⟩ := id hl
  injection hv with hA hn hcc
  subst hA hn hcc
  unfold maxLen at hm
  have HA := Lib.hid hl
  have HLN := Lib.hid hlen
  obtain ⟨i0, hi, hz0, hz1, hz2⟩ := info_parts strE_info
  clear hl hlen
  go_enter Tryd.func42, Tryd.ntmps42
  go_wp2_with (first
    | (at_make; refine wpList_make_full _ rfl _ _ 25 rfl w.heap.size 9 i0 (.string ⟨#[]⟩) 1 Tryd.underlying25 hi hz0 hz1 .i64 .i64 _ _ l.length rfl rfl rfl rfl (by rw [hz2]; omega) (by unfold maxLen; omega) (Nat.le_refl _) ?_; intro w1 hown hgrow)
    | fail)
  have HBW := Lib.hid ((Below.refl w.heap.size w).grown hgrow (Nat.le_refl _) (fun j hj => by cases hj))
  have HPT : Hid (PartsAt w1 w.heap.size l.length 0 (l.map pt)) := Lib.hid (by
    obtain ⟨_, ⟨h, _⟩ | ⟨g, cap, cur, h, _, hg, _, _, hcs, _⟩⟩ := hown
    · cases h
    · injection h with h1 _ h3
      injection h1 with h1
      injection h1 with h1 _ _
      subst h1 h3
      exact ⟨cur, hg, by simpa using hcs, fun j x hj => absurd hj (by omega)⟩)
  clear hown hgrow hi hz0 hz1 hz2
  go_loopw [15] (fun i wr => ∃ k : Nat, k ≤ l.length ∧ i = .int .i64 k ∧ Below w.heap.size w wr ∧ Hid (PartsAt wr w.heap.size l.length k (l.map pt))) (fun i _ => l.length - (intOf i).toNat)
  case atStart => exact ⟨0, by omega, rfl, HBW.out, HPT⟩
  case round =>
    obtain ⟨k, hk, rfl, hbr, hpt⟩ := hrel
    by_cases hlt : k < l.length
    · have hlx : l[k]? = some l[k] := List.getElem?_eq_getElem hlt
      generalize hx : l[k] = x at *
      have HBR := Lib.hid hbr
      obtain ⟨b, off, rfl, _, hat⟩ := HA.out.get hlx
      obtain ⟨vk, e0, e1, e2, exk⟩ := (exAt_iff x b _).1 hat
      obtain ⟨A3, c3, rfl, _⟩ := id exk
      have f0 := cell_kept e0 hbr
      have f1 := cell_kept e1 hbr
      have f2 := cell_kept e2 hbr
      have hl3 := cell_lt f0
      have HX := Lib.hid hlx
      have HEK := Lib.hid exk
      clear e0 e1 e2 exk hx hlx hat
      go_wp2_with fail
      have HBX : Hid (Below wr.heap.size wr (wr.alloc (.cells #[.int .u8 x.op, .string x.name, .slice A3 x.kids.length c3] 24))) := Lib.hid ((Below.refl _ _).alloc (Nat.le_refl _) _)
      have HBX2 := Lib.hid (belowNext HBR.out HBX.out)
      refine (IH.out x (List.mem_of_getElem? HX.out) A3 _ c3 _ ((HEK.out.below HBX2.out).more HBX2.out.size)).mono ?_
      rintro e w3 ⟨rfl, hb3⟩
      have HB3 := Lib.hid (belowNext HBX2.out hb3)
      have hzg : w.heap.size < wr.heap.size := by obtain ⟨cur, h, _⟩ := hpt.out; exact (Array.getElem?_eq_some_iff.1 h).1
      have HP3 : Hid (PartsAt w3 w.heap.size l.length k (l.map pt)) := Lib.hid (hpt.out.keep ((hb3.block _ (Nat.lt_of_lt_of_le hzg HBX.out.size)).trans (HBX.out.block _ hzg)))
      have HPN := Lib.hid (HP3.out.next hlt (by rw [List.getElem?_map, HX.out]; rfl))
      obtain ⟨cur, hcur, hcsz, _⟩ := HP3.out
      have q0 : ∃ u, w3.cell? ⟨w.heap.size, k, none⟩ = some u := ⟨cur[k]'(by omega), by simp only [World.cell?, hcur]; rw [Array.getElem?_eq_getElem (by omega)]; rfl⟩
      obtain ⟨u, q0⟩ := q0
      have z0 := frozen_of_row _ w.heap.size k _ _ hcur
      have hz3 := cell_lt q0
      clear hb3 hbr hpt hcur hcsz f0 f1 f2
      generalize pt x = y at *
      go_wp2
      exact ⟨⟨k + 1, by omega, by go_num, below_set HB3.out _ _ (Nat.le_refl _), HPN⟩, by simp [intOf]; omega⟩
    · have HPE := Lib.hid hpt.out
      have hgl : w.heap.size < wr.heap.size := by obtain ⟨cur, h, _⟩ := HPE.out; exact (Array.getElem?_eq_some_iff.1 h).1
      have HBE := Lib.hid hbr
      have hlm : (l.map pt).length = l.length := List.length_map _
      have HCE : Hid (∀ (j : Nat) x, (l.map pt)[j]? = some x → wr.cell? ⟨w.heap.size, j, none⟩ = some (.string x)) := Lib.hid (fun j x hx => by
        obtain ⟨cur, hcur, _, hall⟩ := HPE.out
        simp only [World.cell?, hcur]
        exact hall j x (by have := (List.getElem?_eq_some_iff.1 hx).1; omega) hx)
      have HJ := Lib.hid (joins_any w.heap.size l.length (l.map pt) sep wr hgl (by omega) HCE.out (by omega) HLN.out)
      rw [hlm] at HJ
      clear hpt hbr hlm
      go_wp2_with fail
      refine HJ.out.mono ?_
      rintro e w4 ⟨rfl, hb4⟩
      have HB4 := Lib.hid (belowNext HBE.out hb4)
      clear hb4
      go_wp2
      go_ret
      exact ⟨rfl, HB4.out⟩
set_option maxRecDepth 100000 in
set_option maxHeartbeats 2000000 in
theorem joined_i (pt : Ex → ByteArray) (l : List Ex) (sep : ByteArray) (A : Option Addr) (n c : Nat) (w : World) (hl : Exs w (Under w.heap.size) (.slice A n c) l)
    (IH : Hid (∀ x ∈ l, ∀ (A' : Option Addr) (n' c' : Nat) (W : World), Exs W (Under W.heap.size) (.slice A' n' c') x.kids → Calls Tryd.prog 43 #[.agg #[.int .u8 x.op, .string x.name, .slice A' n' c']] W fun e w' => e = .returned (.string (pt x)) ∧ Below W.heap.size W w'))
    (hN : l.length ≤ 1000) (hlen : (joinE sep (l.map pt)).size ≤ 100000) :
    Calls Tryd.prog 42 #[.slice A n c, .string sep, .func (.func 43) #[] #[]] w fun e w' => e = .returned (.string (joinE sep (l.map pt))) ∧ Below w.heap.size w w' := by
  have hlen' := hl.len
  obtain ⟨A', c', hv, hc', hm, _⟩ := id hl
  injection hv with hA hn hcc
  subst hA hn hcc
  unfold maxLen at hm
  have HA := Lib.hid hl
  have HLN := Lib.hid hlen
  obtain ⟨i0, hi, hz0, hz1, hz2⟩ := info_parts strE_info
  clear hl hlen
  go_enter Tryd.func42, Tryd.ntmps42
  go_wp2_with (first
    | (at_make; refine wpList_make_full _ rfl _ _ 25 rfl w.heap.size 9 i0 (.string ⟨#[]⟩) 1 Tryd.underlying25 hi hz0 hz1 .i64 .i64 _ _ l.length rfl rfl rfl rfl (by rw [hz2]; omega) (by unfold maxLen; omega) (Nat.le_refl _) ?_; intro w1 hown hgrow)
    | fail)
  have HBW := Lib.hid ((Below.refl w.heap.size w).grown hgrow (Nat.le_refl _) (fun j hj => by cases hj))
  have HPT : Hid (PartsAt w1 w.heap.size l.length 0 (l.map pt)) := Lib.hid (by
    obtain ⟨_, ⟨h, _⟩ | ⟨g, cap, cur, h, _, hg, _, _, hcs, _⟩⟩ := hown
    · cases h
    · injection h with h1 _ h3
      injection h1 with h1
      injection h1 with h1 _ _
      subst h1 h3
      exact ⟨cur, hg, by simpa using hcs, fun j x hj => absurd hj (by omega)⟩)
  clear hown hgrow hi hz0 hz1 hz2
  go_loopw [15] (fun i wr => ∃ k : Nat, k ≤ l.length ∧ i = .int .i64 k ∧ Below w.heap.size w wr ∧ Hid (PartsAt wr w.heap.size l.length k (l.map pt))) (fun i _ => l.length - (intOf i).toNat)
  case atStart => exact ⟨0, by omega, rfl, HBW.out, HPT⟩
  case round =>
    obtain ⟨k, hk, rfl, hbr, hpt⟩ := hrel
    by_cases hlt : k < l.length
    · have hlx : l[k]? = some l[k] := List.getElem?_eq_getElem hlt
      generalize hx : l[k] = x at *
      have HBR := Lib.hid hbr
      obtain ⟨b, off, rfl, _, hat⟩ := HA.out.get hlx
      obtain ⟨vk, e0, e1, e2, exk⟩ := (exAt_iff x b _).1 hat
      obtain ⟨A3, c3, rfl, _⟩ := id exk
      have f0 := cell_kept e0 hbr
      have f1 := cell_kept e1 hbr
      have f2 := cell_kept e2 hbr
      have hl3 := cell_lt f0
      have HX := Lib.hid hlx
      have HEK := Lib.hid exk
      clear e0 e1 e2 exk hx hlx hat
      go_wp2_with fail
      have HBX : Hid (Below wr.heap.size wr (wr.alloc (.cells #[.int .u8 x.op, .string x.name, .slice A3 x.kids.length c3] 24))) := Lib.hid ((Below.refl _ _).alloc (Nat.le_refl _) _)
      have HBX2 := Lib.hid (belowNext HBR.out HBX.out)
      refine (IH.out x (List.mem_of_getElem? HX.out) A3 _ c3 _ ((HEK.out.below HBX2.out).more HBX2.out.size)).mono ?_
      rintro e w3 ⟨rfl, hb3⟩
      have HB3 := Lib.hid (belowNext HBX2.out hb3)
      have hzg : w.heap.size < wr.heap.size := by obtain ⟨cur, h, _⟩ := hpt.out; exact (Array.getElem?_eq_some_iff.1 h).1
      have HP3 : Hid (PartsAt w3 w.heap.size l.length k (l.map pt)) := Lib.hid (hpt.out.keep ((hb3.block _ (Nat.lt_of_lt_of_le hzg HBX.out.size)).trans (HBX.out.block _ hzg)))
      have HPN := Lib.hid (HP3.out.next hlt (by rw [List.getElem?_map, HX.out]; rfl))
      obtain ⟨cur, hcur, hcsz, _⟩ := HP3.out
      have q0 : ∃ u, w3.cell? ⟨w.heap.size, k, none⟩ = some u := ⟨cur[k]'(by omega), by simp only [World.cell?, hcur]; rw [Array.getElem?_eq_getElem (by omega)]; rfl⟩
      obtain ⟨u, q0⟩ := q0
      have z0 := frozen_of_row _ w.heap.size k _ _ hcur
      have hz3 := cell_lt q0
      clear hb3 hbr hpt hcur hcsz f0 f1 f2
      generalize pt x = y at *
      go_wp2
      exact ⟨⟨k + 1, by omega, by go_num, below_set HB3.out _ _ (Nat.le_refl _), HPN⟩, by simp [intOf]; omega⟩
    · have HPE := Lib.hid hpt.out
      have hgl : w.heap.size < wr.heap.size := by obtain ⟨cur, h, _⟩ := HPE.out; exact (Array.getElem?_eq_some_iff.1 h).1
      have HBE := Lib.hid hbr
      have hlm : (l.map pt).length = l.length := List.length_map _
      have HCE : Hid (∀ (j : Nat) x, (l.map pt)[j]? = some x → wr.cell? ⟨w.heap.size, j, none⟩ = some (.string x)) := Lib.hid (fun j x hx => by
        obtain ⟨cur, hcur, _, hall⟩ := HPE.out
        simp only [World.cell?, hcur]
        exact hall j x (by have := (List.getElem?_eq_some_iff.1 hx).1; omega) hx)
      have HJ := Lib.hid (joins_any w.heap.size l.length (l.map pt) sep wr hgl (by omega) HCE.out (by omega) HLN.out)
      rw [hlm] at HJ
      clear hpt hbr hlm
      go_wp2_with fail
      refine HJ.out.mono ?_
      rintro e w4 ⟨rfl, hb4⟩
      have HB4 := Lib.hid (belowNext HBE.out hb4)
      clear hb4
      go_wp2
      go_ret
      exact ⟨rfl, HB4.out⟩
end Go.Proofs.YtldmimekmjmkgaaDoor
