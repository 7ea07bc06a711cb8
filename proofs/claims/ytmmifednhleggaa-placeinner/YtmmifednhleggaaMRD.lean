/-
  The document of the statements, its spots, and calls in regions that draw their order.
  The document's Resolve and Pos: what they answer; a spot's position leads back to the spot.
  The document's Pos: what it answers.
  What the document's Same and SameAll answer at nodes that are alike: true.
  PlaceResolves walked.
-/
import Derived.Test.YtmmifednhleggaaPlI
import Derived.Test.YtmmifednhleggaaMRC
import Derived.Test.YtmmifednhleggaaRgC
import Derived.BigQuiet
import Derived.Test.YtmmifednhleggaaW8
import Derived.Lib.QuietBelow
import Derived.Deep.DrawnRows
namespace Go.Proofs.Ytmmifednhleggaa
open Go.RowKit Go.Sort Go.Maps

theorem docB_weigh (l : List Cel) : weigh (docB l) ≤ 800 := by
  have h := madeB_weigh l
  have h1 : DOC.size = 3 := by decide
  have h2 : ByteArray.empty.size = 0 := by decide
  simp only [docB, weigh, weighL, weighP, List.map_nil, List.sum_nil, h1, h2]; omega
theorem docB_plain (l : List Cel) : isTxt (docB l).kind = false := by
  show isTxt DOC = false
  decide +kernel
theorem docB_kids (l : List Cel) : (docB l).kids = madeB l := rfl
abbrev docCells (A : Option Addr) (n c : Nat) : Array Value := #[.string ⟨#[100, 111, 99]⟩, .string ⟨#[]⟩, .slice none 0 0, .slice none 0 0, .slice A n c]
/-- The document in memory. -/
theorem doc_node {w : World} {S : Nat → Prop} {A : Option Addr} {c : Nat} {l : List Cel} (h : Kids w S (.slice A (madeB l).length c) (madeB l)) : Node w S (.agg (docCells A (madeB l).length c)) (docB l) := ⟨_, _, _, rfl, strs_nil, pairs_nil, h⟩
/-- A spot of the document, and where it leads. -/
theorem doc_spot (l : List Cel) {k : Nat} (hk : k ≤ totalB (madeB l)) : ∃ p, ∃ j o : Nat, ∃ u, resolveB (docB l) (k : Int) = some (p, j, o) ∧ SpotOk (docB l) k (p, j, o) u := by
  have hl : k < (spotsB 0 (docB l).kids).length := by rw [spotsB_len, docB_kids]; omega
  have hs : (spotsB 0 (docB l).kids)[k]? = some (spotsB 0 (docB l).kids)[k] := List.getElem?_eq_getElem hl
  obtain ⟨u, hu⟩ := spots_ok (docB l) (docB_plain l) k _ hs
  exact ⟨_, _, _, u, by rw [resolveB_nat (docB_plain l)]; exact hs, hu⟩
theorem path_range : ∀ (p : List Int) (t u : Tree), goB t p = some u → weigh t ≤ 1000000 → ∀ x ∈ p, -9223372036854775808 ≤ x ∧ x ≤ 9223372036854775807
  | [], _, _, _, _, x, hx => by cases hx
  | i :: p, t, u, h, hw, x, hx => by
    rw [goB] at h
    cases hk : kidAt t i with
    | none => rw [hk] at h; cases h
    | some y =>
      rw [hk] at h
      obtain ⟨_, h0, hy⟩ := kidAt_some hk
      have hl := (List.getElem?_eq_some_iff.1 hy).1
      have h1 := length_le_weigh t.kids
      have h2 := kids_weigh t
      rcases List.mem_cons.1 hx with rfl | hx
      · omega
      · exact path_range p y u h (Nat.le_trans (goB_weigh [i] t y (by simp [goB, hk])) hw) x hx
section
variable {w : World} {ops : Array Oper} {o : Oper} {a : Act} {K : Act → World → Prop} {Q : Exit → Act → World → Prop} {E : Prop}
/-- Total, in a region that draws its order. -/
theorem step_total {v : Value} {n : Int} (hgd : o.guard = none) (p : Operand) (ho : o.op = .call { callee := .value (.func 27), args := #[p], argTypes := #[29] })
    (hp : a.eval p = v) (hc : Calls Try.prog 27 #[v] w fun e w' => e = .returned (.int .i64 n) ∧ Below w.heap.size w w') (h : ∀ w', Below w.heap.size w w' → K (a.put o.dst (.int .i64 n)) w') :
    if Region.wanted o (yielded ops a.tmps) = true then Oper.wp Try.prog o a w K Q else E := by
  have hwn : Region.wanted o (yielded ops a.tmps) = true := by simp [Region.wanted, hgd]
  rw [if_pos hwn]
  have hrun : (execOp a.eval o).run Try.prog w = .ok (.enter 27 #[v]) w := by
    have hf : a.eval (.func 27) = .func (.func 27) #[] #[] := rfl
    obtain ⟨c, hc⟩ : ∃ c, Try.f27.body = some c := Option.isSome_iff_exists.1 (by kernel_rfl)
    have hne : ¬ Try.f27.name = "runtime.NumGoroutine" := of_decide_eq_false (by kernel_rfl)
    simp [execOp, ho, resolve, invoke, hp, hf, Deferred.ofValue, callFunc, hne, hc]
  unfold Oper.wp
  rw [hrun, Oper.upon_enter]
  refine hc.mono fun e w'' hh => ?_
  obtain ⟨rfl, h1⟩ := hh
  exact h w'' h1
/-- Resolve, in a region that draws its order. -/
theorem step_resolve {v x : Value} {m : Int} (hgd : o.guard = none) (p q : Operand) (ho : o.op = .call { callee := .value (.func 7), args := #[p, q], argTypes := #[31, 3] })
    (hp : a.eval p = v) (hq : a.eval q = .int .i64 m) (hc : Calls Try.prog 7 #[v, .int .i64 m] w fun e w' => e = .returned x ∧ Below w.heap.size w w') (h : ∀ w', Below w.heap.size w w' → K (a.put o.dst x) w') :
    if Region.wanted o (yielded ops a.tmps) = true then Oper.wp Try.prog o a w K Q else E := by
  have hwn : Region.wanted o (yielded ops a.tmps) = true := by simp [Region.wanted, hgd]
  rw [if_pos hwn]
  have hrun : (execOp a.eval o).run Try.prog w = .ok (.enter 7 #[v, .int .i64 m]) w := by
    have hf : a.eval (.func 7) = .func (.func 7) #[] #[] := rfl
    obtain ⟨c, hc⟩ : ∃ c, Try.f7.body = some c := Option.isSome_iff_exists.1 (by kernel_rfl)
    have hne : ¬ Try.f7.name = "runtime.NumGoroutine" := of_decide_eq_false (by kernel_rfl)
    simp [execOp, ho, resolve, invoke, hp, hq, hf, Deferred.ofValue, callFunc, hne, hc]
  unfold Oper.wp
  rw [hrun, Oper.upon_enter]
  refine hc.mono fun e w'' hh => ?_
  obtain ⟨rfl, h1⟩ := hh
  exact h w'' h1
end
/-- Resolve, where there is no spot. -/
theorem resolve_none {v : Value} {t : Tree} {m : Int} {w : World} (h : Node w (Under w.heap.size) v t) (hw : weigh t ≤ 1000000) (h1 : -9223372036854775808 ≤ m) (h2 : m ≤ 9223372036854775807) (hn : resolveB t m = none) :
    Calls Try.prog 7 #[v, .int .i64 m] w fun e w' => e = .returned (.tuple #[.agg #[.slice none 0 0, .int .i64 0, .int .i64 0], .int .i64 3]) ∧ Below w.heap.size w w' := by
  refine (resolve_any v t m w h hw h1 h2).mono ?_
  rintro e w' ⟨hb, hr⟩
  rw [hn] at hr
  rcases hr with ⟨_, rfl⟩ | ⟨p, j, o, A, c, hr, _⟩
  · exact ⟨rfl, hb⟩
  · cases hr

end Go.Proofs.Ytmmifednhleggaa

namespace Go.Proofs.Ytmmifednhleggaa
open Go.RowKit Go.Sort Go.Maps

theorem rspots_any (t : Tree) : SpSaid t := by
  induction t using Tree.induct_one with
  | h k t m a l ih => exact rspots_of _ fun x hx => ih x hx

theorem spot_here : ∀ (K : List Tree) (i j : Nat) (o : Int), j ≤ K.length → thereAt K[j]? o = true → (spotsB i K)[totalB (K.take j) + o.toNat]? = some ([], i + j, o.toNat) ∧ 0 ≤ o
  | [], i, j, o, hj, h => by
    simp only [List.length_nil, Nat.le_zero] at hj
    subst hj
    simp only [List.getElem?_nil, thereAt, beq_iff_eq] at h
    subst h
    simp [spotsB, totalB]
  | x :: l, i, 0, o, _, h => by
    simp only [List.getElem?_cons_zero, thereAt] at h
    cases hT : isTxt x.kind with
    | true =>
      simp only [hT, if_true, Bool.and_eq_true, decide_eq_true_eq] at h
      have ho : o.toNat < sizeB x := by omega
      refine ⟨?_, h.1⟩
      rw [spotsB, List.take_zero, totalB, Nat.zero_add, List.getElem?_append_left (by rw [spotsT_len]; exact ho), spotsT_text i hT, List.getElem?_map, List.getElem?_range ho]
      rfl
    | false =>
      simp only [hT, Bool.false_eq_true, if_false, beq_iff_eq] at h
      subst h
      refine ⟨?_, Int.le_refl _⟩
      rw [spotsB, spotsT_node i hT]
      rfl
  | x :: l, i, j + 1, o, hj, h => by
    obtain ⟨h1, h2⟩ := spot_here l (i + 1) j o (by simpa using hj) (by simpa using h)
    refine ⟨?_, h2⟩
    rw [spotsB, List.take_succ_cons, totalB, List.getElem?_append_right (by rw [spotsT_len]; omega), spotsT_len, show sizeB x + totalB (l.take j) + o.toNat - sizeB x = totalB (l.take j) + o.toNat by omega, h1, show i + 1 + j = i + (j + 1) by omega]
theorem spot_deep : ∀ (K : List Tree) (b i m : Nat) (x : Tree) (s : Spt), K[i]? = some x → isTxt x.kind = false → (spotsB 0 x.kids)[m]? = some s → (spotsB b K)[totalB (K.take i) + 1 + m]? = some (deeper (b + i) s)
  | [], _, i, _, _, _, h, _, _ => by simp at h
  | y :: l, b, 0, m, x, s, h, hT, hm => by
    simp only [List.getElem?_cons_zero, Option.some.injEq] at h
    subst h
    have hml := (List.getElem?_eq_some_iff.1 hm).1
    rw [spotsB_len] at hml
    rw [spotsB, List.take_zero, totalB, List.getElem?_append_left (by rw [spotsT_len, sizeB_node hT]; omega), spotsT_node b hT, show 0 + 1 + m = m + 1 by omega, List.getElem?_cons_succ, List.getElem?_map, hm]
    rfl
  | y :: l, b, i + 1, m, x, s, h, hT, hm => by
    have h1 := spot_deep l (b + 1) i m x s (by simpa using h) hT hm
    rw [spotsB, List.take_succ_cons, totalB, List.getElem?_append_right (by rw [spotsT_len]; omega), spotsT_len, show sizeB y + totalB (l.take i) + 1 + m - sizeB y = totalB (l.take i) + 1 + m by omega, h1, show b + 1 + i = b + (i + 1) by omega]
/-- What stands at a spot's position is the spot. -/
theorem spot_back : ∀ (p : List Int) (t : Tree) (j o n : Int), isTxt t.kind = false → posB t p j o = some n → ∃ m : Nat, n = (m : Int) ∧ (spotsB 0 t.kids)[m]? = some (p, j.toNat, o.toNat) ∧ 0 ≤ j ∧ 0 ≤ o
  | [], t, j, o, n, hT, h => by
    have hf : followB t [] = some t := followB_of rfl hT
    cases ht : thereB t.kids j o with
    | false => rw [posB_not hf ht] at h; cases h
    | true =>
      rw [posB_some hf ht] at h
      injection h with h
      subst h
      obtain ⟨h1, h2, h3, _⟩ := thereB_true ht
      have h4 : thereAt t.kids[j.toNat]? o = true := by
        unfold thereB at ht
        simp only [Bool.and_eq_true] at ht
        exact ht.2
      obtain ⟨h5, h6⟩ := spot_here t.kids 0 j.toNat o (by omega) h4
      refine ⟨totalB (t.kids.take j.toNat) + o.toNat, by simp only [startB]; omega, by rw [h5, Nat.zero_add], h1, h3⟩
  | i :: p, t, j, o, n, hT, h => by
    cases hk : kidAt t i with
    | none =>
      have hf : followB t (i :: p) = none := by unfold followB; rw [goB, hk]; rfl
      rw [posB_none hf] at h; cases h
    | some x =>
      obtain ⟨_, hi, hx⟩ := kidAt_some hk
      cases hf : followB t (i :: p) with
      | none => rw [posB_none hf] at h; cases h
      | some u =>
        have hf' : followB x p = some u := by
          have := hf
          unfold followB at this ⊢
          rw [goB, hk] at this
          exact this
        cases ht : thereB u.kids j o with
        | false => rw [posB_not hf ht] at h; cases h
        | true =>
          rw [posB_some hf ht] at h
          injection h with h
          have hxp : isTxt x.kind = false := by
            cases p with
            | nil => have := followB_some hf'; rw [goB] at this; have h1 := this.1; injection h1 with h1; rw [h1]; exact this.2
            | cons i' p' =>
              have := (followB_some hf').1
              rw [goB] at this
              cases hk' : kidAt x i' with
              | none => rw [hk'] at this; cases this
              | some y => exact (kidAt_some hk').1
          obtain ⟨m, hm, hs, h1, h2⟩ := spot_back p x j o _ hxp (posB_some hf' ht)
          have hd := spot_deep t.kids 0 i.toNat m x _ hx hxp hs
          refine ⟨totalB (t.kids.take i.toNat) + 1 + m, ?_, ?_, h1, h2⟩
          · rw [← h]; simp only [startB, hx]; omega
          · rw [hd]; simp [deeper]; omega

theorem node_box {w : World} {A1 A2 A3 : Option Addr} {n1 c1 n2 c2 c3 : Nat} {t : Tree} (h : Node w (Under w.heap.size) (.agg #[.string t.kind, .string t.text, .slice A1 n1 c1, .slice A2 n2 c2, .slice A3 t.kids.length c3]) t) :
    ∀ W, Below w.heap.size w W → Node W (Under W.heap.size) (.agg #[.string t.kind, .string t.text, .slice A1 n1 c1, .slice A2 n2 c2, .slice A3 t.kids.length c3]) t := fun _ hW => (h.below hW).more hW.size
theorem ints_none {w : World} {S : Nat → Prop} : Ints w S (.slice none 0 0) [] := ⟨none, 0, rfl, Nat.le_refl _, by unfold maxLen; omega, .inl rfl⟩
theorem pre_nil (l : List Spt) : l.map (pre []) = l := by
  have : pre [] = id := by funext s; simp [pre]
  rw [this, List.map_id]

/-- What the document's Resolve answers. -/
def RResPost (w : World) (want : Option Spt) (e : Ending) (w' : World) : Prop :=
  Below w.heap.size w w' ∧ ((want = none ∧ e = .returned (.tuple #[.agg #[.slice none 0 0, .int .i64 0, .int .i64 0], .int .i64 3])) ∨
    ∃ p j o A c, want = some (p, j, o) ∧ e = .returned (.tuple #[.agg #[.slice A p.length c, .int .i64 (j : Nat), .int .i64 (o : Nat)], .int .i64 0]) ∧ Ints w' (IB w') (.slice A p.length c) p)

set_option maxHeartbeats 8000000 in
set_option maxRecDepth 100000 in
theorem rresolve_any (v : Value) (t : Tree) (pos : Int) (w : World) (h : Node w (Under w.heap.size) v t) (hw : weigh t ≤ 1000000) (h1 : -9223372036854775808 ≤ pos) (h2 : pos ≤ 9223372036854775807) :
    Calls Try.prog 8 #[v, .int .i64 pos] w (RResPost w (resolveB t pos)) := by
  have HN := Lib.hid h
  obtain ⟨A1, n1, c1, A2, n2, c2, A3, c3, rfl⟩ := h.forms
  clear h
  go_enter Try.func8, Try.ntmps8
  generalize hW1 : (w.alloc (.cells #[.string t.kind, .string t.text, .slice A1 n1 c1, .slice A2 n2 c2, .slice A3 t.kids.length c3] 31)).alloc (.cells #[.slice none 0 0, .int .i64 0, .int .i64 0] 36) = W1
  have HB0 : Hid (Below w.heap.size w W1) := Lib.hid (by subst hW1; exact ((Below.refl _ _).alloc (Nat.le_refl _) _).alloc (by simp) _)
  have HC1 : Hid (W1.heap[w.heap.size]? = some (.cells #[.string t.kind, .string t.text, .slice A1 n1 c1, .slice A2 n2 c2, .slice A3 t.kids.length c3] 31) ∧ W1.heap[w.heap.size + 1]? = some (.cells #[.slice none 0 0, .int .i64 0, .int .i64 0] 36) ∧ W1.heap.size = w.heap.size + 2) := Lib.hid (by
    subst hW1; exact ⟨heap_old _ _ _ (heap_new _ _), heap_new' _ _ (by simp), by simp⟩)
  have HW1 := Lib.hid hW1
  clear hW1
  cases hT : isTxt t.kind with
  | true =>
    have HE : Hid (resolveB t pos = none) := Lib.hid (by unfold resolveB; simp [hT])
    have hkk : (t.kind.toList == [116, 101, 120, 116]) = true := hT
    clear hT
    go_upto_region 2 with fail
    rw [HW1.out]
    have hs2 := HC1.out.2.1
    have f0 := frozen_of_row _ _ 0 _ _ hs2
    have f1 := frozen_of_row _ _ 1 _ _ hs2
    have f2 := frozen_of_row _ _ 2 _ _ hs2
    obtain ⟨y0, y1, y2⟩ := cells3 hs2
    go_wp2
    obtain ⟨q0, q1, q2⟩ := cells3 (put3z_block (v0 := .slice none 0 0) (v1 := .int .i64 0) (v2 := .int .i64 0) HC1.out.2.1)
    have HBE := Lib.hid (put3z_below (v0 := .slice none 0 0) (v1 := .int .i64 0) (v2 := .int .i64 0) (Nat.le_succ w.heap.size) HB0.out)
    unfold put3z at q0 q1 q2
    refine bodyPost_ret (v := .tuple #[.agg #[.slice none 0 0, .int .i64 0, .int .i64 0], .int .i64 3]) (by simp [results, Try.results8, go_sem, q0, q1, q2]) rfl ?_
    exact ⟨HBE.out, .inl ⟨HE.out, rfl⟩⟩
  | false =>
    have hkk : (t.kind.toList == [116, 101, 120, 116]) = false := hT
    have HT := Lib.hid hT
    clear hT
    go_wp2_with fail
    rw [HW1.out]
    refine (rspots_any t _ _ [] W1 (node_box HN.out W1 HB0.out) ints_none (by simp only [List.length_nil]; omega)).mono ?_
    rintro e w2 ⟨v6, rfl, hs, hb2⟩
    rw [pre_nil] at hs
    have hz1 := HC1.out.2.2
    have hs2 := (hb2.block (w.heap.size + 1) (by omega)).trans HC1.out.2.1
    have HB2 := Lib.hid (belowNext HB0.out hb2)
    have hlen := spotsB_len 0 t.kids
    have htl := total_le_weigh t.kids
    have hkw := kids_weigh t
    have HS := Lib.hid hs
    obtain ⟨A6, c6, rfl, hc6⟩ := hs.form
    have f0 := frozen_of_row _ _ 0 _ _ hs2
    have f1 := frozen_of_row _ _ 1 _ _ hs2
    have f2 := frozen_of_row _ _ 2 _ _ hs2
    obtain ⟨y0, y1, y2⟩ := cells3 hs2
    have HS2 := Lib.hid hs2
    have HRS : Hid (∀ n : Nat, resolveB t (n : Int) = (spotsB 0 t.kids)[n]?) := Lib.hid fun n => resolveB_nat HT.out
    clear hb2 hs hs2 hz1 HC1 HW1
    by_cases h0 : pos < 0
    · have HE : Hid (resolveB t pos = none) := Lib.hid (by unfold resolveB; simp [h0])
      generalize spotsB 0 t.kids = L at *
      go_wp2
      obtain ⟨q0, q1, q2⟩ := cells3 (put3z_block (v0 := .slice none 0 0) (v1 := .int .i64 0) (v2 := .int .i64 0) HS2.out)
      have HBE := Lib.hid (put3z_below (v0 := .slice none 0 0) (v1 := .int .i64 0) (v2 := .int .i64 0) (Nat.le_succ w.heap.size) HB2.out)
      unfold put3z at q0 q1 q2
      refine bodyPost_ret (v := .tuple #[.agg #[.slice none 0 0, .int .i64 0, .int .i64 0], .int .i64 3]) (by simp [results, Try.results8, go_sem, q0, q1, q2]) rfl ?_
      exact ⟨HBE.out, .inl ⟨HE.out, rfl⟩⟩
    · obtain ⟨n, rfl⟩ : ∃ n : Nat, pos = (n : Int) := ⟨pos.toNat, by omega⟩
      have HRN := Lib.hid (HRS.out n)
      clear HRS
      generalize spotsB 0 t.kids = L at *
      by_cases hn : n < L.length
      · have hx : L[n]? = some L[n] := List.getElem?_eq_getElem hn
        have hn' : ¬ (L.length : Int) ≤ (n : Int) := by omega
        generalize L[n] = s at *
        obtain ⟨p, j, o⟩ := s
        have HX := Lib.hid hx
        obtain ⟨b, q, vp, rfl, z0, z1, z2, hi⟩ := HS.out.src.get hx
        obtain ⟨Ap, cp, rfl, hcp⟩ := hi.form
        have HI := Lib.hid hi
        have HCS := Lib.hid (cell_lt z0)
        clear hi hx
        go_wp2
        obtain ⟨q0, q1, q2⟩ := cells3 (put3z_block (v0 := .slice Ap p.length cp) (v1 := .int .i64 (j : Int)) (v2 := .int .i64 (o : Int)) HS2.out)
        have HBE := Lib.hid (put3z_below (v0 := .slice Ap p.length cp) (v1 := .int .i64 (j : Int)) (v2 := .int .i64 (o : Int)) (Nat.le_succ w.heap.size) HB2.out)
        have HIE := Lib.hid (ints_ib (w' := put3z w2 (w.heap.size + 1) (.slice Ap p.length cp) (.int .i64 (j : Int)) (.int .i64 (o : Int))) HI.out (fun b cs hb => (put3z_other (fun e => by subst e; have := hb.symm.trans HS2.out; injection this with this; injection this with _ this; exact absurd this (by decide))).trans hb))
        unfold put3z at q0 q1 q2 HIE
        refine bodyPost_ret (v := .tuple #[.agg #[.slice Ap p.length cp, .int .i64 (j : Int), .int .i64 (o : Int)], .int .i64 0]) (by simp [results, Try.results8, go_sem, q0, q1, q2]) rfl ?_
        exact ⟨HBE.out, .inr ⟨p, j, o, Ap, cp, HRN.out.trans HX.out, rfl, HIE.out⟩⟩
      · have hn' : (L.length : Int) ≤ (n : Int) := by omega
        have HX : Hid (L[n]? = none) := Lib.hid (List.getElem?_eq_none (by omega))
        go_wp2
        obtain ⟨q0, q1, q2⟩ := cells3 (put3z_block (v0 := .slice none 0 0) (v1 := .int .i64 0) (v2 := .int .i64 0) HS2.out)
        have HBE := Lib.hid (put3z_below (v0 := .slice none 0 0) (v1 := .int .i64 0) (v2 := .int .i64 0) (Nat.le_succ w.heap.size) HB2.out)
        unfold put3z at q0 q1 q2
        refine bodyPost_ret (v := .tuple #[.agg #[.slice none 0 0, .int .i64 0, .int .i64 0], .int .i64 3]) (by simp [results, Try.results8, go_sem, q0, q1, q2]) rfl ?_
        exact ⟨HBE.out, .inl ⟨HRN.out.trans HX.out, rfl⟩⟩
end Go.Proofs.Ytmmifednhleggaa

namespace Go.Proofs.Ytmmifednhleggaa
open Go.RowKit Go.Sort Go.Maps

theorem pos_none {t : Tree} {p : List Int} {j o : Int} (hT : isTxt t.kind = false) (h : ∀ (k : Nat) (s : Spt), (spotsB 0 t.kids)[k]? = some s → (decide (s.1 = p) && (((s.2.1 : Int) == j) && ((s.2.2 : Int) == o))) = false) : posB t p j o = none := by
  cases hq : posB t p j o with
  | none => rfl
  | some n =>
    obtain ⟨m, _, hm, hj, ho⟩ := spot_back p t j o n hT hq
    have := h m _ hm
    have h1 : (((j.toNat : Nat) : Int) == j) = true := by rw [beq_iff_eq]; omega
    have h2 : (((o.toNat : Nat) : Int) == o) = true := by rw [beq_iff_eq]; omega
    simp only [h1, h2] at this
    simp at this
theorem pos_some {t : Tree} {p : List Int} {j o : Int} {k : Nat} {s : Spt} (hT : isTxt t.kind = false) (hs : (spotsB 0 t.kids)[k]? = some s) (h : (decide (s.1 = p) && (((s.2.1 : Int) == j) && ((s.2.2 : Int) == o))) = true) : posB t p j o = some (k : Int) := by
  obtain ⟨u, hu⟩ := spots_ok t hT k s hs
  simp only [Bool.and_eq_true, decide_eq_true_eq, beq_iff_eq] at h
  obtain ⟨h1, h2, h3⟩ := h
  have := hu.back
  rw [h1, h2, h3] at this
  exact this

set_option maxHeartbeats 8000000 in
set_option maxRecDepth 100000 in
theorem rpos_any (v vp : Value) (t : Tree) (p : List Int) (j o : Int) (w : World) (h : Node w (Under w.heap.size) v t) (hp : Ints w (Under w.heap.size) vp p) (hw : weigh t ≤ 1000000) :
    Calls Try.prog 10 #[v, .agg #[vp, .int .i64 j, .int .i64 o]] w fun e w' => e = posE (posB t p j o) ∧ Below w.heap.size w w' := by
  have HN := Lib.hid h
  have HP := Lib.hid hp
  obtain ⟨A1, n1, c1, A2, n2, c2, A3, c3, rfl⟩ := h.forms
  obtain ⟨Ap, cp, rfl, hpc⟩ := hp.form
  clear h hp
  go_enter Try.func10, Try.ntmps10
  generalize hW1 : (w.alloc (.cells #[.string t.kind, .string t.text, .slice A1 n1 c1, .slice A2 n2 c2, .slice A3 t.kids.length c3] 31)).alloc (.cells #[.slice Ap p.length cp, .int .i64 j, .int .i64 o] 36) = W1
  have HB0 : Hid (Below w.heap.size w W1) := Lib.hid (by subst hW1; exact ((Below.refl _ _).alloc (Nat.le_refl _) _).alloc (by simp) _)
  have HC1 : Hid (W1.heap[w.heap.size + 1]? = some (.cells #[.slice Ap p.length cp, .int .i64 j, .int .i64 o] 36) ∧ W1.heap.size = w.heap.size + 2) := Lib.hid (by
    subst hW1; exact ⟨heap_new' _ _ (by simp), by simp⟩)
  have HW1 := Lib.hid hW1
  clear hW1
  cases hT : isTxt t.kind with
  | true =>
    have HE : Hid (posB t p j o = none) := Lib.hid (posB_none (by
      unfold followB
      cases p with
      | nil => simp [goB, plainO, hT]
      | cons i p => rw [goB]; simp [kidAt, hT]))
    have hkk : (t.kind.toList == [116, 101, 120, 116]) = true := hT
    clear hT
    go_upto_region 2 with fail
    rw [HW1.out]
    go_wp2
    refine bodyPost_ret (v := .tuple #[.int .i64 0, .int .i64 9]) (by simp [results, Try.results10, go_sem]) rfl ?_
    exact ⟨by rw [HE.out]; rfl, HB0.out⟩
  | false =>
    have hkk : (t.kind.toList == [116, 101, 120, 116]) = false := hT
    have HPN := Lib.hid (fun h => pos_none (t := t) (p := p) (j := j) (o := o) hT h)
    have HPS := Lib.hid (fun k s hs h => pos_some (t := t) (p := p) (j := j) (o := o) (k := k) (s := s) hT hs h)
    clear hT
    go_wp2_with fail
    rw [HW1.out]
    refine (rspots_any t _ _ [] W1 (node_box HN.out W1 HB0.out) ints_none (by simp only [List.length_nil]; omega)).mono ?_
    rintro e w2 ⟨v6, rfl, hs, hb2⟩
    rw [pre_nil] at hs
    have hz1 := HC1.out.2
    have hs2 := (hb2.block (w.heap.size + 1) (by omega)).trans HC1.out.1
    have HB2 := Lib.hid (belowNext HB0.out hb2)
    have HZ2 : Hid (w.heap.size + 2 ≤ w2.heap.size) := Lib.hid (by have := hb2.size; omega)
    have hlen := spotsB_len 0 t.kids
    have htl := total_le_weigh t.kids
    have hkw := kids_weigh t
    have HS := Lib.hid hs
    obtain ⟨A6, c6, rfl, hc6⟩ := hs.form
    have HS2 := Lib.hid hs2
    clear hb2 hs hs2 hz1 HC1 HW1
    have hLN : (spotsB 0 t.kids).length ≤ 1000001 := by omega
    clear hlen
    generalize spotsB 0 t.kids = L at *
    go_wp2
    go_loopg [7] L.length (fun gh s7 wx => ∃ k : Nat, k + gh = L.length ∧ s7 = .int .i64 (k : Int) ∧ Hid (Below w2.heap.size w2 wx) ∧ Hid (∀ (i : Nat) (s : Spt), i < k → L[i]? = some s → (decide (s.1 = p) && (((s.2.1 : Int) == j) && ((s.2.2 : Int) == o))) = false))
    case atStart => exact ⟨0, by omega, rfl, Lib.hid (Below.refl _ _), Lib.hid fun i s hi _ => absurd hi (by omega)⟩
    case round =>
      obtain ⟨k, hkg, rfl, hb, hall⟩ := hrel
      by_cases hk : k < L.length
      · have hx : L[k]? = some L[k] := List.getElem?_eq_getElem hk
        generalize L[k] = s at *
        obtain ⟨b, q, vp, rfl, z0, z1, z2, hi⟩ := HS.out.src.get hx
        obtain ⟨Aq, cq, rfl, hcq⟩ := hi.form
        have y0 := cell_kept z0 hb.out
        have y1 := cell_kept z1 hb.out
        have y2 := cell_kept z2 hb.out
        have hbz := hb.out.size
        have HZ2' := HZ2.out
        obtain ⟨x0, x1, x2⟩ := cells3 ((hb.out.block (w.heap.size + 1) (by omega)).trans HS2.out)
        have HIS : Hid (∀ W, Below w2.heap.size w2 W → Ints W (Under W.heap.size) (.slice Aq s.1.length cq) s.1) := Lib.hid fun W hW => (ints_ib hi (ib_below (Nat.le_refl _) hW)).keep (fun b ⟨cs, hc⟩ => heap_lt' hc) (fun _ _ => rfl)
        have HIP : Hid (∀ W, Below w2.heap.size w2 W → Ints W (Under W.heap.size) (.slice Ap p.length cp) p) := Lib.hid fun W hW => HP.out.keep (fun b hb => Nat.lt_of_lt_of_le hb (Nat.le_trans HB2.out.size hW.size)) (fun b hb => (hW.block b (Nat.lt_of_lt_of_le hb HB2.out.size)).trans (HB2.out.block b hb))
        have HX := Lib.hid hx
        clear z0 z1 z2 hi hx
        have HSM : Hid (∀ W, Below w2.heap.size w2 W → Calls Try.prog 12 #[.agg #[.slice Aq s.1.length cq, .int .i64 (s.2.1 : Int), .int .i64 (s.2.2 : Int)], .agg #[.slice Ap p.length cp, .int .i64 j, .int .i64 o]] W fun e w' => e = .returned (.bool (decide (s.1 = p) && (((s.2.1 : Int) == j) && ((s.2.2 : Int) == o)))) ∧ Below W.heap.size W w') :=
          Lib.hid fun W hW => sameS_any _ _ s.1 p s.2.1 s.2.2 j o W (HIS.out W hW) (HIP.out W hW)
        have HSP := Lib.hid (HPS.out k s HX.out)
        generalize hres : (decide (s.1 = p) && (((s.2.1 : Int) == j) && ((s.2.2 : Int) == o))) = res at *
        have HRES := Lib.hid hres
        clear hres
        go_wp2_with fail
        obtain ⟨W, rfl⟩ : ∃ W : World, W = wr := ⟨_, rfl⟩
        have HBD : Hid (Below w2.heap.size w2 W.drew) := Lib.hid hb.out.drew
        go_region_with (first
          | (go_at_call 12; refine (HSM.out _ HBD.out).mono ?_; rintro e w4 ⟨rfl, hb4⟩; have HB4 := Lib.hid (belowNext HBD.out hb4); clear hb4))
        all_goals
          cases res with
          | true =>
            go_wp2
            refine bodyPost_ret (v := .tuple #[.int .i64 (k : Int), .int .i64 0]) (by simp [results, Try.results10, go_sem]) rfl ?_
            exact ⟨by rw [show posB t p j o = some (k : Int) from HSP.out (by trivial)]; rfl, HB2.out.trans (HB4.out.mono HB2.out.size)⟩
          | false =>
            go_wp2
            go_roundg (L.length - (k + 1))
            case measure => omega
            case rel => exact ⟨k + 1, by omega, by go_num, HB4, Lib.hid fun i s' hi hs' => by
              rcases Nat.lt_or_ge i k with h | h
              · exact hall.out i s' h hs'
              · obtain rfl : i = k := by omega
                rw [HX.out] at hs'; injection hs' with hs'; subst hs'; exact HRES.out⟩
      · have HE : Hid (posB t p j o = none) := Lib.hid (HPN.out fun i s hs => hall.out i s (by have := (List.getElem?_eq_some_iff.1 hs).1; omega) hs)
        go_wp2
        refine bodyPost_ret (v := .tuple #[.int .i64 0, .int .i64 9]) (by simp [results, Try.results10, go_sem]) rfl ?_
        exact ⟨by rw [HE.out]; rfl, HB2.out.trans (hb.out.mono HB2.out.size)⟩
end Go.Proofs.Ytmmifednhleggaa

namespace Go.Proofs.Ytmmifednhleggaa
open Go.RowKit Go.Sort

theorem sameL_refl (l : List ByteArray) : sameL l l = true := by
  simp [sameL]

def SameSaid (n : Nat) : Prop := ∀ (l : List Tree) (va vb : Value) (w : World), weighAll l ≤ n → weighAll l ≤ 1000000 → Kids w (Under w.heap.size) va l → Kids w (Under w.heap.size) vb l →
    Calls Try.prog 32 #[va, vb] w fun e w' => e = .returned (.bool true) ∧ Below w.heap.size w w'

set_option maxHeartbeats 2000000 in
theorem same_of (n : Nat) (IH : Hid (SameSaid n)) (t : Tree) (va vb : Value) (w : World) (hn : weighAll t.kids ≤ n) (hw : weigh t ≤ 1000000) (ha : Node w (Under w.heap.size) va t) (hb : Node w (Under w.heap.size) vb t) :
    Calls Try.prog 19 #[va, vb] w fun e w' => e = .returned (.bool true) ∧ Below w.heap.size w w' := by
  obtain ⟨am, aa, ak, rfl, ham, haa, hak⟩ := ha
  obtain ⟨bm, ba, bk, rfl, hbm, hba, hbk⟩ := hb
  obtain ⟨A1, c1, rfl, _⟩ := ham.form
  obtain ⟨A2, c2, rfl, _⟩ := haa.form
  obtain ⟨A3, c3, rfl, _⟩ := hak.form
  obtain ⟨B1, e1, rfl, _⟩ := hbm.form
  obtain ⟨B2, e2, rfl, _⟩ := hba.form
  obtain ⟨B3, e3, rfl, _⟩ := hbk.form
  have HM := Lib.hid (And.intro ham hbm)
  have HA := Lib.hid (And.intro haa hba)
  have HK := Lib.hid (And.intro hak hbk)
  clear ham haa hak hbm hba hbk
  generalize hW2 : (w.alloc (.cells #[.string t.kind, .string t.text, .slice A1 t.marks.length c1, .slice A2 t.attrs.length c2, .slice A3 t.kids.length c3] 31)).alloc (.cells #[.string t.kind, .string t.text, .slice B1 t.marks.length e1, .slice B2 t.attrs.length e2, .slice B3 t.kids.length e3] 31) = W2
  obtain ⟨z0, z1, z2, z3, z4, hz, hzz⟩ := box5 (w := w) (T := 31) (v0 := .string t.kind) (v1 := .string t.text) (v2 := .slice A1 t.marks.length c1) (v3 := .slice A2 t.attrs.length c2) (v4 := .slice A3 t.kids.length c3) (Below.refl _ _)
  obtain ⟨y0, y1, y2, y3, y4, hy, hyy⟩ := box5 (w := w.alloc (.cells #[.string t.kind, .string t.text, .slice A1 t.marks.length c1, .slice A2 t.attrs.length c2, .slice A3 t.kids.length c3] 31)) (T := 31) (v0 := .string t.kind) (v1 := .string t.text) (v2 := .slice B1 t.marks.length e1) (v3 := .slice B2 t.attrs.length e2) (v4 := .slice B3 t.kids.length e3) (Below.refl _ _)
  rw [hW2] at y0 y1 y2 y3 y4 hy hyy
  rw [show (w.alloc (.cells #[.string t.kind, .string t.text, .slice A1 t.marks.length c1, .slice A2 t.attrs.length c2, .slice A3 t.kids.length c3] 31)).heap.size = w.heap.size + 1 by simp] at y0 y1 y2 y3 y4 hyy
  replace z0 := cell_kept z0 hy
  replace z1 := cell_kept z1 hy
  replace z2 := cell_kept z2 hy
  replace z3 := cell_kept z3 hy
  replace z4 := cell_kept z4 hy
  have HB2 := Lib.hid (belowNext hz hy)
  have HC := Lib.hid (And.intro (And.intro z0 (And.intro z1 (And.intro z2 (And.intro z3 z4)))) (And.intro y0 (And.intro y1 (And.intro y2 (And.intro y3 y4)))))
  have HW2 := Lib.hid hW2
  clear hW2 z0 z1 z2 z3 z4 y0 y1 y2 y3 y4 hz hzz hy hyy
  have hwm : weighL t.marks + weighP t.attrs + weighAll t.kids ≤ weigh t := by obtain ⟨k, t, m, a, l⟩ := t; simp only [weigh, Tree.marks, Tree.attrs, Tree.kids]; omega
  have hal := length_le_weighP t.attrs
  go_enter Try.func19, Try.ntmps19
  go_wp2_with fail
  rw [HW2.out]
  refine (sameNames_any _ _ t.marks t.marks _ _ W2 (HM.out.1.below HB2.out) (HM.out.2.below HB2.out) (by omega)).mono ?_
  rintro e w1 ⟨rfl, n1, hn1⟩
  rw [sameL_refl]
  have hb1 : Below W2.heap.size W2 w1 := by subst hn1; exact ⟨rfl, rfl, rfl, Nat.le_refl _, fun _ _ => rfl⟩
  clear hn1
  obtain ⟨⟨z0, z1, z2, z3, z4⟩, y0, y1, y2, y3, y4⟩ := HC.out
  replace z0 := cell_kept z0 hb1
  replace z1 := cell_kept z1 hb1
  replace z2 := cell_kept z2 hb1
  replace z3 := cell_kept z3 hb1
  replace z4 := cell_kept z4 hb1
  replace y0 := cell_kept y0 hb1
  replace y1 := cell_kept y1 hb1
  replace y2 := cell_kept y2 hb1
  replace y3 := cell_kept y3 hb1
  replace y4 := cell_kept y4 hb1
  have hB1 := belowNext HB2.out hb1
  have hl1 := cell_lt z0
  have hl2 := cell_lt y0
  clear hb1
  go_wp2
  have HC1 := Lib.hid (And.intro z3 (And.intro z4 (And.intro y3 y4)))
  clear z0 z1 z2 z3 z4 y0 y1 y2 y3 y4
  go_loopw [5] (fun i wr => ∃ k n : Nat, k ≤ t.attrs.length ∧ i = .int .i64 k ∧ wr = w1.drewN n) (fun i _ => t.attrs.length - (intOf i).toNat)
  case atStart => exact ⟨0, 0, by omega, rfl, rfl⟩
  case round =>
    obtain ⟨i, n2, hi, rfl, rfl⟩ := hrel
    obtain ⟨z3, z4, y3, y4⟩ := HC1.out
    by_cases hlt : i < t.attrs.length
    · obtain ⟨b, o, rfl, hub, hcell⟩ := HA.out.1.get hlt
      obtain ⟨b', o', rfl, hub', hcell'⟩ := HA.out.2.get hlt
      have f0 := cell_kept (hcell i hlt).1 hB1
      have f1 := cell_kept (hcell i hlt).2 hB1
      have f2 := cell_kept (hcell' i hlt).1 hB1
      have f3 := cell_kept (hcell' i hlt).2 hB1
      have g1 := cell_lt f0
      have g2 := cell_lt f2
      generalize (pairAt t.attrs i) = pr at *
      clear hcell hcell' z4 y4
      go_wp2
      go_quiet (fail)
      go_wp2
      exact ⟨⟨i + 1, _, by omega, by go_num, rfl⟩, by simp [intOf]; omega⟩
    · go_wp2_with fail
      have HBD : Hid (Below w1.heap.size w1 (w1.drewN n2)) := Lib.hid ⟨rfl, rfl, rfl, Nat.le_refl _, fun _ _ => rfl⟩
      have hB2 := belowNext hB1 HBD.out
      refine (IH.out t.kids _ _ _ hn (by omega) ((HK.out.1.below hB2).more hB2.size) ((HK.out.2.below hB2).more hB2.size)).mono ?_
      rintro e w3 ⟨rfl, hb3⟩
      have hB3 := belowNext hB2 hb3
      clear z3 z4 y3 y4
      go_wp2
      go_ret
      exact ⟨rfl, hB3⟩

set_option maxHeartbeats 2000000 in
theorem sameAll_all : ∀ n, SameSaid n := by
  intro n
  induction n using Nat.strongRecOn with
  | ind n ih =>
    have IH := Lib.hid ih
    clear ih
    intro l va vb w hn hw ha hb
    have hlen : l.length ≤ 1000000 := by have := length_le_weigh l; omega
    have HA := Lib.hid ha
    have HB := Lib.hid hb
    obtain ⟨A, c, rfl, _⟩ := ha.form
    obtain ⟨B, d, rfl, _⟩ := hb.form
    clear ha hb
    go_enter Try.func32, Try.ntmps32
    go_wp2
    go_loopw [5] (fun i wr => ∃ k : Nat, k ≤ l.length ∧ i = .int .i64 k ∧ Below w.heap.size w wr) (fun i _ => l.length - (intOf i).toNat)
    case atStart => exact ⟨0, by omega, rfl, Below.refl _ _⟩
    case round =>
      obtain ⟨i, hi, rfl, hbr⟩ := hrel
      by_cases hlt : i < l.length
      · obtain ⟨b, o, rfl, hub, hrow⟩ := HA.out.get hlt
        obtain ⟨b', o', rfl, hub', hrow'⟩ := HB.out.get hlt
        have hlx : l[i]? = some l[i] := List.getElem?_eq_getElem hlt
        generalize hx : l[i] = x at *
        have hwx := weigh_mem (List.mem_of_getElem? hlx)
        have hkx := kids_weigh x
        obtain ⟨xm, xa, xk, e0, e1, e2, e3, e4, exm, exa, exk⟩ := hrow.node hlx
        obtain ⟨ym, ya, yk, d0, d1, d2, d3, d4, dxm, dxa, dxk⟩ := hrow'.node hlx
        have HXN : Hid (Node w (Under w.heap.size) (.agg #[.string x.kind, .string x.text, xm, xa, xk]) x) := Lib.hid ⟨_, _, _, rfl, exm, exa, exk⟩
        have HYN : Hid (Node w (Under w.heap.size) (.agg #[.string x.kind, .string x.text, ym, ya, yk]) x) := Lib.hid ⟨_, _, _, rfl, dxm, dxa, dxk⟩
        obtain ⟨A1, c1, rfl, _⟩ := exm.form
        obtain ⟨A2, c2, rfl, _⟩ := exa.form
        obtain ⟨A3, c3, rfl, _⟩ := exk.form
        obtain ⟨A4, c4, rfl, _⟩ := dxm.form
        obtain ⟨A5, c5, rfl, _⟩ := dxa.form
        obtain ⟨A6, c6, rfl, _⟩ := dxk.form
        have f0 := cell_kept e0 hbr
        have f1 := cell_kept e1 hbr
        have f2 := cell_kept e2 hbr
        have f3 := cell_kept e3 hbr
        have f4 := cell_kept e4 hbr
        have g0 := cell_kept d0 hbr
        have g1 := cell_kept d1 hbr
        have g2 := cell_kept d2 hbr
        have g3 := cell_kept d3 hbr
        have g4 := cell_kept d4 hbr
        have h1 := cell_lt f0
        have h2 := cell_lt g0
        clear e0 e1 e2 e3 e4 d0 d1 d2 d3 d4 exm exa exk dxm dxa dxk hx hlx hrow hrow'
        have HIH := Lib.hid (IH.out (weighAll x.kids) (by omega))
        have HS := Lib.hid (regrown_any (w := wr) fun W hW => same_of (weighAll x.kids) HIH x _ _ W (Nat.le_refl _) (by omega) ((HXN.out.below (hbr.trans (hW.mono hbr.size))).more (Nat.le_trans hbr.size hW.size)) ((HYN.out.below (hbr.trans (hW.mono hbr.size))).more (Nat.le_trans hbr.size hW.size)))
        have k0 := cell_regrown f0
        have k1 := cell_regrown f1
        have k2 := cell_regrown f2
        have k3 := cell_regrown f3
        have k4 := cell_regrown f4
        have m0 := cell_regrown g0
        have m1 := cell_regrown g1
        have m2 := cell_regrown g2
        have m3 := cell_regrown g3
        have m4 := cell_regrown g4
        go_wp2_with fail
        clear f0 f1 f2 f3 f4 g0 g1 g2 g3 g4
        refine wp_region_quiet_below (by kernel_rfl) (by kernel_rfl) ?_
        repeat (first | go_big_quiet_step (exact HS.out _ _) | quiet_step (exact HS.out _ _))
        refine wpQuiet_nil ?_
        intro _ hw'
        obtain ⟨⟨dq, osq⟩, hw''⟩ := hw'
        subst hw''
        have HQ := Lib.hid (below_regrown wr dq osq)
        clear k0 k1 k2 k3 k4 m0 m1 m2 m3 m4
        go_wp2
        exact ⟨⟨i + 1, by omega, by go_num, belowNext hbr HQ.out⟩, by simp [intOf]; omega⟩
      · go_wp2
        go_ret
        exact ⟨rfl, hbr⟩

theorem sameAll_any (va vb : Value) (l : List Tree) (w : World) (ha : Kids w (Under w.heap.size) va l) (hb : Kids w (Under w.heap.size) vb l) (hw : weighAll l ≤ 1000000) :
    Calls Try.prog 32 #[va, vb] w fun e w' => e = .returned (.bool true) ∧ Below w.heap.size w w' :=
  sameAll_all (weighAll l) l va vb w (Nat.le_refl _) hw ha hb
end Go.Proofs.Ytmmifednhleggaa

namespace Go.Proofs.Ytmmifednhleggaa
open Go.RowKit Go.Sort Go.Maps

def resv : Option Spt → List Int × Nat × Nat × Int
  | none => ([], 0, 0, 3)
  | some (p, j, o) => (p, j, o, 0)
def posv : Option Int → Int × Int
  | none => (0, 9)
  | some n => (n, 0)
theorem posE_v (x : Option Int) : posE x = .returned (.tuple #[.int .i64 (posv x).1, .int .i64 (posv x).2]) := by cases x <;> rfl
theorem ResPost.form {w w' : World} {want : Option Spt} {e : Ending} (h : ResPost w want e w') : ∃ A c, e = .returned (.tuple #[.agg #[.slice A (resv want).1.length c, .int .i64 ((resv want).2.1 : Nat), .int .i64 ((resv want).2.2.1 : Nat)], .int .i64 (resv want).2.2.2]) ∧
    Ints w' (Under w'.heap.size) (.slice A (resv want).1.length c) (resv want).1 ∧ Below w.heap.size w w' := by
  obtain ⟨hb, ⟨rfl, rfl⟩ | ⟨p, j, o, A, c, rfl, rfl, hi⟩⟩ := h
  · exact ⟨none, 0, rfl, ints_none, hb⟩
  · exact ⟨A, c, rfl, hi.keep (fun b hb => hb.2) fun _ _ => rfl, hb⟩
theorem RResPost.form {w w' : World} {want : Option Spt} {e : Ending} (h : RResPost w want e w') : ∃ A c, e = .returned (.tuple #[.agg #[.slice A (resv want).1.length c, .int .i64 ((resv want).2.1 : Nat), .int .i64 ((resv want).2.2.1 : Nat)], .int .i64 (resv want).2.2.2]) ∧
    Ints w' (Under w'.heap.size) (.slice A (resv want).1.length c) (resv want).1 ∧ Below w.heap.size w w' := by
  obtain ⟨hb, ⟨rfl, rfl⟩ | ⟨p, j, o, A, c, rfl, rfl, hi⟩⟩ := h
  · exact ⟨none, 0, rfl, ints_none, hb⟩
  · exact ⟨A, c, rfl, hi.keep (fun b ⟨cs, hc⟩ => heap_lt' hc) fun _ _ => rfl, hb⟩

def ab4 : Tree := .mk ⟨#[116, 101, 120, 116]⟩ ⟨#[97, 98]⟩ [] [] []
theorem ab4_weigh : weigh ab4 ≤ 1000000 := by decide +kernel
theorem ab4_text : isTxt ab4.kind = true := by decide +kernel
theorem ab4_node (w : World) : Node w (Under w.heap.size) (.agg #[.string ⟨#[116, 101, 120, 116]⟩, .string ⟨#[97, 98]⟩, .slice none 0 0, .slice none 0 0, .slice none 0 0]) ab4 := ⟨_, _, _, rfl, strs_nil, pairs_nil, kids_nil⟩
theorem ab4_res (pos : Int) : resolveB ab4 pos = none := by unfold resolveB; rw [if_pos ab4_text]
theorem ab4_pos (p : List Int) (j o : Int) : posB ab4 p j o = none := posB_none (by
  unfold followB
  cases p with
  | nil => rw [goB]; simp [plainO, ab4_text]
  | cons i p => rw [goB]; simp [kidAt, ab4_text])

/-- What both Resolves answer. -/
def RForm (w : World) (rv : List Int × Nat × Nat × Int) (e : Ending) (w' : World) : Prop := ∃ A c, e = .returned (.tuple #[.agg #[.slice A rv.1.length c, .int .i64 (rv.2.1 : Nat), .int .i64 (rv.2.2.1 : Nat)], .int .i64 rv.2.2.2]) ∧
    Ints w' (Under w'.heap.size) (.slice A rv.1.length c) rv.1 ∧ Below w.heap.size w w'
theorem keepb {W W' : World} {g : Nat} {o : Obj} (hb : Below W.heap.size W W') (h : W.heap[g]? = some o) : W'.heap[g]? = some o := (hb.block g (heap_lt' h)).trans h
theorem ints_on {W W' : World} {v : Value} {p : List Int} (h : Ints W (Under W.heap.size) v p) (hb : Below W.heap.size W W') : Ints W' (Under W'.heap.size) v p := h.keep (fun _ hb' => Nat.lt_of_lt_of_le hb' hb.size) fun b hb' => hb.block b hb'
theorem below_one (w : World) (o : Obj) : Below w.heap.size w (w.alloc o) := (Below.refl _ _).alloc (Nat.le_refl _) _

set_option maxHeartbeats 20000000 in
set_option maxRecDepth 100000 in
theorem placeResolves_walk (v vp : Value) (l : List Cel) (pos : Int) (ps : List Int) (js os : Int) (w : World) (h : Cels w (Under w.heap.size) v l) (hp : Ints w (Under w.heap.size) vp ps) (hpr : ∀ x ∈ ps, -9223372036854775808 ≤ x ∧ x ≤ 9223372036854775807)
    (h1 : -9223372036854775808 ≤ pos) (h2 : pos ≤ 9223372036854775807) (hj1 : -9223372036854775808 ≤ js) (hj2 : js ≤ 9223372036854775807) (ho1 : -9223372036854775808 ≤ os) (ho2 : os ≤ 9223372036854775807) :
    Calls Try.prog 3 #[v, .int .i64 pos, .agg #[vp, .int .i64 js, .int .i64 os]] w fun e w' => e = .returned (.bool true) ∧ Below w.heap.size w w' := by
  have HC := Lib.hid h
  have HP := Lib.hid hp
  have HPR := Lib.hid hpr
  obtain ⟨Ap, cp, rfl, hpc⟩ := hp.form
  have hpm := hp.len.2.2
  unfold maxLen at hpm
  have HJ := Lib.hid (And.intro hj1 (And.intro hj2 (And.intro ho1 ho2)))
  have HQ := Lib.hid (And.intro h1 h2)
  clear h hp hpr h1 h2 hj1 hj2 ho1 ho2
  go_enter Try.func3, Try.ntmps3
  go_wp2_with fail
  generalize hW0 : w.alloc (.cells #[.slice Ap ps.length cp, .int .i64 js, .int .i64 os] 25) = W0
  have HB0 : Hid (Below w.heap.size w W0) := Lib.hid (by subst hW0; exact (Below.refl _ _).alloc (Nat.le_refl _) _)
  have HS0 : Hid (W0.heap[w.heap.size]? = some (.cells #[.slice Ap ps.length cp, .int .i64 js, .int .i64 os] 25)) := Lib.hid (by subst hW0; exact heap_new _ _)
  clear hW0
  refine (shown4_any _).mono ?_
  rintro e w1 ⟨rfl, hb1⟩
  have HB1 := Lib.hid (belowNext HB0.out hb1)
  have HS1 := Lib.hid ((hb1.block w.heap.size (heap_lt' HS0.out)).trans HS0.out)
  clear hb1 HS0 HB0
  obtain ⟨s0, s1, s2⟩ := cells3 HS1.out
  by_cases hl : 50 < ps.length
  · have hl' : (50 : Int) < (ps.length : Int) := by omega
    go_wp2
    go_ret
    exact ⟨rfl, HB1.out⟩
  have hl' : ¬ (50 : Int) < (ps.length : Int) := by omega
  go_wp2_with fail
  refine (doc_any _ l w1 ((HC.out.below HB1.out).more HB1.out.size)).mono ?_
  rintro e w2 ⟨A, c, rfl, hk2, hb2⟩
  have HB2 := Lib.hid (belowNext HB1.out hb2)
  have hlen := length_le_weigh (madeB l)
  have hmw := madeB_weigh l
  have hdw := docB_weigh l
  have HK2 := Lib.hid (hk2.keep (S' := Under w2.heap.size) (fun _ h => h.2) (fun _ _ => rfl))
  have HND : Hid (∀ W, Below w2.heap.size w2 W → Node W (Under W.heap.size) (.agg (docCells A (madeB l).length c)) (docB l)) := Lib.hid fun W hW => doc_node ((HK2.out.below hW).more hW.size)
  have HPI : Hid (∀ W, Below w.heap.size w W → Ints W (Under W.heap.size) (.slice Ap ps.length cp) ps) := Lib.hid fun W hW => HP.out.keep (fun b hb => Nat.lt_of_lt_of_le hb hW.size) (fun b hb => hW.block b hb)
  have HS2 := Lib.hid ((hb2.block w.heap.size (heap_lt' HS1.out)).trans HS1.out)
  clear hk2 hb2 s0 s1 s2 HS1 HB1 hpc
  -- the document's variable
  go_upto_region 5 with fail
  generalize hW3 : w2.alloc (.cells (docCells A (madeB l).length c) 31) = W3
  have HB3 : Hid (Below w2.heap.size w2 W3) := Lib.hid (by subst hW3; exact (Below.refl _ _).alloc (Nat.le_refl _) _)
  have HD3 : Hid (W3.heap[w2.heap.size]? = some (.cells (docCells A (madeB l).length c) 31)) := Lib.hid (by subst hW3; exact heap_new _ _)
  clear hW3
  have HS3 := Lib.hid ((HB3.out.block w.heap.size (heap_lt' HS2.out)).trans HS2.out)
  obtain ⟨d0, d1, d2, d3, d4⟩ := cells5 HD3.out
  have HB23 := Lib.hid (belowNext HB2.out HB3.out)
  have HR1 : Hid (∀ W, Below w2.heap.size w2 W → Calls Try.prog 7 #[.agg (docCells A (madeB l).length c), .int .i64 pos] W (RForm W (resv (resolveB (docB l) pos)))) := Lib.hid fun W hW => (resolve_any _ (docB l) pos W (HND.out W hW) (by omega) HQ.out.1 HQ.out.2).mono fun e w' h => h.form
  have HR2 : Hid (∀ W, Below w2.heap.size w2 W → Calls Try.prog 8 #[.agg (docCells A (madeB l).length c), .int .i64 pos] W (RForm W (resv (resolveB (docB l) pos)))) := Lib.hid fun W hW => (rresolve_any _ (docB l) pos W (HND.out W hW) (by omega) HQ.out.1 HQ.out.2).mono fun e w' h => h.form
  have HB2' := HB2.out
  have HP1 : Hid (∀ W, Below w2.heap.size w2 W → Calls Try.prog 9 #[.agg (docCells A (madeB l).length c), .agg #[.slice Ap ps.length cp, .int .i64 js, .int .i64 os]] W fun e w' => e = .returned (.tuple #[.int .i64 (posv (posB (docB l) ps js os)).1, .int .i64 (posv (posB (docB l) ps js os)).2]) ∧ Below W.heap.size W w') := Lib.hid fun W hW => by
    have := pos_any _ _ (docB l) ps js os W (HND.out W hW) (HPI.out W (belowNext HB2' hW)) HPR.out (by omega) HJ.out.1 HJ.out.2.1 HJ.out.2.2.1 HJ.out.2.2.2
    rwa [posE_v] at this
  have HP2 : Hid (∀ W, Below w2.heap.size w2 W → Calls Try.prog 10 #[.agg (docCells A (madeB l).length c), .agg #[.slice Ap ps.length cp, .int .i64 js, .int .i64 os]] W fun e w' => e = .returned (.tuple #[.int .i64 (posv (posB (docB l) ps js os)).1, .int .i64 (posv (posB (docB l) ps js os)).2]) ∧ Below W.heap.size W w') := Lib.hid fun W hW => by
    have := rpos_any _ _ (docB l) ps js os W (HND.out W hW) (HPI.out W (belowNext HB2' hW)) (by omega)
    rwa [posE_v] at this
  have HP3 : Hid (∀ W, Below w2.heap.size w2 W → Calls Try.prog 9 #[.agg #[.string ⟨#[116, 101, 120, 116]⟩, .string ⟨#[97, 98]⟩, .slice none 0 0, .slice none 0 0, .slice none 0 0], .agg #[.slice Ap ps.length cp, .int .i64 js, .int .i64 os]] W fun e w' => e = .returned (.tuple #[.int .i64 0, .int .i64 9]) ∧ Below W.heap.size W w') := Lib.hid fun W hW => by
    have := pos_any _ _ ab4 ps js os W (ab4_node W) (HPI.out W (belowNext HB2' hW)) HPR.out ab4_weigh HJ.out.1 HJ.out.2.1 HJ.out.2.2.1 HJ.out.2.2.2
    rwa [ab4_pos, posE] at this
  have HR3 : Hid (∀ W, Calls Try.prog 7 #[.agg #[.string ⟨#[116, 101, 120, 116]⟩, .string ⟨#[97, 98]⟩, .slice none 0 0, .slice none 0 0, .slice none 0 0], .int .i64 pos] W fun e w' => e = .returned (.tuple #[.agg #[.slice none 0 0, .int .i64 0, .int .i64 0], .int .i64 3]) ∧ Below W.heap.size W w') := Lib.hid fun W => resolve_none (ab4_node W) ab4_weigh HQ.out.1 HQ.out.2 (ab4_res pos)
  generalize resv (resolveB (docB l) pos) = rv at *
  generalize posv (posB (docB l) ps js os) = pv at *
  obtain ⟨p, j, o, er⟩ := rv
  obtain ⟨pn, pe⟩ := pv
  clear HND HC hlen hmw hdw HB2' HPR HQ HJ HK2 HPI HP
  -- Resolve
  go_wp2_with fail
  refine (HR1.out W3 HB3.out).mono ?_
  rintro e w4 ⟨A4, c4, rfl, hi4, hb4⟩
  simp only at hi4
  have HD4 := Lib.hid (keepb hb4 HD3.out)
  have HS4 := Lib.hid (keepb hb4 HS3.out)
  have HB4 := Lib.hid (belowNext HB3.out hb4)
  have HI4 := Lib.hid hi4
  clear hb4 hi4 d0 d1 d2 d3 d4 HD3 HS3 HB3 HB23
  go_upto_region 6 with fail
  generalize hW5 : w4.alloc (.cells #[.slice A4 p.length c4, .int .i64 (j : Nat), .int .i64 (o : Nat)] 25) = W5
  have hb5 : Below w4.heap.size w4 W5 := by subst hW5; exact below_one _ _
  have HA5 : Hid (W5.heap[w4.heap.size]? = some (.cells #[.slice A4 p.length c4, .int .i64 (j : Nat), .int .i64 (o : Nat)] 25)) := Lib.hid (by subst hW5; exact heap_new _ _)
  have HD5 := Lib.hid (keepb hb5 HD4.out)
  have HS5 := Lib.hid (keepb hb5 HS4.out)
  have HB5 := Lib.hid (belowNext HB4.out hb5)
  have HI5 := Lib.hid (ints_on HI4.out hb5)
  clear hW5 hb5 HD4 HS4 HB4 HI4
  obtain ⟨d0, d1, d2, d3, d4⟩ := cells5 HD5.out
  -- the document's Resolve
  go_wp2_with fail
  refine (HR2.out W5 HB5.out).mono ?_
  rintro e w6 ⟨A6, c6, rfl, hi6, hb6⟩
  simp only at hi6
  have HD6 := Lib.hid (keepb hb6 HD5.out)
  have HS6 := Lib.hid (keepb hb6 HS5.out)
  have HA6 := Lib.hid (keepb hb6 HA5.out)
  have HB6 := Lib.hid (belowNext HB5.out hb6)
  have HI6 := Lib.hid (ints_on HI5.out hb6)
  have HJ6 := Lib.hid hi6
  clear hb6 hi6 d0 d1 d2 d3 d4 HD5 HS5 HB5 HI5 HA5
  go_upto_region 7 with fail
  generalize hW7 : w6.alloc (.cells #[.slice A6 p.length c6, .int .i64 (j : Nat), .int .i64 (o : Nat)] 36) = W7
  have hb7 : Below w6.heap.size w6 W7 := by subst hW7; exact below_one _ _
  have HE7 : Hid (W7.heap[w6.heap.size]? = some (.cells #[.slice A6 p.length c6, .int .i64 (j : Nat), .int .i64 (o : Nat)] 36)) := Lib.hid (by subst hW7; exact heap_new _ _)
  have HD7 := Lib.hid (keepb hb7 HD6.out)
  have HS7 := Lib.hid (keepb hb7 HS6.out)
  have HA7 := Lib.hid (keepb hb7 HA6.out)
  have HB7 := Lib.hid (belowNext HB6.out hb7)
  have HI7 := Lib.hid (ints_on HI6.out hb7)
  have HJ7 := Lib.hid (ints_on HJ6.out hb7)
  clear hW7 hb7 HD6 HS6 HB6 HI6 HA6 HJ6
  obtain ⟨d0, d1, d2, d3, d4⟩ := cells5 HD7.out
  obtain ⟨s0, s1, s2⟩ := cells3 HS7.out
  -- Pos
  go_wp2_with fail
  refine (HP1.out W7 HB7.out).mono ?_
  rintro e w8 ⟨rfl, hb8⟩
  have HD8 := Lib.hid (keepb hb8 HD7.out)
  have HS8 := Lib.hid (keepb hb8 HS7.out)
  have HA8 := Lib.hid (keepb hb8 HA7.out)
  have HE8 := Lib.hid (keepb hb8 HE7.out)
  have HB8 := Lib.hid (belowNext HB7.out hb8)
  have HI8 := Lib.hid (ints_on HI7.out hb8)
  have HJ8 := Lib.hid (ints_on HJ7.out hb8)
  clear hb8 d0 d1 d2 d3 d4 s0 s1 s2 HD7 HS7 HB7 HI7 HA7 HJ7 HE7
  obtain ⟨d0, d1, d2, d3, d4⟩ := cells5 HD8.out
  obtain ⟨s0, s1, s2⟩ := cells3 HS8.out
  -- the document's Pos
  go_upto_region 8 with fail
  obtain ⟨W8, rfl⟩ : ∃ W : World, W = w8 := ⟨_, rfl⟩
  have HB8d : Hid (Below W8.heap.size W8 W8.drew) := Lib.hid (Below.refl _ _).drew
  go_cut [15, 16] (fun s15 s16 wx => s15 = .int .i64 pn ∧ s16 = .int .i64 pe ∧ Below W8.heap.size W8 wx)
  case first =>
    go_region_with (first
      | (go_at_call 11; refine (as4_any _ js os Ap ps.length cp rfl _).mono ?_; rintro e w9 ⟨rfl, hb9⟩; have HB9 := Lib.hid (HB8d.out.trans hb9); obtain ⟨f0, f1, f2, f3, f4⟩ := cells5 (keepb HB9.out HD8.out); clear hb9)
      | (go_at_call 10; refine (HP2.out _ (belowNext HB8.out HB9.out)).mono ?_; rintro e w10 ⟨rfl, hb10⟩; have HB10 := Lib.hid (belowNext HB9.out hb10); clear hb10))
    all_goals
      go_wp2_with fail
      go_meet
      exact ⟨rfl, rfl, HB10.out⟩
  case rest =>
    obtain ⟨rfl, rfl, hbc⟩ := hcut
    have HAc := Lib.hid (keepb hbc HA8.out)
    have HEc := Lib.hid (keepb hbc HE8.out)
    have HSc := Lib.hid (keepb hbc HS8.out)
    have HBc := Lib.hid (belowNext HB8.out hbc)
    have HIc := Lib.hid (ints_on HI8.out hbc)
    have HJc := Lib.hid (ints_on HJ8.out hbc)
    clear hbc d0 d1 d2 d3 d4 s0 s1 s2 HD8 HS8 HB8 HA8 HE8 HI8 HJ8 HB8d HR1 HR2 HP1 HP2
    -- a text
    go_wp2_with fail
    refine (HR3.out wc).mono ?_
    rintro e w11 ⟨rfl, hb11⟩
    have HAe := Lib.hid (keepb hb11 HAc.out)
    have HEe := Lib.hid (keepb hb11 HEc.out)
    have HSe := Lib.hid (keepb hb11 HSc.out)
    have HBe := Lib.hid (belowNext HBc.out hb11)
    have HIe := Lib.hid (ints_on HIc.out hb11)
    have HJe := Lib.hid (ints_on HJc.out hb11)
    clear hb11 HAc HEc HSc HBc HIc HJc
    go_upto_region 10 with fail
    generalize hW12 : w11.alloc (.cells #[.slice none 0 0, .int .i64 0, .int .i64 0] 25) = W12
    have hb12 : Below w11.heap.size w11 W12 := by subst hW12; exact below_one _ _
    have HAf := Lib.hid (keepb hb12 HAe.out)
    have HEf := Lib.hid (keepb hb12 HEe.out)
    have HSf := Lib.hid (keepb hb12 HSe.out)
    have HBf := Lib.hid (belowNext HBe.out hb12)
    have HIf := Lib.hid (ints_on HIe.out hb12)
    have HJf := Lib.hid (ints_on HJe.out hb12)
    clear hW12 hb12 HAe HEe HSe HBe HIe HJe
    obtain ⟨s0, s1, s2⟩ := cells3 HSf.out
    go_wp2_with fail
    refine (HP3.out W12 HBf.out).mono ?_
    rintro e w13 ⟨rfl, hb13⟩
    have HAg := Lib.hid (keepb hb13 HAf.out)
    have HEg := Lib.hid (keepb hb13 HEf.out)
    have HBg := Lib.hid (HB2.out.trans ((belowNext HBf.out hb13).mono HB2.out.size))
    have HIg := Lib.hid (ints_on HIf.out hb13)
    have HJg := Lib.hid (ints_on HJf.out hb13)
    clear hb13 s0 s1 s2 HAf HEf HSf HBf HIf HJf HP3 HR3 HB2 HS2
    obtain ⟨a0, a1, a2⟩ := cells3 HAg.out
    obtain ⟨b0, b1, b2⟩ := cells3 HEg.out
    go_upto_region 11 with fail
    have HSM : Hid (∀ W, Below w13.heap.size w13 W → Calls Try.prog 12 #[.agg #[.slice A4 p.length c4, .int .i64 (j : Nat), .int .i64 (o : Nat)], .agg #[.slice A6 p.length c6, .int .i64 (j : Nat), .int .i64 (o : Nat)]] W fun e w' => e = .returned (.bool true) ∧ Below W.heap.size W w') :=
      Lib.hid fun W hW => (sameS_any _ _ p p j o j o W (ints_on HIg.out hW) (ints_on HJg.out hW)).mono fun e w' h => by
        obtain ⟨rfl, h2⟩ := h
        exact ⟨ret_bool (by simp), h2⟩
    have HQ1 := Lib.hid (regrown_any HSM.out)
    have HQ2 := Lib.hid (regrown_any (w := w13) (fun W _ => as4_any (.slice A4 p.length c4) (j : Int) (o : Int) A4 p.length c4 rfl W))
    have f0 := cell_regrown a0
    have f1 := cell_regrown a1
    have f2 := cell_regrown a2
    have g0 := cell_regrown b0
    have g1 := cell_regrown b1
    have g2 := cell_regrown b2
    refine wp_region_quiet_below (by kernel_rfl) (by kernel_rfl) ?_
    repeat (first | go_big_quiet_step (first | exact HQ1.out _ _ | exact HQ2.out _ _) | quiet_step (first | exact HQ1.out _ _ | exact HQ2.out _ _))
    refine wpQuiet_nil ?_
    intro _ hw'
    obtain ⟨⟨dq, osq⟩, hw''⟩ := hw'
    subst hw''
    have HB15 := Lib.hid (below_regrown w13 dq osq)
    clear f0 f1 f2 g0 g1 g2 a0 a1 a2 b0 b1 b2
    generalize grow (redrawn w13 dq) osq = w15 at *
    go_wp2
    go_ret
    exact ⟨rfl, HBg.out.trans (HB15.out.mono HBg.out.size)⟩
end Go.Proofs.Ytmmifednhleggaa
