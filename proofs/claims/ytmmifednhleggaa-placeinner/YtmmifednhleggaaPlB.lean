/-
  What follow and start answer: the node to which a path leads, and where its kids begin.
-/
import Derived.Test.YtmmifednhleggaaPlA
import Derived.Test.YtmmifednhleggaaW12
namespace Go.Proofs.Ytmmifednhleggaa
open Go.RowKit Go.Sort

set_option maxHeartbeats 400000 in
theorem pText_any (k t : ByteArray) (vm va vk : Value) (w : World) :
    Calls Try.prog 21 #[.agg #[.string k, .string t, vm, va, vk]] w fun e w' => e = .returned (.bool (isTxt k)) ∧ Below w.heap.size w w' := by
  go_enter Try.func21, Try.ntmps21
  go_wp2
  go_ret
  exact ⟨rfl, (Below.refl _ _).alloc (Nat.le_refl _) _⟩

/-- Five cells put into a block of five. -/
def put5z (w : World) (g : Nat) (v0 v1 v2 v3 v4 : Value) : World := ((((w.setCell ⟨g, 0, none⟩ v0).setCell ⟨g, 1, none⟩ v1).setCell ⟨g, 2, none⟩ v2).setCell ⟨g, 3, none⟩ v3).setCell ⟨g, 4, none⟩ v4
theorem put5z_block {w : World} {g : Nat} {u0 u1 u2 u3 u4 v0 v1 v2 v3 v4 : Value} {T : TypeId} (h : w.heap[g]? = some (.cells #[u0, u1, u2, u3, u4] T)) : (put5z w g v0 v1 v2 v3 v4).heap[g]? = some (.cells #[v0, v1, v2, v3, v4] T) :=
  have h0 : (w.setCell ⟨g, 0, none⟩ v0).heap[g]? = some (.cells #[v0, u1, u2, u3, u4] T) := heap_setCell_same _ g 0 _ T v0 h
  have h1 : ((w.setCell ⟨g, 0, none⟩ v0).setCell ⟨g, 1, none⟩ v1).heap[g]? = some (.cells #[v0, v1, u2, u3, u4] T) := heap_setCell_same _ g 1 _ T v1 h0
  have h2 : (((w.setCell ⟨g, 0, none⟩ v0).setCell ⟨g, 1, none⟩ v1).setCell ⟨g, 2, none⟩ v2).heap[g]? = some (.cells #[v0, v1, v2, u3, u4] T) := heap_setCell_same _ g 2 _ T v2 h1
  have h3 : ((((w.setCell ⟨g, 0, none⟩ v0).setCell ⟨g, 1, none⟩ v1).setCell ⟨g, 2, none⟩ v2).setCell ⟨g, 3, none⟩ v3).heap[g]? = some (.cells #[v0, v1, v2, v3, u4] T) := heap_setCell_same _ g 3 _ T v3 h2
  heap_setCell_same _ g 4 _ T v4 h3
theorem put5z_other {w : World} {g b : Nat} {v0 v1 v2 v3 v4 : Value} (h : b ≠ g) : (put5z w g v0 v1 v2 v3 v4).heap[b]? = w.heap[b]? := by
  unfold put5z
  rw [Below.heap_setCell _ _ _ _ h, Below.heap_setCell _ _ _ _ h, Below.heap_setCell _ _ _ _ h, Below.heap_setCell _ _ _ _ h, Below.heap_setCell _ _ _ _ h]
theorem put5z_size {w : World} {g : Nat} {v0 v1 v2 v3 v4 : Value} : (put5z w g v0 v1 v2 v3 v4).heap.size = w.heap.size := by
  have e : ∀ (W : World) (o : Nat) (u : Value), (W.setCell ⟨g, o, none⟩ u).heap.size = W.heap.size := fun W o u => by simp [World.setCell]
  unfold put5z; rw [e, e, e, e, e]
theorem set_below {B : Nat} {a w : World} {g o : Nat} {u : Value} (hg : B ≤ g) (h : Below B a w) : Below B a (w.setCell ⟨g, o, none⟩ u) :=
  h.trans ⟨rfl, rfl, rfl, by simp [World.setCell], fun b hb => Below.heap_setCell _ _ _ _ (show b ≠ g by omega)⟩
theorem put5z_below {B : Nat} {a w : World} {g : Nat} {v0 v1 v2 v3 v4 : Value} (hg : B ≤ g) (h : Below B a w) : Below B a (put5z w g v0 v1 v2 v3 v4) :=
  set_below hg (set_below hg (set_below hg (set_below hg (set_below hg h))))
theorem cells5 {w : World} {g : Nat} {u0 u1 u2 u3 u4 : Value} {T : TypeId} (h : w.heap[g]? = some (.cells #[u0, u1, u2, u3, u4] T)) :
    w.cell? ⟨g, 0, none⟩ = some u0 ∧ w.cell? ⟨g, 1, none⟩ = some u1 ∧ w.cell? ⟨g, 2, none⟩ = some u2 ∧ w.cell? ⟨g, 3, none⟩ = some u3 ∧ w.cell? ⟨g, 4, none⟩ = some u4 := by
  simp [World.cell?, h]
/-- A variable that holds a node whose lists lie in the old blocks. -/
def Box (w0 w : World) (g : Nat) (u : Tree) : Prop :=
  ∃ A1 n1 c1 A2 n2 c2 A3 c3, w.heap[g]? = some (.cells #[.string u.kind, .string u.text, .slice A1 n1 c1, .slice A2 n2 c2, .slice A3 u.kids.length c3] 31) ∧ Node w0 (Under w0.heap.size) (.agg #[.string u.kind, .string u.text, .slice A1 n1 c1, .slice A2 n2 c2, .slice A3 u.kids.length c3]) u
theorem Box.keep {w0 w w' : World} {g : Nat} {u : Tree} (h : Box w0 w g u) (hk : w'.heap[g]? = w.heap[g]?) : Box w0 w' g u := by
  obtain ⟨A1, n1, c1, A2, n2, c2, A3, c3, h1, h2⟩ := h
  exact ⟨A1, n1, c1, A2, n2, c2, A3, c3, hk.trans h1, h2⟩
theorem Box.below {w0 w w' : World} {g : Nat} {u : Tree} (h : Box w0 w g u) (hb : Below w.heap.size w w') : Box w0 w' g u := by
  refine h.keep (hb.block g ?_)
  obtain ⟨A1, n1, c1, A2, n2, c2, A3, c3, h1, h2⟩ := h
  exact (Array.getElem?_eq_some_iff.1 h1).1
theorem Node.forms {w : World} {S : Nat → Prop} {v : Value} {u : Tree} (h : Node w S v u) : ∃ A1 n1 c1 A2 n2 c2 A3 c3, v = .agg #[.string u.kind, .string u.text, .slice A1 n1 c1, .slice A2 n2 c2, .slice A3 u.kids.length c3] := by
  obtain ⟨vm, va, vk, rfl, hm, ha, hl⟩ := h
  obtain ⟨A1, c1, rfl, _⟩ := hm.form
  obtain ⟨A2, c2, rfl, _⟩ := ha
  obtain ⟨A3, c3, rfl, _⟩ := hl.form
  exact ⟨_, _, _, _, _, _, _, _, rfl⟩
theorem Node.kidsOf {w : World} {S : Nat → Prop} {k t : ByteArray} {vm va vk : Value} {u : Tree} (h : Node w S (.agg #[.string k, .string t, vm, va, vk]) u) : Kids w S vk u.kids := by
  obtain ⟨vm', va', vk', he, _, _, hl⟩ := h
  injection he with he
  have h4 : k = u.kind ∧ t = u.text ∧ vm = vm' ∧ va = va' ∧ vk = vk' := by simpa using he
  rw [h4.2.2.2.2]; exact hl
theorem Kids.kid {w : World} {S : Nat → Prop} {A : Option Addr} {n c : Nat} {l : List Tree} {i : Nat} {x : Tree} (h : Kids w S (.slice A n c) l) (hx : l[i]? = some x) :
    ∃ b o A1 n1 c1 A2 n2 c2 A3 c3, A = some ⟨b, o, none⟩ ∧ S b ∧ w.cell? ⟨b, o + i * 5, none⟩ = some (.string x.kind) ∧ w.cell? ⟨b, o + i * 5 + 1, none⟩ = some (.string x.text) ∧ w.cell? ⟨b, o + i * 5 + 2, none⟩ = some (.slice A1 n1 c1) ∧
      w.cell? ⟨b, o + i * 5 + 3, none⟩ = some (.slice A2 n2 c2) ∧ w.cell? ⟨b, o + i * 5 + 4, none⟩ = some (.slice A3 x.kids.length c3) ∧ Node w S (.agg #[.string x.kind, .string x.text, .slice A1 n1 c1, .slice A2 n2 c2, .slice A3 x.kids.length c3]) x := by
  obtain ⟨b, o, rfl, hb, hr⟩ := h.get (List.getElem?_eq_some_iff.1 hx).1
  obtain ⟨vm, va, vk, e0, e1, e2, e3, e4, hm, ha, hk⟩ := hr.node hx
  obtain ⟨A1, c1, rfl, _⟩ := id hm.form
  obtain ⟨A2, c2, rfl, _⟩ := id ha
  obtain ⟨A3, c3, rfl, _⟩ := id hk.form
  exact ⟨b, o, _, _, _, _, _, _, _, _, rfl, hb, e0, e1, e2, e3, e4, _, _, _, rfl, hm, ha, hk⟩

section
variable {w : World} {ops : Array Oper} {o : Oper} {a : Act} {K : Act → World → Prop} {Q : Exit → Act → World → Prop} {E : Prop}
/-- isText, in a region that draws its order. -/
theorem step_pText {k t : ByteArray} {vm va vk : Value} (hgd : o.guard = none) (p : Operand) (ho : o.op = .call { callee := .value (.func 21), args := #[p], argTypes := #[31] })
    (hp : a.eval p = .agg #[.string k, .string t, vm, va, vk]) (h : ∀ w', Below w.heap.size w w' → K (a.put o.dst (.bool (isTxt k))) w') :
    if Region.wanted o (yielded ops a.tmps) = true then Oper.wp Try.prog o a w K Q else E := by
  have hwn : Region.wanted o (yielded ops a.tmps) = true := by simp [Region.wanted, hgd]
  rw [if_pos hwn]
  have hrun : (execOp a.eval o).run Try.prog w = .ok (.enter 21 #[.agg #[.string k, .string t, vm, va, vk]]) w := by
    have hf : a.eval (.func 21) = .func (.func 21) #[] #[] := rfl
    obtain ⟨c, hc⟩ : ∃ c, Try.f21.body = some c := Option.isSome_iff_exists.1 (by kernel_rfl)
    have hne : ¬ Try.f21.name = "runtime.NumGoroutine" := of_decide_eq_false (by kernel_rfl)
    simp [execOp, ho, resolve, invoke, hp, hf, Deferred.ofValue, callFunc, hne, hc]
  unfold Oper.wp
  rw [hrun, Oper.upon_enter]
  refine (pText_any k t vm va vk w).mono fun e w'' hh => ?_
  obtain ⟨rfl, h1⟩ := hh
  exact h w'' h1
end

/-- What follow answers. -/
def FolPost (w : World) (t : Tree) (p : List Int) (e : Ending) (w' : World) : Prop :=
  ∃ A1 n1 c1 A2 n2 c2 A3 c3 u b, e = .returned (.tuple #[.agg #[.string u.kind, .string u.text, .slice A1 n1 c1, .slice A2 n2 c2, .slice A3 u.kids.length c3], .bool b]) ∧
    Node w' (Under w.heap.size) (.agg #[.string u.kind, .string u.text, .slice A1 n1 c1, .slice A2 n2 c2, .slice A3 u.kids.length c3]) u ∧ followB t p = (if b = true then some u else none) ∧ Below w.heap.size w w'

theorem drop_cons {p : List Int} {k : Nat} {x : Int} (h : p[k]? = some x) : p.drop k = x :: p.drop (k + 1) := by
  obtain ⟨hl, he⟩ := List.getElem?_eq_some_iff.1 h
  rw [← he, List.getElem_cons_drop]

set_option maxHeartbeats 4000000 in
theorem follow_any (v vp : Value) (t : Tree) (p : List Int) (w : World) (h : Node w (Under w.heap.size) v t) (hp : Ints w (Under w.heap.size) vp p) (hpr : ∀ x ∈ p, -9223372036854775808 ≤ x ∧ x ≤ 9223372036854775807) (hw : weigh t ≤ 1000000) :
    Calls Try.prog 24 #[v, vp] w (FolPost w t p) := by
  have HP := Lib.hid hp
  have HPR := Lib.hid hpr
  have HN := Lib.hid h
  obtain ⟨A1, n1, c1, A2, n2, c2, A3, c3, rfl⟩ := h.forms
  obtain ⟨Ap, cp, rfl, hpc⟩ := hp.form
  have hpm := hp.len.2.2
  unfold maxLen at hpm
  clear hp hpr h
  go_enter Try.func24, Try.ntmps24
  go_wp2
  go_loopw [10] (fun i wr => ∃ (k : Nat) (u : Tree), k ≤ p.length ∧ i = .int .i64 k ∧ Below w.heap.size w wr ∧ w.heap.size + 2 ≤ wr.heap.size ∧ weigh u ≤ 1000000 ∧ Hid (goB u (p.drop k) = goB t p) ∧ Hid (Box w wr w.heap.size u) ∧ Hid (wr.heap[w.heap.size + 1]? = some (.cells #[.string ⟨#[]⟩, .string ⟨#[]⟩, .slice none 0 0, .slice none 0 0, .slice none 0 0] 31))) (fun i _ => p.length - (intOf i).toNat)
  case atStart =>
    refine ⟨0, t, by omega, rfl, ((Below.refl _ _).alloc (Nat.le_refl _) _).alloc (by simp) _, by simp, hw, Lib.hid rfl, Lib.hid ⟨_, _, _, _, _, _, _, _, heap_old _ _ _ (heap_new _ _), HN.out⟩, Lib.hid (heap_new' _ _ (by simp))⟩
  case round =>
    obtain ⟨k, u, hk, rfl, hb, hz, hwu, hgo, hbox, hres⟩ := hrel
    obtain ⟨B1, m1, d1, B2, m2, d2, B3, d3, hbl, hnu⟩ := hbox.out
    obtain ⟨x0, x1, x2, x3, x4⟩ := cells5 hbl
    have HNU := Lib.hid hnu
    have HB := Lib.hid hb
    have HBL := Lib.hid hbl
    have hf : ∀ j, wr.frozen? ⟨w.heap.size, j, none⟩ = false := fun j => frozen_of_row _ _ j _ _ hbl
    have hr : ∀ j, wr.frozen? ⟨w.heap.size + 1, j, none⟩ = false := fun j => frozen_of_row _ _ j _ _ hres.out
    obtain ⟨y0, y1, y2, y3, y4⟩ := cells5 hres.out
    have f0 := hf 0
    have f1 := hf 1
    have f2 := hf 2
    have f3 := hf 3
    have f4 := hf 4
    have g0 := hr 0
    have g1 := hr 1
    have g2 := hr 2
    have g3 := hr 3
    have g4 := hr 4
    clear hf hr hbl hnu hb
    by_cases hlt : k < p.length
    · have hpx : p[k]? = some p[k] := List.getElem?_eq_getElem hlt
      obtain ⟨hx1, hx2⟩ := HPR.out p[k] (List.getElem_mem hlt)
      generalize p[k] = x at *
      obtain ⟨bp, op, rfl, hup, hcx⟩ := HP.out.get hpx
      have z0 := (HB.out.cell (p := ⟨bp, op + k, none⟩) hup).trans hcx
      have HD := Lib.hid (drop_cons hpx)
      clear hcx hpx
      go_wp2_with fail
      refine (pText_any _ _ _ _ _ _).mono ?_
      rintro e w1 ⟨rfl, hb1⟩
      have hn1 := (hb1.block w.heap.size (by omega)).trans HBL.out
      have hr1 := (hb1.block (w.heap.size + 1) (by omega)).trans hres.out
      have HB1 := Lib.hid (belowNext HB.out (hb1.mono (Nat.le_refl _)))
      have hz1 := hb1.size
      have HN1 := Lib.hid hn1
      have HR1 := Lib.hid hr1
      clear x0 x1 x2 x3 x4 y0 y1 y2 y3 y4 f0 f1 f2 f3 f4 g0 g1 g2 g3 g4 z0 hb1 HBL hres
      obtain ⟨x0, x1, x2, x3, x4⟩ := cells5 hn1
      obtain ⟨y0, y1, y2, y3, y4⟩ := cells5 hr1
      have hf : ∀ j, w1.frozen? ⟨w.heap.size, j, none⟩ = false := fun j => frozen_of_row _ _ j _ _ hn1
      have hr : ∀ j, w1.frozen? ⟨w.heap.size + 1, j, none⟩ = false := fun j => frozen_of_row _ _ j _ _ hr1
      have f0 := hf 0
      have f1 := hf 1
      have f2 := hf 2
      have f3 := hf 3
      have f4 := hf 4
      have g0 := hr 0
      have g1 := hr 1
      have g2 := hr 2
      have g3 := hr 3
      have g4 := hr 4
      clear hf hr hn1 hr1
      have HGN : Hid (kidAt u x = none → followB t p = none) := Lib.hid fun hn => by
        unfold followB; rw [← hgo.out, HD.out, goB, hn]; rfl
      cases hT : isTxt u.kind with
      | true =>
        have HK := Lib.hid (HGN.out (by unfold kidAt; simp [hT]))
        clear hT
        go_wp2
        obtain ⟨q0, q1, q2, q3, q4⟩ := cells5 (put5z_block (v0 := .string ⟨#[]⟩) (v1 := .string ⟨#[]⟩) (v2 := .slice none 0 0) (v3 := .slice none 0 0) (v4 := .slice none 0 0) HR1.out)
        have HBE := Lib.hid (put5z_below (v0 := .string ⟨#[]⟩) (v1 := .string ⟨#[]⟩) (v2 := .slice none 0 0) (v3 := .slice none 0 0) (v4 := .slice none 0 0) (Nat.le_succ w.heap.size) HB1.out)
        unfold put5z at q0 q1 q2 q3 q4
        refine bodyPost_ret (v := .tuple #[.agg #[.string ⟨#[]⟩, .string ⟨#[]⟩, .slice none 0 0, .slice none 0 0, .slice none 0 0], .bool false]) (by simp [results, Try.results24, go_sem, q0, q1, q2, q3, q4]) rfl ?_
        exact ⟨none, 0, 0, none, 0, 0, none, 0, .mk ⟨#[]⟩ ⟨#[]⟩ [] [] [], false, rfl, ⟨_, _, _, rfl, strs_nil, pairs_nil, kids_nil⟩, by rw [HK.out]; rfl, HBE.out⟩
      | false =>
        by_cases hx0 : x < 0
        · have HK := Lib.hid (HGN.out (by unfold kidAt; simp [hx0]))
          clear hT
          go_wp2
          obtain ⟨q0, q1, q2, q3, q4⟩ := cells5 (put5z_block (v0 := .string ⟨#[]⟩) (v1 := .string ⟨#[]⟩) (v2 := .slice none 0 0) (v3 := .slice none 0 0) (v4 := .slice none 0 0) HR1.out)
          have HBE := Lib.hid (put5z_below (v0 := .string ⟨#[]⟩) (v1 := .string ⟨#[]⟩) (v2 := .slice none 0 0) (v3 := .slice none 0 0) (v4 := .slice none 0 0) (Nat.le_succ w.heap.size) HB1.out)
          unfold put5z at q0 q1 q2 q3 q4
          refine bodyPost_ret (v := .tuple #[.agg #[.string ⟨#[]⟩, .string ⟨#[]⟩, .slice none 0 0, .slice none 0 0, .slice none 0 0], .bool false]) (by simp [results, Try.results24, go_sem, q0, q1, q2, q3, q4]) rfl ?_
          exact ⟨none, 0, 0, none, 0, 0, none, 0, .mk ⟨#[]⟩ ⟨#[]⟩ [] [] [], false, rfl, ⟨_, _, _, rfl, strs_nil, pairs_nil, kids_nil⟩, by rw [HK.out]; rfl, HBE.out⟩
        · obtain ⟨j, rfl⟩ : ∃ j : Nat, x = (j : Int) := ⟨x.toNat, by omega⟩
          clear hx0 hx1
          have HT := Lib.hid hT
          clear hT
          by_cases hj : j < u.kids.length
          · have hju : u.kids[j]? = some u.kids[j] := List.getElem?_eq_getElem hj
            have hl2 : u.kids.length ≤ 1000000 := by have := length_le_weigh u.kids; have := kids_weigh u; omega
            have HKA := Lib.hid (kidAt_of (t := u) (i := (j : Int)) HT.out (by omega) (by rw [Int.toNat_natCast]; exact hju))
            have hwk := weigh_kidAt hju
            generalize u.kids[j] = y at *
            obtain ⟨by', oy, E1, l1, e1, E2, l2, e2, E3, e3, rfl, huy, r0, r1, r2, r3, r4, hny⟩ := HNU.out.kidsOf.kid hju
            have s0 := (HB1.out.cell (p := ⟨by', oy + j * 5, none⟩) huy).trans r0
            have s1 := (HB1.out.cell (p := ⟨by', oy + j * 5 + 1, none⟩) huy).trans r1
            have s2 := (HB1.out.cell (p := ⟨by', oy + j * 5 + 2, none⟩) huy).trans r2
            have s3 := (HB1.out.cell (p := ⟨by', oy + j * 5 + 3, none⟩) huy).trans r3
            have s4 := (HB1.out.cell (p := ⟨by', oy + j * 5 + 4, none⟩) huy).trans r4
            have HNY := Lib.hid hny
            have HHY : Hid (goB y (p.drop (k + 1)) = goB t p) := Lib.hid (by rw [← hgo.out, HD.out, goB, HKA.out])
            have i1 : ¬ (u.kids.length : Int) ≤ (j : Int) := by omega
            clear r0 r1 r2 r3 r4 hny hju
            go_wp2
            refine ⟨⟨k + 1, y, by omega, by go_num, put5z_below (Nat.le_refl _) HB1.out, ?_, by omega, HHY, Lib.hid ⟨_, _, _, _, _, _, _, _, put5z_block HN1.out, HNY.out⟩, Lib.hid ?_⟩, by simp [intOf]; omega⟩
            · have := put5z_size (w := w1) (g := w.heap.size) (v0 := .string y.kind) (v1 := .string y.text) (v2 := .slice E1 l1 e1) (v3 := .slice E2 l2 e2) (v4 := .slice E3 y.kids.length e3)
              unfold put5z at this
              omega
            · exact (put5z_other (by omega)).trans HR1.out
          · have HK := Lib.hid (HGN.out (by unfold kidAt; rw [HT.out]; simp; omega))
            have i1 : (u.kids.length : Int) ≤ (j : Int) := by omega
            have hl2 : u.kids.length ≤ 1000000 := by have := length_le_weigh u.kids; have := kids_weigh u; omega
            go_wp2
            obtain ⟨q0, q1, q2, q3, q4⟩ := cells5 (put5z_block (v0 := .string ⟨#[]⟩) (v1 := .string ⟨#[]⟩) (v2 := .slice none 0 0) (v3 := .slice none 0 0) (v4 := .slice none 0 0) HR1.out)
            have HBE := Lib.hid (put5z_below (v0 := .string ⟨#[]⟩) (v1 := .string ⟨#[]⟩) (v2 := .slice none 0 0) (v3 := .slice none 0 0) (v4 := .slice none 0 0) (Nat.le_succ w.heap.size) HB1.out)
            unfold put5z at q0 q1 q2 q3 q4
            refine bodyPost_ret (v := .tuple #[.agg #[.string ⟨#[]⟩, .string ⟨#[]⟩, .slice none 0 0, .slice none 0 0, .slice none 0 0], .bool false]) (by simp [results, Try.results24, go_sem, q0, q1, q2, q3, q4]) rfl ?_
            exact ⟨none, 0, 0, none, 0, 0, none, 0, .mk ⟨#[]⟩ ⟨#[]⟩ [] [] [], false, rfl, ⟨_, _, _, rfl, strs_nil, pairs_nil, kids_nil⟩, by rw [HK.out]; rfl, HBE.out⟩
    · have HE : Hid (goB t p = some u) := Lib.hid (by rw [← hgo.out, List.drop_of_length_le (by omega), goB])
      have HV : Hid (followB t p = if (!isTxt u.kind) = true then some u else none) := Lib.hid (by
        unfold followB; rw [HE.out]; simp only [Option.bind_some, plainO]; cases isTxt u.kind <;> simp)
      have HRA : Hid (wr.drew.heap[w.heap.size + 1]? = some (.cells #[.string ⟨#[]⟩, .string ⟨#[]⟩, .slice none 0 0, .slice none 0 0, .slice none 0 0] 31)) := Lib.hid hres.out
      have HLA : Hid (w.heap.size + 1 < wr.drew.heap.size) := Lib.hid (show w.heap.size + 1 < wr.heap.size by omega)
      have HRB : Hid ((put5z wr.drew (w.heap.size + 1) (.string u.kind) (.string u.text) (.slice B1 m1 d1) (.slice B2 m2 d2) (.slice B3 u.kids.length d3)).heap[w.heap.size + 1]? = some (.cells #[.string u.kind, .string u.text, .slice B1 m1 d1, .slice B2 m2 d2, .slice B3 u.kids.length d3] 31)) := Lib.hid (put5z_block HRA.out)
      have HLB : Hid (w.heap.size + 1 < (put5z wr.drew (w.heap.size + 1) (.string u.kind) (.string u.text) (.slice B1 m1 d1) (.slice B2 m2 d2) (.slice B3 u.kids.length d3)).heap.size) := Lib.hid (by rw [put5z_size]; exact HLA.out)
      have HBA := Lib.hid HB.out.drew
      have HNA : Hid (wr.drew.heap[w.heap.size]? = some (.cells #[.string u.kind, .string u.text, .slice B1 m1 d1, .slice B2 m2 d2, .slice B3 u.kids.length d3] 31)) := Lib.hid HBL.out
      have HLN : Hid (w.heap.size < wr.drew.heap.size) := Lib.hid (show w.heap.size < wr.heap.size by omega)
      have HBB : Hid (Below w.heap.size w (put5z wr.drew (w.heap.size + 1) (.string u.kind) (.string u.text) (.slice B1 m1 d1) (.slice B2 m2 d2) (.slice B3 u.kids.length d3))) := Lib.hid (put5z_below (Nat.le_succ _) HBA.out)
      go_wp2_with fail
      go_region_law (first
        | ((with_reducible refine step_pText (w := wr.drew) rfl (.tmp 35) rfl rfl ?_); intro w1 hb1; have hr1 := (hb1.block (w.heap.size + 1) HLA.out).trans HRA.out; have HZ1 := Lib.hid (put5z_block (v0 := .string u.kind) (v1 := .string u.text) (v2 := .slice B1 m1 d1) (v3 := .slice B2 m2 d2) (v4 := .slice B3 u.kids.length d3) hr1); have HY1 := Lib.hid (put5z_below (g := w.heap.size + 1) (v0 := .string u.kind) (v1 := .string u.text) (v2 := .slice B1 m1 d1) (v3 := .slice B2 m2 d2) (v4 := .slice B3 u.kids.length d3) (Nat.le_succ _) (belowNext HBA.out hb1)); obtain ⟨p0, p1, p2, p3, p4⟩ := cells5 hr1; obtain ⟨n0, n1', n2', n3, n4⟩ := cells5 ((hb1.block w.heap.size HLN.out).trans HNA.out); have o0 := frozen_of_row _ _ 0 _ _ hr1; have o1 := frozen_of_row _ _ 1 _ _ hr1; have o2 := frozen_of_row _ _ 2 _ _ hr1; have o3 := frozen_of_row _ _ 3 _ _ hr1; have o4 := frozen_of_row _ _ 4 _ _ hr1; clear hr1 hb1)
        | (refine step_pText (w := put5z wr.drew (w.heap.size + 1) (.string u.kind) (.string u.text) (.slice B1 m1 d1) (.slice B2 m2 d2) (.slice B3 u.kids.length d3)) rfl (.tmp 35) rfl rfl ?_; intro w1 hb1; have HZ1 := Lib.hid ((hb1.block (w.heap.size + 1) HLB.out).trans HRB.out); have HY1 := Lib.hid (belowNext HBB.out hb1); clear hb1))
      all_goals
        go_wp2
        obtain ⟨q0, q1, q2, q3, q4⟩ := cells5 HZ1.out
        try unfold put5z at q0 q1 q2 q3 q4
        refine bodyPost_ret (v := .tuple #[.agg #[.string u.kind, .string u.text, .slice B1 m1 d1, .slice B2 m2 d2, .slice B3 u.kids.length d3], .bool (!isTxt u.kind)]) (by simp [results, Try.results24, go_sem, q0, q1, q2, q3, q4]) rfl ?_
        exact ⟨B1, m1, d1, B2, m2, d2, B3, d3, u, !isTxt u.kind, rfl, HNU.out.below HY1.out, HV.out, HY1.out⟩
end Go.Proofs.Ytmmifednhleggaa
