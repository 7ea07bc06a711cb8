/-
  What node.Same answers.
-/
import Derived.Test.YtogpaamkmifalaaDoorW8
import Derived.Lib.QuietBelow
namespace Go.Proofs.YtogpaamkmifalaaDoor
open Go.RowKit Go.Sort

def pairEq (p q : ByteArray × ByteArray) : Bool := p.1.toList == q.1.toList && p.2.toList == q.2.toList
def sameP (a b : List (ByteArray × ByteArray)) : Bool := decide (a.length = b.length) && (List.range a.length).all fun i => pairEq (pairAt a i) (pairAt b i)
mutual
def sameB : Tree → Tree → Bool
  | .mk k t m a l, b => k.toList == b.kind.toList && (t.toList == b.text.toList && (sameL m b.marks && (sameP a b.attrs && sameAllB l b.kids)))
def sameAllB : List Tree → List Tree → Bool
  | [], l => l.isEmpty
  | _ :: _, [] => false
  | x :: l, y :: l2 => sameB x y && sameAllB l l2
end
theorem sameP_lens {a b : List (ByteArray × ByteArray)} (h : a.length ≠ b.length) : sameP a b = false := by simp [sameP, h]
theorem sameP_at {a b : List (ByteArray × ByteArray)} (k : Nat) (hk : k < a.length) (h : pairEq (pairAt a k) (pairAt b k) = false) : sameP a b = false := by
  unfold sameP; rw [all_range_false k hk h, Bool.and_false]
theorem sameP_all {a b : List (ByteArray × ByteArray)} (h : a.length = b.length) (hp : ∀ i, i < a.length → pairEq (pairAt a i) (pairAt b i) = true) : sameP a b = true := by
  unfold sameP; rw [all_range_true hp, decide_eq_true h]; rfl

set_option maxHeartbeats 400000 in
theorem equalP_any (va vb : Value) (a b : List (ByteArray × ByteArray)) (S S' : Nat → Prop) (w : World) (ha : Pairs w S va a) (hb : Pairs w S' vb b) (hwa : weighP a ≤ 1000000) :
    Calls Tryd.prog 18 #[va, vb] w fun e w' => e = .returned (.bool (sameP a b)) ∧ ∃ n, w' = w.drewN n := by
  have hla := length_le_weighP a
  obtain ⟨A, c, rfl, hc⟩ := ha.form
  obtain ⟨A', c', rfl, hc'⟩ := hb.form
  have HA := Lib.hid ha
  have HB := Lib.hid hb
  clear ha hb
  by_cases hl : a.length = b.length
  · have HL := Lib.hid hl
    have hl' : ((a.length : Int) != (b.length : Int)) = false := by simp [hl]
    clear hl
    go_enter Tryd.func18, Tryd.ntmps18
    go_wp2
    go_loopw [13] (fun i wr => ∃ k n : Nat, k ≤ a.length ∧ i = .int .i64 k ∧ wr = w.drewN n ∧ Hid (∀ j, j < k → pairEq (pairAt a j) (pairAt b j) = true)) (fun i _ => a.length - (intOf i).toNat)
    case atStart => exact ⟨0, 0, by omega, rfl, rfl, fun j hj => absurd hj (by omega)⟩
    case round =>
      obtain ⟨k, n, hk, rfl, rfl, hall⟩ := hrel
      by_cases hlt : k < a.length
      · have hltb : k < b.length := by rw [← HL.out]; exact hlt
        obtain ⟨ba, oa, rfl, _, hca⟩ := HA.out.get hlt
        obtain ⟨bb, ob, rfl, _, hcb⟩ := HB.out.get hltb
        obtain ⟨h1, h2⟩ := hca k hlt
        obtain ⟨h3, h4⟩ := hcb k hltb
        have HS := Lib.hid (sameP_at (a := a) (b := b) k hlt)
        have HE : Hid (pairEq (pairAt a k) (pairAt b k) = ((pairAt a k).1.toList == (pairAt b k).1.toList && (pairAt a k).2.toList == (pairAt b k).2.toList)) := Lib.hid rfl
        clear hca hcb
        generalize hsa : (pairAt a k).1 = sa at *
        generalize hsb : (pairAt b k).1 = sb at *
        generalize hta : (pairAt a k).2 = ta at *
        generalize htb : (pairAt b k).2 = tb at *
        clear hsa hsb hta htb
        cases q1 : (sa.toList == sb.toList) with
        | false =>
          rw [q1] at HE
          go_wp2
          go_quiet (fail)
          go_wp2
          go_ret
          exact ⟨ret_bool (HS.out HE.out).symm, _, World.drewN_drewN _ _ _⟩
        | true =>
          cases q2 : (ta.toList == tb.toList) with
          | false =>
            rw [q1, q2] at HE
            go_wp2
            go_quiet (fail)
            go_wp2
            go_ret
            exact ⟨ret_bool (HS.out HE.out).symm, _, World.drewN_drewN _ _ _⟩
          | true =>
            rw [q1, q2] at HE
            go_wp2
            go_quiet (fail)
            go_wp2
            exact ⟨⟨k + 1, _, by omega, by go_num, rfl, step_all hall.out HE.out⟩, by simp [intOf]; omega⟩
      · go_wp2
        go_ret
        exact ⟨ret_bool (sameP_all HL.out fun i hi => hall.out i (by omega)).symm, n, rfl⟩
  · have hl' : ((a.length : Int) != (b.length : Int)) = true := by simp; omega
    have HN := Lib.hid (sameP_lens hl)
    clear hl
    go_enter Tryd.func18, Tryd.ntmps18
    go_wp2
    go_ret
    exact ⟨ret_bool HN.out.symm, 0, rfl⟩

theorem sameAll_lens : ∀ (l l2 : List Tree), l.length ≠ l2.length → sameAllB l l2 = false
  | [], [], h => absurd rfl h
  | [], _ :: _, _ => rfl
  | _ :: _, [], _ => rfl
  | x :: l, y :: l2, h => by
    rw [sameAllB, sameAll_lens l l2 (fun e => h (by simp [e])), Bool.and_false]
theorem sameAll_at : ∀ (l l2 : List Tree) (k : Nat) (x y : Tree), l[k]? = some x → l2[k]? = some y → sameB x y = false → sameAllB l l2 = false
  | [], _, k, _, _, h, _, _ => by simp at h
  | _ :: _, [], k, _, _, _, h, _ => by simp at h
  | x' :: l, y' :: l2, 0, x, y, h1, h2, h => by
    simp at h1 h2; subst h1; subst h2
    rw [sameAllB, h, Bool.false_and]
  | x' :: l, y' :: l2, k + 1, x, y, h1, h2, h => by
    rw [sameAllB, sameAll_at l l2 k x y (by simpa using h1) (by simpa using h2) h, Bool.and_false]
theorem sameAll_true : ∀ (l l2 : List Tree), l.length = l2.length → (∀ (i : Nat) (x y : Tree), l[i]? = some x → l2[i]? = some y → sameB x y = true) → sameAllB l l2 = true
  | [], [], _, _ => rfl
  | [], _ :: _, h, _ => by simp at h
  | _ :: _, [], h, _ => by simp at h
  | x :: l, y :: l2, h, hp => by
    rw [sameAllB, hp 0 x y rfl rfl, sameAll_true l l2 (by simpa using h) (fun i x' y' h1 h2 => hp (i + 1) x' y' (by simpa using h1) (by simpa using h2))]; rfl

def NSaid (a : Tree) : Prop := ∀ (b : Tree) (va vb : Value) (w : World) (p : Nat), weigh a ≤ 1000000 → weigh b ≤ 1000000 → Node w (Under w.heap.size) va a → Node w (Under w.heap.size) vb b → SelfAt w 16 p →
    Calls Tryd.prog 16 #[va, vb, .pointer (some ⟨p, 0, none⟩)] w fun e w' => e = .returned (.bool (sameB a b)) ∧ Below w.heap.size w w'

set_option maxHeartbeats 1000000 in
theorem equalFunc_of (l l2 : List Tree) (IH : Hid (∀ x ∈ l, NSaid x)) (va vb : Value) (w : World) (p : Nat) (ha : Kids w (Under w.heap.size) va l) (hb : Kids w (Under w.heap.size) vb l2) (hw : weighAll l ≤ 1000000) (hw2 : weighAll l2 ≤ 1000000) (hp : SelfAt w 16 p) :
    Calls Tryd.prog 19 #[va, vb, .func (.func 16) #[] #[.pointer (some ⟨p, 0, none⟩)]] w fun e w' => e = .returned (.bool (sameAllB l l2)) ∧ Below w.heap.size w w' := by
  have hla := length_le_weigh l
  obtain ⟨A, c, rfl, hc⟩ := ha.form
  obtain ⟨A', c', rfl, hc'⟩ := hb.form
  have HA := Lib.hid ha
  have HB := Lib.hid hb
  have HP := Lib.hid hp
  clear ha hb hp
  by_cases hl : l.length = l2.length
  · have HL := Lib.hid hl
    have hl' : ((l.length : Int) != (l2.length : Int)) = false := by simp [hl]
    have hl1 : l.length ≤ l2.length := by omega
    clear hl
    go_enter Tryd.func19, Tryd.ntmps19
    go_wp2
    go_loopw [17] (fun i wr => ∃ k : Nat, k ≤ l.length ∧ i = .int .i64 k ∧ Below w.heap.size w wr ∧ Hid (∀ j x y, j < k → l[j]? = some x → l2[j]? = some y → sameB x y = true)) (fun i _ => l.length - (intOf i).toNat)
    case atStart => exact ⟨0, by omega, rfl, Below.refl _ _, fun j _ _ hj => absurd hj (by omega)⟩
    case round =>
      obtain ⟨k, hk, rfl, hbr, hall⟩ := hrel
      by_cases hlt : k < l.length
      · have hltb : k < l2.length := by omega
        obtain ⟨ba, oa, rfl, _, hra⟩ := HA.out.get hlt
        obtain ⟨bb, ob, rfl, _, hrb⟩ := HB.out.get hltb
        have hlx : l[k]? = some l[k] := List.getElem?_eq_getElem hlt
        have hly : l2[k]? = some l2[k] := List.getElem?_eq_getElem hltb
        generalize hx : l[k] = x at *
        generalize hy : l2[k] = y at *
        have hwx := weigh_mem (List.mem_of_getElem? hlx)
        have hwy := weigh_mem (List.mem_of_getElem? hly)
        have HIH := Lib.hid (IH.out x (List.mem_of_getElem? hlx))
        obtain ⟨xm, xa, xk, e0, e1, e2, e3, e4, exm, exa, exk⟩ := hra.node hlx
        obtain ⟨ym, ya, yk, d0, d1, d2, d3, d4, dxm, dxa, dxk⟩ := hrb.node hly
        have HXN : Hid (Node wr (Under wr.heap.size) (.agg #[.string x.kind, .string x.text, xm, xa, xk]) x) := Lib.hid ((Node.below (B := w.heap.size) ⟨_, _, _, rfl, exm, exa, exk⟩ hbr).more hbr.size)
        have HYN : Hid (Node wr (Under wr.heap.size) (.agg #[.string y.kind, .string y.text, ym, ya, yk]) y) := Lib.hid ((Node.below (B := w.heap.size) ⟨_, _, _, rfl, dxm, dxa, dxk⟩ hbr).more hbr.size)
        have f0 := cell_kept e0 hbr
        have f1 := cell_kept e1 hbr
        have f2 := cell_kept e2 hbr
        have f3 := cell_kept e3 hbr
        have f4 := cell_kept e4 hbr
        have g0 := cell_kept d0 hbr
        have g1 := cell_kept d1 hbr
        have g2 := cell_kept d2 hbr
        have g3 := cell_kept d3 hbr
        have g4 := cell_kept d4 hbr
        obtain ⟨A1, c1, rfl, _⟩ := exm.form
        obtain ⟨A2, c2, rfl, _⟩ := exa.form
        obtain ⟨A3, c3, rfl, _⟩ := exk.form
        obtain ⟨A4, c4, rfl, _⟩ := dxm.form
        obtain ⟨A5, c5, rfl, _⟩ := dxa.form
        obtain ⟨A6, c6, rfl, _⟩ := dxk.form
        have hl3 := cell_lt f0
        have hl4 := cell_lt g0
        have HX := Lib.hid hlx
        have HY := Lib.hid hly
        have HPR := Lib.hid (cell_kept HP.out hbr)
        clear e0 e1 e2 e3 e4 d0 d1 d2 d3 d4 exm exa exk dxm dxa dxk hx hy hlx hly hra hrb
        go_wp2_with fail
        generalize hW2 : (wr.alloc _).alloc _ = W2
        have HB2 : Hid (Below wr.heap.size wr W2) := Lib.hid (by subst hW2; exact ((Below.refl _ _).alloc (Nat.le_refl _) _).alloc (by simp) _)
        clear hW2 f0 f1 f2 f3 f4 g0 g1 g2 g3 g4
        refine (HIH.out y _ _ W2 p (by omega) (by omega) ((HXN.out.below HB2.out).more HB2.out.size) ((HYN.out.below HB2.out).more HB2.out.size) (cell_kept HPR.out HB2.out)).mono ?_
        rintro e w3 ⟨rfl, hb3⟩
        have hB3 := belowNext hbr (belowNext HB2.out hb3)
        generalize hs : sameB x y = r at *
        have HSR := Lib.hid hs
        clear hs hb3
        cases r with
        | false =>
          go_wp2
          go_ret
          exact ⟨ret_bool (sameAll_at l l2 k x y HX.out HY.out HSR.out).symm, hB3⟩
        | true =>
          go_wp2
          refine ⟨⟨k + 1, by omega, by go_num, hB3, fun j x' y' hj h1 h2 => ?_⟩, by simp [intOf]; omega⟩
          by_cases e : j < k
          · exact hall.out j x' y' e h1 h2
          · obtain rfl : j = k := by omega
            have e1 := Option.some.inj (h1.symm.trans HX.out)
            have e2 := Option.some.inj (h2.symm.trans HY.out)
            rw [e1, e2]; exact HSR.out
      · go_wp2
        go_ret
        exact ⟨ret_bool (sameAll_true l l2 HL.out fun i x y h1 h2 => hall.out i x y (by have := (List.getElem?_eq_some_iff.1 h1).1; omega) h1 h2).symm, hbr⟩
  · have hl' : ((l.length : Int) != (l2.length : Int)) = true := by simp; omega
    have HN := Lib.hid (sameAll_lens l l2 hl)
    clear hl
    go_enter Tryd.func19, Tryd.ntmps19
    go_wp2
    go_ret
    exact ⟨ret_bool HN.out.symm, Below.refl _ _⟩

set_option maxHeartbeats 2000000 in
theorem same_walk : ∀ a, NSaid a := by
  intro a
  induction a using Tree.induct_one with
  | h k t m at' l ih =>
    have IH := Lib.hid ih
    clear ih
    intro b va vb w p hwa hwb hna hnb hp
    obtain ⟨am, aa, ak, rfl, ham, haa, hak⟩ := hna
    obtain ⟨bm, ba, bk, rfl, hbm, hba, hbk⟩ := hnb
    have hwt : weigh (.mk k t m at' l) = k.size + t.size + weighL m + weighP at' + weighAll l + 2 := by simp only [weigh]
    have hwb2 := kids_weigh b
    replace ham : Strs w (Under w.heap.size) am m := ham
    replace haa : Pairs w (Under w.heap.size) aa at' := haa
    replace hak : Kids w (Under w.heap.size) ak l := hak
    rw [show (Tree.mk k t m at' l).kind = k from rfl, show (Tree.mk k t m at' l).text = t from rfl]
    have HE : Hid (sameB (.mk k t m at' l) b = (k.toList == b.kind.toList && (t.toList == b.text.toList && (sameL m b.marks && (sameP at' b.attrs && sameAllB l b.kids))))) := Lib.hid (by rw [sameB])
    have HM := Lib.hid (And.intro ham hbm)
    have HA := Lib.hid (And.intro haa hba)
    have HK := Lib.hid (And.intro hak hbk)
    have HP := Lib.hid hp
    obtain ⟨A1, c1, rfl, _⟩ := ham.form
    obtain ⟨A2, c2, rfl, _⟩ := haa.form
    obtain ⟨A3, c3, rfl, _⟩ := hak.form
    obtain ⟨A4, c4, rfl, _⟩ := hbm.form
    obtain ⟨A5, c5, rfl, _⟩ := hba.form
    obtain ⟨A6, c6, rfl, _⟩ := hbk.form
    have hpl := cell_lt hp
    clear ham haa hak hbm hba hbk hp
    generalize sameB (.mk k t m at' l) b = res at *
    cases q1 : (k.toList == b.kind.toList) with
    | false =>
      rw [q1] at HE
      go_enter Tryd.func16, Tryd.ntmps16
      go_wp2
      go_ret
      exact ⟨ret_bool HE.out.symm, ((Below.refl _ _).alloc (Nat.le_refl _) _).alloc (by simp) _⟩
    | true =>
      rw [q1] at HE
      cases q2 : (t.toList == b.text.toList) with
      | false =>
        rw [q2] at HE
        go_enter Tryd.func16, Tryd.ntmps16
        go_wp2
        go_ret
        exact ⟨ret_bool HE.out.symm, ((Below.refl _ _).alloc (Nat.le_refl _) _).alloc (by simp) _⟩
      | true =>
        rw [q2] at HE
        go_enter Tryd.func16, Tryd.ntmps16
        go_wp2_with fail
        generalize hW2 : (w.alloc _).alloc _ = W2
        have HB2 : Hid (Below w.heap.size w W2) := Lib.hid (by subst hW2; exact ((Below.refl _ _).alloc (Nat.le_refl _) _).alloc (by simp) _)
        have z3 : W2.cell? ⟨w.heap.size, 3, none⟩ = some (.slice A2 at'.length c2) := by subst hW2; simp [go_sem]
        have z4 : W2.cell? ⟨w.heap.size, 4, none⟩ = some (.slice A3 l.length c3) := by subst hW2; simp [go_sem]
        have y3 : W2.cell? ⟨w.heap.size + 1, 3, none⟩ = some (.slice A5 b.attrs.length c5) := by subst hW2; simp [go_sem]
        have y4 : W2.cell? ⟨w.heap.size + 1, 4, none⟩ = some (.slice A6 b.kids.length c6) := by subst hW2; simp [go_sem]
        clear hW2 q1 q2
        refine (equal_any _ _ m b.marks _ _ W2 (HM.out.1.below HB2.out) (HM.out.2.below HB2.out) (by omega)).mono ?_
        rintro e w3 ⟨rfl, n3, rfl⟩
        have hb3 : Below W2.heap.size W2 (W2.drewN n3) := ⟨rfl, rfl, rfl, Nat.le_refl _, fun _ _ => rfl⟩
        replace z3 := cell_kept z3 hb3
        replace z4 := cell_kept z4 hb3
        replace y3 := cell_kept y3 hb3
        replace y4 := cell_kept y4 hb3
        have hB3 := belowNext HB2.out hb3
        generalize W2.drewN n3 = W3 at *
        generalize sameL m b.marks = r3 at *
        cases r3 with
        | false =>
          go_wp2
          go_ret
          exact ⟨ret_bool HE.out.symm, hB3⟩
        | true =>
          go_wp2_with fail
          refine (equalP_any _ _ at' b.attrs _ _ W3 (HA.out.1.below hB3) (HA.out.2.below hB3) (by omega)).mono ?_
          rintro e w4 ⟨rfl, n4, rfl⟩
          have hb4 : Below W3.heap.size W3 (W3.drewN n4) := ⟨rfl, rfl, rfl, Nat.le_refl _, fun _ _ => rfl⟩
          replace z4 := cell_kept z4 hb4
          replace y4 := cell_kept y4 hb4
          have hB4 := belowNext hB3 hb4
          generalize W3.drewN n4 = W4 at *
          generalize sameP at' b.attrs = r4 at *
          cases r4 with
          | false =>
            go_wp2
            go_ret
            exact ⟨ret_bool HE.out.symm, hB4⟩
          | true =>
            have hpp := cell_kept HP.out hB4
            have HP4 : Hid (SelfAt W4 16 p) := Lib.hid hpp
            go_wp2_with fail
            refine (equalFunc_of l b.kids IH _ _ W4 p ((HK.out.1.below hB4).more hB4.size) ((HK.out.2.below hB4).more hB4.size) (by omega) (by omega) HP4.out).mono ?_
            rintro e w5 ⟨rfl, hb5⟩
            have hB5 := belowNext hB4 hb5
            generalize sameAllB l b.kids = r5 at *
            clear hpp z4 y4
            go_wp2
            go_ret
            exact ⟨ret_bool HE.out.symm, hB5⟩

set_option maxHeartbeats 1000000 in
theorem nsame_any (va vb : Value) (a b : Tree) (w : World) (ha : Node w (Under w.heap.size) va a) (hb : Node w (Under w.heap.size) vb b) (hwa : weigh a ≤ 1000000) (hwb : weigh b ≤ 1000000) :
    Calls Tryd.prog 7 #[va, vb] w fun e w' => e = .returned (.bool (sameB a b)) ∧ Below w.heap.size w w' := by
  have hmf : ∀ (fn : Fn) (first cap : Array Value) (w : World), (Instr.makeFunc fn first cap).run Tryd.prog w = .ok (.func fn first cap) w := fun _ _ _ _ => rfl
  have HNA := Lib.hid ha
  have HNB := Lib.hid hb
  obtain ⟨vm, vt, vk, rfl, -, -, -⟩ := ha
  obtain ⟨um, ut, uk, rfl, -, -, -⟩ := hb
  generalize hW1 : ((w.alloc (.cells #[.string a.kind, .string a.text, vm, vt, vk] 28)).alloc (.cells #[.string b.kind, .string b.text, um, ut, uk] 28)).alloc (.cells #[.func (.func 16) #[] #[.pointer (some ⟨w.heap.size + 1 + 1, 0, none⟩)]] 31) = W1
  have HB : Hid (Below w.heap.size w W1) := Lib.hid (by subst hW1; exact (((Below.refl _ _).alloc (Nat.le_refl _) _).alloc (by simp) _).alloc (by simp; omega) _)
  have HS : Hid (SelfAt W1 16 (w.heap.size + 1 + 1)) := Lib.hid (by subst hW1; simp [SelfAt, go_sem])
  have HW1 := Lib.hid hW1
  clear hW1
  go_enter Tryd.func7, Tryd.ntmps7
  go_wp2_with fail
  rw [HW1.out]
  refine (same_walk a b _ _ W1 _ hwa hwb ((HNA.out.below HB.out).more HB.out.size) ((HNB.out.below HB.out).more HB.out.size) HS.out).mono ?_
  rintro e w2 ⟨rfl, hb2⟩
  have hB2 := belowNext HB.out hb2
  clear hb2
  generalize hr : sameB a b = r at *
  have HR := Lib.hid hr
  clear hr
  go_wp2
  go_ret
  exact ⟨ret_bool HR.out.symm, hB2⟩

end Go.Proofs.YtogpaamkmifalaaDoor
