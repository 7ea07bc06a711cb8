/-
  What wellFormed, Depth, Total, Size, Check and Right answer.
-/
import Derived.Test.YtggoebbfgkebcaaGreatDoorW4
import Derived.OneCell
namespace Go.Proofs.YtggoebbfgkebcaaGreatDoor
open Go.RowKit Go.Sort

set_option maxHeartbeats 1000000 in
theorem wellFormed_any (v : Value) (t : Tree) (w : World) (h : Node w (Under w.heap.size) v t) (hw : weigh t ≤ 1000000) (hT : Tabs w) :
    Calls Tryz.prog 62 #[v] w fun e w' => e = .returned (.bool (formedB t)) ∧ Below w.heap.size w w' := by
  have hmf : ∀ (fn : Fn) (first cap : Array Value) (w : World), (Instr.makeFunc fn first cap).run Tryz.prog w = .ok (.func fn first cap) w := fun _ _ _ _ => rfl
  have HN := Lib.hid h
  have HT := Lib.hid hT
  obtain ⟨vm, va, vk, rfl, hm, ha, hl⟩ := h
  clear hT hm ha hl
  generalize hW1 : (w.alloc (.cells #[.string t.kind, .string t.text, vm, va, vk] 41)).alloc (.cells #[.func (.func 82) #[] #[.pointer (some ⟨w.heap.size + 1, 0, none⟩)]] 61) = W1
  have HB : Hid (Below w.heap.size w W1) := Lib.hid (by subst hW1; exact ((Below.refl _ _).alloc (Nat.le_refl _) _).alloc (by simp) _)
  have HS : Hid (SelfAt W1 82 (w.heap.size + 1)) := Lib.hid (by subst hW1; simp [SelfAt, go_sem])
  have HW1 := Lib.hid hW1
  clear hW1
  go_enter Tryz.func62, Tryz.ntmps62
  go_wp2_with fail
  rw [HW1.out]
  refine (walk_any t _ W1 _ ((HN.out.below HB.out).more HB.out.size) hw (HT.out.below HB.out) HS.out).mono ?_
  rintro e w1 ⟨rfl, hb1⟩
  generalize hr : formedB t = res at *
  have HR := Lib.hid hr
  clear hr
  go_wp2
  go_ret
  exact ⟨ret_bool HR.out.symm, belowNext HB.out hb1⟩

/-- Only block p, and what is new, has turned. -/
def Only (p : Nat) (w w' : World) : Prop := w.grownBy w' (some p)
theorem Only.refl (p : Nat) (w : World) : Only p w w := ⟨rfl, rfl, rfl, Nat.le_refl _, fun _ _ _ => rfl⟩
theorem Only.trans {p : Nat} {a b c : World} (h : Only p a b) (k : Only p b c) : Only p a c :=
  ⟨k.os.trans h.os, k.tape.trans h.tape, k.output.trans h.output, Nat.le_trans h.size k.size, fun i hi hn => (k.block i (Nat.lt_of_lt_of_le hi h.size) hn).trans (h.block i hi hn)⟩
theorem Only.of_below {p : Nat} {a b : World} (h : Below a.heap.size a b) : Only p a b := ⟨h.os, h.tape, h.output, h.size, fun i hi _ => h.block i hi⟩
theorem Only.alloc {p : Nat} {a w : World} (h : Only p a w) (o : Obj) : Only p a (w.alloc o) := h.trans (Only.of_below ((Below.refl _ _).alloc (Nat.le_refl _) _))
theorem Only.set {p : Nat} {a w : World} (h : Only p a w) (o : Nat) (u : Value) : Only p a (w.setCell ⟨p, o, none⟩ u) :=
  h.trans ⟨rfl, rfl, rfl, by simp [World.setCell], fun i _ hn => Below.heap_setCell _ _ _ _ (fun e => hn (by rw [e]))⟩
theorem Only.cell {p : Nat} {w w' : World} (h : Only p w w') {g o : Nat} {v : Value} (hc : w.cell? ⟨g, o, none⟩ = some v) (hn : g ≠ p) : w'.cell? ⟨g, o, none⟩ = some v :=
  (World.cell?_of_block (a := ⟨g, o, none⟩) (h.block g (cell_lt hc) (fun e => hn (Option.some.inj e)))).trans hc
theorem Only.up {p : Nat} {w w' : World} (hp : w.heap.size ≤ p) (h : Only p w w') : Below w.heap.size w w' :=
  ⟨h.os, h.tape, h.output, h.size, fun i hi => h.block i hi (fun e => by have := Option.some.inj e; omega)⟩

/-- All blocks below a number, but one. -/
def But (n p : Nat) : Nat → Prop := fun b => b < n ∧ b ≠ p
theorem Node.only {p : Nat} {w w' : World} {v : Value} {t : Tree} (h : Node w (But w.heap.size p) v t) (hb : Only p w w') : Node w' (But w'.heap.size p) v t :=
  h.keep (fun _ hb' => ⟨Nat.lt_of_lt_of_le hb'.1 hb.size, hb'.2⟩) fun b hb' => hb.block b hb'.1 (fun e => hb'.2 (Option.some.inj e))
theorem Kids.only {p : Nat} {w w' : World} {v : Value} {l : List Tree} (h : Kids w (But w.heap.size p) v l) (hb : Only p w w') : Kids w' (But w'.heap.size p) v l :=
  h.keep (fun _ hb' => ⟨Nat.lt_of_lt_of_le hb'.1 hb.size, hb'.2⟩) fun b hb' => hb.block b hb'.1 (fun e => hb'.2 (Option.some.inj e))

/-- A variable of one number. -/
def Cnt (w : World) (p : Nat) (d : Int) : Prop := w.heap[p]? = some (.cells #[.int .i64 d] 3)
theorem Cnt.cell {w : World} {p : Nat} {d : Int} (h : Cnt w p d) : w.cell? ⟨p, 0, none⟩ = some (.int .i64 d) := by unfold Cnt at h; simp [World.cell?, h]
theorem Cnt.frozen {w : World} {p : Nat} {d : Int} (h : Cnt w p d) : w.frozen? ⟨p, 0, none⟩ = false := by unfold Cnt at h; simp [World.frozen?, h]
theorem Cnt.lt {w : World} {p : Nat} {d : Int} (h : Cnt w p d) : p < w.heap.size := cell_lt h.cell
theorem Cnt.set {w : World} {p : Nat} {d : Int} (h : Cnt w p d) (e : Int) : Cnt (w.setCell ⟨p, 0, none⟩ (.int .i64 e)) p e := by
  unfold Cnt at *
  simp [World.setCell, Array.getElem?_modify, h]
theorem Cnt.below {w w' : World} {p : Nat} {d : Int} (h : Cnt w p d) (hb : Below w.heap.size w w') : Cnt w' p d := (hb.block p h.lt).trans h

theorem Cnt.new {w : World} {p : Nat} {d : Int} (hp : w.heap.size = p) (o : Obj) : Cnt ((w.alloc (.cells #[.int .i64 d] 3)).alloc o) p d := by
  subst hp
  exact (Below.heap_alloc _ o _ (by simp)).trans (by show (w.heap.push _)[w.heap.size]? = _; simp)
theorem Only.down {B p : Nat} {w w' : World} (h : Only p w w') (hp : B ≤ p) (hB : B ≤ w.heap.size) : Below B w w' :=
  ⟨h.os, h.tape, h.output, h.size, fun i hi => h.block i (by omega) (fun e => by have := Option.some.inj e; omega)⟩

/-- A closure that holds a counter and itself. -/
def SelfAt2 (w : World) (f : FuncId) (d p : Nat) : Prop := w.cell? ⟨p, 0, none⟩ = some (.func (.func f) #[] #[.pointer (some ⟨d, 0, none⟩), .pointer (some ⟨p, 0, none⟩)])

def DepthSaid (t : Tree) : Prop := ∀ (v : Value) (w : World) (pd p : Nat) (d around : Int), Node w (But w.heap.size pd) v t → weigh t ≤ 1000000 → pd ≠ p → Cnt w pd d → SelfAt2 w 86 pd p →
    0 ≤ around → around ≤ d → d ≤ 2000000000 → around + weigh t ≤ 1000000000 →
    Calls Tryz.prog 86 #[v, .int .i64 around, .pointer (some ⟨pd, 0, none⟩), .pointer (some ⟨p, 0, none⟩)] w fun e w' =>
      e = .returned (.tuple #[]) ∧ Only pd w w' ∧ Cnt w' pd (max d (around + depthB t))

set_option maxHeartbeats 2000000 in
theorem depth_walk : ∀ t, DepthSaid t := by
  intro t
  induction t using Tree.induct_one with
  | h k t m a l ih =>
    have IH := Lib.hid ih
    clear ih
    intro v w pd p d around hN hw hpp hd hp ha0 had hd1 ha1
    have hlen : l.length ≤ 1000000 := by have := length_le_weigh l; simp only [weigh] at hw; omega
    obtain ⟨vm, va, vk, rfl, hm, ha, hl⟩ := hN
    have HL := Lib.hid hl
    have HP := Lib.hid hp
    have HD := Lib.hid hd
    have hdlt := hd.lt
    obtain ⟨A, c, rfl, hlc⟩ := hl.form
    clear hm ha hp hl hd
    simp only [Tree.kind, Tree.text, Tree.kids] at *
    cases hk : isTxt k with
    | true =>
      have HE : Hid ((depthB (.mk k t m a l) : Int) = 0) := Lib.hid (by simp [depthB, hk])
      go_enter Tryz.func86, Tryz.ntmps86
      go_wp2_with fail
      refine (isText_any _ _ _ _ _ _).mono ?_
      rintro e w1 ⟨rfl, hb1⟩
      obtain ⟨c0, c1, c2, c3, c4, hB1, hz1⟩ := box5 hb1
      rw [hk]
      clear hb1 hk
      go_wp2
      refine bodyPost_ret (results_none rfl _ _ _) rfl ?_
      exact ⟨rfl, Only.of_below hB1, by rw [HE.out, Int.add_zero, Int.max_eq_left had]; exact HD.out.below hB1⟩
    | false =>
      have HE : Hid (depthB (.mk k t m a l) = deepB l + 1) := Lib.hid (by simp [depthB, hk])
      go_enter Tryz.func86, Tryz.ntmps86
      go_wp2_with fail
      refine (isText_any _ _ _ _ _ _).mono ?_
      rintro e w1 ⟨rfl, hb1⟩
      obtain ⟨c0, c1, c2, c3, c4, hB1, hz1⟩ := box5 hb1
      rw [hk]
      have HD1 := Lib.hid (HD.out.below hB1)
      have q1 := HD1.out.cell
      have q2 := HD1.out.frozen
      clear hb1 hk
      go_wp2
      generalize hW2 : w1.setCell ⟨pd, 0, none⟩ (.int .i64 (max d (around + 1))) = W2 at *
      have HO2 : Hid (Only pd w W2) := Lib.hid (by subst hW2; exact (Only.of_below hB1).set 0 _)
      have HC2 : Hid (Cnt W2 pd (max d (around + 1))) := Lib.hid (by subst hW2; exact HD1.out.set _)
      clear hW2 c0 c1 c2 c3 c4 q1 q2 HD1 HD hz1 hB1 w1
      go_loopw [17] (fun i wr => ∃ k : Nat, k ≤ l.length ∧ i = .int .i64 k ∧ Only pd w wr ∧ Hid (Cnt wr pd (max d (around + 1 + deepB (l.take k))))) (fun i _ => l.length - (intOf i).toNat)
      case atStart => exact ⟨0, by omega, rfl, HO2.out, Lib.hid (by simpa [deepB] using HC2.out)⟩
      case round =>
        obtain ⟨i, hi, rfl, hor, hcr⟩ := hrel
        by_cases hlt : i < l.length
        · obtain ⟨b, o, rfl, hub, hrow⟩ := HL.out.get hlt
          have hlx : l[i]? = some l[i] := List.getElem?_eq_getElem hlt
          have HTK : Hid (l.take (i + 1) = l.take i ++ [l[i]]) := Lib.hid (List.take_succ_eq_append_getElem hlt)
          generalize hx : l[i] = x at *
          have HIH := Lib.hid (IH.out x (List.mem_of_getElem? hlx))
          have hwx : weigh x + 2 ≤ weigh (.mk k t m a l) := by have := weigh_mem (List.mem_of_getElem? hlx); simp only [weigh]; omega
          obtain ⟨xm, xa, xk, e0, e1, e2, e3, e4, exm, exa, exk⟩ := hrow.node hlx
          have f0 := hor.cell e0 hub.2
          have f1 := hor.cell e1 hub.2
          have f2 := hor.cell e2 hub.2
          have f3 := hor.cell e3 hub.2
          have f4 := hor.cell e4 hub.2
          have HXN : Hid (Node w (But w.heap.size pd) (.agg #[.string x.kind, .string x.text, xm, xa, xk]) x) := Lib.hid ⟨_, _, _, rfl, exm, exa, exk⟩
          have hfp := hor.cell HP.out (Ne.symm hpp)
          have hfl := cell_lt hfp
          obtain ⟨A1, c1, rfl, _⟩ := exm.form
          obtain ⟨A2, c2, rfl, _⟩ := exa.form
          obtain ⟨A3, c3, rfl, _⟩ := exk.form
          clear e0 e1 e2 e3 e4 exm exa exk hx hlx hrow
          have hdb := deep_le_weigh (l.take i)
          have hwl : weighAll (l.take i) ≤ weighAll l := by
            have h := weighAll_append (l.take i) (l.drop i)
            rw [List.take_append_drop] at h; omega
          have hwt : weigh (.mk k t m a l) = k.size + t.size + weighL m + weighP a + weighAll l + 2 := by simp only [weigh]
          have HWT := Lib.hid hwt
          clear hwt
          go_wp2_with fail
          refine (HIH.out _ _ pd p (max d (around + 1 + deepB (l.take i))) (around + 1) (HXN.out.only (hor.alloc _)) (by omega) hpp (hcr.out.below ((Below.refl _ _).alloc (Nat.le_refl _) _))
            ((hor.alloc _).cell HP.out (Ne.symm hpp)) (by omega) (by omega) (by have := HWT.out; omega) (by omega)).mono ?_
          rintro e w2 ⟨rfl, ho2, hc2⟩
          have HC := Lib.hid hc2
          have ho3 := (hor.alloc _).trans ho2
          clear hc2 ho2 f0 f1 f2 f3 f4 hfp
          go_wp2
          refine ⟨⟨i + 1, by omega, by go_num, ho3, Lib.hid ?_⟩, by simp [intOf]; omega⟩
          have h := HC.out
          rw [HTK.out, deepB_append]
          simp only [deepB]
          rw [show max d (around + 1 + (max (deepB (l.take i)) (max (depthB x) 0) : Nat)) = max (max d (around + 1 + (deepB (l.take i) : Int))) (around + 1 + (depthB x : Int)) by omega]
          exact h
        · go_wp2
          go_end0
          refine ⟨rfl, hor, ?_⟩
          have h := hcr.out
          rw [List.take_of_length_le (by omega)] at h
          rw [HE.out, show max d (around + ((deepB l + 1 : Nat) : Int)) = max d (around + 1 + (deepB l : Int)) by omega]
          exact h

theorem Strs.but {w : World} {B p : Nat} {v : Value} {l : List ByteArray} (h : Strs w (Under B) v l) (hp : B ≤ p) : Strs w (But B p) v l := h.keep (fun b hb => ⟨hb, by unfold Under at hb; omega⟩) fun _ _ => rfl
theorem Node.but {w : World} {B p : Nat} {v : Value} {t : Tree} (h : Node w (Under B) v t) (hp : B ≤ p) : Node w (But B p) v t := h.keep (fun b hb => ⟨hb, by unfold Under at hb; omega⟩) fun _ _ => rfl
theorem Kids.but {w : World} {B p : Nat} {v : Value} {l : List Tree} (h : Kids w (Under B) v l) (hp : B ≤ p) : Kids w (But B p) v l := h.keep (fun b hb => ⟨hb, by unfold Under at hb; omega⟩) fun _ _ => rfl
theorem Node.wide {w : World} {B B' p : Nat} {v : Value} {t : Tree} (h : Node w (But B p) v t) (hB : B ≤ B') : Node w (But B' p) v t := h.keep (fun _ hb => ⟨Nat.lt_of_lt_of_le hb.1 hB, hb.2⟩) fun _ _ => rfl
theorem Kids.wide {w : World} {B B' p : Nat} {v : Value} {l : List Tree} (h : Kids w (But B p) v l) (hB : B ≤ B') : Kids w (But B' p) v l := h.keep (fun _ hb => ⟨Nat.lt_of_lt_of_le hb.1 hB, hb.2⟩) fun _ _ => rfl

set_option maxHeartbeats 1000000 in
theorem depth_any (v : Value) (t : Tree) (w : World) (h : Node w (Under w.heap.size) v t) (hw : weigh t ≤ 1000000) :
    Calls Tryz.prog 63 #[v] w fun e w' => e = .returned (.int .i64 (depthB t)) ∧ Below w.heap.size w w' := by
  have hmf : ∀ (fn : Fn) (first cap : Array Value) (w : World), (Instr.makeFunc fn first cap).run Tryz.prog w = .ok (.func fn first cap) w := fun _ _ _ _ => rfl
  have HN := Lib.hid h
  obtain ⟨vm, va, vk, rfl, hm, ha, hl⟩ := h
  clear hm ha hl
  generalize hW1 : ((w.alloc (.cells #[.string t.kind, .string t.text, vm, va, vk] 41)).alloc (.cells #[.int .i64 0] 3)).alloc (.cells #[.func (.func 86) #[] #[.pointer (some ⟨w.heap.size + 1, 0, none⟩), .pointer (some ⟨w.heap.size + 1 + 1, 0, none⟩)]] 113) = W1
  have HB : Hid (Below w.heap.size w W1) := Lib.hid (by subst hW1; exact (((Below.refl _ _).alloc (Nat.le_refl _) _).alloc (by simp) _).alloc (by simp; omega) _)
  have HS : Hid (SelfAt2 W1 86 (w.heap.size + 1) (w.heap.size + 1 + 1)) := Lib.hid (by subst hW1; simp [SelfAt2, go_sem])
  have HC : Hid (Cnt W1 (w.heap.size + 1) 0) := Lib.hid (by subst hW1; exact Cnt.new (by simp) _)
  have HW1 := Lib.hid hW1
  clear hW1
  go_enter Tryz.func63, Tryz.ntmps63
  go_wp2_with fail
  rw [HW1.out]
  refine (depth_walk t _ W1 _ _ 0 0 (((HN.out.below HB.out).but (by omega)).wide HB.out.size) hw (by omega) HC.out HS.out (by omega) (by omega) (by omega) (by omega)).mono ?_
  rintro e w1 ⟨rfl, ho, hc⟩
  have hcell := hc.cell
  have hb1 := HB.out.trans (ho.down (by omega) HB.out.size)
  clear hc ho
  go_wp2
  go_ret
  exact ⟨ret_num (by omega), hb1⟩

end Go.Proofs.YtggoebbfgkebcaaGreatDoor
