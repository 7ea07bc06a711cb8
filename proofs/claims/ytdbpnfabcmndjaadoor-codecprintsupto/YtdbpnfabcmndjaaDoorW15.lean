/-
  What node.Words answers.
-/
import Derived.Test.YtdbpnfabcmndjaaDoorW14
namespace Go.Proofs.YtdbpnfabcmndjaaDoor
open Go.RowKit Go.Sort

/-- The closure of Words, in the variable p: it holds the builder and itself. -/
def SelfW (w : World) (d p : Nat) : Prop := w.heap[p]? = some (.cells #[.func (.func 39) #[] #[.pointer (some ⟨d, 0, none⟩), .pointer (some ⟨p, 0, none⟩)]] 51)
theorem SelfW.cell {w : World} {d p : Nat} (h : SelfW w d p) : w.cell? ⟨p, 0, none⟩ = some (.func (.func 39) #[] #[.pointer (some ⟨d, 0, none⟩), .pointer (some ⟨p, 0, none⟩)]) := by
  unfold SelfW at h; simp [World.cell?, h]
theorem SelfW.rest {w w' : World} {d p : Nat} (h : SelfW w d p) (hk : Rest d w w') (hn : d ≠ p) : SelfW w' d p :=
  hk p _ h (fun e => hn (Option.some.inj e).symm) (fun _ _ e => by injection e with _ e _; exact absurd e (by decide))

theorem heap_at_new (w : World) (o : Obj) {n : Nat} (h : w.heap.size = n) : (w.alloc o).heap[n]? = some o := by
  subst h; show (w.heap.push o)[w.heap.size]? = some o; simp

def WordsSaid (t : Tree) : Prop := ∀ (v : Value) (w : World) (B pd p : Nat) (acc : List UInt8), Node w (Under B) v t → weigh t ≤ 1100000 → acc.length + weigh t ≤ 50000000 → B ≤ w.heap.size → pd ≠ p →
    Buil w B pd acc → SelfW w pd p →
    Calls Tryd.prog 39 #[v, .pointer (some ⟨pd, 0, none⟩), .pointer (some ⟨p, 0, none⟩)] w fun e w' =>
      e = .returned (.tuple #[]) ∧ Buil w' B pd (acc ++ wordsB t) ∧ Below B w w' ∧ Rest pd w w'

theorem wordsAll_take (l : List Tree) (i : Nat) : (wordsAll (l.take i)).length ≤ weighAll l := by
  have h1 := wordsAll_le_weigh (l.take i)
  have h2 := weighAll_take l i
  omega

set_option maxHeartbeats 2000000 in
theorem words_walk : ∀ t, WordsSaid t := by
  intro t
  induction t using Tree.induct_one with
  | h k t m a l ih =>
    have IH := Lib.hid ih
    clear ih
    intro v w B pd p acc hN hw hacc hBw hpp hb hp
    have hlen : l.length ≤ 1100000 := by have := length_le_weigh l; simp only [weigh] at hw; omega
    obtain ⟨vm, va, vk, rfl, hm, ha, hl⟩ := hN
    have HL := Lib.hid hl
    have HP := Lib.hid hp
    have HB := Lib.hid hb
    obtain ⟨A, c, rfl, hlc⟩ := hl.form
    clear hm ha hp hl hb
    simp only [Tree.kind, Tree.text, Tree.kids] at *
    have hwt : weigh (.mk k t m a l) = k.size + t.size + weighL m + weighP a + weighAll l + 2 := by simp only [weigh]
    cases hk : isTxt k with
    | true =>
      have HE : Hid (wordsB (.mk k t m a l) = t.data.toList) := Lib.hid (by simp [wordsB, hk])
      go_enter Tryd.func39, Tryd.ntmps39
      go_wp2_with fail
      refine (isText_any _ _ _ _ _ _).mono ?_
      rintro e w1 ⟨rfl, hb1⟩
      obtain ⟨c0, c1, c2, c3, c4, hB1, hz1⟩ := box5 hb1
      rw [hk]
      clear hb1 hk
      go_wp2_with fail
      refine (write_any B pd acc t w1 (HB.out.below hB1) (by omega) (by omega)).mono ?_
      rintro e w2 ⟨rfl, hb2, hB2, hr2⟩
      have HB2 := Lib.hid hb2
      have HR2 := Lib.hid ((Rest.of_below (b := pd) hB1).trans hr2)
      have HW2 := Lib.hid ((hB1.mono hBw).trans hB2)
      clear hb2 hB2 hr2 hB1 c0 c1 c2 c3 c4
      go_wp2
      refine bodyPost_ret (results_none rfl _ _ _) rfl ?_
      exact ⟨rfl, by rw [HE.out]; exact HB2.out, HW2.out, HR2.out⟩
    | false =>
      have HE : Hid (wordsB (.mk k t m a l) = wordsAll l) := Lib.hid (by simp [wordsB, hk])
      go_enter Tryd.func39, Tryd.ntmps39
      go_wp2_with fail
      refine (isText_any _ _ _ _ _ _).mono ?_
      rintro e w1 ⟨rfl, hb1⟩
      obtain ⟨c0, c1, c2, c3, c4, hB1, hz1⟩ := box5 hb1
      rw [hk]
      clear hb1 hk
      have HB1 := Lib.hid (HB.out.below hB1)
      have HW1 := Lib.hid (hB1.mono hBw)
      have HR1 := Lib.hid (Rest.of_below (b := pd) hB1)
      go_wp2
      clear c0 c1 c2 c3 c4 hB1 hz1
      go_loopw [14] (fun i wr => ∃ k : Nat, k ≤ l.length ∧ i = .int .i64 k ∧ Below B w wr ∧ Hid (Rest pd w wr) ∧ Hid (Buil wr B pd (acc ++ wordsAll (l.take k)))) (fun i _ => l.length - (intOf i).toNat)
      case atStart => exact ⟨0, by omega, rfl, HW1.out, HR1, Lib.hid (by simpa [wordsAll] using HB1.out)⟩
      case round =>
        obtain ⟨i, hi, rfl, hor, hrr, hcr⟩ := hrel
        clear HB1 HW1 HR1 w1
        by_cases hlt : i < l.length
        · obtain ⟨b, o, rfl, hub, hrow⟩ := HL.out.get hlt
          have hlx : l[i]? = some l[i] := List.getElem?_eq_getElem hlt
          have HTK : Hid (l.take (i + 1) = l.take i ++ [l[i]]) := Lib.hid (List.take_succ_eq_append_getElem hlt)
          generalize hx : l[i] = x at *
          have HIH := Lib.hid (IH.out x (List.mem_of_getElem? hlx))
          have hwx := weighAll_take_get l i x HTK.out
          obtain ⟨xm, xa, xk, e0, e1, e2, e3, e4, exm, exa, exk⟩ := hrow.node hlx
          have f0 := (hor.cell (p := ⟨b, o + i * 5, none⟩) hub).trans e0
          have f1 := (hor.cell (p := ⟨b, o + i * 5 + 1, none⟩) hub).trans e1
          have f2 := (hor.cell (p := ⟨b, o + i * 5 + 2, none⟩) hub).trans e2
          have f3 := (hor.cell (p := ⟨b, o + i * 5 + 3, none⟩) hub).trans e3
          have f4 := (hor.cell (p := ⟨b, o + i * 5 + 4, none⟩) hub).trans e4
          have HXN : Hid (Node w (Under B) (.agg #[.string x.kind, .string x.text, xm, xa, xk]) x) := Lib.hid ⟨_, _, _, rfl, exm, exa, exk⟩
          have HFP := Lib.hid (HP.out.rest hrr.out hpp)
          have hfp := HFP.out.cell
          have hfl := cell_lt hfp
          have hbl := cell_lt f0
          obtain ⟨A1, c1, rfl, _⟩ := exm.form
          obtain ⟨A2, c2, rfl, _⟩ := exa.form
          obtain ⟨A3, c3, rfl, _⟩ := exk.form
          clear e0 e1 e2 e3 e4 exm exa exk hx hlx hrow
          have hwl := wordsAll_le_weigh (l.take i)
          have hws := hor.size
          go_wp2_with fail
          generalize hW2 : wr.alloc _ = W2 at *
          have HA : Hid (Below wr.heap.size wr W2) := Lib.hid (by subst hW2; exact (Below.refl _ _).alloc (Nat.le_refl _) _)
          refine (HIH.out _ W2 B pd p (acc ++ wordsAll (l.take i)) (HXN.out.below (hor.trans (HA.out.mono (by omega)))) (by omega) (by rw [List.length_append]; omega) (by have := HA.out.size; omega) hpp (hcr.out.below HA.out)
            (HFP.out.rest (Rest.of_below HA.out) hpp)).mono ?_
          rintro e w2 ⟨rfl, hc2, hb2, hr2⟩
          have HC := Lib.hid hc2
          have HO := Lib.hid (hor.trans ((HA.out.mono (by omega)).trans hb2))
          have HR := Lib.hid (hrr.out.trans ((Rest.of_below HA.out).trans hr2))
          clear hc2 hb2 hr2 hfp hW2 HA f0 f1 f2 f3 f4
          go_wp2
          refine ⟨⟨i + 1, by omega, by go_num, HO.out, HR, Lib.hid ?_⟩, by simp [intOf]; omega⟩
          have h := HC.out
          rw [HTK.out, wordsAll_append]
          simp only [wordsAll, List.append_nil]
          rw [← List.append_assoc]
          exact h
        · go_wp2
          go_end0
          refine ⟨rfl, ?_, hor, hrr.out⟩
          have h := hcr.out
          rw [List.take_of_length_le (by omega)] at h
          rw [HE.out]
          exact h

set_option maxHeartbeats 1100000 in
theorem words_any (v : Value) (t : Tree) (w : World) (h : Node w (Under w.heap.size) v t) (hw : weigh t ≤ 1100000) :
    Calls Tryd.prog 18 #[v] w fun e w' => e = .returned (.string ⟨(wordsB t).toArray⟩) ∧ Below w.heap.size w w' := by
  have hmf : ∀ (fn : Fn) (first cap : Array Value) (w : World), (Instr.makeFunc fn first cap).run Tryd.prog w = .ok (.func fn first cap) w := fun _ _ _ _ => rfl
  have HN := Lib.hid h
  obtain ⟨vm, va, vk, rfl, hm, ha, hl⟩ := h
  clear hm ha hl
  generalize hW1 : ((w.alloc (.cells #[.string t.kind, .string t.text, vm, va, vk] 26)).alloc (.cells #[.pointer none, .slice none 0 0] 50)).alloc (.cells #[.func (.func 39) #[] #[.pointer (some ⟨w.heap.size + 1, 0, none⟩), .pointer (some ⟨w.heap.size + 1 + 1, 0, none⟩)]] 51) = W1
  have HB : Hid (Below w.heap.size w W1) := Lib.hid (by subst hW1; exact (((Below.refl _ _).alloc (Nat.le_refl _) _).alloc (by simp) _).alloc (by simp; omega) _)
  have HZ : Hid (W1.heap.size = w.heap.size + 3) := Lib.hid (by subst hW1; simp)
  have HS : Hid (SelfW W1 (w.heap.size + 1) (w.heap.size + 1 + 1)) := Lib.hid (by subst hW1; exact heap_at_new _ _ (by simp))
  have HI : Hid (Buil W1 (w.heap.size + 1) (w.heap.size + 1) []) := Lib.hid (by
    subst hW1
    have h := (Lib.IsBuilderF.of (Lib.fresh_isBuilder 50 5 (w.alloc (.cells #[.string t.kind, .string t.text, vm, va, vk] 26)))).alloc (.cells #[.func (.func 39) #[] #[.pointer (some ⟨w.heap.size + 1, 0, none⟩), .pointer (some ⟨w.heap.size + 1 + 1, 0, none⟩)]] 51)
    rw [show (w.alloc (.cells #[.string t.kind, .string t.text, vm, va, vk] 26)).heap.size = w.heap.size + 1 by simp] at h
    exact h)
  have HW1 := Lib.hid hW1
  clear hW1
  go_enter Tryd.func18, Tryd.ntmps18
  go_wp2_with fail
  rw [HW1.out]
  refine (words_walk t _ W1 (w.heap.size + 1) _ _ [] ((HN.out.below HB.out).more (by omega)) hw (by simp; omega) (by have := HZ.out; omega) (by omega) HI.out HS.out).mono ?_
  rintro e w1 ⟨rfl, hb1, hB1, _⟩
  have HB1 := Lib.hid hb1
  have HW2 := Lib.hid (HB.out.trans (hB1.mono (by omega)))
  have hz2 : w.heap.size + 1 ≤ w1.heap.size := by have := hB1.size; have := HZ.out; omega
  clear hb1 hB1
  go_wp2_with fail
  refine (string_any (w.heap.size + 1) (w.heap.size + 1) ([] ++ wordsB t) w1 HB1.out hz2).mono ?_
  rintro e w2 ⟨rfl, _, hB2, _⟩
  have HW3 := Lib.hid (HW2.out.trans (hB2.mono (by omega)))
  clear hB2
  go_wp2
  go_ret
  exact ⟨rfl, HW3.out⟩
end Go.Proofs.YtdbpnfabcmndjaaDoor
