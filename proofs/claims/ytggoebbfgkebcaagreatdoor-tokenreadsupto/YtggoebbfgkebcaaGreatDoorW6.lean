/-
  What Total, Size, Check and Right answer.
-/
import Derived.Test.YtggoebbfgkebcaaGreatDoorW5
namespace Go.Proofs.YtggoebbfgkebcaaGreatDoor
open Go.RowKit Go.Sort

theorem undrew {B : Nat} {w w' : World} (h : Below B w.drew w') : Below B w w' := ⟨h.os, h.tape, h.output, h.size, h.block⟩

def TotalSaid (n : Nat) : Prop := ∀ (l : List Tree) (v : Value) (w : World) (pd p : Nat) (d : Int), weighAll l ≤ n → Kids w (But w.heap.size pd) v l → weighAll l ≤ 1000000 → pd ≠ p → Cnt w pd d →
    SelfAt2 w 49 pd p → 0 ≤ d → d + weighAll l ≤ 1000000000 →
    Calls Tryz.prog 49 #[v, .pointer (some ⟨pd, 0, none⟩), .pointer (some ⟨p, 0, none⟩)] w fun e w' => e = .returned (.tuple #[]) ∧ Only pd w w' ∧ Cnt w' pd (d + totalB l)

theorem weighAll_take (l : List Tree) (i : Nat) : weighAll (l.take i) ≤ weighAll l := by
  have h := weighAll_append (l.take i) (l.drop i)
  rw [List.take_append_drop] at h; omega
theorem weighAll_take_get (l : List Tree) (i : Nat) (x : Tree) (h : l.take (i + 1) = l.take i ++ [x]) : weighAll (l.take i) + weigh x ≤ weighAll l := by
  have h1 := weighAll_take l (i + 1)
  rw [h, weighAll_append] at h1
  simp only [weighAll] at h1; omega

set_option maxHeartbeats 2000000 in
theorem total_walk : ∀ n, TotalSaid n := by
  intro n
  induction n using Nat.strongRecOn with
  | ind n ih =>
    have IH := Lib.hid ih
    clear ih
    intro l v w pd p d hn hK hw hpp hd hp h0 h1
    have hlen : l.length ≤ 1000000 := by have := length_le_weigh l; omega
    obtain ⟨A, c, rfl, hlc⟩ := hK.form
    have HL := Lib.hid hK
    have HP := Lib.hid hp
    have HD := Lib.hid hd
    have hdlt := hd.lt
    clear hK hp hd
    go_enter Tryz.func49, Tryz.ntmps49
    go_wp2
    go_loopw [8] (fun i wr => ∃ k : Nat, k ≤ l.length ∧ i = .int .i64 k ∧ Only pd w wr ∧ Hid (Cnt wr pd (d + totalB (l.take k)))) (fun i _ => l.length - (intOf i).toNat)
    case atStart => exact ⟨0, by omega, rfl, Only.refl _ _, Lib.hid (by simpa [totalB] using HD.out)⟩
    case round =>
      obtain ⟨i, hi, rfl, hor, hcr⟩ := hrel
      by_cases hlt : i < l.length
      · obtain ⟨b, o, rfl, hub, hrow⟩ := HL.out.get hlt
        have hlx : l[i]? = some l[i] := List.getElem?_eq_getElem hlt
        have HTK : Hid (l.take (i + 1) = l.take i ++ [l[i]]) := Lib.hid (List.take_succ_eq_append_getElem hlt)
        generalize hx : l[i] = x at *
        have hwx := weighAll_take_get l i x HTK.out
        obtain ⟨xm, xa, xk, e0, e1, e2, e3, e4, exm, exa, exk⟩ := hrow.node hlx
        have f0 := hor.cell e0 hub.2
        have f1 := hor.cell e1 hub.2
        have f2 := hor.cell e2 hub.2
        have f3 := hor.cell e3 hub.2
        have f4 := hor.cell e4 hub.2
        have HXK := Lib.hid exk
        have hfp := hor.cell HP.out (Ne.symm hpp)
        have hfl := cell_lt hfp
        have htl := total_le_weigh (l.take i)
        have hwk := kids_weigh x
        obtain ⟨A1, c1, rfl, _⟩ := exm.form
        obtain ⟨A2, c2, rfl, _⟩ := exa.form
        obtain ⟨A3, c3, rfl, _⟩ := exk.form
        clear e0 e1 e2 e3 e4 exm exa exk hx hlx hrow
        go_wp2_with fail
        refine (isText_any _ _ _ _ _ _).mono ?_
        rintro e w1 ⟨rfl, hb1⟩
        obtain ⟨x0, x1, x2, x3, x4, hbw, hzw⟩ := box5 hb1
        have HC1 := Lib.hid (hcr.out.below hbw)
        have q1 := HC1.out.cell
        have q2 := HC1.out.frozen
        have ho1 := hor.trans (Only.of_below hbw)
        clear hb1 f0 f1 f2 f3 f4
        have hfw := ho1.cell HP.out (Ne.symm hpp)
        have hsx := size_le_weigh x
        have hxt : x.text.size ≤ weigh x := by obtain ⟨k, t, m, a, l⟩ := x; simp only [weigh, Tree.text]; omega
        cases hk : isTxt x.kind with
        | true =>
          have HSX : Hid (sizeB x = Lib.runeCount x.text) := Lib.hid (by obtain ⟨k, t, m, a, l⟩ := x; simp only [Tree.kind, Tree.text] at *; simp [sizeB, hk])
          go_wp2
          go_region_with (go_at_call 51; refine (runes_any _ _ (by omega)).mono ?_; rintro e w2 ⟨rfl, hb2⟩; have hb3 := undrew hb2; have r1 := cell_kept q1 hb3; have r2 := (hb3.frozen (p := ⟨pd, 0, none⟩) (cell_lt q1)).trans q2)
          all_goals
            go_wp2
            have hrc := runeCount_le x.text
            rw [show wrap64 (d + (totalB (l.take i) : Int) + (Lib.runeCount x.text : Int)) = d + (totalB (l.take i) : Int) + (Lib.runeCount x.text : Int) from IntWalk.wrap64_in _ (by omega)]
            refine ⟨⟨i + 1, by omega, by go_num, (ho1.trans (Only.of_below hb3)).set 0 _, Lib.hid ?_⟩, by simp [intOf]; omega⟩
            rw [HTK.out, totalB_append]
            simp only [totalB]
            rw [show d + ((totalB (l.take i) + (sizeB x + 0) : Nat) : Int) = d + (totalB (l.take i) : Int) + (Lib.runeCount x.text : Int) by rw [HSX.out]; omega]
            exact (HC1.out.below hb3).set _
        | false =>
          have HSX : Hid (sizeB x = 2 + totalB x.kids) := Lib.hid (by obtain ⟨k, t, m, a, l⟩ := x; simp only [Tree.kind, Tree.kids] at *; simp [sizeB, hk])
          go_wp2_with fail
          have HW2 : Hid (Only pd w (w1.setCell ⟨pd, 0, none⟩ (.int .i64 (d + totalB (l.take i) + 2)))) := Lib.hid (ho1.set 0 _)
          have HC2 := Lib.hid (HC1.out.set (d + totalB (l.take i) + 2))
          generalize w1.setCell ⟨pd, 0, none⟩ (.int .i64 (d + totalB (l.take i) + 2)) = W2 at *
          refine (IH.out (weighAll x.kids) (by omega) x.kids _ W2 pd p _ (Nat.le_refl _) (HXK.out.only HW2.out) (by omega) hpp HC2.out (HW2.out.cell HP.out (Ne.symm hpp)) (by omega) (by omega)).mono ?_
          rintro e w3 ⟨rfl, ho3, hc3⟩
          have HC3 := Lib.hid hc3
          have HO3 := Lib.hid (HW2.out.trans ho3)
          clear hc3 ho3
          go_wp2
          refine ⟨⟨i + 1, by omega, by go_num, HO3.out, Lib.hid ?_⟩, by simp [intOf]; omega⟩
          rw [HTK.out, totalB_append]
          simp only [totalB]
          rw [show d + ((totalB (l.take i) + (sizeB x + 0) : Nat) : Int) = d + (totalB (l.take i) : Int) + 2 + (totalB x.kids : Int) by rw [HSX.out]; omega]
          exact HC3.out
      · go_wp2
        go_end0
        have h := hcr.out
        rw [List.take_of_length_le (by omega)] at h
        exact ⟨rfl, hor, h⟩

set_option maxHeartbeats 1000000 in
theorem total_any (v : Value) (l : List Tree) (w : World) (h : Kids w (Under w.heap.size) v l) (hw : weighAll l ≤ 1000000) :
    Calls Tryz.prog 27 #[v] w fun e w' => e = .returned (.int .i64 (totalB l)) ∧ Below w.heap.size w w' := by
  have hmf : ∀ (fn : Fn) (first cap : Array Value) (w : World), (Instr.makeFunc fn first cap).run Tryz.prog w = .ok (.func fn first cap) w := fun _ _ _ _ => rfl
  have HN := Lib.hid h
  obtain ⟨A, c, rfl, hlc⟩ := h.form
  clear h
  generalize hW1 : (w.alloc (.cells #[.int .i64 0] 3)).alloc (.cells #[.func (.func 49) #[] #[.pointer (some ⟨w.heap.size, 0, none⟩), .pointer (some ⟨w.heap.size + 1, 0, none⟩)]] 68) = W1
  have HB : Hid (Below w.heap.size w W1) := Lib.hid (by subst hW1; exact ((Below.refl _ _).alloc (Nat.le_refl _) _).alloc (by simp) _)
  have HS : Hid (SelfAt2 W1 49 w.heap.size (w.heap.size + 1)) := Lib.hid (by subst hW1; simp [SelfAt2, go_sem])
  have HC : Hid (Cnt W1 w.heap.size 0) := Lib.hid (by subst hW1; exact Cnt.new rfl _)
  have HW1 := Lib.hid hW1
  clear hW1
  go_enter Tryz.func27, Tryz.ntmps27
  go_wp2_with fail
  rw [HW1.out]
  refine (total_walk (weighAll l) l _ W1 _ _ 0 (Nat.le_refl _) (((HN.out.below HB.out).but (Nat.le_refl _)).wide HB.out.size) hw (by omega) HC.out HS.out (by omega) (by omega)).mono ?_
  rintro e w1 ⟨rfl, ho, hc⟩
  have hcell := hc.cell
  have hb1 := HB.out.trans (ho.down (Nat.le_refl _) HB.out.size)
  clear hc ho
  go_wp2
  go_ret
  exact ⟨ret_num (by omega), hb1⟩

theorem kids_one {w : World} {S : Nat → Prop} {b o : Nat} {t : Tree} {n c : Nat} (hn : n = 1) (hc : 1 ≤ c) (hx : c ≤ maxLen) (hb : S b) (h : NodeAt w S t b o) : Kids w S (.slice (some ⟨b, o, none⟩) n c) [t] := by
  subst hn
  exact ⟨_, c, rfl, hc, hx, .inr ⟨b, o, rfl, hb, by simp only [RowAt]; exact ⟨h, trivial⟩⟩⟩
theorem box5_at {w w1 : World} {S : Nat → Prop} {t : Tree} {vm va vk : Value} {T : TypeId} (hb : Below (w.alloc (.cells #[.string t.kind, .string t.text, vm, va, vk] T)).heap.size (w.alloc (.cells #[.string t.kind, .string t.text, vm, va, vk] T)) w1)
    (hm : Strs w1 S vm t.marks) (ha : Pairs w1 S va t.attrs) (hk : Kids w1 S vk t.kids) : NodeAt w1 S t w.heap.size 0 := by
  obtain ⟨c0, c1, c2, c3, c4, _, _⟩ := box5 hb
  exact (nodeAt_iff t _ _).2 ⟨vm, va, vk, c0, c1, c2, c3, c4, hm, ha, hk⟩

theorem totalB_one (t : Tree) : totalB [t] = sizeB t := by simp [totalB]
theorem weighAll_one (t : Tree) : weighAll [t] = weigh t := by simp [weighAll]

set_option maxHeartbeats 1000000 in
theorem size_any (v : Value) (t : Tree) (w : World) (h : Node w (Under w.heap.size) v t) (hw : weigh t ≤ 1000000) :
    Calls Tryz.prog 64 #[v] w fun e w' => e = .returned (.int .i64 (sizeB t)) ∧ Below w.heap.size w w' := by
  obtain ⟨vm, va, vk, rfl, hm, ha, hl⟩ := h
  have HM := Lib.hid hm
  have HA := Lib.hid ha
  have HL := Lib.hid hl
  clear hm ha hl
  go_enter Tryz.func64, Tryz.ntmps64
  go_wp2_with fail
  have HB : Hid (Below w.heap.size w ((w.alloc (.cells #[.string t.kind, .string t.text, vm, va, vk] 41)).alloc (.cells #[.string t.kind, .string t.text, vm, va, vk] 41))) :=
    Lib.hid (((Below.refl _ _).alloc (Nat.le_refl _) _).alloc (by simp) _)
  have hz : ((w.alloc (.cells #[.string t.kind, .string t.text, vm, va, vk] 41)).alloc (.cells #[.string t.kind, .string t.text, vm, va, vk] 41)).heap.size = w.heap.size + 2 := by simp
  have hat : NodeAt ((w.alloc (.cells #[.string t.kind, .string t.text, vm, va, vk] 41)).alloc (.cells #[.string t.kind, .string t.text, vm, va, vk] 41)) (Under (w.heap.size + 2)) t (w.heap.size + 1) 0 := by
    have h := box5_at (w := w.alloc (.cells #[.string t.kind, .string t.text, vm, va, vk] 41)) (Below.refl _ _) ((HM.out.below HB.out).more (B' := w.heap.size + 2) (by omega)) ((HA.out.below HB.out).more (by omega)) ((HL.out.below HB.out).more (by omega))
    simpa using h
  generalize (w.alloc (.cells #[.string t.kind, .string t.text, vm, va, vk] 41)).alloc (.cells #[.string t.kind, .string t.text, vm, va, vk] 41) = W2 at *
  refine (total_any _ [t] W2 (kids_one rfl (Nat.le_refl _) (by unfold maxLen; omega) (by unfold Under; omega) (by rw [hz]; exact hat)) (by rw [weighAll_one]; exact hw)).mono ?_
  rintro e w1 ⟨rfl, hb1⟩
  have hb2 := belowNext HB.out hb1
  rw [totalB_one]
  clear hat hb1 hz
  go_wp2
  go_ret
  exact ⟨rfl, hb2⟩

set_option maxHeartbeats 1000000 in
theorem check_any (v : Value) (t : Tree) (w : World) (h : Node w (Under w.heap.size) v t) (hw : weigh t ≤ 1000000) (hT : Tabs w) :
    Calls Tryz.prog 36 #[v] w fun e w' => e = .returned (.int .i64 (checkB t)) ∧ Below w.heap.size w w' := by
  have HN := Lib.hid h
  have HT := Lib.hid hT
  obtain ⟨vm, va, vk, rfl, hm, ha, hl⟩ := h
  clear hm ha hl hT
  have hb0 : Below w.heap.size w (w.alloc (.cells #[.string t.kind, .string t.text, vm, va, vk] 41)) := (Below.refl _ _).alloc (Nat.le_refl _) _
  have hsz := size_le_weigh t
  have hdp := depth_le_weigh t
  go_enter Tryz.func36, Tryz.ntmps36
  go_wp2_with fail
  refine (wellFormed_any _ t _ ((HN.out.below hb0).more hb0.size) hw (HT.out.below hb0)).mono ?_
  rintro e w1 ⟨rfl, hb1⟩
  obtain ⟨c0, c1, c2, c3, c4, hB1, hz1⟩ := box5 hb1
  clear hb1 hb0
  cases hf : formedB t with
  | false =>
    have HF : Hid (checkB t = 2) := Lib.hid (by simp [checkB, hf])
    clear hf
    go_wp2
    go_ret
    exact ⟨ret_num HF.out.symm, hB1⟩
  | true =>
    have HF : Hid (checkB t = if 40 < depthB t then 4 else if 4000 < sizeB t then 5 else 0) := Lib.hid (by simp [checkB, hf])
    clear hf
    go_wp2_with fail
    refine (depth_any _ t _ ((HN.out.below hB1).more hB1.size) hw).mono ?_
    rintro e w2 ⟨rfl, hb2⟩
    have d0 := cell_kept c0 hb2
    have d1 := cell_kept c1 hb2
    have d2 := cell_kept c2 hb2
    have d3 := cell_kept c3 hb2
    have d4 := cell_kept c4 hb2
    have hB2 := belowNext hB1 hb2
    clear c0 c1 c2 c3 c4 hb2 hB1
    by_cases h40 : 40 < depthB t
    · rw [if_pos h40] at HF
      go_wp2
      go_ret
      exact ⟨ret_num HF.out.symm, hB2⟩
    · rw [if_neg h40] at HF
      have h40' : decide (40 < (depthB t : Int)) = false := by simp; omega
      go_wp2_with fail
      refine (size_any _ t _ ((HN.out.below hB2).more hB2.size) hw).mono ?_
      rintro e w3 ⟨rfl, hb3⟩
      have hB3 := belowNext hB2 hb3
      clear d0 d1 d2 d3 d4 hb3 hB2
      by_cases h4 : 4000 < sizeB t
      · rw [if_pos h4] at HF
        go_wp2
        go_ret
        exact ⟨ret_num HF.out.symm, hB3⟩
      · rw [if_neg h4] at HF
        go_wp2
        go_ret
        exact ⟨ret_num HF.out.symm, hB3⟩

end Go.Proofs.YtggoebbfgkebcaaGreatDoor
