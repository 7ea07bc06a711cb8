/-
  PieceSplit walked.
-/
import Derived.Test.YtamoklceekeheaaDoorMC
import Derived.Test.YtamoklceekeheaaDoorMB
namespace Go.Proofs.YtamoklceekeheaaDoor
open Go.RowKit Go.Sort Go.Maps

theorem splitPost_kids {w w' : World} {e : Ending} {r : Spl} (h : SplitPost w r e w') : ∃ A1 c1 A2 c2, e = .returned (.tuple #[.slice A1 r.2.1.length c1, .slice A2 r.2.2.length c2, .int .i64 (r.1 : Int)]) ∧ Kids w' (Under w'.heap.size) (.slice A1 r.2.1.length c1) r.2.1 ∧ Kids w' (Under w'.heap.size) (.slice A2 r.2.2.length c2) r.2.2 ∧ Below w.heap.size w w' := by
  obtain ⟨v1, v2, rfl, h1, h2, hb⟩ := h
  obtain ⟨A1, c1, rfl, _⟩ := h1.form
  obtain ⟨A2, c2, rfl, _⟩ := h2.form
  exact ⟨A1, c1, A2, c2, rfl, h1.keep (fun _ h => h.2) (fun _ _ => rfl), h2.keep (fun _ h => h.2) (fun _ _ => rfl), hb⟩

section
variable {w : World} {ops : Array Oper} {rest : List Oper} {o : Oper} {a : Act} {Q : Exit → Act → World → Prop}
/-- append of nodes, behind a guard that says yes. -/
theorem wpList_append_guarded (hwn : Region.wanted o (yielded ops a.tmps) = true) (s x : Operand) (ho : o.op = .call { callee := .builtin .append, args := #[s, x], argTypes := #[26, 26] })
    {w0 : World} (v u : Value) (l l' : List Tree) (hs : a.eval s = v) (hx : a.eval x = u) (hown : Own w w0.heap.size (Under w0.heap.size) v l) (hb : Below w0.heap.size w0 w) (hk : Kids w0 (Under w0.heap.size) u l') (hn : l.length + l'.length ≤ 1000000)
    (h : ∀ v' w', Own w' w0.heap.size (Under w0.heap.size) v' (l ++ l') → Below w0.heap.size w0 w' → wpList Tryd.prog ops Q rest (a.put o.dst v') w') : wpList Tryd.prog ops Q (o :: rest) a w :=
  BigFrame.wpList_want hwn fun _ hK => wp_append_nodes s x ho w0.heap.size (Under w0.heap.size) v u l l' hs hx hown (hk.below hb).src (fun b hb' => ⟨Nat.lt_of_lt_of_le hb' hb.size, fun e => by have := (hown.block_ge b e.symm).1; unfold Under at hb'; omega⟩) hn hb.size
    fun v' w' h1 h2 _ => hK _ _ (h v' w' h1 (hb.grown h2 hb.size fun k hk => (hown.block_ge k hk).1))
end

set_option maxHeartbeats 20000000 in
set_option maxRecDepth 100000 in
theorem pieceSplit_walk (v : Value) (l : List Cel) (at_ : Int) (w : World) (h : Cels w (Under w.heap.size) v l) (h0 : -9223372036854775808 ≤ at_) (h1 : at_ ≤ 9223372036854775807) (hT : Tabs w) :
    Calls Tryd.prog 5 #[v, .int .i64 at_] w fun e w' => e = .returned (.bool true) ∧ Below w.heap.size w w' := by
  have HL := Lib.hid h
  have HT := Lib.hid hT
  clear h hT
  go_enter Tryd.func5, Tryd.ntmps5
  go_wp2_with fail
  refine (shown5_any _ HT.out).mono ?_
  rintro e w1 ⟨rfl, hb1⟩
  have HB1 := Lib.hid hb1
  clear hb1
  go_wp2_with fail
  refine (made_any _ l w1 ((HL.out.below HB1.out).more HB1.out.size)).mono ?_
  rintro e w2 ⟨v2, rfl, hk2, hb2⟩
  have HB2 := Lib.hid (belowNext HB1.out hb2)
  have HK2 := Lib.hid (hk2.keep (S' := Under w2.heap.size) (fun _ h => h.2) (fun _ _ => rfl))
  obtain ⟨A2, c2, rfl, _⟩ := hk2.form
  have hw2 := madeB_weigh l
  have HROW := Lib.hid (madeB_ok l)
  generalize madeB l = ks at *
  have htt := total_le_weigh ks
  have HSC := Lib.hid (fun n => split_code ks n)
  have HSW := Lib.hid (fun n => splitB_weigh ks n)
  clear hk2 hb2
  go_wp2_with fail
  refine (total_any _ ks w2 HK2.out (by omega)).mono ?_
  rintro e w3 ⟨rfl, hb3⟩
  have HB3 := Lib.hid hb3
  clear hb3
  have hp1 := pickN_lo at_ ((totalB ks : Int) + 1) (by omega)
  have hp2 := pickN_hi at_ ((totalB ks : Int) + 1) (by omega)
  go_wp2_with fail
  refine (pick_any at_ ((totalB ks : Int) + 1) w3 (by omega) (by omega) h0 h1).mono ?_
  rintro e w3' ⟨rfl, rfl⟩
  obtain ⟨n, hn⟩ : ∃ n : Nat, pickN at_ ((totalB ks : Int) + 1) = (n : Int) := ⟨(pickN at_ ((totalB ks : Int) + 1)).toNat, by omega⟩
  rw [hn] at hp1 hp2 ⊢
  have hnT : n ≤ totalB ks := by omega
  clear hp1 hp2 hn
  go_wp2_with fail
  refine (split_any _ ks n w3 ((HK2.out.below HB3.out).more HB3.out.size) (by omega) (by omega) (HT.out.under (belowNext HB2.out HB3.out))).mono ?_
  intro e w4 hsp
  obtain ⟨B1, d1, B2, d2, rfl, hk1, hk2, hb4⟩ := splitPost_kids hsp
  have hcode := HSC.out n hnT
  have hsw := HSW.out n
  have HPT := Lib.hid (fun A C => parts_of ks none n A C HROW.out)
  have hpair : splitB ks n = ((splitB ks n).1, (splitB ks n).2.1, (splitB ks n).2.2) := rfl
  have herr := splitB_err ks n
  have HB4 := Lib.hid (belowNext HB3.out hb4)
  have HKA := Lib.hid hk1
  have HKC := Lib.hid hk2
  clear hsp hk1 hk2 hb4
  rcases hcode with hc | hc
  · have HP : Hid (Parts none ks n (splitB ks n).2.1 (splitB ks n).2.2) := Lib.hid (HPT.out _ _ (Prod.ext hc rfl))
    rw [hc]
    clear hc hpair herr
    generalize (splitB ks n).2.1 = Ah at *
    generalize (splitB ks n).2.2 = Bh at *
    have hla := length_le_weigh Ah
    have hlb := length_le_weigh Bh
    have hta := total_le_weigh Ah
    have htb := total_le_weigh Bh
    have HTA : Hid (totalB Ah = n) := Lib.hid HP.out.total
    have hall := HP.out.all
    have HJ := Lib.hid HP.out.joins
    have hwA := hsw.1
    have hwB := hsw.2
    obtain ⟨tB, htB⟩ : ∃ k, totalB Bh = k := ⟨_, rfl⟩
    obtain ⟨tK, htK⟩ : ∃ k, totalB ks = k := ⟨_, rfl⟩
    have HTB := Lib.hid htB
    have HTK := Lib.hid htK
    have hsum : n + tB = tK := by have := HTA.out; omega
    have hKB2 : (tK : Int) - (n : Int) = (tB : Int) := by omega
    have HKB2 := Lib.hid hKB2
    have hbb : tB ≤ 1000000 ∧ tK ≤ 1000000 ∧ n ≤ 1000000 ∧ n ≤ tK := by omega
    have HWA : Hid (weighAll Ah ≤ 760 ∧ weighAll Bh ≤ 760) := Lib.hid (by omega)
    have HLA : Hid (Ah.length + Bh.length ≤ 1000000 ∧ Ah.length ≤ 1000000) := Lib.hid (by omega)
    have HWK : Hid (weighAll ks ≤ 760) := Lib.hid hw2
    have HRA : Hid (rowB none Ah = true) := Lib.hid HP.out.ahead
    clear hall hsw htt hta htb hw2 htB htK hKB2 hnT hwA hwB hla hlb HPT HSC HSW
    go_upto_region 9 with fail
    go_wp2_with fail
    refine (total_any _ Ah w4 HKA.out (by have := HWA.out; omega)).mono ?_
    rintro e w5 ⟨rfl, hb5⟩
    rw [HTA.out]
    have HB5 := Lib.hid hb5
    clear hb5
    go_wp2_with fail
    refine (total_any _ Bh w5 ((HKC.out.below HB5.out).more HB5.out.size) (by have := HWA.out; omega)).mono ?_
    rintro e w6 ⟨rfl, hb6⟩
    rw [HTB.out]
    have HB6 := Lib.hid (belowNext HB5.out hb6)
    have HC6 := Lib.hid (belowNext HB4.out HB6.out)
    clear hb6
    go_wp2_with fail
    refine (total_any _ ks w6 ((HK2.out.below HC6.out).more HC6.out.size) (by have := HWK.out; omega)).mono ?_
    rintro e w7 ⟨rfl, hb7⟩
    rw [HTK.out]
    have HB7 := Lib.hid (belowNext HB6.out hb7)
    have HC7 := Lib.hid (belowNext HC6.out hb7)
    clear hb7
    have hq : (tB : Int) = (tK : Int) - (n : Int) := by have := HKB2.out; omega
    have HE8 : Hid (Own (w7.alloc (.cells #[] 28)) w7.heap.size (Under w7.heap.size) (.slice (some ⟨w7.heap.size, 0, none⟩) 0 0) []) := Lib.hid (own_empty (heap_new _ _) (Nat.le_refl _))
    have HB8 : Hid (Below w7.heap.size w7 (w7.alloc (.cells #[] 28))) := Lib.hid ((Below.refl _ _).alloc (Nat.le_refl _) _)
    have HKA7 : Hid (Kids w7 (Under w7.heap.size) (.slice B1 Ah.length d1) Ah) := Lib.hid ((HKA.out.below HB7.out).more HB7.out.size)
    have HKC7 : Hid (Kids w7 (Under w7.heap.size) (.slice B2 Bh.length d2) Bh) := Lib.hid ((HKC.out.below HB7.out).more HB7.out.size)
    have HK7 : Hid (Kids w7 (Under w7.heap.size) (.slice A2 ks.length c2) ks) := Lib.hid ((HK2.out.below HC7.out).more HC7.out.size)
    go_wp2_with (first
      | (at_builtin; refine wpList_append_guarded (by simp [Region.wanted, yielded]) (.tmp 54) (.tmp 55) rfl (.slice (some ⟨w7.heap.size, 0, none⟩) 0 0) (.slice B1 Ah.length d1) [] Ah rfl rfl HE8.out HB8.out HKA7.out (by have := HLA.out; simp; omega) ?_; intro v9 w9 ho9 hb9; have HO9 := Lib.hid ho9; have HB9 := Lib.hid hb9; clear ho9 hb9)
      | (at_builtin; refine wpList_append_guarded (by simp [Region.wanted, yielded]) (.tmp 56) (.tmp 57) rfl v9 (.slice B2 Bh.length d2) ([] ++ Ah) Bh rfl rfl HO9.out HB9.out HKC7.out (by have := HLA.out; simp; omega) ?_; intro v10 w10 ho10 hb10; have HO10 := Lib.hid ho10; have HB10 := Lib.hid hb10; clear ho10 hb10)
      | fail)
    have HKJ : Hid (Kids w10 (Under w10.heap.size) v10 (Ah ++ Bh)) := Lib.hid (by
      have h1 := HO10.out.kids (S' := Under w10.heap.size) (fun b hb => Nat.lt_of_lt_of_le hb HB10.out.size) (fun g hg => (HO10.out.block_ge g hg).2)
      simpa using h1)
    obtain ⟨A10, c10, rfl, _⟩ := HKJ.out.form
    refine (join_any _ (Ah ++ Bh) w10 HKJ.out (by have := HWA.out; rw [weighAll_append]; omega)).mono ?_
    rintro e w11 ⟨v11, rfl, hk11, hb11⟩
    rw [HJ.out] at hk11
    obtain ⟨A11, c11, rfl, _⟩ := hk11.form
    have HK11 := Lib.hid hk11
    have HB11 := Lib.hid (belowNext HC7.out (belowNext HB10.out hb11))
    clear hk11 hb11
    go_wp2_with fail
    refine (sameAll_any _ _ ks w11 HK11.out ((HK2.out.below HB11.out).more HB11.out.size) (by have := HWK.out; omega)).mono ?_
    rintro e w12 ⟨rfl, hb12⟩
    have HB12 := Lib.hid (belowNext HB2.out (belowNext HB11.out hb12))
    clear hb12
    go_wp2
    go_ret
    exact ⟨rfl, HB12.out⟩
  · have he := herr (by rw [hc]; decide)
    have h1 : (splitB ks n).2.1 = [] := congrArg Prod.fst he
    have h2 : (splitB ks n).2.2 = [] := congrArg Prod.snd he
    rw [hc]
    rw [h1, h2] at *
    clear hpair herr he h1 h2 hc hsw HKA HKC
    go_wp2
    go_ret
    exact ⟨rfl, belowNext HB2.out HB4.out⟩
end Go.Proofs.YtamoklceekeheaaDoor
