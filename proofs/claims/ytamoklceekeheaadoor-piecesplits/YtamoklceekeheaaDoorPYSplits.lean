/-
  PieceSplit walked.
  PieceSplits walked.
  PieceSplits: whatever raw numbers are handed in, the call answers true, and they read behind it as they read before. No condition is typed; the library's two tables of utf8 are as the program's text lays them (the card ties them).
-/
import Derived.Test.YtamoklceekeheaaDoorMC
import Derived.Test.YtamoklceekeheaaDoorMB
import Derived.Test.YtamoklceekeheaaDoorLaid
import Derived.Carry
import Derived.ChangeMaps5
namespace Go.Proofs.YtamoklceekeheaaDoor
open Go.RowKit Go.Sort Go.Maps

theorem splitPost_kids {w w' : World} {e : Ending} {r : Spl} (h : SplitPost w r e w') : ∃ A1 c1 A2 c2, e = .returned (.tuple #[.slice A1 r.2.1.length c1, .slice A2 r.2.2.length c2, .int .i64 (r.1 : Int)]) ∧ Kids w' (Under w'.heap.size) (.slice A1 r.2.1.length c1) r.2.1 ∧ Kids w' (Under w'.heap.size) (.slice A2 r.2.2.length c2) r.2.2 ∧ Below w.heap.size w w' := by
  obtain ⟨v1, v2, rfl, h1, h2, hb⟩ := h
  obtain ⟨A1, c1, rfl, _⟩ := h1.form
  obtain ⟨A2, c2, rfl, _⟩ := h2.form
  exact ⟨A1, c1, A2, c2, rfl, h1.keep (fun _ h => h.2) (fun _ _ => rfl), h2.keep (fun _ h => h.2) (fun _ _ => rfl), hb⟩

section
variable {w : World} {ops : Array Oper} {rest : List Oper} {o : Oper} {a : Act} {Q : Exit → Act → World → Prop}
/-- append of nodes, behind a guard that says yes. -/
theorem wpList_append_guarded (hwn : Region.wanted o (yielded ops a.tmps) = true) (s x : Operand) (ho : o.op = .call { callee := .builtin .append, args := #[s, x], argTypes := #[26, 26] })
    {w0 : World} (v u : Value) (l l' : List Tree) (hs : a.eval s = v) (hx : a.eval x = u) (hown : Own w w0.heap.size (Under w0.heap.size) v l) (hb : Below w0.heap.size w0 w) (hk : Kids w0 (Under w0.heap.size) u l') (hn : l.length + l'.length ≤ 1000000)
    (h : ∀ v' w', Own w' w0.heap.size (Under w0.heap.size) v' (l ++ l') → Below w0.heap.size w0 w' → wpList Tryd.prog ops Q rest (a.put o.dst v') w') : wpList Tryd.prog ops Q (o :: rest) a w :=
  BigFrame.wpList_want hwn fun _ hK => wp_append_nodes s x ho w0.heap.size (Under w0.heap.size) v u l l' hs hx hown (hk.below hb).src (fun b hb' => ⟨Nat.lt_of_lt_of_le hb' hb.size, fun e => by have := (hown.block_ge b e.symm).1; unfold Under at hb'; omega⟩) hn hb.size
    fun v' w' h1 h2 _ => hK _ _ (h v' w' h1 (hb.grown h2 hb.size fun k hk => (hown.block_ge k hk).1))
end

set_option maxHeartbeats 20000000 in
set_option maxRecDepth 100000 in
theorem pieceSplit_walk (v : Value) (l : List Cel) (at_ : Int) (w : World) (h : Cels w (Under w.heap.size) v l) (h0 : -9223372036854775808 ≤ at_) (h1 : at_ ≤ 9223372036854775807) (hT : Tabs w) :
    Calls Tryd.prog 5 #[v, .int .i64 at_] w fun e w' => e = .returned (.bool true) ∧ Below w.heap.size w w' := by
  have HL := Lib.hid h
  have HT := Lib.hid hT
  clear h hT
  go_enter Tryd.func5, Tryd.ntmps5
  go_wp2_with fail
  refine (shown5_any _ HT.out).mono ?_
  rintro e w1 ⟨rfl, hb1⟩
  have HB1 := Lib.hid hb1
  clear hb1
  go_wp2_with fail
  refine (made_any _ l w1 ((HL.out.below HB1.out).more HB1.out.size)).mono ?_
  rintro e w2 ⟨v2, rfl, hk2, hb2⟩
  have HB2 := Lib.hid (belowNext HB1.out hb2)
  have HK2 := Lib.hid (hk2.keep (S' := Under w2.heap.size) (fun _ h => h.2) (fun _ _ => rfl))
  obtain ⟨A2, c2, rfl, _⟩ := hk2.form
  have hw2 := madeB_weigh l
  have HROW := Lib.hid (madeB_ok l)
  generalize madeB l = ks at *
  have htt := total_le_weigh ks
  have HSC := Lib.hid (fun n => split_code ks n)
  have HSW := Lib.hid (fun n => splitB_weigh ks n)
  clear hk2 hb2
  go_wp2_with fail
  refine (total_any _ ks w2 HK2.out (by omega)).mono ?_
  rintro e w3 ⟨rfl, hb3⟩
  have HB3 := Lib.hid hb3
  clear hb3
  have hp1 := pickN_lo at_ ((totalB ks : Int) + 1) (by omega)
  have hp2 := pickN_hi at_ ((totalB ks : Int) + 1) (by omega)
  go_wp2_with fail
  refine (pick_any at_ ((totalB ks : Int) + 1) w3 (by omega) (by omega) h0 h1).mono ?_
  rintro e w3' ⟨rfl, rfl⟩
  obtain ⟨n, hn⟩ : ∃ n : Nat, pickN at_ ((totalB ks : Int) + 1) = (n : Int) := ⟨(pickN at_ ((totalB ks : Int) + 1)).toNat, by omega⟩
  rw [hn] at hp1 hp2 ⊢
  have hnT : n ≤ totalB ks := by omega
  clear hp1 hp2 hn
  go_wp2_with fail
  refine (split_any _ ks n w3 ((HK2.out.below HB3.out).more HB3.out.size) (by omega) (by omega) (HT.out.under (belowNext HB2.out HB3.out))).mono ?_
  intro e w4 hsp
  obtain ⟨B1, d1, B2, d2, rfl, hk1, hk2, hb4⟩ := splitPost_kids hsp
  have hcode := HSC.out n hnT
  have hsw := HSW.out n
  have HPT := Lib.hid (fun A C => parts_of ks none n A C HROW.out)
  have hpair : splitB ks n = ((splitB ks n).1, (splitB ks n).2.1, (splitB ks n).2.2) := rfl
  have herr := splitB_err ks n
  have HB4 := Lib.hid (belowNext HB3.out hb4)
  have HKA := Lib.hid hk1
  have HKC := Lib.hid hk2
  clear hsp hk1 hk2 hb4
  rcases hcode with hc | hc
  · have HP : Hid (Parts none ks n (splitB ks n).2.1 (splitB ks n).2.2) := Lib.hid (HPT.out _ _ (Prod.ext hc rfl))
    rw [hc]
    clear hc hpair herr
    generalize (splitB ks n).2.1 = Ah at *
    generalize (splitB ks n).2.2 = Bh at *
    have hla := length_le_weigh Ah
    have hlb := length_le_weigh Bh
    have hta := total_le_weigh Ah
    have htb := total_le_weigh Bh
    have HTA : Hid (totalB Ah = n) := Lib.hid HP.out.total
    have hall := HP.out.all
    have HJ := Lib.hid HP.out.joins
    have hwA := hsw.1
    have hwB := hsw.2
    obtain ⟨tB, htB⟩ : ∃ k, totalB Bh = k := ⟨_, rfl⟩
    obtain ⟨tK, htK⟩ : ∃ k, totalB ks = k := ⟨_, rfl⟩
    have HTB := Lib.hid htB
    have HTK := Lib.hid htK
    have hsum : n + tB = tK := by have := HTA.out; omega
    have hKB2 : (tK : Int) - (n : Int) = (tB : Int) := by omega
    have HKB2 := Lib.hid hKB2
    have hbb : tB ≤ 1000000 ∧ tK ≤ 1000000 ∧ n ≤ 1000000 ∧ n ≤ tK := by omega
    have HWA : Hid (weighAll Ah ≤ 760 ∧ weighAll Bh ≤ 760) := Lib.hid (by omega)
    have HLA : Hid (Ah.length + Bh.length ≤ 1000000 ∧ Ah.length ≤ 1000000) := Lib.hid (by omega)
    have HWK : Hid (weighAll ks ≤ 760) := Lib.hid hw2
    have HRA : Hid (rowB none Ah = true) := Lib.hid HP.out.ahead
    clear hall hsw htt hta htb hw2 htB htK hKB2 hnT hwA hwB hla hlb HPT HSC HSW
    go_upto_region 9 with fail
    go_wp2_with fail
    refine (total_any _ Ah w4 HKA.out (by have := HWA.out; omega)).mono ?_
    rintro e w5 ⟨rfl, hb5⟩
    rw [HTA.out]
    have HB5 := Lib.hid hb5
    clear hb5
    go_wp2_with fail
    refine (total_any _ Bh w5 ((HKC.out.below HB5.out).more HB5.out.size) (by have := HWA.out; omega)).mono ?_
    rintro e w6 ⟨rfl, hb6⟩
    rw [HTB.out]
    have HB6 := Lib.hid (belowNext HB5.out hb6)
    have HC6 := Lib.hid (belowNext HB4.out HB6.out)
    clear hb6
    go_wp2_with fail
    refine (total_any _ ks w6 ((HK2.out.below HC6.out).more HC6.out.size) (by have := HWK.out; omega)).mono ?_
    rintro e w7 ⟨rfl, hb7⟩
    rw [HTK.out]
    have HB7 := Lib.hid (belowNext HB6.out hb7)
    have HC7 := Lib.hid (belowNext HC6.out hb7)
    clear hb7
    have hq : (tB : Int) = (tK : Int) - (n : Int) := by have := HKB2.out; omega
    have HE8 : Hid (Own (w7.alloc (.cells #[] 28)) w7.heap.size (Under w7.heap.size) (.slice (some ⟨w7.heap.size, 0, none⟩) 0 0) []) := Lib.hid (own_empty (heap_new _ _) (Nat.le_refl _))
    have HB8 : Hid (Below w7.heap.size w7 (w7.alloc (.cells #[] 28))) := Lib.hid ((Below.refl _ _).alloc (Nat.le_refl _) _)
    have HKA7 : Hid (Kids w7 (Under w7.heap.size) (.slice B1 Ah.length d1) Ah) := Lib.hid ((HKA.out.below HB7.out).more HB7.out.size)
    have HKC7 : Hid (Kids w7 (Under w7.heap.size) (.slice B2 Bh.length d2) Bh) := Lib.hid ((HKC.out.below HB7.out).more HB7.out.size)
    have HK7 : Hid (Kids w7 (Under w7.heap.size) (.slice A2 ks.length c2) ks) := Lib.hid ((HK2.out.below HC7.out).more HC7.out.size)
    go_wp2_with (first
      | (at_builtin; refine wpList_append_guarded (by simp [Region.wanted, yielded]) (.tmp 54) (.tmp 55) rfl (.slice (some ⟨w7.heap.size, 0, none⟩) 0 0) (.slice B1 Ah.length d1) [] Ah rfl rfl HE8.out HB8.out HKA7.out (by have := HLA.out; simp; omega) ?_; intro v9 w9 ho9 hb9; have HO9 := Lib.hid ho9; have HB9 := Lib.hid hb9; clear ho9 hb9)
      | (at_builtin; refine wpList_append_guarded (by simp [Region.wanted, yielded]) (.tmp 56) (.tmp 57) rfl v9 (.slice B2 Bh.length d2) ([] ++ Ah) Bh rfl rfl HO9.out HB9.out HKC7.out (by have := HLA.out; simp; omega) ?_; intro v10 w10 ho10 hb10; have HO10 := Lib.hid ho10; have HB10 := Lib.hid hb10; clear ho10 hb10)
      | fail)
    have HKJ : Hid (Kids w10 (Under w10.heap.size) v10 (Ah ++ Bh)) := Lib.hid (by
      have h1 := HO10.out.kids (S' := Under w10.heap.size) (fun b hb => Nat.lt_of_lt_of_le hb HB10.out.size) (fun g hg => (HO10.out.block_ge g hg).2)
      simpa using h1)
    obtain ⟨A10, c10, rfl, _⟩ := HKJ.out.form
    refine (join_any _ (Ah ++ Bh) w10 HKJ.out (by have := HWA.out; rw [weighAll_append]; omega)).mono ?_
    rintro e w11 ⟨v11, rfl, hk11, hb11⟩
    rw [HJ.out] at hk11
    obtain ⟨A11, c11, rfl, _⟩ := hk11.form
    have HK11 := Lib.hid hk11
    have HB11 := Lib.hid (belowNext HC7.out (belowNext HB10.out hb11))
    clear hk11 hb11
    go_wp2_with fail
    refine (sameAll_any _ _ ks w11 HK11.out ((HK2.out.below HB11.out).more HB11.out.size) (by have := HWK.out; omega)).mono ?_
    rintro e w12 ⟨rfl, hb12⟩
    have HB12 := Lib.hid (belowNext HB2.out (belowNext HB11.out hb12))
    clear hb12
    go_wp2
    go_ret
    exact ⟨rfl, HB12.out⟩
  · have he := herr (by rw [hc]; decide)
    have h1 : (splitB ks n).2.1 = [] := congrArg Prod.fst he
    have h2 : (splitB ks n).2.2 = [] := congrArg Prod.snd he
    rw [hc]
    rw [h1, h2] at *
    clear hpair herr he h1 h2 hc hsw HKA HKC
    go_wp2
    go_ret
    exact ⟨rfl, belowNext HB2.out HB4.out⟩
end Go.Proofs.YtamoklceekeheaaDoor

namespace Go.Proofs.YtamoklceekeheaaDoor
open Go.RowKit Go.Sort Go.Maps

set_option maxHeartbeats 20000000 in
set_option maxRecDepth 100000 in
theorem pieceSplits_walk (v : Value) (l : List Cel) (n1 n2 : Int) (w : World) (h : Cels w (Under w.heap.size) v l) (b1 : -9223372036854775808 ≤ n1) (b2 : n1 ≤ 9223372036854775807) (b3 : -9223372036854775808 ≤ n2) (b4 : n2 ≤ 9223372036854775807) (hT : Tabs w) :
    Calls Tryd.prog 9 #[v, .int .i64 n1, .int .i64 n2] w fun e w' => e = .returned (.bool true) ∧ Below w.heap.size w w' := by
  have HL := Lib.hid h
  have HT := Lib.hid hT
  clear h hT
  go_enter Tryd.func9, Tryd.ntmps9
  go_wp2_with fail
  refine (shown5_any _ HT.out).mono ?_
  rintro e w1 ⟨rfl, hb1⟩
  have HB1 := Lib.hid hb1
  clear hb1
  go_wp2_with fail
  refine (made_any _ l w1 ((HL.out.below HB1.out).more HB1.out.size)).mono ?_
  rintro e w2 ⟨v2, rfl, hk2, hb2⟩
  have HB2 := Lib.hid (belowNext HB1.out hb2)
  have HK2 := Lib.hid (hk2.keep (S' := Under w2.heap.size) (fun _ h => h.2) (fun _ _ => rfl))
  obtain ⟨A2, c2, rfl, _⟩ := hk2.form
  have HWK := Lib.hid (madeB_weigh l)
  have HROW := Lib.hid (madeB_ok l)
  generalize madeB l = ks at *
  have htt := total_le_weigh ks
  have HSC := Lib.hid (fun n => split_code ks n)
  have HSW := Lib.hid (fun n => splitB_weigh ks n)
  have HSE := Lib.hid (fun n => splitB_err ks n)
  clear hk2 hb2
  go_wp2_with fail
  refine (total_any _ ks w2 HK2.out (by have := HWK.out; omega)).mono ?_
  rintro e w3 ⟨rfl, hb3⟩
  have HB3 := Lib.hid hb3
  clear hb3
  have hT9 : totalB ks ≤ 760 := by have := HWK.out; omega
  have hp1 := pickN_lo n1 ((totalB ks : Int) + 1) (by omega)
  have hp2 := pickN_hi n1 ((totalB ks : Int) + 1) (by omega)
  have hp3 := pickN_lo n2 ((totalB ks : Int) + 1) (by omega)
  have hp4 := pickN_hi n2 ((totalB ks : Int) + 1) (by omega)
  obtain ⟨x, hx⟩ : ∃ n : Nat, pickN n1 ((totalB ks : Int) + 1) = (n : Int) := ⟨(pickN n1 ((totalB ks : Int) + 1)).toNat, by omega⟩
  obtain ⟨y, hy⟩ : ∃ n : Nat, pickN n2 ((totalB ks : Int) + 1) = (n : Int) := ⟨(pickN n2 ((totalB ks : Int) + 1)).toNat, by omega⟩
  have HX := Lib.hid hx
  have HY := Lib.hid hy
  obtain ⟨a, ha⟩ : ∃ a : Nat, min (x : Int) (y : Int) = (a : Int) := ⟨min x y, by omega⟩
  obtain ⟨b, hb⟩ : ∃ b : Nat, max (x : Int) (y : Int) = (b : Int) := ⟨max x y, by omega⟩
  have HMA := Lib.hid ha
  have HMB := Lib.hid hb
  have hab : a ≤ b := by omega
  have hbT : b ≤ totalB ks := by omega
  have HPN : Hid ((0 : Int) < (totalB ks : Int) + 1 ∧ (totalB ks : Int) + 1 ≤ 1000000) := Lib.hid ⟨by omega, by omega⟩
  clear hp1 hp2 hp3 hp4 hx hy ha hb htt
  generalize hTT : totalB ks = T at *
  have HTT := Lib.hid hTT
  clear hTT
  go_wp2_with fail
  refine (pick_any n1 ((T : Int) + 1) w3 HPN.out.1 HPN.out.2 b1 b2).mono ?_
  rintro e w3' ⟨rfl, rfl⟩
  rw [HX.out]
  go_wp2_with fail
  refine (pick_any n2 ((T : Int) + 1) w3 HPN.out.1 HPN.out.2 b3 b4).mono ?_
  rintro e w3' ⟨rfl, rfl⟩
  rw [HY.out]
  go_wp2_with fail
  refine (pick_any n1 ((T : Int) + 1) w3 HPN.out.1 HPN.out.2 b1 b2).mono ?_
  rintro e w3' ⟨rfl, rfl⟩
  rw [HX.out, HMA.out]
  go_wp2_with fail
  refine (pick_any n2 ((T : Int) + 1) w3 HPN.out.1 HPN.out.2 b3 b4).mono ?_
  rintro e w3' ⟨rfl, rfl⟩
  rw [HY.out]
  go_wp2_with fail
  refine (split_any _ ks a w3 ((HK2.out.below HB3.out).more HB3.out.size) (by have := HWK.out; omega) (by omega) (HT.out.under (belowNext HB2.out HB3.out))).mono ?_
  intro e w4 hsp
  obtain ⟨B1, d1, B2, d2, rfl, hk1, hk2, hb4⟩ := splitPost_kids hsp
  have HB4 := Lib.hid (belowNext HB3.out hb4)
  have HKA := Lib.hid hk1
  have HKD := Lib.hid hk2
  clear hsp hk1 hk2 hb4
  go_wp2_with fail
  rw [HMB.out]
  refine (split_any _ ks b w4 ((HK2.out.below HB4.out).more HB4.out.size) (by have := HWK.out; omega) (by omega) (HT.out.under (belowNext HB2.out HB4.out))).mono ?_
  intro e w5 hsp
  obtain ⟨B3, d3, B4, d4, rfl, hk1, hk2, hb5⟩ := splitPost_kids hsp
  have HB5 := Lib.hid (belowNext HB4.out hb5)
  have HS5 := Lib.hid hb5
  have HKB := Lib.hid hk1
  have HKC := Lib.hid hk2
  clear hsp hk1 hk2 hb5
  have HCA : Hid ((splitB ks a).1 = 0 ∨ (splitB ks a).1 = 10) := Lib.hid (HSC.out a (by have := HTT.out; omega))
  have HCB : Hid ((splitB ks b).1 = 0 ∨ (splitB ks b).1 = 10) := Lib.hid (HSC.out b (by have := HTT.out; omega))
  have hwa := (HSW.out a)
  have hwb := (HSW.out b)
  by_cases hca : (splitB ks a).1 = 0
  · by_cases hcb : (splitB ks b).1 = 0
    · obtain ⟨M, s1, s2, s3, s4, s5, s6, s7⟩ := split_three HROW.out (show splitB ks a = (0, (splitB ks a).2.1, (splitB ks a).2.2) from Prod.ext hca rfl) (show splitB ks b = (0, (splitB ks b).2.1, (splitB ks b).2.2) from Prod.ext hcb rfl) hab
      rw [hca, hcb]
      generalize (splitB ks a).2.1 = Ah at *
      generalize (splitB ks a).2.2 = D at *
      generalize (splitB ks b).2.1 = Bh at *
      generalize (splitB ks b).2.2 = C at *
      have HS1 := Lib.hid s1
      have HS2 := Lib.hid s2
      have hwm := (splitB_weigh D (b - a)).1
      rw [s1] at hwm
      have HWS : Hid (weighAll Ah ≤ 760 ∧ weighAll D ≤ 760 ∧ weighAll Bh ≤ 760 ∧ weighAll C ≤ 760 ∧ weighAll M ≤ 760) := Lib.hid (by have := HWK.out; simp only at hwm; omega)
      obtain ⟨k, hk⟩ : ∃ k : Nat, b - a = k := ⟨_, rfl⟩
      have HKK : Hid ((b : Int) - (a : Int) = (k : Int)) := Lib.hid (by omega)
      have HBK := Lib.hid hk
      have hab2 : a ≤ 1000000 ∧ b ≤ 1000000 := by omega
      clear s1 s2 s3 s4 s5 s6 s7 hwm hwa hwb hca hcb hk hT9 hbT
      go_wp2_with fail
      rw [HKK.out]
      refine (split_any _ D k w5 ((HKD.out.below HS5.out).more HS5.out.size) (by have := HWS.out; omega) (by have := HBK.out; omega) (HT.out.under (belowNext HB2.out HB5.out))).mono ?_
      intro e w6 hsp
      have hs1 := HS1.out
      rw [HBK.out] at hs1
      rw [hs1] at hsp
      obtain ⟨B5, d5, B6, d6, rfl, hk1, hk2, hb6⟩ := splitPost_kids hsp
      have HB6 := Lib.hid (belowNext HB5.out hb6)
      have HS6 := Lib.hid (belowNext HS5.out hb6)
      have HR6 := Lib.hid hb6
      have HKM := Lib.hid hk1
      have HKN := Lib.hid hk2
      clear hsp hk1 hk2 hb6 hs1
      go_wp2_with fail
      refine (split_any _ Bh a w6 ((HKB.out.below HR6.out).more HR6.out.size) (by have := HWS.out; omega) (by omega) (HT.out.under (belowNext HB2.out HB6.out))).mono ?_
      intro e w7 hsp
      rw [HS2.out] at hsp
      obtain ⟨B7, d7, B8, d8, rfl, hk1, hk2, hb7⟩ := splitPost_kids hsp
      have HB7 := Lib.hid (belowNext HB6.out hb7)
      have HS7 := Lib.hid (belowNext HS6.out hb7)
      have HR7 := Lib.hid (belowNext HR6.out hb7)
      have HQ7 := Lib.hid hb7
      have HKP := Lib.hid hk1
      have HKQ := Lib.hid hk2
      clear hsp hk1 hk2 hb7
      go_wp2_with fail
      refine (sameAll_any _ _ Ah w7 ((HKA.out.below HS7.out).more HS7.out.size) HKP.out (by have := HWS.out; omega)).mono ?_
      rintro e w8 ⟨rfl, hb8⟩
      have HB8 := Lib.hid hb8
      clear hb8
      go_wp2_with fail
      refine (sameAll_any _ _ M w8 ((HKM.out.below (belowNext HQ7.out HB8.out)).more (belowNext HQ7.out HB8.out).size) ((HKQ.out.below HB8.out).more HB8.out.size) (by have := HWS.out; omega)).mono ?_
      rintro e w9 ⟨rfl, hb9⟩
      have HB9 := Lib.hid (belowNext HB8.out hb9)
      clear hb9
      go_wp2_with fail
      refine (sameAll_any _ _ C w9 ((HKN.out.below (belowNext HQ7.out HB9.out)).more (belowNext HQ7.out HB9.out).size) ((HKC.out.below (belowNext HR7.out HB9.out)).more (belowNext HR7.out HB9.out).size) (by have := HWS.out; omega)).mono ?_
      rintro e w10 ⟨rfl, hb10⟩
      have HB10 := Lib.hid (belowNext HB2.out (belowNext HB7.out (belowNext HB9.out hb10)))
      clear hb10
      go_wp2
      go_ret
      exact ⟨rfl, HB10.out⟩
    · have hcb' : (splitB ks b).1 = 10 := HCB.out.resolve_left hcb
      rw [hca, hcb']
      clear hca hcb hcb' hwa hwb
      go_wp2
      go_ret
      exact ⟨rfl, belowNext HB2.out HB5.out⟩
  · have hca' : (splitB ks a).1 = 10 := HCA.out.resolve_left hca
    rcases HCB.out with hcb | hcb
    · rw [hca', hcb]
      clear hca hca' hcb hwa hwb
      go_wp2
      go_ret
      exact ⟨rfl, belowNext HB2.out HB5.out⟩
    · rw [hca', hcb]
      clear hca hca' hcb hwa hwb
      go_wp2
      go_ret
      exact ⟨rfl, belowNext HB2.out HB5.out⟩
end Go.Proofs.YtamoklceekeheaaDoor

namespace Go.Proofs.YtamoklceekeheaaDoor
open Go.ChangeShapes Go.WideShapes Go.ChangeAt Go.RowKit Go.Lib Go.ChangeMaps

set_option maxRecDepth 100000 in
theorem pieceSplits_laid (os : Os) (args : Array Value) : laidMet Tryd.prog Rows.pieceSplitsRow.laid ((laidWorld os).forCall (fun _ _ => 0) ⟨#[], args, []⟩).memory :=
  (LaidIn.of_run (l := [("unicode/utf8.acceptRanges", Lib.acceptData), ("unicode/utf8.first", Lib.firstData)]) [1, 0] 8 (by kernel_rfl) (by kernel_rfl) (by kernel_rfl) (by kernel_rfl)).met

set_option maxRecDepth 100000 in
theorem pieceSplits_contract (H : Type) (enc : TypeId × Value → H) (W : World) (base : Nat) (args : Array Value) (ds gs : List (DataW H)) (before : List MemPlace)
    (hval : ∀ (j : Nat) t v, Tryd.f9.params[j]? = some t → args[j]? = some v → Value.okWide Tryd.prog W .any base t v)
    (hW : DataW.Whole enc Tryd.prog Tryd.f9.params.toList Rows.pieceSplitsSpec.vars false W args.toList ds gs before) (hL : Tabs W) :
    Calls Tryd.prog 9 args W fun e W' => ∃ v, e = .returned v ∧ Rows.pieceSplitsSpec.post enc Tryd.prog Tryd.f9 false true false false W args v W' := by
  have hW' := hW
  have hlt : ∀ p ∈ before, p.block < W.heap.size := fun p hp => hW.lt p hp
  obtain ⟨p, q, hA0, hV, rfl, hfz, hnd⟩ := hW
  have hA : DataW.TrodAll enc Tryd.prog W 0 (fun _ => true) true Tryd.f9.params.toList args.toList ds p := hA0
  rw [Tryd.params9] at hA hval
  obtain ⟨v0, v1, v2, d0, d1, d2, p0, p1, p2, hargs, rfl, rfl, h0, h1, h2⟩ := trodAll_three hA
  obtain rfl : args = #[v0, v1, v2] := by cases args; simp_all
  obtain ⟨rfl, rfl⟩ := trodVars_none hV
  obtain ⟨A0, len0, cap0, rfl⟩ := okWide_slice Tryd.underlying22 (hval 0 22 v0 rfl rfl)
  obtain ⟨n1, rfl, rfl, rfl, ww1⟩ := open_int Tryd.underlying3 (hval 1 3 v1 rfl rfl) h1
  obtain ⟨lo1, hi1⟩ := bounds_i64 ww1
  obtain ⟨n2, rfl, rfl, rfl, ww2⟩ := open_int Tryd.underlying3 (hval 2 3 v2 rfl rfl) h2
  obtain ⟨lo2, hi2⟩ := bounds_i64 ww2
  have h0' := h0
  obtain ⟨fuel0, hf0⟩ := h0
  obtain ⟨l0, hl0⟩ := cels_of (by simpa [Value.cells] using hf0)
  refine (pieceSplits_walk _ l0 n1 n2 W hl0 lo1 hi1 lo2 hi2 hL).mono fun e W' ⟨he, hb⟩ => ?_
  subst he
  have e1 : Rows.pieceSplitsSpec.fn H ([d0, .lit (.int .i64 n1), .lit (.int .i64 n2)] ++ []) = { results := [.lit (.bool true)], args := [d0, .lit (.int .i64 n1), .lit (.int .i64 n2)] } := rfl
  refine ⟨_, rfl, _, _, _, [], p0, [], hW', ?_, ?_, ?_, hb.frame _, fun h => by cases h⟩
  · rw [e1]; exact trodAll_mk1 (shut_bool Tryd.underlying4 _)
  · rw [e1]
    have t2 := trodAll_mk3 (Below.trod laidOut (by kernel_rfl) (of_decide_eq_true (by kernel_rfl)) h0' hb (fun x hx => hlt x (by simp [hx]))) (shut_int Tryd.underlying3 ww1) (shut_int Tryd.underlying3 ww2)
    simp only [List.append_nil] at t2
    exact t2
  · rw [e1]; rfl

theorem pieceSplits_reads (os : Os) {H : Type} (enc : TypeId × Value → H) : ∃ places, DataW.whole enc Tryd.prog ((laidWorld os).forCall (fun _ _ => 0) ⟨#[], #[.slice none 0 0, .int .i64 0, .int .i64 0], []⟩).memory Tryd.f9.params.toList Rows.pieceSplitsSpec.vars false #[Value.slice none 0 0, .int .i64 0, .int .i64 0].toList 8 = some ([.nil, .lit (.int .i64 0), .lit (.int .i64 0)], [], places) :=
  ⟨[], by kernel_rfl⟩

set_option maxRecDepth 100000 in
theorem pieceSplits_lifted (os : Os) (started : os.Started) (H : Type) (enc : TypeId × Value → H) (F : Stop.Interp) :
    ReturnsInHanded {} Tryd.checked os 9 .any ((OpenSpec.ofChange Rows.pieceSplitsSpec).preRow enc Tryd.prog Tryd.f9 Rows.pieceSplitsRow.domain false Rows.pieceSplitsRow.laid) (((OpenSpec.ofChange Rows.pieceSplitsSpec).at F).post enc Tryd.prog Tryd.f9 false true false false) := by
  obtain ⟨places, hx⟩ := pieceSplits_reads os enc
  refine returnsInHanded_of_row (C := Tryd.checked) (s := OpenSpec.ofChange Rows.pieceSplitsSpec) own started (by kernel_rfl) Tryd.func9
    (witness_row_at (enc := enc) (C := Tryd.checked) false (laidWorld os) #[.slice none 0 0, .int .i64 0, .int .i64 0] rfl (by kernel_rfl) (by kernel_rfl) (by kernel_rfl)
      (OpenSpec.preRow_of_cond 8 hx (by kernel_rfl) (fun k hk => by cases hk) (by kernel_rfl) (pieceSplits_laid os _))) ?_
  intro W base args ds gs before hval hW _ _ _ hL _ _
  exact pieceSplits_contract H enc W base args ds gs before hval hW (tabs_of (by rw [← first_is, ← accept_is]; exact hL))

theorem pieceSplits_said : Rows.PieceSplitsSaid :=
  OpenClaim.holds_of_cond 9 Tryd.f9 rfl rfl rfl rfl rfl rfl rfl ⟨rfl, rfl, rfl, rfl, rfl⟩ rfl rfl rfl rfl rfl (by kernel_rfl) Tryd.func9 (by kernel_rfl)
    (of_decide_eq_true (by kernel_rfl)) (by unfold Func.isWrapper; first | (rw [if_pos (by decide +kernel)]; kernel_rfl) | (rw [if_neg (by decide +kernel)]; exact ⟨rfl, rfl⟩))
    (fun os started H enc _ F => by rw [OpenClaim.pre_eq_preRow]; exact pieceSplits_lifted os started H enc F)

theorem pieceSplits_plain (f : FuncId) (fn : Func) (hf : Tryd.pinned.checked.prog.funcNamed "diptych/diptychlaw5.PieceSplits" = some f) (hfn : Tryd.pinned.checked.prog.funcs[f]? = some fn) :
    false = Tryd.pinned.checked.prog.looks [] ∧ ∀ (j : Nat) t, fn.params[j]? = some t → Tryd.pinned.checked.prog.wantsStandIn t = false := by
  obtain rfl : f = 9 := Option.some.inj ((show Tryd.prog.funcNamed "diptych/diptychlaw5.PieceSplits" = some 9 by kernel_rfl).symm.trans hf) |>.symm
  obtain rfl : fn = Tryd.f9 := (Option.some.inj (Tryd.func9.symm.trans hfn)).symm
  refine ⟨by kernel_rfl, fun j t ht => ?_⟩
  rw [Tryd.params9] at ht
  have h : t = 22 ∨ t = 3 := by simpa using Array.mem_of_getElem? ht
  rcases h with rfl | rfl
  · exact (show Tryd.prog.wantsStandIn 22 = false by kernel_rfl)
  · exact (show Tryd.prog.wantsStandIn 3 = false by kernel_rfl)

theorem pieceSplits_card : Rows.PieceSplitsCardSaid :=
  Claim7.holds_tied_plain_at .later [] _ _ _ _ pieceSplits_said (fun _ h => by cases h) (by kernel_rfl) (fun _ h => by cases h) pieceSplits_row_tie rfl ⟨rfl, rfl⟩ (by kernel_rfl) rfl pieceSplits_plain (by kernel_rfl)
end Go.Proofs.YtamoklceekeheaaDoor
