/-
  The reader's loop walked: read answers as its plain function.
  Parse and ParseAll answer as their plain functions.
  What is written is flat; a document that is cut is none. Plain facts.
  What is wrong with tokens: the level of what is open; a token that is none; a row of tokens cut, and one with another token in it (no program is named here but for the type of tokens).
  What token.Of answers.
  What token.Same and token.Back answer.
  PrintAll and ParseAll: what they answer.
-/
import Derived.Test.YtaepolgmojkglaaDoorME
import Derived.Test.YtaepolgmojkglaaDoorMD
import Derived.Test.YtaepolgmojkglaaDoorMB
import Derived.Lib.QuietBelow
import Derived.Laws.StructEq
namespace Go.Proofs.YtaepolgmojkglaaDoor
open Go.RowKit Go.Sort Go.Maps

theorem one_len (v : Value) (n : Nat) : Ending.returned (.tuple #[v, .bool ((n : Int) + 1 == 1)]) = .returned (.tuple #[v, .bool (!false && (n + 1 == 1))]) := by
  have : ((n : Int) + 1 == 1) = (n + 1 == 1) := by
    rw [Bool.eq_iff_iff]; simp; omega
  rw [this]; rfl

set_option maxHeartbeats 20000000 in
set_option maxRecDepth 100000 in
theorem read_any (s : ByteArray) (w : World) (hs : s.size ≤ 100000) (hT : Tabs w) :
    Calls Tryd.prog 40 #[.string s] w fun e w' => ∃ v, e = .returned (.tuple #[v, .bool (readL s.data.toList).2]) ∧ Kids w' (From w.heap.size w'.heap.size) v (readL s.data.toList).1 ∧ Below w.heap.size w w' := by
  have HT := Lib.hid hT
  clear hT
  go_enter Tryd.func40, Tryd.ntmps40
  go_wp2_with fail
  go_step3
  go_wp2_with fail
  refine (around_any none 0 0 _).mono ?_
  rintro e w1 ⟨rfl, hb1⟩
  have hb0 : Below w.heap.size w (w.alloc (.cells #[.string s, .bool false] 90)) := (Below.refl _ _).alloc (Nat.le_refl _) _
  have hR0 : Rd (w.alloc (.cells #[.string s, .bool false] 90)) w.heap.size s.data.toList false := heap_alloc_new w _
  have HR1 := Lib.hid (hR0.below hb1)
  have hz0 : (w.alloc (.cells #[.string s, .bool false] 90)).heap.size = w.heap.size + 1 := by simp
  have HB1 := Lib.hid (hb0.trans (hb1.mono (by omega)))
  have hz1 := hb1.size
  rw [hz0] at hz1
  clear hb0 hR0 hb1 hz0
  go_wp2
  go_step3
  go_wp2
  go_loopg [5] s.data.toList.length (fun g v wx => ReadRel w w.heap.size s.data.toList g v wx)
  case atStart =>
    have hbl : Below w1.heap.size w1 (w1.alloc (.cells #[.string ⟨#[120]⟩, .string ⟨#[]⟩, .slice none 0 0, .slice none 0 0, .slice none 0 0] 47)) := (Below.refl _ _).alloc (Nat.le_refl _) _
    have hlz : (w1.alloc (.cells #[.string ⟨#[120]⟩, .string ⟨#[]⟩, .slice none 0 0, .slice none 0 0, .slice none 0 0] 47)).heap.size = w1.heap.size + 1 := by simp
    refine ⟨fun _ => 0, around [], [], s.data.toList, false, Nat.le_refl _, rfl, by simp only [weighAll, around, weigh, weighL, weighP, List.map_nil, List.sum_nil]; rw [show (⟨#[120]⟩ : ByteArray).size = 1 from rfl, show (⟨#[]⟩ : ByteArray).size = 0 from rfl]; omega, HR1.out.below hbl, ⟨⟨[.string ⟨#[120]⟩, .string ⟨#[]⟩, .slice none 0 0, .slice none 0 0, .slice none 0 0], World.ownsRow_lit w1 _ 1 (by omega) (by unfold maxLen; omega) rfl, ?_⟩, fun _ _ => rfl, fun _ _ => rfl⟩, rfl, fun _ _ => rfl, HB1.out.trans (hbl.mono (by omega)), Nat.le_refl _⟩
    exact ⟨_, _, _, [], rfl, ⟨strs_nil, pairs_nil, ⟨[], World.ownsRow_nil _ _ _ _, rfl⟩, fun g e => by cases e⟩, rfl⟩
  case round =>
    obtain ⟨own, top, st, l, x, hlg, hrd, hwt, hR, hO, hoR, hob, hB, hb⟩ := hrel
    obtain ⟨O, cap, vm, va, vk, ys, rfl, hOb, hOz, hoO, hnc, hcap, hop, hrow, hoc, hys⟩ := hO.top
    have HRD := Lib.hid hrd
    have HR := Lib.hid hR
    have HOP := Lib.hid hO
    have HB := Lib.hid hB
    have HOB := Lib.hid hob
    clear hrd hO hB hob
    cases l with
    | nil =>
      obtain ⟨A, m, cc, c4, hk⟩ := first_kids HOP.out (by simp) HOB.out
      have c1 := hR.wrong
      have c0 := hR.rest
      have hfin := HRD.out
      rw [readN_nil] at hfin
      have HK := Lib.hid hk
      have hq2 : (readL s.data.toList).2 = (!x && (st.length + 1 == 1)) := by unfold readL; rw [← hfin]; rfl
      have hq1 : (readL s.data.toList).1 = (((top :: st).getLast?.map Tree.kids).getD []) := by unfold readL; rw [← hfin]
      have HQ1 := Lib.hid hq1
      have HQ2 := Lib.hid hq2
      have i0 : (0 : Int) < ((st.length + 1 : Nat) : Int) := by omega
      clear hk hfin hq1 hq2 hop hrow hoc hys hR hwt
      cases x with
      | true =>
        go_wp2
        go_quiet (fail)
        go_wp2
        rw [Exit.noGoto_ret]
        refine bodyPost_ret (results_tmp2 rfl _ _ _) rfl ⟨_, by rw [HQ2.out]; rfl, ?_, HB.out.trans ⟨rfl, rfl, rfl, Nat.le_refl _, fun _ _ => rfl⟩⟩
        rw [HQ1.out]; exact HK.out.keep (fun _ h => h) fun _ _ => rfl
      | false =>
        go_wp2
        go_quiet (fail)
        go_wp2
        rw [Exit.noGoto_ret]
        refine bodyPost_ret (results_tmp2 rfl _ _ _) rfl ⟨_, by rw [HQ2.out]; exact one_len _ st.length, ?_, HB.out.trans ⟨rfl, rfl, rfl, Nat.le_refl _, fun _ _ => rfl⟩⟩
        rw [HQ1.out]; exact HK.out.keep (fun _ h => h) fun _ _ => rfl
    | cons c l =>
      obtain ⟨g, rfl⟩ : ∃ g, gk = g + 1 := ⟨gk - 1, by simp only [List.length_cons] at hlg; omega⟩
      have hwn := len_weigh (top :: st)
      have hsl : s.data.toList.length = s.size := by rw [Lib.size_eq]
      have hwt' := hwt
      simp only [List.length_cons] at hwn hwt'
      have hstl : st.length ≤ 1000000 := by omega
      have hll : (c :: l).length ≤ 10000000 := by simp only [List.length_cons]; omega
      have HWT := Lib.hid hwt
      have HLG := Lib.hid hlg
      have HLL := Lib.hid hll
      obtain ⟨S, hS⟩ : ∃ S : ByteArray, S = ⟨(c :: l).toArray⟩ := ⟨_, rfl⟩
      have hS0 : 0 < S.size := by rw [hS]; simp [ByteArray.size]
      have hSc := first_byte c l S hS hS0
      have c0 := hR.rest
      rw [← hS] at c0
      have hSe : S.toList.isEmpty = false := by rw [Lib.toList_data, hS]; rfl
      obtain ⟨A, ck, ks, rfl, hkr, hkc⟩ := opens_row hop
      have hstg : Stage w wr own O cap w.heap.size top st vm va (.slice A top.kids.length ck) ys ks :=
        ⟨hop, hrow, hoc, hys, hoO, hOb, hOz, HOP.out.2.2, hoR, rd_ne_row hR hrow O rfl, HOB.out, HB.out, Nat.le_refl _, hR.lt, hkc, hkr⟩
      have HST := Lib.hid hstg
      have hkn : top.kids.length + 1 ≤ 100000000 := by
        have h1 := len_weigh top.kids
        have h2 : weighAll top.kids ≤ weigh top := by obtain ⟨a1, a2, a3, a4, a5⟩ := top; simp only [weigh, Tree.kids]; omega
        simp only [weighAll] at hwt'
        omega
      have HS := Lib.hid hS
      clear hwt hlg hll hS hwt' hwn hop hrow hoc hkr hkc hys hsl hcap hnc
      by_cases hc : c = 34
      · subst hc
        have hi1 : (st.length : Int) < (st.length : Int) + 1 := by omega
        have hi2 : (top.kids.length : Int) < (top.kids.length : Int) + 1 := by omega
        have c4 := hstg.cellO (OnlyR.refl _ _)
        have R0A : Hid (Rd wr.drew w.heap.size (34 :: l) x) := Lib.hid hR
        have R0B : Hid (Rd (wr.alloc (.cells #[.string ⟨#[]⟩, .string ⟨#[]⟩, .slice none 0 0, .slice none 0 0, .slice none 0 0] 47)).drew w.heap.size (34 :: l) x) := Lib.hid (hR.below (((Below.refl _ _).alloc (Nat.le_refl _) _).drew))
        have hone : ∀ u ∈ zeros5.toList, u.oneCell' = true := by simp [Value.oneCell']
        have HONE := Lib.hid hone
        have HRZ := Lib.hid hR.lt
        have HBZ := Lib.hid HB.out.size
        clear hone hR hstg
        go_wp2
        go_region_law (first
          | ((with_reducible refine step_text (R := w.heap.size) (l := 34 :: l) (x := x) rfl (.tmp 4) rfl rfl R0A.out HLL.out ?_); intro v2 w2 hn2 h2 o2; obtain ⟨A2, n2, d2, A3, n3, d3, A4, n4, d4, rfl⟩ := node_form hn2; have HM := Lib.hid (mid_after (wr := wr) (W := wr.drew) (own := own) (i := st.length) rfl (drew_only _ wr) hn2 o2 zeros5); have c4b := HST.out.cellO ((drew_only _ wr).trans o2); have c4c : (w2.alloc (.cells #[.string ⟨#[]⟩, .string ⟨#[]⟩, .slice none 0 0, .slice none 0 0, .slice none 0 0] 47)).cell? ⟨O, st.length * 5 + 4, none⟩ = some (.slice A top.kids.length ck) := HST.out.cellO HM.out.1; have HKA := Lib.hid (HST.out.kids HM.out.1); have HLA := Lib.hid HM.out.2.2.1; have HRA := Lib.hid (h2.below ((Below.refl _ _).alloc (Nat.le_refl _) (.cells zeros5 47))); have HBA := Lib.hid (Nat.le_trans HBZ.out HM.out.1.size); clear hn2 h2 o2)
          | ((with_reducible refine step_text (R := w.heap.size) (l := 34 :: l) (x := x) rfl (.tmp 4) rfl rfl R0B.out HLL.out ?_); intro v2 w2 hn2 h2 o2; obtain ⟨A2, n2, d2, A3, n3, d3, A4, n4, d4, rfl⟩ := node_form hn2; have HM := Lib.hid (mid_before (wr := wr) (W := (wr.alloc (.cells zeros5 47)).drew) (cs := zeros5) (own := own) (i := st.length) rfl rfl rfl rfl HRZ.out hn2 o2); have c4b := HST.out.cellO HM.out.1; have HKB := Lib.hid (HST.out.kids HM.out.1); have HLB := Lib.hid HM.out.2.2.1; have HRA := Lib.hid h2; have HBA := Lib.hid (Nat.le_trans HBZ.out HM.out.1.size); clear hn2 h2 o2)
          | ((with_reducible refine step_append_raw rfl (.tmp 72) (.tmp 75) rfl w.heap.size (.slice A top.kids.length ck) top.kids.length ks w2.heap.size 1 zeros5 rfl rfl HKA.out HLA.out rfl HONE.out hkn HBA.out ?_); intro v3 w3 ho3 hg3 hat3; obtain ⟨G, d5, rfl⟩ := row_at ho3; have HO3 := Lib.hid ho3; have HG3 := Lib.hid hg3; have HAT := Lib.hid (hat_form hat3); obtain ⟨q0, q1, q2, q3, q4⟩ := row_cells ho3 HST.out.kc.length; have f0 := ho3.frozenAt (top.kids.length * 5); have f1 := ho3.frozenAt (top.kids.length * 5 + 1); have f2 := ho3.frozenAt (top.kids.length * 5 + 2); have f3 := ho3.frozenAt (top.kids.length * 5 + 3); have f4 := ho3.frozenAt (top.kids.length * 5 + 4); have fO := HST.out.frozenO (HST.out.blockO HM.out.1 hg3); have cO := (World.cell?_of_block (a := ⟨O, st.length * 5 + 4, none⟩) (HST.out.blockO HM.out.1 hg3)).trans c4; have nG := (HST.out.neG HM.out.1 hat3).1; have nO := Ne.symm nG; clear ho3 hg3 hat3)
          | ((with_reducible refine step_append_raw rfl (.tmp 72) (.tmp 75) rfl w.heap.size (.slice A top.kids.length ck) top.kids.length ks wr.heap.size 1 zeros5 rfl rfl HKB.out HLB.out rfl HONE.out hkn HBA.out ?_); intro v3 w3 ho3 hg3 hat3; obtain ⟨G, d5, rfl⟩ := row_at ho3; have HO3 := Lib.hid ho3; have HG3 := Lib.hid hg3; have HAT := Lib.hid (hat_form hat3); obtain ⟨q0, q1, q2, q3, q4⟩ := row_cells ho3 HST.out.kc.length; have f0 := ho3.frozenAt (top.kids.length * 5); have f1 := ho3.frozenAt (top.kids.length * 5 + 1); have f2 := ho3.frozenAt (top.kids.length * 5 + 2); have f3 := ho3.frozenAt (top.kids.length * 5 + 3); have f4 := ho3.frozenAt (top.kids.length * 5 + 4); have fO := HST.out.frozenO (HST.out.blockO HM.out.1 hg3); have cO := (World.cell?_of_block (a := ⟨O, st.length * 5 + 4, none⟩) (HST.out.blockO HM.out.1 hg3)).trans c4; have nG := (HST.out.neG HM.out.1 hat3).1; have nO := Ne.symm nG; clear ho3 hg3 hat3))
        all_goals
          go_wp2
          go_roundg g
          case measure => omega
          case rel =>
            first
              | (with_reducible exact ready_rel (HST.out.gcX HM.out HRA.out HG3.out HAT.out HO3.out) (roundL_text l x top st) HRD.out HWT.out HLG.out (Nat.le_refl _))
              | (with_reducible exact ready_rel (HST.out.textX HM.out HRA.out HG3.out HAT.out HO3.out) (roundL_text l x top st) HRD.out HWT.out HLG.out (Nat.le_refl _))
      · have hcb : ((c.toNat : Int) == 34) = false := by
          rw [beq_eq_false_iff_ne]; intro e; exact hc (UInt8.toNat_inj.1 (by simpa using Int.ofNat.inj e))
        have HC := Lib.hid hc
        have HBZ := Lib.hid HB.out.size
        have HORZ := Lib.hid (rd_ne_row hR hstg.row)
        clear hc hstg HST hkn
        go_wp2_with fail
        refine (rd_take w.heap.size (c :: l) x ⟨#[93]⟩ wr HR.out).mono ?_
        rintro e w2 ⟨rfl, h2, o2⟩
        have HOP2 := Lib.hid (HOP.out.only o2 hoR HORZ.out)
        have HB2 := Lib.hid (HB.out.trans (o2.below (Nat.le_refl _) HBZ.out))
        have hz2 := o2.size
        clear o2
        by_cases hc9 : c = 93
        · subst hc9
          have hp : Lib.hasPrefix (93 :: l) (⟨#[93]⟩ : ByteArray).data.toList = true := by simp [Lib.hasPrefix, List.isPrefixOf]
          rw [trim_yes hp] at h2
          rw [hp]
          change Rd w2 w.heap.size l x at h2
          have H2 := Lib.hid h2
          clear h2 hp
          cases st with
          | nil =>
            go_wp2_with fail
            refine (rd_fail w.heap.size l x w2 H2.out).mono ?_
            rintro e w3 ⟨rfl, h3, o3⟩
            have HOP3 := Lib.hid (HOP2.out.only o3 hoR HORZ.out)
            have HB3 := Lib.hid (HB2.out.trans (o3.below (Nat.le_refl _) HB2.out.size))
            have H3 := Lib.hid h3
            clear h3 o3
            go_wp2
            go_roundg g
            case measure => omega
            case rel => exact ready_rel ⟨own, HOP3.out, hoR, HOB.out, H3.out, HB3.out⟩ (roundL_last l x top) HRD.out HWT.out HLG.out (Nat.le_refl _)
          | cons up st =>
            have hl0 : (((st.length : Int) + 1) == 0) = false := by rw [beq_eq_false_iff_ne]; omega
            simp only [List.length_cons] at hstl
            go_wp2_with fail
            go_cut [14, 15] (fun s14 s15 wx => ∃ b, s15 = .bool b ∧ Below w2.heap.size w2 wx)
            case first =>
              go_region
              all_goals
                go_wp2_with fail
                go_meet
                exact ⟨_, rfl, ((Below.refl _ _).alloc (Nat.le_refl _) _).drew⟩
            case rest =>
              obtain ⟨b, rfl, hb3⟩ := hcut
              have HOP3 := Lib.hid (HOP2.out.only (OnlyR.of_below _ hb3) hoR HORZ.out)
              have HB3 := Lib.hid (HB2.out.trans (hb3.mono HB2.out.size))
              have H3 := Lib.hid (H2.out.below hb3)
              clear hb3
              obtain ⟨own2, vm2, va2, vk2, hO2, hN2, hcl2, hzz2⟩ := Opens.close (top := top) (up := up) (st := st) HOP3.out
              obtain ⟨A2, n2, d2, A3, n3, d3, A4, n4, d4, he2⟩ := node_form hN2
              injection he2 with he2
              have he3 : vm2 = .slice A2 n2 d2 ∧ va2 = .slice A3 n3 d3 ∧ vk2 = .slice A4 n4 d4 := by simpa using he2
              obtain ⟨rfl, rfl, rfl⟩ := he3
              obtain ⟨O', cap', vm3, va3, vk3, ys3, e3, hOb3, hOz3, hoO3, hnc3, hcap3, hop3, hrow3, hoc3, hys3⟩ := hO2.top
              injection e3 with e31 e32 e33
              have e31 : O = O' := by injection e31 with e31; injection e31
              subst e31; subst e33
              obtain ⟨A, ck, ks, rfl, hkr3, hkc3⟩ := opens_row hop3
              have HST : Hid (Stage w wc own2 O cap w.heap.size up st vm3 va3 (.slice A up.kids.length ck) ys3 ks) :=
                Lib.hid ⟨hop3, hrow3, hoc3, hys3, hoO3, hOb3, hOz3, hO2.2.2, hzz2 _ hoR, rd_ne_row H3.out hrow3 O rfl, fun b hb => hzz2 b (HOB.out b hb), HB3.out, Nat.le_refl _, H3.out.lt, hkc3, hkr3⟩
              have HN2 := Lib.hid hN2
              have t0 : wc.cell? ⟨O, (st.length + 1) * 5, none⟩ = some (.string top.kind) := hcl2 0 _ rfl
              have t1 : wc.cell? ⟨O, (st.length + 1) * 5 + 1, none⟩ = some (.string top.text) := hcl2 1 _ rfl
              have t2 : wc.cell? ⟨O, (st.length + 1) * 5 + 2, none⟩ = some (.slice A2 n2 d2) := hcl2 2 _ rfl
              have t3 : wc.cell? ⟨O, (st.length + 1) * 5 + 3, none⟩ = some (.slice A3 n3 d3) := hcl2 3 _ rfl
              have t4 : wc.cell? ⟨O, (st.length + 1) * 5 + 4, none⟩ = some (.slice A4 n4 d4) := hcl2 4 _ rfl
              have hkn : up.kids.length + 1 ≤ 100000000 := by
                have h0 := HWT.out
                have h1 := len_weigh up.kids
                have h2 : weighAll up.kids ≤ weigh up := by obtain ⟨a1, a2, a3, a4, a5⟩ := up; simp only [weigh, Tree.kids]; omega
                have hsl : s.data.toList.length = s.size := by rw [Lib.size_eq]
                simp only [weighAll] at h0
                omega
              clear hO2 hN2 hcl2 hzz2 hop3 hrow3 hoc3 hkr3 hkc3 hys3 hcap3 e32 he2 hoO3
              have hwr1 : IntKind.i64.wrap (st.length : Int) = (st.length : Int) := IntWalk.i64_in _ (by omega)
              have hi1 : (st.length : Int) < (st.length : Int) + 1 + 1 := by omega
              have hi2 : (st.length : Int) + 1 < (st.length : Int) + 1 + 1 := by omega
              have hi3 : ((st.length : Int) + 1).toNat = st.length + 1 := by omega
              have hi4 : (0 : Int) ≤ (st.length : Int) + 1 := by omega
              have hi5 : (up.kids.length : Int) < (up.kids.length : Int) + 1 := by omega
              have hi6 : st.length + 1 ≤ cap := by omega
              have hi7 : ((st.length : Int) + 1) ≤ (cap : Int) := by omega
              have hi8 : ¬ cap = 0 := by omega
              have c4 := HST.out.cellO (OnlyR.refl _ _)
              have RA : Hid (Rd wc.drew w.heap.size l x) := Lib.hid H3.out
              have RB : Hid (Rd (wc.alloc (.cells #[.string ⟨#[]⟩, .string ⟨#[]⟩, .slice none 0 0, .slice none 0 0, .slice none 0 0] 47)).drew w.heap.size l x) := Lib.hid (H3.out.below (((Below.refl _ _).alloc (Nat.le_refl _) _).drew))
              have NA : Hid (Node wc.drew (Part wc own2 st.length) (.agg #[.string top.kind, .string top.text, .slice A2 n2 d2, .slice A3 n3 d3, .slice A4 n4 d4]) top) := Lib.hid (HN2.out.keep (fun _ h => h) fun _ _ => rfl)
              have NB : Hid (Node (wc.alloc (.cells #[.string ⟨#[]⟩, .string ⟨#[]⟩, .slice none 0 0, .slice none 0 0, .slice none 0 0] 47)).drew (Part wc own2 st.length) (.agg #[.string top.kind, .string top.text, .slice A2 n2 d2, .slice A3 n3 d3, .slice A4 n4 d4]) top) := Lib.hid (HN2.out.keep (fun _ h => h) fun b hb => (((Below.refl _ wc).alloc (Nat.le_refl _) _).drew).block b hb.1)
              have SA : Hid (∀ b, Part wc own2 st.length b → b < wc.drew.heap.size ∧ b ≠ w.heap.size) := Lib.hid fun b hb => ⟨hb.1, fun e => by have h1 := HST.out.oR; have h2 := hb.2; rw [e] at h2; omega⟩
              have SB : Hid (∀ b, Part wc own2 st.length b → b < (wc.alloc (.cells #[.string ⟨#[]⟩, .string ⟨#[]⟩, .slice none 0 0, .slice none 0 0, .slice none 0 0] 47)).drew.heap.size ∧ b ≠ w.heap.size) := Lib.hid fun b hb => ⟨Nat.lt_of_lt_of_le hb.1 (((Below.refl _ wc).alloc (Nat.le_refl _) _).drew).size, (SA.out b hb).2⟩
              have TA : Hid (Tabs wc.drew) := Lib.hid (HT.out.below HB3.out.drew)
              have TB : Hid (Tabs (wc.alloc (.cells #[.string ⟨#[]⟩, .string ⟨#[]⟩, .slice none 0 0, .slice none 0 0, .slice none 0 0] 47)).drew) := Lib.hid (HT.out.below (HB3.out.trans ((((Below.refl _ wc).alloc (Nat.le_refl _) _).drew).mono HB3.out.size)))
              have hwt1 : weigh top ≤ 1000000 := by
                have h0 := HWT.out
                have hsl : s.data.toList.length = s.size := by rw [Lib.size_eq]
                simp only [weighAll] at h0
                omega
              have HWT1 := Lib.hid hwt1
              have HD1 : Hid (st.length + 1 ≤ 100000000) := Lib.hid (by omega)
              have HDI : Hid ((st.length : Int) + 1 = ((st.length + 1 : Nat) : Int)) := Lib.hid (by omega)
              have HONE : Hid (∀ u ∈ zeros5.toList, u.oneCell' = true) := Lib.hid (by simp [Value.oneCell'])
              have HRZ := Lib.hid H3.out.lt
              have HBZ3 := Lib.hid HB3.out.size
              clear hwt1
              cases b with
              | true =>
                go_wp2_with fail
                go_region_law (first
                  | ((with_reducible refine step_closed (v := .agg #[.string top.kind, .string top.text, .slice A2 n2 d2, .slice A3 n3 d3, .slice A4 n4 d4]) (di := (st.length : Int) + 1) (R := w.heap.size) (l := l) (x := x) (t := top) (S := Part wc own2 st.length) (d := st.length + 1) rfl (.tmp 4) (.tmp 28) (.tmp 29) rfl rfl rfl rfl HDI.out RA.out NA.out SA.out HD1.out HWT1.out TA.out ?_); intro v2 w2c hn2 h2 o2; obtain ⟨B2, m2, f2, B3, m3, f3, B4, m4, f4, rfl⟩ := node_form hn2; have HM := Lib.hid (mid_after2 (wr := wc) (W := wc.drew) (drew_only _ wc) hn2 o2 zeros5); have c4b := HST.out.cellO ((drew_only _ wc).trans o2); have c4c : (w2c.alloc (.cells #[.string ⟨#[]⟩, .string ⟨#[]⟩, .slice none 0 0, .slice none 0 0, .slice none 0 0] 47)).cell? ⟨O, st.length * 5 + 4, none⟩ = some (.slice A up.kids.length ck) := HST.out.cellO HM.out.1; have HKA := Lib.hid (HST.out.kids HM.out.1); have HLA := Lib.hid HM.out.2.2.1; have HRA := Lib.hid (h2.below ((Below.refl _ _).alloc (Nat.le_refl _) (.cells zeros5 47))); have HBA := Lib.hid (Nat.le_trans HBZ3.out HM.out.1.size); clear hn2 h2 o2)
                  | ((with_reducible refine step_closed (v := .agg #[.string top.kind, .string top.text, .slice A2 n2 d2, .slice A3 n3 d3, .slice A4 n4 d4]) (di := (st.length : Int) + 1) (R := w.heap.size) (l := l) (x := x) (t := top) (S := Part wc own2 st.length) (d := st.length + 1) rfl (.tmp 4) (.tmp 28) (.tmp 29) rfl rfl rfl rfl HDI.out RB.out NB.out SB.out HD1.out HWT1.out TB.out ?_); intro v2 w2c hn2 h2 o2; obtain ⟨B2, m2, f2, B3, m3, f3, B4, m4, f4, rfl⟩ := node_form hn2; have HM := Lib.hid (mid_before2 (wr := wc) (W := (wc.alloc (.cells zeros5 47)).drew) (cs := zeros5) rfl rfl rfl rfl HRZ.out hn2 o2); have c4b := HST.out.cellO HM.out.1; have HKB := Lib.hid (HST.out.kids HM.out.1); have HLB := Lib.hid HM.out.2.2.1; have HRA := Lib.hid h2; have HBA := Lib.hid (Nat.le_trans HBZ3.out HM.out.1.size); clear hn2 h2 o2)
                  | ((with_reducible refine step_append_raw rfl (.tmp 24) (.tmp 32) rfl w.heap.size (.slice A up.kids.length ck) up.kids.length ks w2c.heap.size 1 zeros5 rfl rfl HKA.out HLA.out rfl HONE.out hkn HBA.out ?_); intro v3 w3 ho3 hg3 hat3; obtain ⟨G, d5, rfl⟩ := row_at ho3; have HO3 := Lib.hid ho3; have HG3 := Lib.hid hg3; have HAT := Lib.hid (hat_form hat3); obtain ⟨q0, q1, q2, q3, q4⟩ := row_cells ho3 HST.out.kc.length; have f0 := ho3.frozenAt (up.kids.length * 5); have f1 := ho3.frozenAt (up.kids.length * 5 + 1); have f2 := ho3.frozenAt (up.kids.length * 5 + 2); have f3 := ho3.frozenAt (up.kids.length * 5 + 3); have f4 := ho3.frozenAt (up.kids.length * 5 + 4); have fO := HST.out.frozenO (HST.out.blockO HM.out.1 hg3); have cO := (World.cell?_of_block (a := ⟨O, st.length * 5 + 4, none⟩) (HST.out.blockO HM.out.1 hg3)).trans c4; have nG := (HST.out.neG HM.out.1 hat3).1; have nO := Ne.symm nG; clear ho3 hg3 hat3)
                  | ((with_reducible refine step_append_raw rfl (.tmp 24) (.tmp 32) rfl w.heap.size (.slice A up.kids.length ck) up.kids.length ks wc.heap.size 1 zeros5 rfl rfl HKB.out HLB.out rfl HONE.out hkn HBA.out ?_); intro v3 w3 ho3 hg3 hat3; obtain ⟨G, d5, rfl⟩ := row_at ho3; have HO3 := Lib.hid ho3; have HG3 := Lib.hid hg3; have HAT := Lib.hid (hat_form hat3); obtain ⟨q0, q1, q2, q3, q4⟩ := row_cells ho3 HST.out.kc.length; have f0 := ho3.frozenAt (up.kids.length * 5); have f1 := ho3.frozenAt (up.kids.length * 5 + 1); have f2 := ho3.frozenAt (up.kids.length * 5 + 2); have f3 := ho3.frozenAt (up.kids.length * 5 + 3); have f4 := ho3.frozenAt (up.kids.length * 5 + 4); have fO := HST.out.frozenO (HST.out.blockO HM.out.1 hg3); have cO := (World.cell?_of_block (a := ⟨O, st.length * 5 + 4, none⟩) (HST.out.blockO HM.out.1 hg3)).trans c4; have nG := (HST.out.neG HM.out.1 hat3).1; have nO := Ne.symm nG; clear ho3 hg3 hat3))
                all_goals
                  go_wp2
                  go_roundg g
                  case measure => omega
                  case rel =>
                    with_reducible exact ready_rel (HST.out.textX HM.out HRA.out HG3.out HAT.out HO3.out) (roundL_close l x top up st) HRD.out HWT.out HLG.out (Nat.le_refl _)
              | false =>
                go_wp2_with fail
                go_region_law (first
                  | ((with_reducible refine step_closed (v := .agg #[.string top.kind, .string top.text, .slice A2 n2 d2, .slice A3 n3 d3, .slice A4 n4 d4]) (di := (st.length : Int) + 1) (R := w.heap.size) (l := l) (x := x) (t := top) (S := Part wc own2 st.length) (d := st.length + 1) rfl (.tmp 4) (.tmp 49) (.tmp 50) rfl rfl rfl rfl HDI.out RA.out NA.out SA.out HD1.out HWT1.out TA.out ?_); intro v2 w2c hn2 h2 o2; obtain ⟨B2, m2, f2, B3, m3, f3, B4, m4, f4, rfl⟩ := node_form hn2; have HM := Lib.hid (mid_after2 (wr := wc) (W := wc.drew) (drew_only _ wc) hn2 o2 #[.string (closedL (st.length + 1) top).1.kind, .string (closedL (st.length + 1) top).1.text, .slice B2 m2 f2, .slice B3 m3 f3, .slice B4 m4 f4]); have c4b := HST.out.cellO ((drew_only _ wc).trans o2); have c4c : (w2c.alloc (.cells #[.string (closedL (st.length + 1) top).1.kind, .string (closedL (st.length + 1) top).1.text, .slice B2 m2 f2, .slice B3 m3 f3, .slice B4 m4 f4] 47)).cell? ⟨O, st.length * 5 + 4, none⟩ = some (.slice A up.kids.length ck) := HST.out.cellO HM.out.1; have HKA := Lib.hid (HST.out.kids HM.out.1); have HLA := Lib.hid HM.out.2.2.1; have HRA := Lib.hid (h2.below ((Below.refl _ _).alloc (Nat.le_refl _) (.cells #[.string (closedL (st.length + 1) top).1.kind, .string (closedL (st.length + 1) top).1.text, .slice B2 m2 f2, .slice B3 m3 f3, .slice B4 m4 f4] 47))); have HBA := Lib.hid (Nat.le_trans HBZ3.out HM.out.1.size); have HON : Hid (∀ u ∈ (#[.string (closedL (st.length + 1) top).1.kind, .string (closedL (st.length + 1) top).1.text, .slice B2 m2 f2, .slice B3 m3 f3, .slice B4 m4 f4] : Array Value).toList, u.oneCell' = true) := Lib.hid (by simp [Value.oneCell']); clear hn2 h2 o2)
                  | ((with_reducible refine step_append_raw rfl (.tmp 45) (.tmp 52) rfl w.heap.size (.slice A up.kids.length ck) up.kids.length ks w2c.heap.size 1 #[.string (closedL (st.length + 1) top).1.kind, .string (closedL (st.length + 1) top).1.text, .slice B2 m2 f2, .slice B3 m3 f3, .slice B4 m4 f4] rfl rfl HKA.out HLA.out rfl HON.out hkn HBA.out ?_); intro v3 w3 ho3 hg3 hat3; obtain ⟨G, d5, rfl⟩ := row_at ho3; have HO3 : Hid (w3.ownsRow w.heap.size 47 5 (.slice (some ⟨G, 0, none⟩) (up.kids.length + 1) d5) (up.kids.length + 1) (ks ++ [.string (closedL (st.length + 1) top).1.kind, .string (closedL (st.length + 1) top).1.text, .slice B2 m2 f2, .slice B3 m3 f3, .slice B4 m4 f4])) := Lib.hid ho3; have HG3 := Lib.hid hg3; have HAT := Lib.hid (hat_form hat3); have fO := HST.out.frozenO (HST.out.blockO HM.out.1 hg3); have cO := (World.cell?_of_block (a := ⟨O, st.length * 5 + 4, none⟩) (HST.out.blockO HM.out.1 hg3)).trans c4; have nG := (HST.out.neG HM.out.1 hat3).1; have nO := Ne.symm nG; clear ho3 hg3 hat3))
                all_goals
                  go_wp2
                  go_roundg g
                  case measure => omega
                  case rel =>
                    with_reducible exact ready_rel (HST.out.plain HM.out HRA.out HG3.out HAT.out HO3.out) (roundL_close l x top up st) HRD.out HWT.out HLG.out (Nat.le_refl _)
        · have hp : Lib.hasPrefix (c :: l) (⟨#[93]⟩ : ByteArray).data.toList = false := by simp [Lib.hasPrefix, List.isPrefixOf]; exact fun e => hc9 e.symm
          rw [trim_no hp] at h2
          rw [hp]
          have H2 := Lib.hid h2
          have HC9 := Lib.hid hc9
          clear h2 hp hc9
          obtain ⟨⟨xs, hx1, hx2⟩, _, _⟩ := HOP2.out
          have HX1 := Lib.hid hx1
          have HX2 := Lib.hid hx2
          clear hx1 hx2
          go_wp2_with fail
          refine (rd_head w.heap.size (c :: l) x w2 H2.out HLL.out).mono ?_
          rintro e w3 ⟨va3, rfl, hpa, h3, o3⟩
          obtain ⟨A3, d3, rfl, _⟩ := hpa.form
          have hb4 : Below w3.heap.size w3 (w3.alloc (.cells #[.string (headL (c :: l)).1.kind, .string (headL (c :: l)).1.text, .slice none 0 0, .slice A3 (headL (c :: l)).1.attrs.length d3, .slice none 0 0] 47)) := (Below.refl _ _).alloc (Nat.le_refl _) _
          have hz4 : (w3.alloc (.cells #[.string (headL (c :: l)).1.kind, .string (headL (c :: l)).1.text, .slice none 0 0, .slice A3 (headL (c :: l)).1.attrs.length d3, .slice none 0 0] 47)).heap.size = w3.heap.size + 1 := by simp
          have HO4 := Lib.hid (o3.thenBelow hb4 o3.size)
          have HR4 := Lib.hid (h3.below hb4)
          have HP4 := Lib.hid (hpa.keep (S' := From w2.heap.size w3.heap.size) (fun _ h => h) fun b hb => hb4.block b hb.2)
          have HL4 := Lib.hid (heap_alloc_new w3 (.cells #[.string (headL (c :: l)).1.kind, .string (headL (c :: l)).1.text, .slice none 0 0, .slice A3 (headL (c :: l)).1.attrs.length d3, .slice none 0 0] 47))
          have HX4 := Lib.hid (ownsRow_block HX1.out fun b e => HO4.out.block b (HX1.out.lt b e).2 (HORZ.out b e))
          have hone : ∀ u ∈ (#[.string (headL (c :: l)).1.kind, .string (headL (c :: l)).1.text, .slice none 0 0, .slice A3 (headL (c :: l)).1.attrs.length d3, .slice none 0 0] : Array Value).toList, u.oneCell' = true := by simp [Value.oneCell']
          have HONE := Lib.hid hone
          have hbase : w.heap.size ≤ (w3.alloc (.cells #[.string (headL (c :: l)).1.kind, .string (headL (c :: l)).1.text, .slice none 0 0, .slice A3 (headL (c :: l)).1.attrs.length d3, .slice none 0 0] 47)).heap.size := Nat.le_trans HB2.out.size HO4.out.size
          have HBASE := Lib.hid hbase
          have hln : (top :: st).length + 1 ≤ 100000000 := by simp only [List.length_cons]; omega
          have HZ3 := Lib.hid o3.size
          clear hb4 hone hbase hpa h3 o3
          go_wp2_with (at_builtin; refine wpList_append_raw rfl (.tmp 83) (.tmp 85) rfl w.heap.size (.slice (some ⟨O, 0, none⟩) (st.length + 1) cap) (top :: st).length xs w3.heap.size 1 #[.string (headL (c :: l)).1.kind, .string (headL (c :: l)).1.text, .slice none 0 0, .slice A3 (headL (c :: l)).1.attrs.length d3, .slice none 0 0] rfl rfl HX4.out HL4.out rfl HONE.out hln HBASE.out ?_)
          intro v5 w5 ho5 hg5 hat5
          have HR5 : Hid (Ready w w5 w.heap.size v5 ((headL (c :: l)).1 :: top :: st) (headL (c :: l)).2.1 (x || (headL (c :: l)).2.2)) := Lib.hid (ready_open (g := w3.heap.size) HOP2.out HX1.out HX2.out hoR HOB.out HB2.out (Nat.le_refl _) HORZ.out H2.out.lt HO4.out HR4.out HP4.out (fun b hb => ⟨hb.1, by have := hb.2; omega, by have := hb.2; omega⟩) rfl rfl ho5 hg5 (by rw [hz4]; exact hat5))
          clear ho5 hg5 hat5
          go_wp2
          go_roundg g
          case measure => omega
          case rel => exact ready_rel HR5.out (roundL_head c l x top st HC.out HC9.out) HRD.out HWT.out HLG.out (Nat.le_refl _)
end Go.Proofs.YtaepolgmojkglaaDoor

namespace Go.Proofs.YtaepolgmojkglaaDoor
open Go.RowKit Go.Sort Go.Maps

theorem readN_weigh : ∀ (n : Nat) (l : List UInt8) (x : Bool) (st : List Tree), weighAll (readN n l x st).1 ≤ weighAll st + 8 * l.length
  | 0, _, _, _ => Nat.le_add_right _ _
  | _ + 1, [], _, _ => Nat.le_add_right _ _
  | _ + 1, _ :: _, _, [] => by rw [readN]; simp [weighAll]
  | n + 1, c :: l, x, top :: st => by
    rw [readN_step]
    have h1 := readN_weigh n (roundL c l x top st).1 (roundL c l x top st).2.1 (roundL c l x top st).2.2
    have h2 := (round_size c l x top st).1
    simp only [List.length_cons]
    omega
theorem weigh_kids (t : Tree) : weighAll t.kids ≤ weigh t := by obtain ⟨a, b, c, d, e⟩ := t; simp only [weigh, Tree.kids]; omega
theorem readL_weigh (s : List UInt8) : weighAll (readL s).1 ≤ 8 * s.length + 3 := by
  have h := readN_weigh s.length s false [around []]
  have h0 : weighAll [around []] = 3 := by simp only [weighAll, around, weigh, weighL, weighP, List.map_nil, List.sum_nil]; rfl
  unfold readL
  cases hq : (readN s.length s false [around []]).1.getLast? with
  | none => simp [weighAll]
  | some t =>
    have h1 := weigh_mem (List.mem_of_getLast? hq)
    have h2 := weigh_kids t
    show weighAll t.kids ≤ _
    omega

theorem parseB_no {s : List UInt8} (h : (readL s).2 = false) : parseB s = (noTree, 2) := by
  unfold parseB
  rcases hq : readL s with ⟨l, b⟩
  rw [hq] at h
  simp only at h
  subst h
  rcases l with _ | ⟨t, _ | _⟩ <;> rfl
theorem parseB_len {s : List UInt8} (h : (readL s).1.length ≠ 1) : parseB s = (noTree, 2) := by
  unfold parseB
  rcases hq : readL s with ⟨l, b⟩
  rw [hq] at h
  rcases l with _ | ⟨t, _ | ⟨u, l⟩⟩
  · rfl
  · exact absurd rfl h
  · rfl
theorem parseB_one {s : List UInt8} {t : Tree} (h : readL s = ([t], true)) : parseB s = if checkB t = 0 then (t, 0) else (noTree, checkB t) := by
  unfold parseB; rw [h]

/-- How Parse ends. -/
def ParsePost (w : World) (q : Tree × Int) (e : Ending) (w' : World) : Prop :=
  ∃ v, e = .returned (.tuple #[v, .int .i64 q.2]) ∧ Node w' (From w.heap.size w'.heap.size) v q.1 ∧ Below w.heap.size w w'

theorem parse_none {w2 : World} {S : Nat → Prop} : Node w2 S (.agg #[.string ⟨#[]⟩, .string ⟨#[]⟩, .slice none 0 0, .slice none 0 0, .slice none 0 0]) noTree :=
  ⟨_, _, _, rfl, strs_nil, pairs_nil, kids_nil⟩

set_option maxHeartbeats 4000000 in
theorem parse_any (s : ByteArray) (w : World) (hs : s.size ≤ 100000) (hT : Tabs w) :
    Calls Tryd.prog 47 #[.string s] w (ParsePost w (parseB s.data.toList)) := by
  have HT := Lib.hid hT
  have hb0 : Below w.heap.size w (w.alloc (.cells #[.string ⟨#[]⟩, .string ⟨#[]⟩, .slice none 0 0, .slice none 0 0, .slice none 0 0] 47)) := (Below.refl _ _).alloc (Nat.le_refl _) _
  have hz0 : (w.alloc (.cells #[.string ⟨#[]⟩, .string ⟨#[]⟩, .slice none 0 0, .slice none 0 0, .slice none 0 0] 47)).heap.size = w.heap.size + 1 := by simp
  have hc0 := heap_alloc_new w (.cells #[.string ⟨#[]⟩, .string ⟨#[]⟩, .slice none 0 0, .slice none 0 0, .slice none 0 0] 47)
  have HB0 := Lib.hid hb0
  have HC0 := Lib.hid hc0
  clear hT hb0 hc0
  have hsl : s.data.toList.length = s.size := by rw [Lib.size_eq]
  have hwg := readL_weigh s.data.toList
  go_enter Tryd.func47, Tryd.ntmps47
  go_wp2_with fail
  generalize w.alloc (.cells #[.string ⟨#[]⟩, .string ⟨#[]⟩, .slice none 0 0, .slice none 0 0, .slice none 0 0] 47) = w1 at *
  refine (read_any s w1 hs (HT.out.below HB0.out)).mono ?_
  rintro e w2 ⟨v2, rfl, hk2, hb2⟩
  have hc2 := (hb2.block w.heap.size (by omega)).trans HC0.out
  have HC2 := Lib.hid hc2
  have HB2 := Lib.hid (HB0.out.trans (hb2.mono (by omega)))
  have hz2 := hb2.size
  obtain ⟨b0, b1, b2, b3, b4⟩ := five_cells hc2
  have f0 := frozen_of_row w2 _ 0 _ _ hc2
  have f1 := frozen_of_row w2 _ 1 _ _ hc2
  have f2 := frozen_of_row w2 _ 2 _ _ hc2
  have f3 := frozen_of_row w2 _ 3 _ _ hc2
  have f4 := frozen_of_row w2 _ 4 _ _ hc2
  obtain ⟨A, c, rfl, hlc⟩ := hk2.form
  have HK2 := Lib.hid hk2
  clear hb2 hk2 hc2
  cases hok : (readL s.data.toList).2 with
  | false =>
    have HP := Lib.hid (parseB_no hok)
    clear hok
    go_wp2
    have q := put5_at HC2.out (.string ⟨#[]⟩) (.string ⟨#[]⟩) (.slice none 0 0) (.slice none 0 0) (.slice none 0 0)
    have o6 := put5_only w2 w.heap.size (.string ⟨#[]⟩) (.string ⟨#[]⟩) (.slice none 0 0) (.slice none 0 0) (.slice none 0 0)
    change bodyPost _ _ _ _ _ (put5 w2 w.heap.size (.string ⟨#[]⟩) (.string ⟨#[]⟩) (.slice none 0 0) (.slice none 0 0) (.slice none 0 0))
    generalize put5 w2 w.heap.size (.string ⟨#[]⟩) (.string ⟨#[]⟩) (.slice none 0 0) (.slice none 0 0) (.slice none 0 0) = W at *
    obtain ⟨q0, q1, q2, q3, q4⟩ := five_cells q
    refine bodyPost_ret (v := .tuple #[.agg #[.string ⟨#[]⟩, .string ⟨#[]⟩, .slice none 0 0, .slice none 0 0, .slice none 0 0], .int .i64 2]) (by simp [results, Tryd.results47, go_sem, q0, q1, q2, q3, q4]) rfl ?_
    rw [HP.out]
    exact ⟨_, rfl, parse_none, HB2.out.trans (o6.below (Nat.le_refl _) (by omega))⟩
  | true =>
    by_cases hln : (readL s.data.toList).1.length = 1
    · obtain ⟨t, ht⟩ : ∃ t, (readL s.data.toList).1 = [t] := List.length_eq_one_iff.1 hln
      have hrl : readL s.data.toList = ([t], true) := Prod.ext ht hok
      have HP := Lib.hid (parseB_one hrl)
      have hk := HK2.out
      rw [ht] at hk hwg ⊢
      have hwt : weigh t ≤ 1000000 := by simp only [weighAll] at hwg; omega
      obtain ⟨A', c', he, _, _, hrow⟩ := hk
      injection he with e1 _ e3
      subst e1; subst e3
      rcases hrow with h0 | ⟨g, o, rfl, hg, hr⟩
      · cases h0
      have hat := rowAt_get _ _ _ hr 0 t rfl
      rw [Nat.zero_mul, Nat.add_zero] at hat
      obtain ⟨vm, va, vk, t0, t1, t2, t3, t4, hm, ha, hkk⟩ := (nodeAt_iff t g o).1 hat
      have HM := Lib.hid hm
      have HA := Lib.hid ha
      have HKK := Lib.hid hkk
      obtain ⟨Am, cm, rfl, _⟩ := hm.form
      obtain ⟨Aa, ca, rfl, _⟩ := ha.form
      obtain ⟨Ak, cq, rfl, _⟩ := hkk.form
      have HN : Hid (Node w2 (From w1.heap.size w2.heap.size) (.agg #[.string t.kind, .string t.text, .slice Am t.marks.length cm, .slice Aa t.attrs.length ca, .slice Ak t.kids.length cq]) t) := Lib.hid ⟨_, _, _, rfl, hm, ha, hkk⟩
      have hg2 : g < w2.heap.size := hg.2
      have hgw : ¬ g = w.heap.size := by have := hg.1; omega
      have i0 : (0 : Int) < 1 := by omega
      have hl1 : ([t] : List Tree).length = 1 := rfl
      rw [hl1]
      clear hok hln ht hrl hwg hr hat hm ha hkk hl1 HK2 hlc hg
      go_wp2_with fail
      refine (check_any _ t w2 (HN.out.keep (fun b hb => hb.2) (fun _ _ => rfl)) hwt (HT.out.below HB2.out)).mono ?_
      rintro e w3 ⟨rfl, hb3⟩
      have hz3 := hb3.size
      have HC3 := Lib.hid ((hb3.block w.heap.size (by omega)).trans HC2.out)
      have HB3 := Lib.hid (HB2.out.trans (hb3.mono (by omega)))
      have HN3 := Lib.hid (HN.out.keep (S' := From w1.heap.size w2.heap.size) (fun _ h => h) fun b hb => hb3.block b hb.2)
      have s0 := (World.cell?_of_block (a := ⟨g, o, none⟩) (hb3.block g hg2)).trans t0
      have s1 := (World.cell?_of_block (a := ⟨g, o + 1, none⟩) (hb3.block g hg2)).trans t1
      have s2 := (World.cell?_of_block (a := ⟨g, o + 2, none⟩) (hb3.block g hg2)).trans t2
      have s3 := (World.cell?_of_block (a := ⟨g, o + 3, none⟩) (hb3.block g hg2)).trans t3
      have s4 := (World.cell?_of_block (a := ⟨g, o + 4, none⟩) (hb3.block g hg2)).trans t4
      clear hb3 b0 b1 b2 b3 b4 f0 f1 f2 f3 f4 t0 t1 t2 t3 t4
      have hc3 := HC3.out
      obtain ⟨b0, b1, b2, b3, b4⟩ := five_cells hc3
      have f0 := frozen_of_row w3 _ 0 _ _ hc3
      have f1 := frozen_of_row w3 _ 1 _ _ hc3
      have f2 := frozen_of_row w3 _ 2 _ _ hc3
      have f3 := frozen_of_row w3 _ 3 _ _ hc3
      have f4 := frozen_of_row w3 _ 4 _ _ hc3
      clear hc3
      by_cases hc : checkB t = 0
      · have HQ : Hid (parseB s.data.toList = (t, 0)) := Lib.hid (by rw [HP.out, if_pos hc])
        rw [hc]
        clear hc
        go_wp2
        have q := put5_at HC3.out (.string t.kind) (.string t.text) (.slice Am t.marks.length cm) (.slice Aa t.attrs.length ca) (.slice Ak t.kids.length cq)
        have o6 := put5_only w3 w.heap.size (.string t.kind) (.string t.text) (.slice Am t.marks.length cm) (.slice Aa t.attrs.length ca) (.slice Ak t.kids.length cq)
        change bodyPost _ _ _ _ _ (put5 w3 w.heap.size (.string t.kind) (.string t.text) (.slice Am t.marks.length cm) (.slice Aa t.attrs.length ca) (.slice Ak t.kids.length cq))
        generalize put5 w3 w.heap.size (.string t.kind) (.string t.text) (.slice Am t.marks.length cm) (.slice Aa t.attrs.length ca) (.slice Ak t.kids.length cq) = W at *
        have hz6 := o6.size
        obtain ⟨q0, q1, q2, q3, q4⟩ := five_cells q
        refine bodyPost_ret (v := .tuple #[.agg #[.string t.kind, .string t.text, .slice Am t.marks.length cm, .slice Aa t.attrs.length ca, .slice Ak t.kids.length cq], .int .i64 0]) (by simp [results, Tryd.results47, go_sem, q0, q1, q2, q3, q4]) rfl ?_
        rw [HQ.out]
        exact ⟨_, rfl, HN3.out.keep (fun b hb => ⟨by have := hb.1; omega, by have := hb.2; omega⟩) (fun b hb => o6.block b (by have := hb.2; omega) (by have := hb.1; omega)), HB3.out.trans (o6.below (Nat.le_refl _) (by omega))⟩
      · have HQ : Hid (parseB s.data.toList = (noTree, checkB t)) := Lib.hid (by rw [HP.out, if_neg hc])
        have hcb : (checkB t != 0) = true := by simpa using hc
        generalize checkB t = r at *
        clear hc
        go_wp2
        have q := put5_at HC3.out (.string ⟨#[]⟩) (.string ⟨#[]⟩) (.slice none 0 0) (.slice none 0 0) (.slice none 0 0)
        have o6 := put5_only w3 w.heap.size (.string ⟨#[]⟩) (.string ⟨#[]⟩) (.slice none 0 0) (.slice none 0 0) (.slice none 0 0)
        change bodyPost _ _ _ _ _ (put5 w3 w.heap.size (.string ⟨#[]⟩) (.string ⟨#[]⟩) (.slice none 0 0) (.slice none 0 0) (.slice none 0 0))
        generalize put5 w3 w.heap.size (.string ⟨#[]⟩) (.string ⟨#[]⟩) (.slice none 0 0) (.slice none 0 0) (.slice none 0 0) = W at *
        obtain ⟨q0, q1, q2, q3, q4⟩ := five_cells q
        refine bodyPost_ret (v := .tuple #[.agg #[.string ⟨#[]⟩, .string ⟨#[]⟩, .slice none 0 0, .slice none 0 0, .slice none 0 0], .int .i64 r]) (by simp [results, Tryd.results47, go_sem, q0, q1, q2, q3, q4]) rfl ?_
        rw [HQ.out]
        exact ⟨_, rfl, parse_none, HB3.out.trans (o6.below (Nat.le_refl _) (by omega))⟩
    · have HP := Lib.hid (parseB_len hln)
      have hlb : (((readL s.data.toList).1.length : Int) != 1) = true := by rw [bne_iff_ne]; omega
      clear hln
      go_wp2
      have q := put5_at HC2.out (.string ⟨#[]⟩) (.string ⟨#[]⟩) (.slice none 0 0) (.slice none 0 0) (.slice none 0 0)
      have o6 := put5_only w2 w.heap.size (.string ⟨#[]⟩) (.string ⟨#[]⟩) (.slice none 0 0) (.slice none 0 0) (.slice none 0 0)
      change bodyPost _ _ _ _ _ (put5 w2 w.heap.size (.string ⟨#[]⟩) (.string ⟨#[]⟩) (.slice none 0 0) (.slice none 0 0) (.slice none 0 0))
      generalize put5 w2 w.heap.size (.string ⟨#[]⟩) (.string ⟨#[]⟩) (.slice none 0 0) (.slice none 0 0) (.slice none 0 0) = W at *
      obtain ⟨q0, q1, q2, q3, q4⟩ := five_cells q
      refine bodyPost_ret (v := .tuple #[.agg #[.string ⟨#[]⟩, .string ⟨#[]⟩, .slice none 0 0, .slice none 0 0, .slice none 0 0], .int .i64 2]) (by simp [results, Tryd.results47, go_sem, q0, q1, q2, q3, q4]) rfl ?_
      rw [HP.out]
      exact ⟨_, rfl, parse_none, HB2.out.trans (o6.below (Nat.le_refl _) (by omega))⟩
end Go.Proofs.YtaepolgmojkglaaDoor

namespace Go.Proofs.YtaepolgmojkglaaDoor
open Go.RowKit Go.Sort Go.Maps

def Small (x : ByteArray) : Prop := ∀ c ∈ x.data.toList, small c = true
theorem flat_small {x : ByteArray} (h : Small x) : Flat x.data.toList := flat_all _ fun c hc => small_neutral c (h c hc)
theorem flat_comma : ∀ m : List ByteArray, (∀ x ∈ m, Small x) → Flat (commaM m)
  | [], _ => flat_nil
  | [x], h => flat_small (h x (by simp))
  | x :: y :: m, h => by
    show Flat (x.data.toList ++ 44 :: commaM (y :: m))
    exact flat_app (flat_small (h x (by simp))) (flat_cons (by decide) (flat_comma (y :: m) fun z hz => h z (by simp only [List.mem_cons] at hz ⊢; exact .inr hz)))
theorem flat_marks (m : List ByteArray) (h : ∀ x ∈ m, Small x) : Flat (marksW m) := by
  unfold marksW
  split
  · exact flat_nil
  · exact flat_cons (by decide) (flat_app (flat_comma m h) (flat_one (by decide)))
theorem flat_attr {p : ByteArray × ByteArray} (h : Small p.1) : Flat (attrW p) := flat_app (flat_small h) (flat_cons (by decide) (flat_quote _))
theorem flat_blank : ∀ m : List (ByteArray × ByteArray), (∀ x ∈ m, Small x.1) → Flat (blankA m)
  | [], _ => flat_nil
  | [x], h => flat_attr (h x (by simp))
  | x :: y :: m, h => by
    show Flat (attrW x ++ 32 :: blankA (y :: m))
    exact flat_app (flat_attr (h x (by simp))) (flat_cons (by decide) (flat_blank (y :: m) fun z hz => h z (by simp only [List.mem_cons] at hz ⊢; exact .inr hz)))
theorem flat_attrs (m : List (ByteArray × ByteArray)) (h : ∀ x ∈ m, Small x.1) : Flat (attrsW m) := by
  unfold attrsW
  split
  · exact flat_nil
  · exact flat_cons (by decide) (flat_app (flat_blank m h) (flat_one (by decide)))
mutual
theorem flat_write : ∀ t : Tree, formedB t = true → Flat (writeB t)
  | .mk k t m a l, h => by
    cases hk : isTxt k with
    | true =>
      rw [formedB, hk] at h
      simp only [if_true] at h
      have hm : marksB m = true := by
        unfold textB at h
        simp only [Bool.and_eq_true, Tree.marks] at h
        exact h.2.2.1
      rw [writeB, hk]
      exact flat_app (flat_quote _) (flat_marks m fun x hx => name_small (marks_names hm x hx))
    | false =>
      rw [formedB, hk] at h
      simp only [Bool.false_eq_true, if_false, Bool.and_eq_true] at h
      obtain ⟨h1, h2⟩ := h
      unfold headB at h1
      simp only [Bool.and_eq_true, Tree.kind, Tree.attrs] at h1
      rw [writeB, hk]
      simp only [Bool.false_eq_true, if_false]
      exact flat_app (flat_app (flat_small (name_small h1.1)) (flat_attrs a fun x hx => name_small (attrs_names h1.2.2.2 x hx))) (flat_node (flat_writeAll l fun t ht => row_all l none h2 t ht))
theorem flat_writeAll : ∀ l : List Tree, (∀ t ∈ l, formedB t = true) → Flat (writeAllB l)
  | [], _ => flat_nil
  | t :: l, h => by
    rw [writeAllB]
    exact flat_app (flat_write t (h t (by simp))) (flat_writeAll l fun u hu => h u (by simp [hu]))
end

/-! ### reading moves the level as the open nodes -/
theorem mem_tw (f : UInt8 → Bool) : ∀ (l : List UInt8) (c : UInt8), c ∈ l.takeWhile f → f c = true
  | [], c, h => by cases h
  | d :: l, c, h => by
    rw [List.takeWhile_cons] at h
    split at h
    · rename_i hd
      rcases List.mem_cons.1 h with rfl | h
      · exact hd
      · exact mem_tw f l c h
    · cases h
theorem take_small (l : List UInt8) : Small ⟨(l.takeWhile small).toArray⟩ := fun c hc => by
  have : c ∈ l.takeWhile small := by simpa using hc
  exact mem_tw small l c this
theorem restNames_small (l : List UInt8) : ∀ x ∈ (restNames l).1, Small x := by
  cases l with
  | nil => rw [restNames.eq_def]; intro x hx; cases hx
  | cons c r =>
    rw [restNames.eq_def]
    simp only
    split
    · intro x hx
      rcases List.mem_cons.1 hx with rfl | hx
      · exact take_small r
      · exact restNames_small (r.dropWhile small) x hx
    · intro x hx; cases hx
termination_by l.length
decreasing_by
  have := drops_le r
  simp only [List.length_cons]; omega
theorem marks_small (l : List UInt8) : ∀ x ∈ (marksL l).1, Small x := by
  unfold marksL
  split
  · intro x hx
    rcases List.mem_cons.1 hx with rfl | hx
    · exact take_small _
    · exact restNames_small _ x hx
  · intro x hx; cases hx
theorem attr_small (l : List UInt8) : Small (attrL l).1.1 := take_small l
theorem restAttrs_small : ∀ (n : Nat) (l : List UInt8), l.length ≤ n → ∀ x ∈ (restAttrs l).1, Small x.1
  | n, l, hn => by
    rw [restAttrs.eq_def]
    split
    · rename_i hp
      intro x hx
      rcases List.mem_cons.1 hx with rfl | hx
      · exact attr_small _
      · have e0 := pre_drop hp
        have h3 := congrArg List.length e0
        rw [List.length_cons] at h3
        have h1 := attr_le (l.drop 1)
        cases n with
        | zero => omega
        | succ n => exact restAttrs_small n _ (by omega) x hx
    · intro x hx; cases hx
theorem attrs_small (l : List UInt8) : ∀ x ∈ (attrsL l).1, Small x.1 := by
  unfold attrsL
  split
  · intro x hx
    rcases List.mem_cons.1 hx with rfl | hx
    · exact attr_small _
    · exact restAttrs_small _ _ (Nat.le_refl _) x hx
  · intro x hx; cases hx

theorem read_level : ∀ (n : Nat) (l : List UInt8) (st st' : List Tree) (lev : Int), l.length ≤ n → readN n l false st = (st', false) → st ≠ [] → st' ≠ [] ∧ scan 0 lev l = (0, lev + (st'.length : Int) - (st.length : Int))
  | n, [], st, st', lev, _, h, h0 => by
    have e : st = st' := by
      cases n with
      | zero => exact (Prod.mk.inj h).1
      | succ n => exact (Prod.mk.inj h).1
    subst e
    exact ⟨h0, by simp only [scan]; congr 1; omega⟩
  | 0, c :: l, st, st', lev, hn, _, _ => by simp at hn
  | n + 1, c :: l, [], st', lev, _, _, h0 => absurd rfl h0
  | n + 1, c :: l, top :: st, st', lev, hn, h, _ => by
    rw [readN_step] at h
    have hlen := (round_size c l false top st).2
    have hx' : (roundL c l false top st).2.1 = false := by
      cases hq : (roundL c l false top st).2.1 with
      | false => rfl
      | true =>
        rw [hq] at h
        have := readN_wrong n (roundL c l false top st).1 (roundL c l false top st).2.2
        rw [h] at this; cases this
    rw [hx'] at h
    have hn' : (roundL c l false top st).1.length ≤ n := by simp only [List.length_cons] at hn; omega
    by_cases h34 : (c == 34) = true
    · have e : roundL c l false top st = ((textL (c :: l)).2.1, false || (textL (c :: l)).2.2, addKid top (textL (c :: l)).1 :: st) := by unfold roundL; rw [if_pos h34]
      rw [e] at h hx' hn'
      simp only [Bool.false_or] at hx'
      simp only at h hn'
      obtain ⟨i1, i2⟩ := read_level n _ _ st' lev hn' h (by simp)
      refine ⟨i1, ?_⟩
      have := text_inv hx'
      have hfl : Flat (quoteL (textL (c :: l)).1.text.data.toList ++ marksW (textL (c :: l)).1.marks) := flat_app (flat_quote _) (flat_marks _ (marks_small _))
      rw [this, ← List.append_assoc, scan_app, hfl.1, i2]
      simp
    · by_cases h93 : (c == 93) = true
      · cases st with
        | nil =>
          have e : roundL c l false top [] = ([], true, [top]) := by unfold roundL; rw [if_neg h34, if_pos h93]
          rw [e] at hx'; cases hx'
        | cons up st =>
          have e : roundL c l false top (up :: st) = (if (closedL (st.length + 1) top).2 then [] else l, false || (closedL (st.length + 1) top).2, addKid up (closedL (st.length + 1) top).1 :: st) := by unfold roundL; rw [if_neg h34, if_pos h93]
          rw [e] at h hx' hn'
          simp only [Bool.false_or] at hx'
          rw [hx'] at h hn'
          simp only [Bool.false_eq_true, if_false] at h hn'
          obtain ⟨i1, i2⟩ := read_level n _ _ st' (lev - 1) hn' h (by simp)
          refine ⟨i1, ?_⟩
          have e93 : c = 93 := by simpa using h93
          subst e93
          have e2 : scan 0 lev (93 :: l) = scan 0 (lev - 1) l := by simp [scan]
          rw [e2, i2]
          congr 1
          simp only [List.length_cons]; omega
      · have e : roundL c l false top st = ((headL (c :: l)).2.1, false || (headL (c :: l)).2.2, (headL (c :: l)).1 :: top :: st) := by unfold roundL; rw [if_neg h34, if_neg h93]
        rw [e] at h hx' hn'
        simp only [Bool.false_or] at hx'
        simp only at h hn'
        obtain ⟨i1, i2⟩ := read_level n _ _ st' (lev + 1) hn' h (by simp)
        refine ⟨i1, ?_⟩
        have := head_inv hx'
        have hfl : Flat ((headL (c :: l)).1.kind.data.toList ++ attrsW (headL (c :: l)).1.attrs) := flat_app (flat_small (take_small _)) (flat_attrs _ (attrs_small _))
        rw [this, ← List.append_assoc, scan_app, hfl.1]
        have e2 : scan 0 lev (91 :: (headL (c :: l)).2.1) = scan 0 (lev + 1) (headL (c :: l)).2.1 := by simp [scan]
        show scan 0 lev (91 :: (headL (c :: l)).2.1) = _
        rw [e2, i2]
        congr 1
        simp only [List.length_cons]; omega
theorem doc_formed (l : List Cel) : ∀ x ∈ madeB l, formedB x = true := by
  have h := docB_right l
  unfold checkB at h
  split at h
  · rename_i hf
    have hk : isTxt DOC = false := by decide +kernel
    unfold docB at hf
    rw [formedB, hk] at hf
    simp only [Bool.false_eq_true, if_false, Bool.and_eq_true] at hf
    exact row_all _ none hf.2
  · cases h
theorem doc_text (l : List Cel) : writeB (docB l) = 100 :: 111 :: 99 :: 91 :: (writeAllB (madeB l) ++ [93]) := by
  have hk : isTxt DOC = false := by decide +kernel
  unfold docB
  rw [writeB, hk]
  simp [attrsW, DOC]
/-- A document that is cut is none. -/
theorem doc_cut (l : List Cel) (k : Nat) (hk : k < (writeB (docB l)).length) : parseB ((writeB (docB l)).take k) = (noTree, 2) := by
  rw [doc_text] at hk ⊢
  match k, hk with
  | 0, _ => exact parseB_len (s := []) (by decide +kernel)
  | 1, _ => exact parseB_no (s := [100]) (by decide +kernel)
  | 2, _ => exact parseB_no (s := [100, 111]) (by decide +kernel)
  | 3, _ => exact parseB_no (s := [100, 111, 99]) (by decide +kernel)
  | k + 4, hk =>
    simp only [List.length_cons, List.length_append, List.length_nil] at hk
    have hp : (100 :: 111 :: 99 :: 91 :: (writeAllB (madeB l) ++ [93])).take (k + 4) = 100 :: 111 :: 99 :: 91 :: (writeAllB (madeB l)).take k := by
      show 100 :: 111 :: 99 :: 91 :: (writeAllB (madeB l) ++ [93]).take k = _
      rw [List.take_append_of_le_length (by omega)]
    rw [hp]
    apply parseB_no
    cases hb : (readL (100 :: 111 :: 99 :: 91 :: (writeAllB (madeB l)).take k)).2 with
    | false => rfl
    | true =>
      exfalso
      unfold readL at hb
      simp only [Bool.and_eq_true, Bool.not_eq_true', beq_iff_eq] at hb
      obtain ⟨h1, h2⟩ := hb
      have hr := read_level _ _ [around []] _ 0 (Nat.le_refl _) (Prod.ext rfl h1) (by simp)
      have h3 := hr.2
      rw [h2] at h3
      have e : scan 0 0 (100 :: 111 :: 99 :: 91 :: (writeAllB (madeB l)).take k) = scan 0 1 ((writeAllB (madeB l)).take k) := by simp [scan]
      rw [e] at h3
      have hfl := (flat_writeAll (madeB l) (doc_formed l)).2 1 ((writeAllB (madeB l)).take k) ((writeAllB (madeB l)).drop k) (List.take_append_drop k _).symm
      rw [h3] at hfl
      simp at hfl
end Go.Proofs.YtaepolgmojkglaaDoor

namespace Go.Proofs.YtaepolgmojkglaaDoor
open Go.RowKit Go.Sort Go.Maps

/-! ### the level -/
def levT : List Tok → Int
  | [] => 0
  | t :: l => (if t.kind = 111 then 1 else if t.kind = 99 then -1 else 0) + levT l
theorem levT_app : ∀ a b : List Tok, levT (a ++ b) = levT a + levT b
  | [], b => by simp [levT]
  | t :: a, b => by rw [List.cons_append, levT, levT, levT_app a b]; omega
theorem levT_signs : ∀ l : List Tok, (∀ x ∈ l, x.kind = 116) → levT l = 0
  | [], _ => rfl
  | t :: l, h => by
    rw [levT, levT_signs l (fun x hx => h x (by simp [hx])), h t (by simp)]; decide
theorem scan_shut {q : Nat} {lev m : Int} (h : scan q lev [93] = (0, m)) : q = 0 ∧ lev = m + 1 := by
  match q with
  | 0 =>
    have e : scan 0 lev [93] = (0, lev - 1) := by simp [scan]
    rw [e] at h; injection h with _ h; exact ⟨rfl, by omega⟩
  | 1 =>
    have e : scan 1 lev [93] = (1, lev) := by simp [scan]
    rw [e] at h; injection h with h; exact absurd h (by decide)
  | q + 2 =>
    have e : scan (q + 2) lev [93] = (1, lev) := by simp [scan]
    rw [e] at h; injection h with h; exact absurd h (by decide)
theorem reads_flat {s : List UInt8} (h : readsB s = true) (lev : Int) : scan 0 lev s = (0, lev) := by
  unfold readsB at h
  have h0 : (parseB s).2 = 0 := by simpa using h
  obtain ⟨hc, hw⟩ := parse_inv (s := s) (t := (parseB s).1) (by rw [← h0])
  rw [← hw]
  exact (flat_write _ (check_zero hc).1).1 lev
theorem part_kinds : ∀ (l : List Tok) (a : Tok), a.kind = 116 → ∀ x ∈ (a :: l).take (partN (a :: l)), x.kind = 116
  | [], a, ha, x, hx => by
    have : x = a := by simpa [partN] using hx
    subst this; exact ha
  | b :: l, a, ha, x, hx => by
    rw [partN] at hx
    split at hx
    · rename_i hl
      rw [List.take_succ_cons] at hx
      rcases List.mem_cons.1 hx with rfl | hx
      · exact ha
      · have hb : b.kind = 116 := by unfold likeT at hl; simp only [Bool.and_eq_true, decide_eq_true_eq] at hl; exact hl.2.1
        exact part_kinds l b hb x hx
    · have : x = a := by simpa using hx
      subst this; exact ha
theorem closeT_kind : closeT.kind = 99 := rfl
theorem openT_kind (h : ByteArray) : (openT h).kind = 111 := rfl
theorem part_level {t : Tok} {l : List Tok} {s : List UInt8} (h : partB ((t :: l).take (partN (t :: l))) = some s) (lev : Int) : scan 0 lev s = (0, lev + levT ((t :: l).take (partN (t :: l)))) := by
  have hp := partN_pos t l
  obtain ⟨k, hk⟩ : ∃ k, partN (t :: l) = k + 1 := ⟨partN (t :: l) - 1, by omega⟩
  by_cases h116 : t.kind = 116
  · have hall := part_kinds l t h116
    rw [levT_signs _ hall]
    rw [hk] at h
    rw [List.take_succ_cons] at h
    unfold partB at h
    simp only at h
    rw [if_neg (fun e => by rw [e, closeT_kind] at h116; exact absurd h116 (by decide)), if_neg (fun e => by rw [e, openT_kind] at h116; exact absurd h116 (by decide)), if_pos h116] at h
    split at h
    · rename_i hc
      rw [Bool.and_eq_true] at hc
      injection h with h
      have h1 := reads_flat hc.2 lev
      rw [scan_app, (flat_quote _).1] at h1
      rw [← h, scan_app, (flat_quote _).1, Int.add_zero]
      exact h1
    · cases h
  · rw [partN_other t l h116, List.take_succ_cons, List.take_zero] at *
    unfold partB at h
    simp only at h
    by_cases h1 : t = closeT
    · rw [if_pos h1] at h
      injection h with h
      subst h; subst h1
      have e : scan 0 lev [93] = (0, lev - 1) := by simp [scan]
      rw [e]; rfl
    · rw [if_neg h1] at h
      by_cases h2 : t = openT t.head
      · rw [if_pos h2] at h
        split at h
        · rename_i hr
          injection h with h
          have hf := reads_flat hr lev
          rw [show t.head.data.toList ++ [91, 93] = (t.head.data.toList ++ [91]) ++ [93] by simp, scan_app] at hf
          obtain ⟨e1, e2⟩ := scan_shut hf
          rw [← h]
          have e3 : levT [t] = 1 := by rw [h2]; rfl
          rw [e3]
          exact Prod.ext e1 e2
        · cases h
      · rw [if_neg h2, if_neg h116] at h; cases h
theorem build_level : ∀ (n : Nat) (l : List Tok) (s : List UInt8), l.length ≤ n → buildW l = some s → ∀ lev : Int, scan 0 lev s = (0, lev + levT l)
  | _, [], s, _, h, lev => by
    rw [buildW_nil] at h
    injection h with h; subst h
    simp [scan, levT]
  | 0, t :: l, s, hn, _, _ => by simp at hn
  | n + 1, t :: l, s, hn, h, lev => by
    have hp := partN_pos t l
    rw [buildW_step _ (by simp)] at h
    cases hq : partB ((t :: l).take (partN (t :: l))) with
    | none => rw [hq] at h; cases h
    | some a =>
      rw [hq] at h
      cases hr : buildW ((t :: l).drop (partN (t :: l))) with
      | none => rw [hr] at h; cases h
      | some b =>
        rw [hr] at h
        have hs : s = a ++ b := by injection h with h; exact h.symm
        subst hs
        have h1 := part_level hq lev
        have h2 := build_level n _ b (by simp only [List.length_drop, List.length_cons] at *; omega) hr (lev + levT ((t :: l).take (partN (t :: l))))
        rw [scan_app, h1, h2, Int.add_assoc, ← levT_app, List.take_append_drop]
/-- Where something is open, or too much is shut, nothing is built. -/
theorem build_open_none {l : List Tok} (h : levT l ≠ 0) : buildB l = ([], 2) := by
  cases hq : buildW l with
  | none => exact buildB_none hq
  | some s =>
    rw [buildB_some hq]
    unfold parseAllB
    rcases hr : readL s with ⟨k, b⟩
    cases b with
    | false => rfl
    | true =>
      exfalso
      have hl := build_level _ l s (Nat.le_refl _) hq 0
      have h2 : (readL s).2 = true := by rw [hr]
      unfold readL at h2
      simp only [Bool.and_eq_true, Bool.not_eq_true', beq_iff_eq] at h2
      rcases he : readN s.length s false [around []] with ⟨st, x⟩
      rw [he] at h2
      simp only at h2
      obtain ⟨hx, hlen⟩ := h2
      subst hx
      obtain ⟨_, hsc⟩ := read_level s.length s [around []] st 0 (Nat.le_refl _) he (by simp)
      rw [hl] at hsc
      injection hsc with _ hsc
      rw [hlen] at hsc
      simp at hsc
      exact h hsc

/-! ### a token that is none -/
def badT (x : Tok) : Prop := (x.kind ≠ 116 ∧ x ≠ closeT ∧ x ≠ openT x.head) ∨ (x.kind = 116 ∧ oneCp x.text = false)
theorem build_bad : ∀ (n : Nat) (l : List Tok), l.length ≤ n → (∃ x ∈ l, badT x) → buildW l = none
  | _, [], _, ⟨x, hx, _⟩ => by cases hx
  | 0, t :: l, hn, _ => by simp at hn
  | n + 1, t :: l, hn, ⟨x, hx, hb⟩ => by
    have hp := partN_pos t l
    rw [buildW_step _ (by simp)]
    rw [← List.take_append_drop (partN (t :: l)) (t :: l)] at hx
    rcases List.mem_append.1 hx with hx | hx
    · have hnone : partB ((t :: l).take (partN (t :: l))) = none := by
        by_cases h116 : t.kind = 116
        · have hall := part_kinds l t h116
          have hxk := hall x hx
          have hbad : oneCp x.text = false := by
            rcases hb with ⟨h1, _⟩ | ⟨_, h2⟩
            · exact absurd hxk h1
            · exact h2
          obtain ⟨k, hk⟩ : ∃ k, partN (t :: l) = k + 1 := ⟨partN (t :: l) - 1, by omega⟩
          rw [hk, List.take_succ_cons] at hx ⊢
          unfold partB
          simp only
          rw [if_neg (fun e => by rw [e, closeT_kind] at h116; exact absurd h116 (by decide)), if_neg (fun e => by rw [e, openT_kind] at h116; exact absurd h116 (by decide)), if_pos h116, if_neg]
          rw [Bool.and_eq_true]
          rintro ⟨h1, _⟩
          have := List.all_eq_true.1 h1 x hx
          rw [hbad] at this; cases this
        · rw [partN_other t l h116, List.take_succ_cons, List.take_zero] at hx ⊢
          have : x = t := by simpa using hx
          subst this
          rcases hb with ⟨_, h2, h3⟩ | ⟨h1, _⟩
          · unfold partB
            simp only
            rw [if_neg h2, if_neg h3, if_neg h116]
          · exact absurd h1 h116
      rw [hnone]; rfl
    · rw [build_bad n _ (by simp only [List.length_drop, List.length_cons] at *; omega) ⟨x, hx, hb⟩]
      cases partB ((t :: l).take (partN (t :: l))) <;> rfl

/-! ### a row's tokens, cut -/
theorem levT_tok : ∀ (N : Nat) (K : List Tree), weighAll K ≤ N → levT (toksB K) = 0
  | _, [], _ => rfl
  | 0, x :: l, h => by exfalso; have := length_le_weigh (x :: l); simp only [List.length_cons] at this; omega
  | N + 1, x :: l, h => by
    rw [weighAll] at h
    have hx : 2 ≤ weigh x := by have := length_le_weigh [x]; simp only [List.length_cons, List.length_nil, weighAll] at this; omega
    rw [toksB, levT_app, levT_tok N l (by omega)]
    cases hk : isTxt x.kind with
    | true => rw [levT_signs _ (fun z hz => (tok_text_kind hk z hz).1)]; rfl
    | false =>
      have := kids_weigh x
      rw [tokB_node x hk, levT, levT_app, levT_tok N x.kids (by omega)]; rfl
theorem levT_take : ∀ (N : Nat) (K : List Tree) (n : Nat), weighAll K ≤ N → n ≤ totalB K → 0 ≤ levT ((toksB K).take n) ∧ ((splitB K n).1 ≠ 0 → 0 < levT ((toksB K).take n))
  | _, [], n, _, hn => by
    rw [totalB] at hn
    have : n = 0 := by omega
    subst this
    exact ⟨by simp [levT], fun h => absurd (by rw [splitB]; simp) h⟩
  | 0, x :: l, n, h, _ => by exfalso; have := length_le_weigh (x :: l); simp only [List.length_cons] at this; omega
  | N + 1, x :: l, n, h, hn => by
    rw [weighAll] at h
    rw [totalB] at hn
    have hx : 2 ≤ weigh x := by have := length_le_weigh [x]; simp only [List.length_cons, List.length_nil, weighAll] at this; omega
    have hone : levT (tokB x) = 0 := by have := levT_tok (weighAll [x]) [x] (Nat.le_refl _); rwa [toksB_one] at this
    rw [toksB, splitB]
    by_cases hs : sizeB x ≤ n
    · obtain ⟨i1, i2⟩ := levT_take N l (n - sizeB x) (by omega) (by omega)
      rw [if_pos hs, List.take_append, List.take_of_length_le (by rw [tokB_len]; exact hs), tokB_len, levT_app, hone, Int.zero_add]
      refine ⟨i1, fun hc => i2 fun h0 => hc ?_⟩
      unfold preB; rw [if_pos h0]
    · rw [if_neg hs, List.take_append, tokB_len, show n - sizeB x = 0 by omega, List.take_zero, List.append_nil]
      by_cases h0 : n = 0
      · subst h0; rw [if_pos rfl]; exact ⟨by simp [levT], fun hc => absurd rfl hc⟩
      · rw [if_neg h0]
        cases hk : isTxt x.kind with
        | true =>
          rw [if_pos rfl, levT_signs _ (fun z hz => (tok_text_kind hk z (List.mem_of_mem_take hz)).1)]
          exact ⟨Int.le_refl _, fun hc => absurd rfl hc⟩
        | false =>
          have hsz : sizeB x = 2 + totalB x.kids := by obtain ⟨k, t, m, a, q⟩ := x; rw [sizeB, if_neg (by simp only [Tree.kind] at hk; rw [hk]; decide)]; rfl
          have hkw := kids_weigh x
          obtain ⟨i1, _⟩ := levT_take N x.kids (n - 1) (by omega) (by omega)
          obtain ⟨m, rfl⟩ : ∃ m, n = m + 1 := ⟨n - 1, by omega⟩
          rw [Nat.add_sub_cancel] at i1
          have e : levT ((tokB x).take (m + 1)) = 1 + levT ((toksB x.kids).take m) := by
            rw [tokB_node x hk, List.take_succ_cons, List.take_append, toksB_len, show m - totalB x.kids = 0 by omega, List.take_zero, List.append_nil, levT]; rfl
          rw [e]
          exact ⟨by omega, fun _ => by omega⟩
/-- What is built of the beginning of a right row's tokens. -/
theorem build_take {K : List Tree} (h : rowB none K = true) (hd : deepB K ≤ 39) (hs : totalB K ≤ 3998) {n : Nat} (hn : n ≤ totalB K) :
    (0 < levT ((toksB K).take n) ∧ buildB ((toksB K).take n) = ([], 2)) ∨ (levT ((toksB K).take n) = 0 ∧ ∃ C, rowB none C = true ∧ buildB ((toksB K).take n) = (C, 0) ∧ totalB C = n ∧ toksB C = (toksB K).take n ∧ weighAll C ≤ weighAll K) := by
  obtain ⟨h1, h2⟩ := levT_take _ K n (Nat.le_refl _) hn
  by_cases hc : (splitB K n).1 = 0
  · right
    obtain ⟨A, C, hq⟩ : ∃ A C, splitB K n = (0, A, C) := ⟨_, _, Prod.ext hc rfl⟩
    have P := parts_of K none n A C h hq
    have hj := P.joins
    have ht := toks_two P.ahead P.behind
    rw [hj] at ht
    have htk : (toksB K).take n = toksB A := by rw [ht]; exact List.take_left' (by rw [toksB_len]; exact P.total)
    have hw : weighAll A ≤ weighAll K := by have := (splitB_weigh K n).1; rw [hq] at this; exact this
    rw [htk]
    exact ⟨levT_tok _ A (Nat.le_refl _), A, P.ahead, build_back P.ahead (Nat.le_trans P.deepA hd) (by rw [P.total]; omega), P.total, rfl, hw⟩
  · left
    have := h2 hc
    exact ⟨this, build_open_none (by omega)⟩

/-! ### a token that is another one -/
theorem toks_one_pt (x : List UInt8) {m : List ByteArray} {q : Nat} (h : pts x = [q]) (t : ByteArray) : tokB (.mk TEXT ⟨x.toArray⟩ m [] []) = [signT (headT (.mk TEXT t m [] [])) q] := by
  have e : headT (.mk TEXT ⟨x.toArray⟩ m [] []) = headT (.mk TEXT t m [] []) := head_like rfl rfl rfl
  rw [tokB_text (.mk TEXT ⟨x.toArray⟩ m [] []) isTxt_TEXT, e]
  show (pts x).map _ = _
  rw [h]; rfl
theorem toks_piece {m : List ByteArray} {r : Nat} (h : Cp r) (t : ByteArray) : tokB (pieceT m r) = [signT (headT (.mk TEXT t m [] [])) r] := toks_one_pt (encL r) h.1 t
theorem toks_pieces {m : List ByteArray} (t : ByteArray) : ∀ ps : List Nat, (∀ r ∈ ps, Cp r) → toksB (ps.map (pieceT m)) = ps.map (signT (headT (.mk TEXT t m [] [])))
  | [], _ => rfl
  | r :: ps, h => by
    rw [List.map_cons, toksB, toks_piece (h r (by simp)) t, toks_pieces t ps (fun x hx => h x (by simp [hx]))]; rfl
theorem toks_set : ∀ (A : List Tree) (n : Nat) (z : Tree) (x : Tok), (∀ a ∈ A, (tokB a).length = 1) → tokB z = [x] → toksB (A.set n z) = (toksB A).set n x
  | [], n, z, x, _, _ => rfl
  | a :: A, 0, z, x, h, hz => by
    obtain ⟨y, hy⟩ := List.length_eq_one_iff.1 (h a (by simp))
    rw [List.set_cons_zero, toksB, toksB, hz, hy]; rfl
  | a :: A, n + 1, z, x, h, hz => by
    obtain ⟨y, hy⟩ := List.length_eq_one_iff.1 (h a (by simp))
    rw [List.set_cons_succ, toksB, toksB, hy, toks_set A n z x (fun b hb => h b (by simp [hb])) hz]; rfl
def zSign : Tok := signT ⟨#[]⟩ 122
def zOpen : Tok := openT ⟨#[122, 122]⟩
theorem cp_z : Cp 122 := by
  have h : encL 122 = [122] := by decide +kernel
  have hp : pts [122] = [122] := by decide +kernel
  have hv : Lib.validD [122] = true := by decide +kernel
  have hr : Lib.runeCountL [122] = 1 := by decide +kernel
  unfold Cp
  rw [h]; exact ⟨hp, hv, hr⟩
theorem deep_texts : ∀ l : List Tree, (∀ x ∈ l, isTxt x.kind = true) → deepB l = 0
  | [], _ => rfl
  | x :: l, h => by rw [deepB, depth_text (h x (by simp)), deep_texts l fun y hy => h y (by simp [hy])]; rfl
theorem set_toks : ∀ (N : Nat) (K : List Tree) (n : Nat) (w x : Tok), weighAll K ≤ N → (∀ y ∈ K, formedB y = true) → (toksB K)[n]? = some w → ((w.kind = 116 ∧ x = zSign) ∨ (w.kind = 111 ∧ x = zOpen)) →
    ∃ L : List Tree, (∀ y ∈ L, formedB y = true) ∧ toksB L = (toksB K).set n x ∧ deepB L ≤ deepB K
  | _, [], n, w, x, _, _, h, _ => by simp [toksB] at h
  | 0, y :: l, n, w, x, hN, _, _, _ => by exfalso; have := length_le_weigh (y :: l); simp only [List.length_cons] at this; omega
  | N + 1, y :: l, n, w, x, hN, hf, h, hx => by
    rw [weighAll] at hN
    have hy2 : 2 ≤ weigh y := by have := length_le_weigh [y]; simp only [List.length_cons, List.length_nil, weighAll] at this; omega
    have fy := hf y (by simp)
    have fl : ∀ z ∈ l, formedB z = true := fun z hz => hf z (by simp [hz])
    rw [toksB] at h ⊢
    by_cases hn : n < (tokB y).length
    · rw [List.getElem?_append_left hn] at h
      rw [List.set_append_left _ _ hn]
      cases hk : isTxt y.kind with
      | true =>
        have hwk := (tok_text_kind hk w (List.mem_of_getElem? h)).1
        obtain ⟨_, rfl⟩ : w.kind = 116 ∧ x = zSign := by
          rcases hx with hx | ⟨hx, _⟩
          · exact hx
          · rw [hwk] at hx; exact absurd hx (by decide)
        obtain ⟨t, m, rfl, h1, h2⟩ := text_form hk fy
        have hmk : marksB m = true := by rw [formed_text hk] at fy; exact (textB_parts fy).2.2.1
        have hcp := pts_cp _ _ (Nat.le_refl _) h2
        have hmem : ∀ z ∈ ((pts t.data.toList).map (pieceT m)).set n (pieceT [] 122), (∃ r ∈ pts t.data.toList, z = pieceT m r) ∨ z = pieceT [] 122 := by
          intro z hz
          rcases List.mem_or_eq_of_mem_set hz with hz | hz
          · obtain ⟨r, hr, rfl⟩ := List.mem_map.1 hz; exact .inl ⟨r, hr, rfl⟩
          · exact .inr hz
        refine ⟨((pts t.data.toList).map (pieceT m)).set n (pieceT [] 122) ++ l, ?_, ?_, ?_⟩
        · intro z hz
          rcases List.mem_append.1 hz with hz | hz
          · rcases hmem z hz with ⟨r, hr, rfl⟩ | rfl
            · exact piece_formed hmk (hcp r hr)
            · exact piece_formed (by decide +kernel) cp_z
          · exact fl z hz
        · have hz1 : tokB (pieceT [] 122) = [zSign] := by
            rw [toks_piece cp_z ⟨#[]⟩]
            have : headT (.mk TEXT ⟨#[]⟩ [] [] []) = ⟨#[]⟩ := by decide +kernel
            rw [this]; rfl
          rw [toksB_append, toks_set _ n _ zSign _ hz1, toks_pieces t _ hcp, tokB_text _ hk]
          · rfl
          · intro a ha
            obtain ⟨r, hr, rfl⟩ := List.mem_map.1 ha
            rw [toks_piece (hcp r hr) t]; rfl
        · rw [deepB_append, deepB, deep_texts]
          · omega
          · intro z hz
            rcases hmem z hz with ⟨r, hr, rfl⟩ | rfl
            · exact isTxt_TEXT
            · exact isTxt_TEXT
      | false =>
        have hkw := kids_weigh y
        obtain ⟨k, t, m, a, q⟩ := y
        simp only [Tree.kind] at hk
        simp only [Tree.kids] at hkw
        obtain ⟨p1, p2, p3, p4, p5⟩ := node_parts hk fy
        have ht : t = ⟨#[]⟩ := bytes_of (by rw [p2])
        subst ht; subst p3
        rw [tokB_node (.mk k ⟨#[]⟩ [] a q) hk] at h hn ⊢
        simp only [Tree.kids] at h hn ⊢
        cases n with
        | zero =>
          simp only [List.getElem?_cons_zero, Option.some.injEq] at h
          subst h
          obtain ⟨_, rfl⟩ : True ∧ x = zOpen := by
            rcases hx with ⟨hx, _⟩ | ⟨_, hx⟩
            · exact absurd hx (by show ¬ (111 : Nat) = 116; decide)
            · exact ⟨trivial, hx⟩
          have hzk : isTxt ⟨#[122, 122]⟩ = false := by decide +kernel
          have hzf : formedB (.mk ⟨#[122, 122]⟩ ⟨#[]⟩ [] [] q) = true := by
            rw [formedB, if_neg (by rw [hzk]; decide), p5, Bool.and_true]
            have h1 : nameB ⟨#[122, 122]⟩ = true := by decide +kernel
            have he : (⟨#[]⟩ : ByteArray).toList.isEmpty = true := by decide +kernel
            have ha : attrsB [] = true := by decide +kernel
            unfold headB
            simp only [Tree.kind, Tree.text, Tree.marks, Tree.attrs]
            rw [h1, he, ha]; rfl
          refine ⟨.mk ⟨#[122, 122]⟩ ⟨#[]⟩ [] [] q :: l, ?_, ?_, ?_⟩
          · intro z hz
            rcases List.mem_cons.1 hz with rfl | hz
            · exact hzf
            · exact fl z hz
          · have hh : headT (.mk ⟨#[122, 122]⟩ ⟨#[]⟩ [] [] q) = ⟨#[122, 122]⟩ := by
              have : headW (.mk ⟨#[122, 122]⟩ ⟨#[]⟩ [] [] q) = [122, 122] := if_neg (by show ¬ isTxt ⟨#[122, 122]⟩ = true; rw [hzk]; decide)
              unfold headT
              rw [this]
            rw [toksB, tokB_node (.mk ⟨#[122, 122]⟩ ⟨#[]⟩ [] [] q) hzk, hh, List.set_cons_zero]; rfl
          · rw [deepB, deepB, depthB, depthB, if_neg (by rw [hzk]; decide), if_neg (by rw [hk]; decide)]; omega
        | succ j =>
          rw [List.getElem?_cons_succ] at h
          simp only [List.length_cons, List.length_append, List.length_nil] at hn
          by_cases hj : j < (toksB q).length
          · rw [List.getElem?_append_left hj] at h
            obtain ⟨L, f1, f2, f3⟩ := set_toks N q j w x (by omega) (rowFormed p5) h hx
            have hjt := toks_join L f1
            refine ⟨.mk k ⟨#[]⟩ [] a (joinB L) :: l, ?_, ?_, ?_⟩
            · intro z hz
              rcases List.mem_cons.1 hz with rfl | hz
              · have e1 : formedB (.mk k ⟨#[]⟩ [] a q) = (headB (.mk k ⟨#[]⟩ [] a q) && rowB none q) := by rw [formedB, if_neg (by rw [hk]; decide)]
                have e2 : formedB (.mk k ⟨#[]⟩ [] a (joinB L)) = (headB (.mk k ⟨#[]⟩ [] a (joinB L)) && rowB none (joinB L)) := by rw [formedB, if_neg (by rw [hk]; decide)]
                rw [e1, Bool.and_eq_true] at fy
                rw [e2, Bool.and_eq_true]
                exact ⟨fy.1, joinB_row L f1⟩
              · exact fl z hz
            · have hh : headT (.mk k ⟨#[]⟩ [] a (joinB L)) = headT (.mk k ⟨#[]⟩ [] a q) := head_like rfl rfl rfl
              rw [toksB, tokB_node (.mk k ⟨#[]⟩ [] a (joinB L)) hk, hh, List.set_cons_succ, List.set_append_left _ _ hj]
              simp only [Tree.kids]
              rw [hjt, f2]
            · have := joinB_deep L
              rw [deepB, deepB, depthB, depthB, if_neg (by rw [hk]; decide), if_neg (by rw [hk]; decide)]; omega
          · rw [List.getElem?_append_right (by omega), show j - (toksB q).length = 0 by omega] at h
            simp only [List.getElem?_cons_zero, Option.some.injEq] at h
            subst h
            exfalso
            rcases hx with ⟨hx, _⟩ | ⟨hx, _⟩ <;> exact absurd hx (by decide)
    · rw [List.getElem?_append_right (by omega)] at h
      obtain ⟨L, f1, f2, f3⟩ := set_toks N l (n - (tokB y).length) w x (by omega) fl h hx
      refine ⟨y :: L, ?_, ?_, ?_⟩
      · intro z hz
        rcases List.mem_cons.1 hz with rfl | hz
        · exact fy
        · exact f1 z hz
      · rw [toksB, f2, List.set_append_right _ _ (by omega)]
      · rw [deepB, deepB]; omega
/-- What is built of a right row's tokens with one of them changed to one of the same sort. -/
theorem build_set {K : List Tree} (h : rowB none K = true) (hd : deepB K ≤ 39) (hs : totalB K ≤ 3998) {n : Nat} {w x : Tok} (hw : (toksB K)[n]? = some w) (hx : (w.kind = 116 ∧ x = zSign) ∨ (w.kind = 111 ∧ x = zOpen)) :
    ∃ C, rowB none C = true ∧ buildB ((toksB K).set n x) = (C, 0) ∧ toksB C = (toksB K).set n x := by
  obtain ⟨L, f1, f2, f3⟩ := set_toks _ K n w x (Nat.le_refl _) (rowFormed h) hw hx
  have hb := build_joined f1 (Nat.le_trans f3 hd) (by rw [← toksB_len, f2, List.length_set, toksB_len]; exact hs)
  rw [f2] at hb
  exact ⟨joinB L, joinB_row L f1, hb, (toks_join L f1).trans f2⟩
theorem levT_set : ∀ (l : List Tok) (n : Nat) (w x : Tok), l[n]? = some w → levT (l.set n x) = levT l - levT [w] + levT [x]
  | [], n, w, x, h => by simp at h
  | t :: l, 0, w, x, h => by
    simp only [List.getElem?_cons_zero, Option.some.injEq] at h
    subst h
    rw [List.set_cons_zero]
    simp only [levT]; omega
  | t :: l, n + 1, w, x, h => by
    rw [List.getElem?_cons_succ] at h
    rw [List.set_cons_succ, levT, levT_set l n w x h]
    simp only [levT]; omega
theorem toks_kinds : ∀ (N : Nat) (K : List Tree), weighAll K ≤ N → ∀ z ∈ toksB K, z.kind = 116 ∨ z.kind = 111 ∨ z = closeT
  | _, [], _, z, hz => by rw [toksB] at hz; cases hz
  | 0, x :: l, h, _, _ => by exfalso; have := length_le_weigh (x :: l); simp only [List.length_cons] at this; omega
  | N + 1, x :: l, h, z, hz => by
    rw [weighAll] at h
    have hx : 2 ≤ weigh x := by have := length_le_weigh [x]; simp only [List.length_cons, List.length_nil, weighAll] at this; omega
    rw [toksB] at hz
    rcases List.mem_append.1 hz with hz | hz
    · cases hk : isTxt x.kind with
      | true => exact .inl (tok_text_kind hk z hz).1
      | false =>
        have := kids_weigh x
        rw [tokB_node x hk] at hz
        rcases List.mem_cons.1 hz with rfl | hz
        · exact .inr (.inl rfl)
        · rcases List.mem_append.1 hz with hz | hz
          · exact toks_kinds N x.kids (by omega) z hz
          · have : z = closeT := by simpa using hz
            exact .inr (.inr this)
    · exact toks_kinds N l (by omega) z hz
/-- The six tokens that a row may get. -/
def otherT : List Tok := [⟨116, ⟨#[122]⟩, ⟨#[]⟩⟩, ⟨99, ⟨#[]⟩, ⟨#[]⟩⟩, ⟨111, ⟨#[]⟩, ⟨#[122, 122]⟩⟩, ⟨120, ⟨#[]⟩, ⟨#[]⟩⟩, ⟨116, ⟨#[122, 122]⟩, ⟨#[]⟩⟩, ⟨116, ⟨#[]⟩, ⟨#[]⟩⟩]
/-- What is built of a right row's tokens with one of them changed. -/
theorem build_change {K : List Tree} (h : rowB none K = true) (hd : deepB K ≤ 39) (hs : totalB K ≤ 3998) {n : Nat} {w x : Tok} (hw : (toksB K)[n]? = some w) (hx : x ∈ otherT) :
    buildB ((toksB K).set n x) = ([], 2) ∨ ∃ C, rowB none C = true ∧ buildB ((toksB K).set n x) = (C, 0) ∧ toksB C = (toksB K).set n x := by
  have hlen : n < (toksB K).length := (List.getElem?_eq_some_iff.1 hw).1
  have hmem : x ∈ (toksB K).set n x := List.mem_of_getElem? (i := n) (by rw [List.getElem?_set_self hlen])
  have hwk := toks_kinds _ K (Nat.le_refl _) w (List.mem_of_getElem? hw)
  have hl0 : levT (toksB K) = 0 := levT_tok _ K (Nat.le_refl _)
  have hls := levT_set (toksB K) n w x hw
  have hz : (⟨116, ⟨#[122]⟩, ⟨#[]⟩⟩ : Tok) = zSign := by decide +kernel
  have hbad : badT x → buildB ((toksB K).set n x) = ([], 2) := fun hb => buildB_none (build_bad _ _ (Nat.le_refl _) ⟨x, hmem, hb⟩)
  have hlev : ∀ k j : Int, levT [w] = k → levT [x] = j → j ≠ k → buildB ((toksB K).set n x) = ([], 2) := fun k j hk hj hne => build_open_none (by rw [hls, hl0, hk, hj]; omega)
  have k116 : w.kind = 116 → levT [w] = 0 := fun e => levT_signs _ (by simpa using e)
  have k111 : w.kind = 111 → levT [w] = 1 := fun e => by rw [levT, if_pos e]; rfl
  have k99 : w = closeT → levT [w] = -1 := fun e => by rw [e]; rfl
  unfold otherT at hx
  simp only [List.mem_cons, List.not_mem_nil, or_false] at hx
  rcases hx with rfl | rfl | rfl | rfl | rfl | rfl
  · rcases hwk with hk | hk | hk
    · exact .inr (build_set h hd hs hw (.inl ⟨hk, hz⟩))
    · exact .inl (hlev 1 0 (k111 hk) rfl (by decide))
    · exact .inl (hlev (-1) 0 (k99 hk) rfl (by decide))
  · rcases hwk with hk | hk | hk
    · exact .inl (hlev 0 (-1) (k116 hk) rfl (by decide))
    · exact .inl (hlev 1 (-1) (k111 hk) rfl (by decide))
    · right
      have e : (toksB K).set n ⟨99, ⟨#[]⟩, ⟨#[]⟩⟩ = toksB K := by
        have : (⟨99, ⟨#[]⟩, ⟨#[]⟩⟩ : Tok) = w := hk.symm
        rw [this]
        obtain ⟨hl, he⟩ := List.getElem?_eq_some_iff.1 hw
        rw [← he]; exact List.set_getElem_self hl
      rw [e]
      exact ⟨K, h, build_back h hd hs, rfl⟩
  · rcases hwk with hk | hk | hk
    · exact .inl (hlev 0 1 (k116 hk) rfl (by decide))
    · exact .inr (build_set h hd hs hw (.inr ⟨hk, rfl⟩))
    · exact .inl (hlev (-1) 1 (k99 hk) rfl (by decide))
  · exact .inl (hbad (.inl ⟨by decide, by decide +kernel, by decide +kernel⟩))
  · exact .inl (hbad (.inr ⟨rfl, by decide +kernel⟩))
  · exact .inl (hbad (.inr ⟨rfl, by decide +kernel⟩))
end Go.Proofs.YtaepolgmojkglaaDoor

namespace Go.Proofs.YtaepolgmojkglaaDoor
open Go.RowKit Go.Sort Go.Maps

set_option maxHeartbeats 4000000 in
set_option maxRecDepth 100000 in
theorem of_some (vl : Value) (l : List Tree) (w : World) (h : Kids w (Under w.heap.size) vl l) (hw : weighAll l ≤ 1000000) :
    Calls Tryd.prog 8 #[vl] w fun e w' => ∃ v, e = .returned v ∧ TRow w' w.heap.size v (toksB l) ∧ Below w.heap.size w w' ∧ v ≠ .slice none 0 0 := by
  have hmf : ∀ (fn : Fn) (first cap : Array Value) (w : World), (Instr.makeFunc fn first cap).run Tryd.prog w = .ok (.func fn first cap) w := fun _ _ _ _ => rfl
  have HN := Lib.hid h
  obtain ⟨A, c, rfl, hlc⟩ := h.form
  clear h
  go_enter Tryd.func8, Tryd.ntmps8
  go_wp2_with fail
  refine (total_any _ l w HN.out hw).mono ?_
  rintro e w1 ⟨rfl, hb1⟩
  have HB1 := Lib.hid hb1
  have hz1 := hb1.size
  have htl := total_le_weigh l
  clear hb1
  generalize totalB l = n at *
  obtain ⟨i, hi, hz0, hi1, hi2⟩ := info_parts tok_info
  obtain ⟨w2, hr, hown, hg⟩ := run_make_own (P := Tryd.prog) w1 w.heap.size 26 34 i _ 3 Tryd.underlying26 hi hz0 hi1 .i64 .i64 n (by rw [hi2]; omega) (by unfold maxLen; omega) hz1
  have HR : Hid (TRow w2 w.heap.size (.slice (some ⟨w1.heap.size, 0, none⟩) 0 n) []) := Lib.hid hown
  have hb2 : Below w1.heap.size w1 w2 := ⟨hg.os, hg.tape, hg.output, hg.size, fun k hk => hg.block k hk (by simp)⟩
  have HB2 := Lib.hid (HB1.out.trans (hb2.mono hz1))
  have hz2 := hb2.size
  clear hown hg hb2 hi hz0 hi1 hi2
  go_wp2_with fail
  obtain ⟨W4, hW4⟩ : ∃ W4, W4 = (w2.alloc (.cells #[.slice (some ⟨w1.heap.size, 0, none⟩) 0 n] 26)).alloc (.cells #[.func (.func 19) #[] #[.pointer (some ⟨w2.heap.size, 0, none⟩), .pointer (some ⟨w2.heap.size + 1, 0, none⟩)]] 52) := ⟨_, rfl⟩
  rw [← hW4]
  have hB4 : Below w2.heap.size w2 W4 := by subst hW4; exact ((Below.refl _ _).alloc (Nat.le_refl _) _).alloc (by simp) _
  have hat : TokAt W4 w.heap.size w2.heap.size (w2.heap.size + 1) (.slice (some ⟨w1.heap.size, 0, none⟩) 0 n) [] := by
    refine ⟨?_, ownsRow_keep HR.out fun g hg => hB4.block _ (by obtain ⟨_, cur, hc⟩ := HR.out.block hg; exact heap_lt hc), ?_, ?_⟩
    · subst hW4; exact heap_old _ _ _ (heap_new _ _)
    · subst hW4; exact heap_new' _ _ (by simp)
    · simp
  have hz4 := hB4.size
  have hB := HB2.out.trans (hB4.mono (Nat.le_trans hz1 hz2))
  clear hW4 hB4
  refine (of_walk (weighAll l) l _ _ W4 w.heap.size w2.heap.size (w2.heap.size + 1) [] (Nat.le_refl _) (HN.out.below hB) hw hat (by omega) (by omega) (by omega) (by simp; omega)).mono ?_
  rintro e w5 ⟨rfl, hb5, v5, hat5⟩
  have HB5 := Lib.hid (hB.trans hb5)
  have HAT5 := Lib.hid hat5
  obtain ⟨A5, m5, c5, rfl⟩ := ownsRow_form hat5.row
  have q5 := hat5.cell
  clear hb5 hat5 hat hB
  go_wp2
  go_ret
  exact ⟨_, rfl, HAT5.out.row, HB5.out, HAT5.out.nn⟩
theorem of_any (vl : Value) (l : List Tree) (w : World) (h : Kids w (Under w.heap.size) vl l) (hw : weighAll l ≤ 1000000) :
    Calls Tryd.prog 8 #[vl] w fun e w' => ∃ v, e = .returned v ∧ TRow w' w.heap.size v (toksB l) ∧ Below w.heap.size w w' :=
  (of_some vl l w h hw).mono fun _ _ ⟨v, he, ht, hb, _⟩ => ⟨v, he, ht, hb⟩
end Go.Proofs.YtaepolgmojkglaaDoor

namespace Go.Proofs.YtaepolgmojkglaaDoor
open Go.RowKit Go.Sort Go.Maps

/-- A row of tokens, as it is read. -/
def Toks (w : World) (S : Nat → Prop) (v : Value) (l : List Tok) : Prop :=
  ∃ A c, v = .slice A l.length c ∧ l.length ≤ c ∧ c ≤ maxLen ∧ (l = [] ∨ ∃ b o, A = some ⟨b, o, none⟩ ∧ S b ∧
    ∀ i t, l[i]? = some t → w.cell? ⟨b, o + i * 3, none⟩ = some (.int .u8 (t.kind : Int)) ∧ w.cell? ⟨b, o + i * 3 + 1, none⟩ = some (.string t.text) ∧ w.cell? ⟨b, o + i * 3 + 2, none⟩ = some (.string t.head))
theorem Toks.keep {w w' : World} {S S' : Nat → Prop} {v : Value} {l : List Tok} (h : Toks w S v l) (hs : ∀ b, S b → S' b) (k : ∀ b, S b → w'.heap[b]? = w.heap[b]?) : Toks w' S' v l := by
  obtain ⟨A, c, hv, h1, h2, h3⟩ := h
  refine ⟨A, c, hv, h1, h2, h3.imp id ?_⟩
  rintro ⟨b, o, ha, hb, hc⟩
  refine ⟨b, o, ha, hs b hb, fun i t hi => ?_⟩
  obtain ⟨x0, x1, x2⟩ := hc i t hi
  exact ⟨(World.cell?_of_block (a := ⟨b, _, none⟩) (k b hb)).trans x0, (World.cell?_of_block (a := ⟨b, _, none⟩) (k b hb)).trans x1, (World.cell?_of_block (a := ⟨b, _, none⟩) (k b hb)).trans x2⟩
theorem Toks.get {w : World} {S : Nat → Prop} {A : Option Addr} {n c : Nat} {l : List Tok} (h : Toks w S (.slice A n c) l) {i : Nat} {t : Tok} (hi : l[i]? = some t) :
    ∃ b o, A = some ⟨b, o, none⟩ ∧ S b ∧ w.cell? ⟨b, o + i * 3, none⟩ = some (.int .u8 (t.kind : Int)) ∧ w.cell? ⟨b, o + i * 3 + 1, none⟩ = some (.string t.text) ∧ w.cell? ⟨b, o + i * 3 + 2, none⟩ = some (.string t.head) := by
  obtain ⟨A', c', hv, _, _, h3⟩ := h
  injection hv with hv
  subst hv
  rcases h3 with rfl | ⟨b, o, rfl, hb, hc⟩
  · simp at hi
  · exact ⟨b, o, rfl, hb, hc i t hi⟩
theorem Toks.form {w : World} {S : Nat → Prop} {v : Value} {l : List Tok} (h : Toks w S v l) : ∃ A c, v = .slice A l.length c ∧ l.length ≤ c := by
  obtain ⟨A, c, hv, h1, _⟩ := h; exact ⟨A, c, hv, h1⟩
theorem flat3 : ∀ (l : List Tok) (i j : Nat) (t : Tok), l[i]? = some t → j < 3 → (l.flatMap tokCells)[i * 3 + j]? = (tokCells t)[j]?
  | [], i, j, t, h, _ => by simp at h
  | x :: l, 0, j, t, h, hj => by
    simp only [List.getElem?_cons_zero, Option.some.injEq] at h
    subst h
    rw [List.flatMap_cons, Nat.zero_mul, Nat.zero_add, List.getElem?_append_left (by rw [tokCells_len]; exact hj)]
  | x :: l, i + 1, j, t, h, hj => by
    rw [List.getElem?_cons_succ] at h
    rw [List.flatMap_cons, List.getElem?_append_right (by rw [tokCells_len]; omega), tokCells_len, show (i + 1) * 3 + j - 3 = i * 3 + j by omega]
    exact flat3 l i j t h hj
theorem TRow.toks {w : World} {base : Nat} {v : Value} {l : List Tok} (h : TRow w base v l) : Toks w (From base w.heap.size) v l := by
  rcases h.2 with ⟨rfl, hm⟩ | ⟨g, cap, cur, rfl, hb, hg, hnc, hcap, hsz, htk⟩
  · exact ⟨none, 0, by rw [hm], by omega, by unfold maxLen; omega, .inl (List.eq_nil_of_length_eq_zero hm)⟩
  · refine ⟨_, cap, rfl, hnc, hcap, .inr ⟨g, 0, rfl, ⟨hb, (Array.getElem?_eq_some_iff.1 hg).1⟩, fun i t hi => ?_⟩⟩
    have hlt : i < l.length := (List.getElem?_eq_some_iff.1 hi).1
    have each : ∀ j u, j < 3 → (tokCells t)[j]? = some u → w.cell? ⟨g, 0 + i * 3 + j, none⟩ = some u := fun j u hj hu => by
      have e := flat3 l i j t hi hj
      rw [hu, ← htk, List.getElem?_take, if_pos (by omega)] at e
      rw [Nat.zero_add]
      simpa [World.cell?, hg] using e
    exact ⟨by simpa using each 0 _ (by omega) rfl, each 1 _ (by omega) rfl, each 2 _ (by omega) rfl⟩

/-- How many tokens two rows begin with alike. -/
def sameN : List Tok → List Tok → Nat
  | a :: x, b :: y => if a = b then sameN x y + 1 else 0
  | _, _ => 0

theorem bytes_iff (a b : ByteArray) : (a.toList == b.toList) = true ↔ a = b := by
  rw [Lib.toList_data, Lib.toList_data, beq_iff_eq]
  exact ⟨fun h => ByteArray.ext (Array.ext' h), fun h => by rw [h]⟩
theorem tok_eq (x y : Tok) : x = y ↔ ((x.kind : Int) == (y.kind : Int)) = true ∧ (x.text.toList == y.text.toList) = true ∧ (x.head.toList == y.head.toList) = true := by
  obtain ⟨k, t, h⟩ := x
  obtain ⟨k', t', h'⟩ := y
  rw [bytes_iff, bytes_iff, beq_iff_eq, Tok.mk.injEq]
  constructor
  · rintro ⟨rfl, rfl, rfl⟩; exact ⟨rfl, rfl, rfl⟩
  · rintro ⟨h0, h1, h2⟩; exact ⟨Int.ofNat.inj h0, h1, h2⟩
theorem drawn_on {B : Nat} {a w : World} (h : Below B a w) (n : Nat) : Below B a (w.drewN n) := h.trans ⟨rfl, rfl, rfl, Nat.le_refl _, fun _ _ => rfl⟩
theorem sameN_end {a b : List Tok} {k : Nat} (h : a.length ≤ k ∨ b.length ≤ k) : sameN (a.drop k) (b.drop k) = 0 := by
  rcases h with h | h
  · rw [List.drop_of_length_le h]; cases b.drop k <;> rfl
  · rw [List.drop_of_length_le h]; cases a.drop k <;> rfl

set_option maxHeartbeats 4000000 in
set_option maxRecDepth 100000 in
theorem tsame_any (va vb : Value) (a b : List Tok) (w : World) (ha : Toks w (Under w.heap.size) va a) (hb : Toks w (Under w.heap.size) vb b) (hla : a.length ≤ 100000000) (hlb : b.length ≤ 100000000) :
    Calls Tryd.prog 16 #[va, vb] w fun e w' => e = .returned (.int .i64 (sameN a b)) ∧ Below w.heap.size w w' := by
  obtain ⟨A1, c1, rfl, _⟩ := ha.form
  obtain ⟨A2, c2, rfl, _⟩ := hb.form
  have HA := Lib.hid ha
  have HB := Lib.hid hb
  clear ha hb
  go_enter Tryd.func16, Tryd.ntmps16
  go_wp2
  go_loopw [6] (fun i wr => ∃ k : Nat, k ≤ a.length ∧ k ≤ b.length ∧ i = .int .i64 k ∧ Hid (sameN a b = k + sameN (a.drop k) (b.drop k)) ∧ Below w.heap.size w wr) (fun i _ => a.length - (intOf i).toNat)
  case atStart => exact ⟨0, by omega, by omega, rfl, Lib.hid (by simp), Below.refl _ _⟩
  case round =>
    obtain ⟨k, hka, hkb, rfl, hsn, hbr⟩ := hrel
    by_cases hlt : k < a.length ∧ k < b.length
    · obtain ⟨hlt1, hlt2⟩ := hlt
      have hax : a[k]? = some a[k] := List.getElem?_eq_getElem hlt1
      have hby : b[k]? = some b[k] := List.getElem?_eq_getElem hlt2
      have HST : Hid (sameN (a.drop k) (b.drop k) = if a[k] = b[k] then sameN (a.drop (k + 1)) (b.drop (k + 1)) + 1 else 0) := Lib.hid (by rw [List.drop_eq_getElem_cons hlt1, List.drop_eq_getElem_cons hlt2, sameN])
      generalize a[k] = x at *
      generalize b[k] = y at *
      obtain ⟨g1, o1, rfl, hu1, x0, x1, x2⟩ := HA.out.get hax
      obtain ⟨g2, o2, rfl, hu2, y0, y1, y2⟩ := HB.out.get hby
      have k0 := cell_kept x0 hbr
      have k1 := cell_kept x1 hbr
      have k2 := cell_kept x2 hbr
      have m0 := cell_kept y0 hbr
      have m1 := cell_kept y1 hbr
      have m2 := cell_kept y2 hbr
      have g3 : decide ((k : Int) < min (a.length : Int) (b.length : Int)) = true := by simp; omega
      have g4 : (k : Int) < (a.length : Int) ∧ (k : Int) < (b.length : Int) := by omega
      clear x0 x1 x2 y0 y1 y2 hax hby
      have HEQ := Lib.hid (tok_eq x y)
      cases q0 : ((x.kind : Int) == (y.kind : Int)) with
      | false =>
        have HNE : Hid (x ≠ y) := Lib.hid (fun e => by have := (HEQ.out.1 e).1; rw [q0] at this; cases this)
        go_wp2
        go_quiet (fail)
        go_wp2
        go_ret
        exact ⟨ret_num (by rw [hsn.out, HST.out, if_neg HNE.out]; omega), drawn_on hbr _⟩
      | true =>
        cases q1 : (x.text.toList == y.text.toList) with
        | false =>
          have HNE : Hid (x ≠ y) := Lib.hid (fun e => by have := (HEQ.out.1 e).2.1; rw [q1] at this; cases this)
          go_wp2
          go_quiet (fail)
          go_wp2
          go_ret
          exact ⟨ret_num (by rw [hsn.out, HST.out, if_neg HNE.out]; omega), drawn_on hbr _⟩
        | true =>
          cases q2 : (x.head.toList == y.head.toList) with
          | false =>
            have HNE : Hid (x ≠ y) := Lib.hid (fun e => by have := (HEQ.out.1 e).2.2; rw [q2] at this; cases this)
            go_wp2
            go_quiet (fail)
            go_wp2
            go_ret
            exact ⟨ret_num (by rw [hsn.out, HST.out, if_neg HNE.out]; omega), drawn_on hbr _⟩
          | true =>
            have HYE : Hid (x = y) := Lib.hid (HEQ.out.2 ⟨q0, q1, q2⟩)
            go_wp2
            go_quiet (fail)
            go_wp2
            exact ⟨⟨k + 1, by omega, by omega, by go_num, Lib.hid (by rw [hsn.out, HST.out, if_pos HYE.out]; omega), drawn_on hbr _⟩, by simp [intOf]; omega⟩
    · have g3 : decide ((k : Int) < min (a.length : Int) (b.length : Int)) = false := by simp; omega
      have HZ : Hid (sameN (a.drop k) (b.drop k) = 0) := Lib.hid (sameN_end (by omega))
      go_wp2_with fail
      refine wp_region_quiet_below (by kernel_rfl) (by kernel_rfl) ?_
      repeat (first | go_big_quiet_step (fail) | quiet_step (fail))
      refine wpQuiet_nil ?_
      intro _ hw'
      obtain ⟨⟨dq, osq⟩, hw''⟩ := hw'
      subst hw''
      have HQ := Lib.hid (below_regrown wr dq osq)
      go_wp2
      go_ret
      exact ⟨ret_num (by rw [hsn.out, HZ.out]; omega), belowNext hbr HQ.out⟩
/-- How many they end with, what they begin with alike left out. -/
def backN (a b : List Tok) : Nat := min (sameN a.reverse b.reverse) (min a.length b.length - sameN a b)
theorem sameN_le : ∀ a b : List Tok, sameN a b ≤ a.length ∧ sameN a b ≤ b.length
  | [], b => by cases b <;> simp [sameN]
  | a :: x, [] => by simp [sameN]
  | a :: x, b :: y => by
    have := sameN_le x y
    rw [sameN]; split <;> simp <;> omega
theorem get_rev {l : List Tok} {k : Nat} (h : k < l.length) : l[l.length - 1 - k]? = l.reverse[k]? := by
  rw [List.getElem?_reverse h]

set_option maxHeartbeats 4000000 in
set_option maxRecDepth 100000 in
theorem tback_any (va vb : Value) (a b : List Tok) (w : World) (ha : Toks w (Under w.heap.size) va a) (hb : Toks w (Under w.heap.size) vb b) (hla : a.length ≤ 100000000) (hlb : b.length ≤ 100000000) :
    Calls Tryd.prog 17 #[va, vb] w fun e w' => e = .returned (.int .i64 (backN a b)) ∧ Below w.heap.size w w' := by
  obtain ⟨A1, c1, rfl, _⟩ := ha.form
  obtain ⟨A2, c2, rfl, _⟩ := hb.form
  have HA := Lib.hid ha
  have HB := Lib.hid hb
  clear ha hb
  go_enter Tryd.func17, Tryd.ntmps17
  go_wp2_with fail
  refine (tsame_any _ _ a b w HA.out HB.out hla hlb).mono ?_
  rintro e w0 ⟨rfl, hb0⟩
  obtain ⟨hs1, hs2⟩ := sameN_le a b
  obtain ⟨n, hn⟩ : ∃ n : Nat, min (a.length : Int) (b.length : Int) - (sameN a b : Int) = (n : Int) := ⟨min a.length b.length - sameN a b, by omega⟩
  have HBN : Hid (backN a b = min (sameN a.reverse b.reverse) n) := Lib.hid (by unfold backN; congr 1; omega)
  have hn1 : n ≤ a.length := by omega
  have hn2 : n ≤ b.length := by omega
  have HB0 := Lib.hid hb0
  have hw1 : -9223372036854775808 ≤ min (a.length : Int) (b.length : Int) - (sameN a b : Int) ∧ min (a.length : Int) (b.length : Int) - (sameN a b : Int) ≤ 9223372036854775807 := by omega
  clear hb0
  go_wp2
  clear hn hs1 hs2 hw1
  go_loopw [6] (fun i wr => ∃ k : Nat, k ≤ n ∧ i = .int .i64 k ∧ Hid (sameN a.reverse b.reverse = k + sameN (a.reverse.drop k) (b.reverse.drop k)) ∧ Below w.heap.size w wr) (fun i _ => n - (intOf i).toNat)
  case atStart => exact ⟨0, by omega, rfl, Lib.hid (by simp), HB0.out⟩
  case round =>
    obtain ⟨k, hkn, rfl, hsn, hbr⟩ := hrel
    by_cases hlt : k < n
    · have hlt1 : k < a.length := by omega
      have hlt2 : k < b.length := by omega
      have hra : k < a.reverse.length := by rw [List.length_reverse]; exact hlt1
      have hrb : k < b.reverse.length := by rw [List.length_reverse]; exact hlt2
      have hax : a[a.length - 1 - k]? = some a.reverse[k] := by rw [get_rev hlt1]; exact List.getElem?_eq_getElem hra
      have hby : b[b.length - 1 - k]? = some b.reverse[k] := by rw [get_rev hlt2]; exact List.getElem?_eq_getElem hrb
      have HST : Hid (sameN (a.reverse.drop k) (b.reverse.drop k) = if a.reverse[k] = b.reverse[k] then sameN (a.reverse.drop (k + 1)) (b.reverse.drop (k + 1)) + 1 else 0) := Lib.hid (by rw [List.drop_eq_getElem_cons hra, List.drop_eq_getElem_cons hrb, sameN])
      generalize a.reverse[k] = x at *
      generalize b.reverse[k] = y at *
      obtain ⟨g1, o1, rfl, hu1, x0, x1, x2⟩ := HA.out.get hax
      obtain ⟨g2, o2, rfl, hu2, y0, y1, y2⟩ := HB.out.get hby
      have k0 := cell_kept x0 hbr
      have k1 := cell_kept x1 hbr
      have k2 := cell_kept x2 hbr
      have m0 := cell_kept y0 hbr
      have m1 := cell_kept y1 hbr
      have m2 := cell_kept y2 hbr
      obtain ⟨ia, hia⟩ : ∃ ia : Nat, a.length - 1 - k = ia := ⟨_, rfl⟩
      obtain ⟨ib, hib⟩ : ∃ ib : Nat, b.length - 1 - k = ib := ⟨_, rfl⟩
      rw [hia] at k0 k1 k2
      rw [hib] at m0 m1 m2
      have ja : (a.length : Int) - 1 - (k : Int) = (ia : Int) := by omega
      have jb : (b.length : Int) - 1 - (k : Int) = (ib : Int) := by omega
      have la : ia < a.length := by omega
      have lb : ib < b.length := by omega
      have g3 : decide ((k : Int) < (n : Int)) = true := by simp; omega
      clear x0 x1 x2 y0 y1 y2 hax hby hra hrb hia hib
      have HEQ := Lib.hid (tok_eq x y)
      cases q0 : ((x.kind : Int) == (y.kind : Int)) with
      | false =>
        have HNE : Hid (x ≠ y) := Lib.hid (fun e => by have := (HEQ.out.1 e).1; rw [q0] at this; cases this)
        go_wp2
        go_quiet (fail)
        go_wp2
        go_ret
        exact ⟨ret_num (by rw [HBN.out, hsn.out, HST.out, if_neg HNE.out]; omega), drawn_on hbr _⟩
      | true =>
        cases q1 : (x.text.toList == y.text.toList) with
        | false =>
          have HNE : Hid (x ≠ y) := Lib.hid (fun e => by have := (HEQ.out.1 e).2.1; rw [q1] at this; cases this)
          go_wp2
          go_quiet (fail)
          go_wp2
          go_ret
          exact ⟨ret_num (by rw [HBN.out, hsn.out, HST.out, if_neg HNE.out]; omega), drawn_on hbr _⟩
        | true =>
          cases q2 : (x.head.toList == y.head.toList) with
          | false =>
            have HNE : Hid (x ≠ y) := Lib.hid (fun e => by have := (HEQ.out.1 e).2.2; rw [q2] at this; cases this)
            go_wp2
            go_quiet (fail)
            go_wp2
            go_ret
            exact ⟨ret_num (by rw [HBN.out, hsn.out, HST.out, if_neg HNE.out]; omega), drawn_on hbr _⟩
          | true =>
            have HYE : Hid (x = y) := Lib.hid (HEQ.out.2 ⟨q0, q1, q2⟩)
            go_wp2
            go_quiet (fail)
            go_wp2
            exact ⟨⟨k + 1, by omega, by go_num, Lib.hid (by rw [hsn.out, HST.out, if_pos HYE.out]; omega), drawn_on hbr _⟩, by simp [intOf]; omega⟩
    · have g3 : decide ((k : Int) < (n : Int)) = false := by simp; omega
      obtain rfl : k = n := by omega
      go_wp2_with fail
      refine wp_region_quiet_below (by kernel_rfl) (by kernel_rfl) ?_
      repeat (first | go_big_quiet_step (fail) | quiet_step (fail))
      refine wpQuiet_nil ?_
      intro _ hw'
      obtain ⟨⟨dq, osq⟩, hw''⟩ := hw'
      subst hw''
      have HQ := Lib.hid (below_regrown wr dq osq)
      go_wp2
      go_ret
      exact ⟨ret_num (by rw [HBN.out, hsn.out]; omega), belowNext hbr HQ.out⟩
end Go.Proofs.YtaepolgmojkglaaDoor

namespace Go.Proofs.YtaepolgmojkglaaDoor
open Go.RowKit Go.Sort Go.Maps

/-- What PrintAll answers. -/
def printAllB (l : List Tree) : List UInt8 := if checkB (around l) = 0 then writeAllB l else []
theorem parseAllB_no {s : List UInt8} (h : (readL s).2 = false) : parseAllB s = ([], 2) := by
  unfold parseAllB
  rcases hq : readL s with ⟨l, b⟩
  rw [hq] at h
  simp only at h
  subst h
  rfl
theorem parseAllB_yes {s : List UInt8} (h : (readL s).2 = true) : parseAllB s = if checkB (around (readL s).1) = 0 then ((readL s).1, 0) else ([], checkB (around (readL s).1)) := by
  unfold parseAllB
  rcases hq : readL s with ⟨l, b⟩
  rw [hq] at h
  simp only at h
  subst h
  rfl
/-- How ParseAll ends. -/
def ParseAllPost (w : World) (q : List Tree × Int) (e : Ending) (w' : World) : Prop :=
  ∃ v, e = .returned (.tuple #[v, .int .i64 q.2]) ∧ Kids w' (From w.heap.size w'.heap.size) v q.1 ∧ Below w.heap.size w w'

set_option maxHeartbeats 4000000 in
theorem parseAll_any (s : ByteArray) (w : World) (hs : s.size ≤ 100000) (hT : Tabs w) :
    Calls Tryd.prog 24 #[.string s] w (ParseAllPost w (parseAllB s.data.toList)) := by
  have HT := Lib.hid hT
  clear hT
  have hsl : s.data.toList.length = s.size := by rw [Lib.size_eq]
  have hwg := readL_weigh s.data.toList
  go_enter Tryd.func24, Tryd.ntmps24
  go_wp2_with fail
  refine (read_any s w hs HT.out).mono ?_
  rintro e w2 ⟨v2, rfl, hk2, hb2⟩
  have HB2 := Lib.hid hb2
  have HK2 := Lib.hid hk2
  obtain ⟨A, c, rfl, hlc⟩ := hk2.form
  clear hb2 hk2
  cases hok : (readL s.data.toList).2 with
  | false =>
    have HP := Lib.hid (parseAllB_no hok)
    clear hok
    go_wp2
    go_ret2
    rw [HP.out]
    exact ⟨_, rfl, kids_none, HB2.out⟩
  | true =>
    have HP := Lib.hid (parseAllB_yes hok)
    clear hok
    generalize (readL s.data.toList).1 = l at *
    have hwa : weigh (around l) ≤ 1000000 := by unfold around; simp only [weigh, weighL, weighP, List.map_nil, List.sum_nil]; rw [show (⟨#[120]⟩ : ByteArray).size = 1 from rfl, show (⟨#[]⟩ : ByteArray).size = 0 from rfl]; omega
    have HWA := Lib.hid hwa
    clear hwa hwg hsl
    go_wp2_with fail
    refine (around_any A l.length c w2).mono ?_
    rintro e w3 ⟨rfl, hb3⟩
    have HB3 := Lib.hid (belowNext HB2.out hb3)
    have HK3 := Lib.hid (HK2.out.keep (S' := From w.heap.size w3.heap.size) (fun b hb => ⟨hb.1, Nat.lt_of_lt_of_le hb.2 hb3.size⟩) fun b hb => hb3.block b hb.2)
    clear hb3
    go_wp2_with fail
    refine (check_any _ (around l) w3 ⟨_, _, _, rfl, strs_none, pairs_none, HK3.out.keep (fun b hb => hb.2) (fun _ _ => rfl)⟩ HWA.out (HT.out.below HB3.out)).mono ?_
    rintro e w4 ⟨rfl, hb4⟩
    have HB4 := Lib.hid (belowNext HB3.out hb4)
    have HK4 := Lib.hid (HK3.out.keep (S' := From w.heap.size w4.heap.size) (fun b hb => ⟨hb.1, Nat.lt_of_lt_of_le hb.2 hb4.size⟩) fun b hb => hb4.block b hb.2)
    clear hb4
    by_cases hc : checkB (around l) = 0
    · have HQ : Hid (parseAllB s.data.toList = (l, 0)) := Lib.hid (by rw [HP.out, if_pos hc])
      rw [hc]
      go_wp2
      go_ret2
      rw [HQ.out]
      exact ⟨_, rfl, HK4.out, HB4.out⟩
    · have HQ : Hid (parseAllB s.data.toList = ([], checkB (around l))) := Lib.hid (by rw [HP.out, if_neg hc])
      have hcb : (checkB (around l) != 0) = true := by simpa using hc
      generalize checkB (around l) = r at *
      clear hc
      go_wp2
      go_ret2
      rw [HQ.out]
      exact ⟨_, rfl, kids_none, HB4.out⟩
end Go.Proofs.YtaepolgmojkglaaDoor
