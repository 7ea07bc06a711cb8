/-
  The reader's around, and its loop.
  The reader's loop walked: read answers as its plain function.
  Parse and ParseAll answer as their plain functions.
  PrintAll and ParseAll: what they answer.
  What token's alike, partLength, reads, words and written answer.
-/
import Derived.Test.YtggoebbfgkebcaaGreatDoorMF
import Derived.Test.YtggoebbfgkebcaaGreatDoorME
import Derived.Test.YtggoebbfgkebcaaGreatDoorMB
namespace Go.Proofs.YtggoebbfgkebcaaGreatDoor
open Go.RowKit Go.Sort Go.Maps

set_option maxHeartbeats 1000000 in
theorem around_any (A : Option Addr) (n c : Nat) (w : World) :
    Calls Tryz.prog 37 #[.slice A n c] w fun e w' => e = .returned (.agg #[.string ⟨#[120]⟩, .string ⟨#[]⟩, .slice none 0 0, .slice none 0 0, .slice A n c]) ∧ Below w.heap.size w w' := by
  have hb : Below w.heap.size w (w.alloc (.cells #[.string ⟨#[120]⟩, .string ⟨#[]⟩, .slice none 0 0, .slice none 0 0, .slice A n c] 41)) := (Below.refl _ _).alloc (Nat.le_refl _) _
  have hq := heap_alloc_new w (.cells #[.string ⟨#[120]⟩, .string ⟨#[]⟩, .slice none 0 0, .slice none 0 0, .slice A n c] 41)
  have HB := Lib.hid hb
  have HQ := Lib.hid hq
  clear hb hq
  go_enter Tryz.func37, Tryz.ntmps37
  go_wp2
  obtain ⟨q0, q1, q2, q3, q4⟩ := five_cells HQ.out
  exact bodyPost_ret (v := .agg #[.string ⟨#[120]⟩, .string ⟨#[]⟩, .slice none 0 0, .slice none 0 0, .slice A n c]) (by simp [results, Tryz.results37, go_sem, q0, q1, q2, q3, q4]) rfl ⟨rfl, HB.out⟩

/-- What a round of the reader holds: so many rounds are left at most. -/
def ReadRel (w0 : World) (R : Nat) (s : List UInt8) (g : Nat) (v : Value) (wx : World) : Prop :=
  ∃ own top st l x, l.length ≤ g ∧ readN g l x (top :: st) = readN s.length s false [around []] ∧ weighAll (top :: st) + 8 * l.length ≤ 8 * s.length + 3 ∧
    Rd wx R l x ∧ Opens wx w0.heap.size own v (top :: st) ∧ own R = 0 ∧ (∀ b, b < w0.heap.size → own b = 0) ∧ Below w0.heap.size w0 wx ∧ w0.heap.size ≤ R

theorem first_kids {w : World} {base : Nat} {own : Nat → Nat} {O n cap : Nat} {st : List Tree} (h : Opens w base own (.slice (some ⟨O, 0, none⟩) n cap) st) (hst : st ≠ []) (hob : ∀ b, b < base → own b = 0) :
    ∃ A m c, w.cell? ⟨O, 4, none⟩ = some (.slice A m c) ∧ Kids w (From base w.heap.size) (.slice A m c) ((st.getLast?.map Tree.kids).getD []) := by
  obtain ⟨⟨xs, ho, hc⟩, _, _⟩ := h
  obtain ⟨t0, rest, hr⟩ : ∃ t0 rest, st.reverse = t0 :: rest := by
    cases hq : st.reverse with
    | nil => exact absurd (List.reverse_eq_nil_iff.1 hq) hst
    | cons a b => exact ⟨a, b, rfl⟩
  have hlast : st.getLast? = some t0 := by
    rw [← List.head?_reverse, hr]; rfl
  rw [hr] at hc
  obtain ⟨vm, va, vk, zs, rfl, hop, _⟩ := hc
  have hk := hop.2.2.1.kids (S' := From base w.heap.size) (fun b hb => ⟨Nat.le_of_not_lt fun hlt => by have := hob b hlt; have := hb.2; omega, hb.1⟩) fun g e => hop.2.2.1.lt g e
  obtain ⟨A, c, rfl, _⟩ := hk.form
  have hn : n = st.length := by
    rcases ho.2 with ⟨h1, _⟩ | ⟨g, c', cur, h1, _⟩
    · cases h1
    · injection h1
  subst hn
  have hl : 0 < st.length := List.length_pos_iff.2 hst
  refine ⟨A, _, c, ?_, by rw [hlast]; exact hk⟩
  rw [ho.cellAt 4 (by omega)]; rfl
theorem opens_row {w : World} {base : Nat} {own : Nat → Nat} {top : Tree} {st : List Tree} {vm va vk : Value} (h : OpenAt w base own st.length vm va vk top) :
    ∃ A c ks, vk = .slice A top.kids.length c ∧ w.ownsRow base 41 5 (.slice A top.kids.length c) top.kids.length ks ∧ Cells w (Part w own st.length) top.kids ks := by
  obtain ⟨ks, ho, hc⟩ := h.2.2.1
  rcases ho.2 with ⟨rfl, h0⟩ | ⟨g, c, cur, rfl, _⟩
  · exact ⟨none, 0, ks, by rw [h0], by rw [h0] at ho ⊢; exact ho, hc⟩
  · exact ⟨_, c, ks, rfl, ho, hc⟩

theorem node_form {w : World} {S : Nat → Prop} {v : Value} {t : Tree} (h : Node w S v t) : ∃ A2 n2 c2 A3 n3 c3 A4 n4 c4, v = .agg #[.string t.kind, .string t.text, .slice A2 n2 c2, .slice A3 n3 c3, .slice A4 n4 c4] := by
  obtain ⟨vm, va, vk, rfl, hm, ha, hk⟩ := h
  obtain ⟨A2, c2, rfl, _⟩ := hm.form
  obtain ⟨A3, c3, rfl, _⟩ := ha.form
  obtain ⟨A4, c4, rfl, _⟩ := hk.form
  exact ⟨A2, _, c2, A3, _, c3, A4, _, c4, rfl⟩
theorem row_at {w : World} {base m : Nat} {v : Value} {xs : List Value} (h : w.ownsRow base 41 5 v (m + 1) xs) : ∃ G c, v = .slice (some ⟨G, 0, none⟩) (m + 1) c := by
  rcases h.2 with ⟨_, h0⟩ | ⟨g, c, cur, rfl, _⟩
  · cases h0
  · exact ⟨g, c, rfl⟩
theorem row_cells {w : World} {base m G c : Nat} {ks : List Value} {z0 z1 z2 z3 z4 : Value} (h : w.ownsRow base 41 5 (.slice (some ⟨G, 0, none⟩) (m + 1) c) (m + 1) (ks ++ [z0, z1, z2, z3, z4])) (hk : ks.length = m * 5) :
    w.cell? ⟨G, m * 5, none⟩ = some z0 ∧ w.cell? ⟨G, m * 5 + 1, none⟩ = some z1 ∧ w.cell? ⟨G, m * 5 + 2, none⟩ = some z2 ∧ w.cell? ⟨G, m * 5 + 3, none⟩ = some z3 ∧ w.cell? ⟨G, m * 5 + 4, none⟩ = some z4 := by
  have e : ∀ j, j < 5 → w.cell? ⟨G, m * 5 + j, none⟩ = [z0, z1, z2, z3, z4][j]? := fun j hj => by
    rw [h.cellAt _ (by omega), List.getElem?_append_right (by rw [hk]; omega), hk, show m * 5 + j - m * 5 = j by omega]
  exact ⟨e 0 (by omega), e 1 (by omega), e 2 (by omega), e 3 (by omega), e 4 (by omega)⟩
theorem drew_only (R : Nat) (w : World) : OnlyR R w w.drew := ⟨rfl, rfl, rfl, Nat.le_refl _, fun _ _ _ => rfl⟩
theorem ready_rel {w0 W : World} {R g : Nat} {s : List UInt8} {v : Value} {c : UInt8} {l l1 : List UInt8} {x x1 : Bool} {top top' : Tree} {st st' : List Tree} (h : Ready w0 W R v (top' :: st') l1 x1) (hq : roundL c l x top st = (l1, x1, top' :: st'))
    (hrd : readN (g + 1) (c :: l) x (top :: st) = readN s.length s false [around []]) (hwt : weighAll (top :: st) + 8 * (c :: l).length ≤ 8 * s.length + 3) (hlg : (c :: l).length ≤ g + 1) (hb : w0.heap.size ≤ R) : ReadRel w0 R s g v W := by
  obtain ⟨own', h1, h2, h3, h4, h5⟩ := h
  have hz := round_size c l x top st
  rw [readN_step, hq] at hrd
  rw [hq] at hz
  simp only [List.length_cons] at hwt hlg
  exact ⟨own', top', st', l1, x1, by have := hz.2; simp only at this; omega, hrd, by have := hz.1; simp only at this; omega, h4, h1, h2, h3, h5, hb⟩
theorem roundL_text (l : List UInt8) (x : Bool) (top : Tree) (st : List Tree) : roundL 34 l x top st = ((textL (34 :: l)).2.1, x || (textL (34 :: l)).2.2, addKid top (textL (34 :: l)).1 :: st) := if_pos rfl
theorem Opens.only {wr w : World} {base R : Nat} {own : Nat → Nat} {v : Value} {st : List Tree} (h : Opens wr base own v st) (o : OnlyR R wr w) (hR : own R = 0) (hv : ∀ b, v.ownBlock = some b → b ≠ R) : Opens w base own v st := by
  obtain ⟨⟨xs, ho, hc⟩, h2, h3⟩ := h
  refine ⟨⟨xs, ownsRow_block ho fun b e => o.block b (ho.lt b e).2 (hv b e), hc.keep o.size fun b hb h1 _ => ⟨o.block b hb fun e => by rw [e] at h1; omega, rfl⟩⟩, h2, fun b hb => h3 b (Nat.le_trans o.size hb)⟩
theorem roundL_last (l : List UInt8) (x : Bool) (top : Tree) : roundL 93 l x top [] = ([], true, [top]) := rfl
theorem roundL_close (l : List UInt8) (x : Bool) (top up : Tree) (st : List Tree) : roundL 93 l x top (up :: st) = (if (closedL (st.length + 1) top).2 then [] else l, x || (closedL (st.length + 1) top).2, addKid up (closedL (st.length + 1) top).1 :: st) := rfl
theorem roundL_head (c : UInt8) (l : List UInt8) (x : Bool) (top : Tree) (st : List Tree) (h1 : c ≠ 34) (h2 : c ≠ 93) : roundL c l x top st = ((headL (c :: l)).2.1, x || (headL (c :: l)).2.2, (headL (c :: l)).1 :: top :: st) := by
  unfold roundL
  rw [if_neg (by simpa using h1), if_neg (by simpa using h2)]
theorem first_byte (c : UInt8) (l : List UInt8) (S : ByteArray) (h : S = ⟨(c :: l).toArray⟩) (h0 : 0 < S.size) : S[0] = c := by subst h; rfl
end Go.Proofs.YtggoebbfgkebcaaGreatDoor

namespace Go.Proofs.YtggoebbfgkebcaaGreatDoor
open Go.RowKit Go.Sort Go.Maps

theorem one_len (v : Value) (n : Nat) : Ending.returned (.tuple #[v, .bool ((n : Int) + 1 == 1)]) = .returned (.tuple #[v, .bool (!false && (n + 1 == 1))]) := by
  have : ((n : Int) + 1 == 1) = (n + 1 == 1) := by
    rw [Bool.eq_iff_iff]; simp; omega
  rw [this]; rfl

set_option maxHeartbeats 20000000 in
set_option maxRecDepth 100000 in
theorem read_any (s : ByteArray) (w : World) (hs : s.size ≤ 124000) (hT : Tabs w) :
    Calls Tryz.prog 35 #[.string s] w fun e w' => ∃ v, e = .returned (.tuple #[v, .bool (readL s.data.toList).2]) ∧ Kids w' (From w.heap.size w'.heap.size) v (readL s.data.toList).1 ∧ Below w.heap.size w w' := by
  have HT := Lib.hid hT
  clear hT
  go_enter Tryz.func35, Tryz.ntmps35
  go_wp2_with fail
  go_step3
  go_wp2_with fail
  refine (around_any none 0 0 _).mono ?_
  rintro e w1 ⟨rfl, hb1⟩
  have hb0 : Below w.heap.size w (w.alloc (.cells #[.string s, .bool false] 92)) := (Below.refl _ _).alloc (Nat.le_refl _) _
  have hR0 : Rd (w.alloc (.cells #[.string s, .bool false] 92)) w.heap.size s.data.toList false := heap_alloc_new w _
  have HR1 := Lib.hid (hR0.below hb1)
  have hz0 : (w.alloc (.cells #[.string s, .bool false] 92)).heap.size = w.heap.size + 1 := by simp
  have HB1 := Lib.hid (hb0.trans (hb1.mono (by omega)))
  have hz1 := hb1.size
  rw [hz0] at hz1
  clear hb0 hR0 hb1 hz0
  go_wp2
  go_step3
  go_wp2
  go_loopg [5] s.data.toList.length (fun g v wx => ReadRel w w.heap.size s.data.toList g v wx)
  case atStart =>
    have hbl : Below w1.heap.size w1 (w1.alloc (.cells #[.string ⟨#[120]⟩, .string ⟨#[]⟩, .slice none 0 0, .slice none 0 0, .slice none 0 0] 41)) := (Below.refl _ _).alloc (Nat.le_refl _) _
    have hlz : (w1.alloc (.cells #[.string ⟨#[120]⟩, .string ⟨#[]⟩, .slice none 0 0, .slice none 0 0, .slice none 0 0] 41)).heap.size = w1.heap.size + 1 := by simp
    refine ⟨fun _ => 0, around [], [], s.data.toList, false, Nat.le_refl _, rfl, by simp only [weighAll, around, weigh, weighL, weighP, List.map_nil, List.sum_nil]; rw [show (⟨#[120]⟩ : ByteArray).size = 1 from rfl, show (⟨#[]⟩ : ByteArray).size = 0 from rfl]; omega, HR1.out.below hbl, ⟨⟨[.string ⟨#[120]⟩, .string ⟨#[]⟩, .slice none 0 0, .slice none 0 0, .slice none 0 0], World.ownsRow_lit w1 _ 1 (by omega) (by unfold maxLen; omega) rfl, ?_⟩, fun _ _ => rfl, fun _ _ => rfl⟩, rfl, fun _ _ => rfl, HB1.out.trans (hbl.mono (by omega)), Nat.le_refl _⟩
    exact ⟨_, _, _, [], rfl, ⟨strs_nil, pairs_nil, ⟨[], World.ownsRow_nil _ _ _ _, rfl⟩, fun g e => by cases e⟩, rfl⟩
  case round =>
    obtain ⟨own, top, st, l, x, hlg, hrd, hwt, hR, hO, hoR, hob, hB, hb⟩ := hrel
    obtain ⟨O, cap, vm, va, vk, ys, rfl, hOb, hOz, hoO, hnc, hcap, hop, hrow, hoc, hys⟩ := hO.top
    have HRD := Lib.hid hrd
    have HR := Lib.hid hR
    have HOP := Lib.hid hO
    have HB := Lib.hid hB
    have HOB := Lib.hid hob
    clear hrd hO hB hob
    cases l with
    | nil =>
      obtain ⟨A, m, cc, c4, hk⟩ := first_kids HOP.out (by simp) HOB.out
      have c1 := hR.wrong
      have c0 := hR.rest
      have hfin := HRD.out
      rw [readN_nil] at hfin
      have HK := Lib.hid hk
      have hq2 : (readL s.data.toList).2 = (!x && (st.length + 1 == 1)) := by unfold readL; rw [← hfin]; rfl
      have hq1 : (readL s.data.toList).1 = (((top :: st).getLast?.map Tree.kids).getD []) := by unfold readL; rw [← hfin]
      have HQ1 := Lib.hid hq1
      have HQ2 := Lib.hid hq2
      have i0 : (0 : Int) < ((st.length + 1 : Nat) : Int) := by omega
      clear hk hfin hq1 hq2 hop hrow hoc hys hR hwt
      cases x with
      | true =>
        go_wp2
        go_quiet (fail)
        go_wp2
        rw [Exit.noGoto_ret]
        refine bodyPost_ret (results_tmp2 rfl _ _ _) rfl ⟨_, by rw [HQ2.out]; rfl, ?_, HB.out.trans ⟨rfl, rfl, rfl, Nat.le_refl _, fun _ _ => rfl⟩⟩
        rw [HQ1.out]; exact HK.out.keep (fun _ h => h) fun _ _ => rfl
      | false =>
        go_wp2
        go_quiet (fail)
        go_wp2
        rw [Exit.noGoto_ret]
        refine bodyPost_ret (results_tmp2 rfl _ _ _) rfl ⟨_, by rw [HQ2.out]; exact one_len _ st.length, ?_, HB.out.trans ⟨rfl, rfl, rfl, Nat.le_refl _, fun _ _ => rfl⟩⟩
        rw [HQ1.out]; exact HK.out.keep (fun _ h => h) fun _ _ => rfl
    | cons c l =>
      obtain ⟨g, rfl⟩ : ∃ g, gk = g + 1 := ⟨gk - 1, by simp only [List.length_cons] at hlg; omega⟩
      have hwn := len_weigh (top :: st)
      have hsl : s.data.toList.length = s.size := by rw [Lib.size_eq]
      have hwt' := hwt
      simp only [List.length_cons] at hwn hwt'
      have hstl : st.length ≤ 1000000 := by omega
      have hll : (c :: l).length ≤ 10000000 := by simp only [List.length_cons]; omega
      have HWT := Lib.hid hwt
      have HLG := Lib.hid hlg
      have HLL := Lib.hid hll
      obtain ⟨S, hS⟩ : ∃ S : ByteArray, S = ⟨(c :: l).toArray⟩ := ⟨_, rfl⟩
      have hS0 : 0 < S.size := by rw [hS]; simp [ByteArray.size]
      have hSc := first_byte c l S hS hS0
      have c0 := hR.rest
      rw [← hS] at c0
      have hSe : S.toList.isEmpty = false := by rw [Lib.toList_data, hS]; rfl
      obtain ⟨A, ck, ks, rfl, hkr, hkc⟩ := opens_row hop
      have hstg : Stage w wr own O cap w.heap.size top st vm va (.slice A top.kids.length ck) ys ks :=
        ⟨hop, hrow, hoc, hys, hoO, hOb, hOz, HOP.out.2.2, hoR, rd_ne_row hR hrow O rfl, HOB.out, HB.out, Nat.le_refl _, hR.lt, hkc, hkr⟩
      have HST := Lib.hid hstg
      have hkn : top.kids.length + 1 ≤ 100000000 := by
        have h1 := len_weigh top.kids
        have h2 : weighAll top.kids ≤ weigh top := by obtain ⟨a1, a2, a3, a4, a5⟩ := top; simp only [weigh, Tree.kids]; omega
        simp only [weighAll] at hwt'
        omega
      have HS := Lib.hid hS
      clear hwt hlg hll hS hwt' hwn hop hrow hoc hkr hkc hys hsl hcap hnc
      by_cases hc : c = 34
      · subst hc
        have hi1 : (st.length : Int) < (st.length : Int) + 1 := by omega
        have hi2 : (top.kids.length : Int) < (top.kids.length : Int) + 1 := by omega
        have c4 := hstg.cellO (OnlyR.refl _ _)
        have R0A : Hid (Rd wr.drew w.heap.size (34 :: l) x) := Lib.hid hR
        have R0B : Hid (Rd (wr.alloc (.cells #[.string ⟨#[]⟩, .string ⟨#[]⟩, .slice none 0 0, .slice none 0 0, .slice none 0 0] 41)).drew w.heap.size (34 :: l) x) := Lib.hid (hR.below (((Below.refl _ _).alloc (Nat.le_refl _) _).drew))
        have hone : ∀ u ∈ zeros5.toList, u.oneCell' = true := by simp [Value.oneCell']
        have HONE := Lib.hid hone
        have HRZ := Lib.hid hR.lt
        have HBZ := Lib.hid HB.out.size
        clear hone hR hstg
        go_wp2
        go_region_law (first
          | ((with_reducible refine step_text (R := w.heap.size) (l := 34 :: l) (x := x) rfl (.tmp 4) rfl rfl R0A.out HLL.out ?_); intro v2 w2 hn2 h2 o2; obtain ⟨A2, n2, d2, A3, n3, d3, A4, n4, d4, rfl⟩ := node_form hn2; have HM := Lib.hid (mid_after (wr := wr) (W := wr.drew) (own := own) (i := st.length) rfl (drew_only _ wr) hn2 o2 zeros5); have c4b := HST.out.cellO ((drew_only _ wr).trans o2); have c4c : (w2.alloc (.cells #[.string ⟨#[]⟩, .string ⟨#[]⟩, .slice none 0 0, .slice none 0 0, .slice none 0 0] 41)).cell? ⟨O, st.length * 5 + 4, none⟩ = some (.slice A top.kids.length ck) := HST.out.cellO HM.out.1; have HKA := Lib.hid (HST.out.kids HM.out.1); have HLA := Lib.hid HM.out.2.2.1; have HRA := Lib.hid (h2.below ((Below.refl _ _).alloc (Nat.le_refl _) (.cells zeros5 41))); have HBA := Lib.hid (Nat.le_trans HBZ.out HM.out.1.size); clear hn2 h2 o2)
          | ((with_reducible refine step_text (R := w.heap.size) (l := 34 :: l) (x := x) rfl (.tmp 4) rfl rfl R0B.out HLL.out ?_); intro v2 w2 hn2 h2 o2; obtain ⟨A2, n2, d2, A3, n3, d3, A4, n4, d4, rfl⟩ := node_form hn2; have HM := Lib.hid (mid_before (wr := wr) (W := (wr.alloc (.cells zeros5 41)).drew) (cs := zeros5) (own := own) (i := st.length) rfl rfl rfl rfl HRZ.out hn2 o2); have c4b := HST.out.cellO HM.out.1; have HKB := Lib.hid (HST.out.kids HM.out.1); have HLB := Lib.hid HM.out.2.2.1; have HRA := Lib.hid h2; have HBA := Lib.hid (Nat.le_trans HBZ.out HM.out.1.size); clear hn2 h2 o2)
          | ((with_reducible refine step_append_raw rfl (.tmp 72) (.tmp 75) rfl w.heap.size (.slice A top.kids.length ck) top.kids.length ks w2.heap.size 1 zeros5 rfl rfl HKA.out HLA.out rfl HONE.out hkn HBA.out ?_); intro v3 w3 ho3 hg3 hat3; obtain ⟨G, d5, rfl⟩ := row_at ho3; have HO3 := Lib.hid ho3; have HG3 := Lib.hid hg3; have HAT := Lib.hid (hat_form hat3); obtain ⟨q0, q1, q2, q3, q4⟩ := row_cells ho3 HST.out.kc.length; have f0 := ho3.frozenAt (top.kids.length * 5); have f1 := ho3.frozenAt (top.kids.length * 5 + 1); have f2 := ho3.frozenAt (top.kids.length * 5 + 2); have f3 := ho3.frozenAt (top.kids.length * 5 + 3); have f4 := ho3.frozenAt (top.kids.length * 5 + 4); have fO := HST.out.frozenO (HST.out.blockO HM.out.1 hg3); have cO := (World.cell?_of_block (a := ⟨O, st.length * 5 + 4, none⟩) (HST.out.blockO HM.out.1 hg3)).trans c4; have nG := (HST.out.neG HM.out.1 hat3).1; have nO := Ne.symm nG; clear ho3 hg3 hat3)
          | ((with_reducible refine step_append_raw rfl (.tmp 72) (.tmp 75) rfl w.heap.size (.slice A top.kids.length ck) top.kids.length ks wr.heap.size 1 zeros5 rfl rfl HKB.out HLB.out rfl HONE.out hkn HBA.out ?_); intro v3 w3 ho3 hg3 hat3; obtain ⟨G, d5, rfl⟩ := row_at ho3; have HO3 := Lib.hid ho3; have HG3 := Lib.hid hg3; have HAT := Lib.hid (hat_form hat3); obtain ⟨q0, q1, q2, q3, q4⟩ := row_cells ho3 HST.out.kc.length; have f0 := ho3.frozenAt (top.kids.length * 5); have f1 := ho3.frozenAt (top.kids.length * 5 + 1); have f2 := ho3.frozenAt (top.kids.length * 5 + 2); have f3 := ho3.frozenAt (top.kids.length * 5 + 3); have f4 := ho3.frozenAt (top.kids.length * 5 + 4); have fO := HST.out.frozenO (HST.out.blockO HM.out.1 hg3); have cO := (World.cell?_of_block (a := ⟨O, st.length * 5 + 4, none⟩) (HST.out.blockO HM.out.1 hg3)).trans c4; have nG := (HST.out.neG HM.out.1 hat3).1; have nO := Ne.symm nG; clear ho3 hg3 hat3))
        all_goals
          go_wp2
          go_roundg g
          case measure => omega
          case rel =>
            first
              | (with_reducible exact ready_rel (HST.out.gcX HM.out HRA.out HG3.out HAT.out HO3.out) (roundL_text l x top st) HRD.out HWT.out HLG.out (Nat.le_refl _))
              | (with_reducible exact ready_rel (HST.out.textX HM.out HRA.out HG3.out HAT.out HO3.out) (roundL_text l x top st) HRD.out HWT.out HLG.out (Nat.le_refl _))
      · have hcb : ((c.toNat : Int) == 34) = false := by
          rw [beq_eq_false_iff_ne]; intro e; exact hc (UInt8.toNat_inj.1 (by simpa using Int.ofNat.inj e))
        have HC := Lib.hid hc
        have HBZ := Lib.hid HB.out.size
        have HORZ := Lib.hid (rd_ne_row hR hstg.row)
        clear hc hstg HST hkn
        go_wp2_with fail
        refine (rd_take w.heap.size (c :: l) x ⟨#[93]⟩ wr HR.out).mono ?_
        rintro e w2 ⟨rfl, h2, o2⟩
        have HOP2 := Lib.hid (HOP.out.only o2 hoR HORZ.out)
        have HB2 := Lib.hid (HB.out.trans (o2.below (Nat.le_refl _) HBZ.out))
        have hz2 := o2.size
        clear o2
        by_cases hc9 : c = 93
        · subst hc9
          have hp : Lib.hasPrefix (93 :: l) (⟨#[93]⟩ : ByteArray).data.toList = true := by simp [Lib.hasPrefix, List.isPrefixOf]
          rw [trim_yes hp] at h2
          rw [hp]
          change Rd w2 w.heap.size l x at h2
          have H2 := Lib.hid h2
          clear h2 hp
          cases st with
          | nil =>
            go_wp2_with fail
            refine (rd_fail w.heap.size l x w2 H2.out).mono ?_
            rintro e w3 ⟨rfl, h3, o3⟩
            have HOP3 := Lib.hid (HOP2.out.only o3 hoR HORZ.out)
            have HB3 := Lib.hid (HB2.out.trans (o3.below (Nat.le_refl _) HB2.out.size))
            have H3 := Lib.hid h3
            clear h3 o3
            go_wp2
            go_roundg g
            case measure => omega
            case rel => exact ready_rel ⟨own, HOP3.out, hoR, HOB.out, H3.out, HB3.out⟩ (roundL_last l x top) HRD.out HWT.out HLG.out (Nat.le_refl _)
          | cons up st =>
            have hl0 : (((st.length : Int) + 1) == 0) = false := by rw [beq_eq_false_iff_ne]; omega
            simp only [List.length_cons] at hstl
            go_wp2_with fail
            go_cut [14, 15] (fun s14 s15 wx => ∃ b, s15 = .bool b ∧ Below w2.heap.size w2 wx)
            case first =>
              go_region
              all_goals
                go_wp2_with fail
                go_meet
                exact ⟨_, rfl, ((Below.refl _ _).alloc (Nat.le_refl _) _).drew⟩
            case rest =>
              obtain ⟨b, rfl, hb3⟩ := hcut
              have HOP3 := Lib.hid (HOP2.out.only (OnlyR.of_below _ hb3) hoR HORZ.out)
              have HB3 := Lib.hid (HB2.out.trans (hb3.mono HB2.out.size))
              have H3 := Lib.hid (H2.out.below hb3)
              clear hb3
              obtain ⟨own2, vm2, va2, vk2, hO2, hN2, hcl2, hzz2⟩ := Opens.close (top := top) (up := up) (st := st) HOP3.out
              obtain ⟨A2, n2, d2, A3, n3, d3, A4, n4, d4, he2⟩ := node_form hN2
              injection he2 with he2
              have he3 : vm2 = .slice A2 n2 d2 ∧ va2 = .slice A3 n3 d3 ∧ vk2 = .slice A4 n4 d4 := by simpa using he2
              obtain ⟨rfl, rfl, rfl⟩ := he3
              obtain ⟨O', cap', vm3, va3, vk3, ys3, e3, hOb3, hOz3, hoO3, hnc3, hcap3, hop3, hrow3, hoc3, hys3⟩ := hO2.top
              injection e3 with e31 e32 e33
              have e31 : O = O' := by injection e31 with e31; injection e31
              subst e31; subst e33
              obtain ⟨A, ck, ks, rfl, hkr3, hkc3⟩ := opens_row hop3
              have HST : Hid (Stage w wc own2 O cap w.heap.size up st vm3 va3 (.slice A up.kids.length ck) ys3 ks) :=
                Lib.hid ⟨hop3, hrow3, hoc3, hys3, hoO3, hOb3, hOz3, hO2.2.2, hzz2 _ hoR, rd_ne_row H3.out hrow3 O rfl, fun b hb => hzz2 b (HOB.out b hb), HB3.out, Nat.le_refl _, H3.out.lt, hkc3, hkr3⟩
              have HN2 := Lib.hid hN2
              have t0 : wc.cell? ⟨O, (st.length + 1) * 5, none⟩ = some (.string top.kind) := hcl2 0 _ rfl
              have t1 : wc.cell? ⟨O, (st.length + 1) * 5 + 1, none⟩ = some (.string top.text) := hcl2 1 _ rfl
              have t2 : wc.cell? ⟨O, (st.length + 1) * 5 + 2, none⟩ = some (.slice A2 n2 d2) := hcl2 2 _ rfl
              have t3 : wc.cell? ⟨O, (st.length + 1) * 5 + 3, none⟩ = some (.slice A3 n3 d3) := hcl2 3 _ rfl
              have t4 : wc.cell? ⟨O, (st.length + 1) * 5 + 4, none⟩ = some (.slice A4 n4 d4) := hcl2 4 _ rfl
              have hkn : up.kids.length + 1 ≤ 100000000 := by
                have h0 := HWT.out
                have h1 := len_weigh up.kids
                have h2 : weighAll up.kids ≤ weigh up := by obtain ⟨a1, a2, a3, a4, a5⟩ := up; simp only [weigh, Tree.kids]; omega
                have hsl : s.data.toList.length = s.size := by rw [Lib.size_eq]
                simp only [weighAll] at h0
                omega
              clear hO2 hN2 hcl2 hzz2 hop3 hrow3 hoc3 hkr3 hkc3 hys3 hcap3 e32 he2 hoO3
              have hwr1 : IntKind.i64.wrap (st.length : Int) = (st.length : Int) := IntWalk.i64_in _ (by omega)
              have hi1 : (st.length : Int) < (st.length : Int) + 1 + 1 := by omega
              have hi2 : (st.length : Int) + 1 < (st.length : Int) + 1 + 1 := by omega
              have hi3 : ((st.length : Int) + 1).toNat = st.length + 1 := by omega
              have hi4 : (0 : Int) ≤ (st.length : Int) + 1 := by omega
              have hi5 : (up.kids.length : Int) < (up.kids.length : Int) + 1 := by omega
              have hi6 : st.length + 1 ≤ cap := by omega
              have hi7 : ((st.length : Int) + 1) ≤ (cap : Int) := by omega
              have hi8 : ¬ cap = 0 := by omega
              have c4 := HST.out.cellO (OnlyR.refl _ _)
              have RA : Hid (Rd wc.drew w.heap.size l x) := Lib.hid H3.out
              have RB : Hid (Rd (wc.alloc (.cells #[.string ⟨#[]⟩, .string ⟨#[]⟩, .slice none 0 0, .slice none 0 0, .slice none 0 0] 41)).drew w.heap.size l x) := Lib.hid (H3.out.below (((Below.refl _ _).alloc (Nat.le_refl _) _).drew))
              have NA : Hid (Node wc.drew (Part wc own2 st.length) (.agg #[.string top.kind, .string top.text, .slice A2 n2 d2, .slice A3 n3 d3, .slice A4 n4 d4]) top) := Lib.hid (HN2.out.keep (fun _ h => h) fun _ _ => rfl)
              have NB : Hid (Node (wc.alloc (.cells #[.string ⟨#[]⟩, .string ⟨#[]⟩, .slice none 0 0, .slice none 0 0, .slice none 0 0] 41)).drew (Part wc own2 st.length) (.agg #[.string top.kind, .string top.text, .slice A2 n2 d2, .slice A3 n3 d3, .slice A4 n4 d4]) top) := Lib.hid (HN2.out.keep (fun _ h => h) fun b hb => (((Below.refl _ wc).alloc (Nat.le_refl _) _).drew).block b hb.1)
              have SA : Hid (∀ b, Part wc own2 st.length b → b < wc.drew.heap.size ∧ b ≠ w.heap.size) := Lib.hid fun b hb => ⟨hb.1, fun e => by have h1 := HST.out.oR; have h2 := hb.2; rw [e] at h2; omega⟩
              have SB : Hid (∀ b, Part wc own2 st.length b → b < (wc.alloc (.cells #[.string ⟨#[]⟩, .string ⟨#[]⟩, .slice none 0 0, .slice none 0 0, .slice none 0 0] 41)).drew.heap.size ∧ b ≠ w.heap.size) := Lib.hid fun b hb => ⟨Nat.lt_of_lt_of_le hb.1 (((Below.refl _ wc).alloc (Nat.le_refl _) _).drew).size, (SA.out b hb).2⟩
              have TA : Hid (Tabs wc.drew) := Lib.hid (HT.out.below HB3.out.drew)
              have TB : Hid (Tabs (wc.alloc (.cells #[.string ⟨#[]⟩, .string ⟨#[]⟩, .slice none 0 0, .slice none 0 0, .slice none 0 0] 41)).drew) := Lib.hid (HT.out.below (HB3.out.trans ((((Below.refl _ wc).alloc (Nat.le_refl _) _).drew).mono HB3.out.size)))
              have hwt1 : weigh top ≤ 1000000 := by
                have h0 := HWT.out
                have hsl : s.data.toList.length = s.size := by rw [Lib.size_eq]
                simp only [weighAll] at h0
                omega
              have HWT1 := Lib.hid hwt1
              have HD1 : Hid (st.length + 1 ≤ 100000000) := Lib.hid (by omega)
              have HDI : Hid ((st.length : Int) + 1 = ((st.length + 1 : Nat) : Int)) := Lib.hid (by omega)
              have HONE : Hid (∀ u ∈ zeros5.toList, u.oneCell' = true) := Lib.hid (by simp [Value.oneCell'])
              have HRZ := Lib.hid H3.out.lt
              have HBZ3 := Lib.hid HB3.out.size
              clear hwt1
              cases b with
              | true =>
                go_wp2_with fail
                go_region_law (first
                  | ((with_reducible refine step_closed (v := .agg #[.string top.kind, .string top.text, .slice A2 n2 d2, .slice A3 n3 d3, .slice A4 n4 d4]) (di := (st.length : Int) + 1) (R := w.heap.size) (l := l) (x := x) (t := top) (S := Part wc own2 st.length) (d := st.length + 1) rfl (.tmp 4) (.tmp 28) (.tmp 29) rfl rfl rfl rfl HDI.out RA.out NA.out SA.out HD1.out HWT1.out TA.out ?_); intro v2 w2c hn2 h2 o2; obtain ⟨B2, m2, f2, B3, m3, f3, B4, m4, f4, rfl⟩ := node_form hn2; have HM := Lib.hid (mid_after2 (wr := wc) (W := wc.drew) (drew_only _ wc) hn2 o2 zeros5); have c4b := HST.out.cellO ((drew_only _ wc).trans o2); have c4c : (w2c.alloc (.cells #[.string ⟨#[]⟩, .string ⟨#[]⟩, .slice none 0 0, .slice none 0 0, .slice none 0 0] 41)).cell? ⟨O, st.length * 5 + 4, none⟩ = some (.slice A up.kids.length ck) := HST.out.cellO HM.out.1; have HKA := Lib.hid (HST.out.kids HM.out.1); have HLA := Lib.hid HM.out.2.2.1; have HRA := Lib.hid (h2.below ((Below.refl _ _).alloc (Nat.le_refl _) (.cells zeros5 41))); have HBA := Lib.hid (Nat.le_trans HBZ3.out HM.out.1.size); clear hn2 h2 o2)
                  | ((with_reducible refine step_closed (v := .agg #[.string top.kind, .string top.text, .slice A2 n2 d2, .slice A3 n3 d3, .slice A4 n4 d4]) (di := (st.length : Int) + 1) (R := w.heap.size) (l := l) (x := x) (t := top) (S := Part wc own2 st.length) (d := st.length + 1) rfl (.tmp 4) (.tmp 28) (.tmp 29) rfl rfl rfl rfl HDI.out RB.out NB.out SB.out HD1.out HWT1.out TB.out ?_); intro v2 w2c hn2 h2 o2; obtain ⟨B2, m2, f2, B3, m3, f3, B4, m4, f4, rfl⟩ := node_form hn2; have HM := Lib.hid (mid_before2 (wr := wc) (W := (wc.alloc (.cells zeros5 41)).drew) (cs := zeros5) rfl rfl rfl rfl HRZ.out hn2 o2); have c4b := HST.out.cellO HM.out.1; have HKB := Lib.hid (HST.out.kids HM.out.1); have HLB := Lib.hid HM.out.2.2.1; have HRA := Lib.hid h2; have HBA := Lib.hid (Nat.le_trans HBZ3.out HM.out.1.size); clear hn2 h2 o2)
                  | ((with_reducible refine step_append_raw rfl (.tmp 24) (.tmp 32) rfl w.heap.size (.slice A up.kids.length ck) up.kids.length ks w2c.heap.size 1 zeros5 rfl rfl HKA.out HLA.out rfl HONE.out hkn HBA.out ?_); intro v3 w3 ho3 hg3 hat3; obtain ⟨G, d5, rfl⟩ := row_at ho3; have HO3 := Lib.hid ho3; have HG3 := Lib.hid hg3; have HAT := Lib.hid (hat_form hat3); obtain ⟨q0, q1, q2, q3, q4⟩ := row_cells ho3 HST.out.kc.length; have f0 := ho3.frozenAt (up.kids.length * 5); have f1 := ho3.frozenAt (up.kids.length * 5 + 1); have f2 := ho3.frozenAt (up.kids.length * 5 + 2); have f3 := ho3.frozenAt (up.kids.length * 5 + 3); have f4 := ho3.frozenAt (up.kids.length * 5 + 4); have fO := HST.out.frozenO (HST.out.blockO HM.out.1 hg3); have cO := (World.cell?_of_block (a := ⟨O, st.length * 5 + 4, none⟩) (HST.out.blockO HM.out.1 hg3)).trans c4; have nG := (HST.out.neG HM.out.1 hat3).1; have nO := Ne.symm nG; clear ho3 hg3 hat3)
                  | ((with_reducible refine step_append_raw rfl (.tmp 24) (.tmp 32) rfl w.heap.size (.slice A up.kids.length ck) up.kids.length ks wc.heap.size 1 zeros5 rfl rfl HKB.out HLB.out rfl HONE.out hkn HBA.out ?_); intro v3 w3 ho3 hg3 hat3; obtain ⟨G, d5, rfl⟩ := row_at ho3; have HO3 := Lib.hid ho3; have HG3 := Lib.hid hg3; have HAT := Lib.hid (hat_form hat3); obtain ⟨q0, q1, q2, q3, q4⟩ := row_cells ho3 HST.out.kc.length; have f0 := ho3.frozenAt (up.kids.length * 5); have f1 := ho3.frozenAt (up.kids.length * 5 + 1); have f2 := ho3.frozenAt (up.kids.length * 5 + 2); have f3 := ho3.frozenAt (up.kids.length * 5 + 3); have f4 := ho3.frozenAt (up.kids.length * 5 + 4); have fO := HST.out.frozenO (HST.out.blockO HM.out.1 hg3); have cO := (World.cell?_of_block (a := ⟨O, st.length * 5 + 4, none⟩) (HST.out.blockO HM.out.1 hg3)).trans c4; have nG := (HST.out.neG HM.out.1 hat3).1; have nO := Ne.symm nG; clear ho3 hg3 hat3))
                all_goals
                  go_wp2
                  go_roundg g
                  case measure => omega
                  case rel =>
                    with_reducible exact ready_rel (HST.out.textX HM.out HRA.out HG3.out HAT.out HO3.out) (roundL_close l x top up st) HRD.out HWT.out HLG.out (Nat.le_refl _)
              | false =>
                go_wp2_with fail
                go_region_law (first
                  | ((with_reducible refine step_closed (v := .agg #[.string top.kind, .string top.text, .slice A2 n2 d2, .slice A3 n3 d3, .slice A4 n4 d4]) (di := (st.length : Int) + 1) (R := w.heap.size) (l := l) (x := x) (t := top) (S := Part wc own2 st.length) (d := st.length + 1) rfl (.tmp 4) (.tmp 49) (.tmp 50) rfl rfl rfl rfl HDI.out RA.out NA.out SA.out HD1.out HWT1.out TA.out ?_); intro v2 w2c hn2 h2 o2; obtain ⟨B2, m2, f2, B3, m3, f3, B4, m4, f4, rfl⟩ := node_form hn2; have HM := Lib.hid (mid_after2 (wr := wc) (W := wc.drew) (drew_only _ wc) hn2 o2 #[.string (closedL (st.length + 1) top).1.kind, .string (closedL (st.length + 1) top).1.text, .slice B2 m2 f2, .slice B3 m3 f3, .slice B4 m4 f4]); have c4b := HST.out.cellO ((drew_only _ wc).trans o2); have c4c : (w2c.alloc (.cells #[.string (closedL (st.length + 1) top).1.kind, .string (closedL (st.length + 1) top).1.text, .slice B2 m2 f2, .slice B3 m3 f3, .slice B4 m4 f4] 41)).cell? ⟨O, st.length * 5 + 4, none⟩ = some (.slice A up.kids.length ck) := HST.out.cellO HM.out.1; have HKA := Lib.hid (HST.out.kids HM.out.1); have HLA := Lib.hid HM.out.2.2.1; have HRA := Lib.hid (h2.below ((Below.refl _ _).alloc (Nat.le_refl _) (.cells #[.string (closedL (st.length + 1) top).1.kind, .string (closedL (st.length + 1) top).1.text, .slice B2 m2 f2, .slice B3 m3 f3, .slice B4 m4 f4] 41))); have HBA := Lib.hid (Nat.le_trans HBZ3.out HM.out.1.size); have HON : Hid (∀ u ∈ (#[.string (closedL (st.length + 1) top).1.kind, .string (closedL (st.length + 1) top).1.text, .slice B2 m2 f2, .slice B3 m3 f3, .slice B4 m4 f4] : Array Value).toList, u.oneCell' = true) := Lib.hid (by simp [Value.oneCell']); clear hn2 h2 o2)
                  | ((with_reducible refine step_append_raw rfl (.tmp 45) (.tmp 52) rfl w.heap.size (.slice A up.kids.length ck) up.kids.length ks w2c.heap.size 1 #[.string (closedL (st.length + 1) top).1.kind, .string (closedL (st.length + 1) top).1.text, .slice B2 m2 f2, .slice B3 m3 f3, .slice B4 m4 f4] rfl rfl HKA.out HLA.out rfl HON.out hkn HBA.out ?_); intro v3 w3 ho3 hg3 hat3; obtain ⟨G, d5, rfl⟩ := row_at ho3; have HO3 : Hid (w3.ownsRow w.heap.size 41 5 (.slice (some ⟨G, 0, none⟩) (up.kids.length + 1) d5) (up.kids.length + 1) (ks ++ [.string (closedL (st.length + 1) top).1.kind, .string (closedL (st.length + 1) top).1.text, .slice B2 m2 f2, .slice B3 m3 f3, .slice B4 m4 f4])) := Lib.hid ho3; have HG3 := Lib.hid hg3; have HAT := Lib.hid (hat_form hat3); have fO := HST.out.frozenO (HST.out.blockO HM.out.1 hg3); have cO := (World.cell?_of_block (a := ⟨O, st.length * 5 + 4, none⟩) (HST.out.blockO HM.out.1 hg3)).trans c4; have nG := (HST.out.neG HM.out.1 hat3).1; have nO := Ne.symm nG; clear ho3 hg3 hat3))
                all_goals
                  go_wp2
                  go_roundg g
                  case measure => omega
                  case rel =>
                    with_reducible exact ready_rel (HST.out.plain HM.out HRA.out HG3.out HAT.out HO3.out) (roundL_close l x top up st) HRD.out HWT.out HLG.out (Nat.le_refl _)
        · have hp : Lib.hasPrefix (c :: l) (⟨#[93]⟩ : ByteArray).data.toList = false := by simp [Lib.hasPrefix, List.isPrefixOf]; exact fun e => hc9 e.symm
          rw [trim_no hp] at h2
          rw [hp]
          have H2 := Lib.hid h2
          have HC9 := Lib.hid hc9
          clear h2 hp hc9
          obtain ⟨⟨xs, hx1, hx2⟩, _, _⟩ := HOP2.out
          have HX1 := Lib.hid hx1
          have HX2 := Lib.hid hx2
          clear hx1 hx2
          go_wp2_with fail
          refine (rd_head w.heap.size (c :: l) x w2 H2.out HLL.out).mono ?_
          rintro e w3 ⟨va3, rfl, hpa, h3, o3⟩
          obtain ⟨A3, d3, rfl, _⟩ := hpa.form
          have hb4 : Below w3.heap.size w3 (w3.alloc (.cells #[.string (headL (c :: l)).1.kind, .string (headL (c :: l)).1.text, .slice none 0 0, .slice A3 (headL (c :: l)).1.attrs.length d3, .slice none 0 0] 41)) := (Below.refl _ _).alloc (Nat.le_refl _) _
          have hz4 : (w3.alloc (.cells #[.string (headL (c :: l)).1.kind, .string (headL (c :: l)).1.text, .slice none 0 0, .slice A3 (headL (c :: l)).1.attrs.length d3, .slice none 0 0] 41)).heap.size = w3.heap.size + 1 := by simp
          have HO4 := Lib.hid (o3.thenBelow hb4 o3.size)
          have HR4 := Lib.hid (h3.below hb4)
          have HP4 := Lib.hid (hpa.keep (S' := From w2.heap.size w3.heap.size) (fun _ h => h) fun b hb => hb4.block b hb.2)
          have HL4 := Lib.hid (heap_alloc_new w3 (.cells #[.string (headL (c :: l)).1.kind, .string (headL (c :: l)).1.text, .slice none 0 0, .slice A3 (headL (c :: l)).1.attrs.length d3, .slice none 0 0] 41))
          have HX4 := Lib.hid (ownsRow_block HX1.out fun b e => HO4.out.block b (HX1.out.lt b e).2 (HORZ.out b e))
          have hone : ∀ u ∈ (#[.string (headL (c :: l)).1.kind, .string (headL (c :: l)).1.text, .slice none 0 0, .slice A3 (headL (c :: l)).1.attrs.length d3, .slice none 0 0] : Array Value).toList, u.oneCell' = true := by simp [Value.oneCell']
          have HONE := Lib.hid hone
          have hbase : w.heap.size ≤ (w3.alloc (.cells #[.string (headL (c :: l)).1.kind, .string (headL (c :: l)).1.text, .slice none 0 0, .slice A3 (headL (c :: l)).1.attrs.length d3, .slice none 0 0] 41)).heap.size := Nat.le_trans HB2.out.size HO4.out.size
          have HBASE := Lib.hid hbase
          have hln : (top :: st).length + 1 ≤ 100000000 := by simp only [List.length_cons]; omega
          have HZ3 := Lib.hid o3.size
          clear hb4 hone hbase hpa h3 o3
          go_wp2_with (at_builtin; refine wpList_append_raw rfl (.tmp 83) (.tmp 85) rfl w.heap.size (.slice (some ⟨O, 0, none⟩) (st.length + 1) cap) (top :: st).length xs w3.heap.size 1 #[.string (headL (c :: l)).1.kind, .string (headL (c :: l)).1.text, .slice none 0 0, .slice A3 (headL (c :: l)).1.attrs.length d3, .slice none 0 0] rfl rfl HX4.out HL4.out rfl HONE.out hln HBASE.out ?_)
          intro v5 w5 ho5 hg5 hat5
          have HR5 : Hid (Ready w w5 w.heap.size v5 ((headL (c :: l)).1 :: top :: st) (headL (c :: l)).2.1 (x || (headL (c :: l)).2.2)) := Lib.hid (ready_open (g := w3.heap.size) HOP2.out HX1.out HX2.out hoR HOB.out HB2.out (Nat.le_refl _) HORZ.out H2.out.lt HO4.out HR4.out HP4.out (fun b hb => ⟨hb.1, by have := hb.2; omega, by have := hb.2; omega⟩) rfl rfl ho5 hg5 (by rw [hz4]; exact hat5))
          clear ho5 hg5 hat5
          go_wp2
          go_roundg g
          case measure => omega
          case rel => exact ready_rel HR5.out (roundL_head c l x top st HC.out HC9.out) HRD.out HWT.out HLG.out (Nat.le_refl _)
end Go.Proofs.YtggoebbfgkebcaaGreatDoor

namespace Go.Proofs.YtggoebbfgkebcaaGreatDoor
open Go.RowKit Go.Sort Go.Maps

theorem readN_weigh : ∀ (n : Nat) (l : List UInt8) (x : Bool) (st : List Tree), weighAll (readN n l x st).1 ≤ weighAll st + 8 * l.length
  | 0, _, _, _ => Nat.le_add_right _ _
  | _ + 1, [], _, _ => Nat.le_add_right _ _
  | _ + 1, _ :: _, _, [] => by rw [readN]; simp [weighAll]
  | n + 1, c :: l, x, top :: st => by
    rw [readN_step]
    have h1 := readN_weigh n (roundL c l x top st).1 (roundL c l x top st).2.1 (roundL c l x top st).2.2
    have h2 := (round_size c l x top st).1
    simp only [List.length_cons]
    omega
theorem weigh_kids (t : Tree) : weighAll t.kids ≤ weigh t := by obtain ⟨a, b, c, d, e⟩ := t; simp only [weigh, Tree.kids]; omega
theorem readL_weigh (s : List UInt8) : weighAll (readL s).1 ≤ 8 * s.length + 3 := by
  have h := readN_weigh s.length s false [around []]
  have h0 : weighAll [around []] = 3 := by simp only [weighAll, around, weigh, weighL, weighP, List.map_nil, List.sum_nil]; rfl
  unfold readL
  cases hq : (readN s.length s false [around []]).1.getLast? with
  | none => simp [weighAll]
  | some t =>
    have h1 := weigh_mem (List.mem_of_getLast? hq)
    have h2 := weigh_kids t
    show weighAll t.kids ≤ _
    omega

theorem parseB_no {s : List UInt8} (h : (readL s).2 = false) : parseB s = (noTree, 2) := by
  unfold parseB
  rcases hq : readL s with ⟨l, b⟩
  rw [hq] at h
  simp only at h
  subst h
  rcases l with _ | ⟨t, _ | _⟩ <;> rfl
theorem parseB_len {s : List UInt8} (h : (readL s).1.length ≠ 1) : parseB s = (noTree, 2) := by
  unfold parseB
  rcases hq : readL s with ⟨l, b⟩
  rw [hq] at h
  rcases l with _ | ⟨t, _ | ⟨u, l⟩⟩
  · rfl
  · exact absurd rfl h
  · rfl
theorem parseB_one {s : List UInt8} {t : Tree} (h : readL s = ([t], true)) : parseB s = if checkB t = 0 then (t, 0) else (noTree, checkB t) := by
  unfold parseB; rw [h]

/-- How Parse ends. -/
def ParsePost (w : World) (q : Tree × Int) (e : Ending) (w' : World) : Prop :=
  ∃ v, e = .returned (.tuple #[v, .int .i64 q.2]) ∧ Node w' (From w.heap.size w'.heap.size) v q.1 ∧ Below w.heap.size w w'

theorem parse_none {w2 : World} {S : Nat → Prop} : Node w2 S (.agg #[.string ⟨#[]⟩, .string ⟨#[]⟩, .slice none 0 0, .slice none 0 0, .slice none 0 0]) noTree :=
  ⟨_, _, _, rfl, strs_nil, pairs_nil, kids_nil⟩

set_option maxHeartbeats 4000000 in
theorem parse_any (s : ByteArray) (w : World) (hs : s.size ≤ 124000) (hT : Tabs w) :
    Calls Tryz.prog 53 #[.string s] w (ParsePost w (parseB s.data.toList)) := by
  have HT := Lib.hid hT
  have hb0 : Below w.heap.size w (w.alloc (.cells #[.string ⟨#[]⟩, .string ⟨#[]⟩, .slice none 0 0, .slice none 0 0, .slice none 0 0] 41)) := (Below.refl _ _).alloc (Nat.le_refl _) _
  have hz0 : (w.alloc (.cells #[.string ⟨#[]⟩, .string ⟨#[]⟩, .slice none 0 0, .slice none 0 0, .slice none 0 0] 41)).heap.size = w.heap.size + 1 := by simp
  have hc0 := heap_alloc_new w (.cells #[.string ⟨#[]⟩, .string ⟨#[]⟩, .slice none 0 0, .slice none 0 0, .slice none 0 0] 41)
  have HB0 := Lib.hid hb0
  have HC0 := Lib.hid hc0
  clear hT hb0 hc0
  have hsl : s.data.toList.length = s.size := by rw [Lib.size_eq]
  have hwg := readL_weigh s.data.toList
  go_enter Tryz.func53, Tryz.ntmps53
  go_wp2_with fail
  generalize w.alloc (.cells #[.string ⟨#[]⟩, .string ⟨#[]⟩, .slice none 0 0, .slice none 0 0, .slice none 0 0] 41) = w1 at *
  refine (read_any s w1 hs (HT.out.below HB0.out)).mono ?_
  rintro e w2 ⟨v2, rfl, hk2, hb2⟩
  have hc2 := (hb2.block w.heap.size (by omega)).trans HC0.out
  have HC2 := Lib.hid hc2
  have HB2 := Lib.hid (HB0.out.trans (hb2.mono (by omega)))
  have hz2 := hb2.size
  obtain ⟨b0, b1, b2, b3, b4⟩ := five_cells hc2
  have f0 := frozen_of_row w2 _ 0 _ _ hc2
  have f1 := frozen_of_row w2 _ 1 _ _ hc2
  have f2 := frozen_of_row w2 _ 2 _ _ hc2
  have f3 := frozen_of_row w2 _ 3 _ _ hc2
  have f4 := frozen_of_row w2 _ 4 _ _ hc2
  obtain ⟨A, c, rfl, hlc⟩ := hk2.form
  have HK2 := Lib.hid hk2
  clear hb2 hk2 hc2
  cases hok : (readL s.data.toList).2 with
  | false =>
    have HP := Lib.hid (parseB_no hok)
    clear hok
    go_wp2
    have q := put5_at HC2.out (.string ⟨#[]⟩) (.string ⟨#[]⟩) (.slice none 0 0) (.slice none 0 0) (.slice none 0 0)
    have o6 := put5_only w2 w.heap.size (.string ⟨#[]⟩) (.string ⟨#[]⟩) (.slice none 0 0) (.slice none 0 0) (.slice none 0 0)
    change bodyPost _ _ _ _ _ (put5 w2 w.heap.size (.string ⟨#[]⟩) (.string ⟨#[]⟩) (.slice none 0 0) (.slice none 0 0) (.slice none 0 0))
    generalize put5 w2 w.heap.size (.string ⟨#[]⟩) (.string ⟨#[]⟩) (.slice none 0 0) (.slice none 0 0) (.slice none 0 0) = W at *
    obtain ⟨q0, q1, q2, q3, q4⟩ := five_cells q
    refine bodyPost_ret (v := .tuple #[.agg #[.string ⟨#[]⟩, .string ⟨#[]⟩, .slice none 0 0, .slice none 0 0, .slice none 0 0], .int .i64 2]) (by simp [results, Tryz.results53, go_sem, q0, q1, q2, q3, q4]) rfl ?_
    rw [HP.out]
    exact ⟨_, rfl, parse_none, HB2.out.trans (o6.below (Nat.le_refl _) (by omega))⟩
  | true =>
    by_cases hln : (readL s.data.toList).1.length = 1
    · obtain ⟨t, ht⟩ : ∃ t, (readL s.data.toList).1 = [t] := List.length_eq_one_iff.1 hln
      have hrl : readL s.data.toList = ([t], true) := Prod.ext ht hok
      have HP := Lib.hid (parseB_one hrl)
      have hk := HK2.out
      rw [ht] at hk hwg ⊢
      have hwt : weigh t ≤ 1000000 := by simp only [weighAll] at hwg; omega
      obtain ⟨A', c', he, _, _, hrow⟩ := hk
      injection he with e1 _ e3
      subst e1; subst e3
      rcases hrow with h0 | ⟨g, o, rfl, hg, hr⟩
      · cases h0
      have hat := rowAt_get _ _ _ hr 0 t rfl
      rw [Nat.zero_mul, Nat.add_zero] at hat
      obtain ⟨vm, va, vk, t0, t1, t2, t3, t4, hm, ha, hkk⟩ := (nodeAt_iff t g o).1 hat
      have HM := Lib.hid hm
      have HA := Lib.hid ha
      have HKK := Lib.hid hkk
      obtain ⟨Am, cm, rfl, _⟩ := hm.form
      obtain ⟨Aa, ca, rfl, _⟩ := ha.form
      obtain ⟨Ak, cq, rfl, _⟩ := hkk.form
      have HN : Hid (Node w2 (From w1.heap.size w2.heap.size) (.agg #[.string t.kind, .string t.text, .slice Am t.marks.length cm, .slice Aa t.attrs.length ca, .slice Ak t.kids.length cq]) t) := Lib.hid ⟨_, _, _, rfl, hm, ha, hkk⟩
      have hg2 : g < w2.heap.size := hg.2
      have hgw : ¬ g = w.heap.size := by have := hg.1; omega
      have i0 : (0 : Int) < 1 := by omega
      have hl1 : ([t] : List Tree).length = 1 := rfl
      rw [hl1]
      clear hok hln ht hrl hwg hr hat hm ha hkk hl1 HK2 hlc hg
      go_wp2_with fail
      refine (check_any _ t w2 (HN.out.keep (fun b hb => hb.2) (fun _ _ => rfl)) hwt (HT.out.below HB2.out)).mono ?_
      rintro e w3 ⟨rfl, hb3⟩
      have hz3 := hb3.size
      have HC3 := Lib.hid ((hb3.block w.heap.size (by omega)).trans HC2.out)
      have HB3 := Lib.hid (HB2.out.trans (hb3.mono (by omega)))
      have HN3 := Lib.hid (HN.out.keep (S' := From w1.heap.size w2.heap.size) (fun _ h => h) fun b hb => hb3.block b hb.2)
      have s0 := (World.cell?_of_block (a := ⟨g, o, none⟩) (hb3.block g hg2)).trans t0
      have s1 := (World.cell?_of_block (a := ⟨g, o + 1, none⟩) (hb3.block g hg2)).trans t1
      have s2 := (World.cell?_of_block (a := ⟨g, o + 2, none⟩) (hb3.block g hg2)).trans t2
      have s3 := (World.cell?_of_block (a := ⟨g, o + 3, none⟩) (hb3.block g hg2)).trans t3
      have s4 := (World.cell?_of_block (a := ⟨g, o + 4, none⟩) (hb3.block g hg2)).trans t4
      clear hb3 b0 b1 b2 b3 b4 f0 f1 f2 f3 f4 t0 t1 t2 t3 t4
      have hc3 := HC3.out
      obtain ⟨b0, b1, b2, b3, b4⟩ := five_cells hc3
      have f0 := frozen_of_row w3 _ 0 _ _ hc3
      have f1 := frozen_of_row w3 _ 1 _ _ hc3
      have f2 := frozen_of_row w3 _ 2 _ _ hc3
      have f3 := frozen_of_row w3 _ 3 _ _ hc3
      have f4 := frozen_of_row w3 _ 4 _ _ hc3
      clear hc3
      by_cases hc : checkB t = 0
      · have HQ : Hid (parseB s.data.toList = (t, 0)) := Lib.hid (by rw [HP.out, if_pos hc])
        rw [hc]
        clear hc
        go_wp2
        have q := put5_at HC3.out (.string t.kind) (.string t.text) (.slice Am t.marks.length cm) (.slice Aa t.attrs.length ca) (.slice Ak t.kids.length cq)
        have o6 := put5_only w3 w.heap.size (.string t.kind) (.string t.text) (.slice Am t.marks.length cm) (.slice Aa t.attrs.length ca) (.slice Ak t.kids.length cq)
        change bodyPost _ _ _ _ _ (put5 w3 w.heap.size (.string t.kind) (.string t.text) (.slice Am t.marks.length cm) (.slice Aa t.attrs.length ca) (.slice Ak t.kids.length cq))
        generalize put5 w3 w.heap.size (.string t.kind) (.string t.text) (.slice Am t.marks.length cm) (.slice Aa t.attrs.length ca) (.slice Ak t.kids.length cq) = W at *
        have hz6 := o6.size
        obtain ⟨q0, q1, q2, q3, q4⟩ := five_cells q
        refine bodyPost_ret (v := .tuple #[.agg #[.string t.kind, .string t.text, .slice Am t.marks.length cm, .slice Aa t.attrs.length ca, .slice Ak t.kids.length cq], .int .i64 0]) (by simp [results, Tryz.results53, go_sem, q0, q1, q2, q3, q4]) rfl ?_
        rw [HQ.out]
        exact ⟨_, rfl, HN3.out.keep (fun b hb => ⟨by have := hb.1; omega, by have := hb.2; omega⟩) (fun b hb => o6.block b (by have := hb.2; omega) (by have := hb.1; omega)), HB3.out.trans (o6.below (Nat.le_refl _) (by omega))⟩
      · have HQ : Hid (parseB s.data.toList = (noTree, checkB t)) := Lib.hid (by rw [HP.out, if_neg hc])
        have hcb : (checkB t != 0) = true := by simpa using hc
        generalize checkB t = r at *
        clear hc
        go_wp2
        have q := put5_at HC3.out (.string ⟨#[]⟩) (.string ⟨#[]⟩) (.slice none 0 0) (.slice none 0 0) (.slice none 0 0)
        have o6 := put5_only w3 w.heap.size (.string ⟨#[]⟩) (.string ⟨#[]⟩) (.slice none 0 0) (.slice none 0 0) (.slice none 0 0)
        change bodyPost _ _ _ _ _ (put5 w3 w.heap.size (.string ⟨#[]⟩) (.string ⟨#[]⟩) (.slice none 0 0) (.slice none 0 0) (.slice none 0 0))
        generalize put5 w3 w.heap.size (.string ⟨#[]⟩) (.string ⟨#[]⟩) (.slice none 0 0) (.slice none 0 0) (.slice none 0 0) = W at *
        obtain ⟨q0, q1, q2, q3, q4⟩ := five_cells q
        refine bodyPost_ret (v := .tuple #[.agg #[.string ⟨#[]⟩, .string ⟨#[]⟩, .slice none 0 0, .slice none 0 0, .slice none 0 0], .int .i64 r]) (by simp [results, Tryz.results53, go_sem, q0, q1, q2, q3, q4]) rfl ?_
        rw [HQ.out]
        exact ⟨_, rfl, parse_none, HB3.out.trans (o6.below (Nat.le_refl _) (by omega))⟩
    · have HP := Lib.hid (parseB_len hln)
      have hlb : (((readL s.data.toList).1.length : Int) != 1) = true := by rw [bne_iff_ne]; omega
      clear hln
      go_wp2
      have q := put5_at HC2.out (.string ⟨#[]⟩) (.string ⟨#[]⟩) (.slice none 0 0) (.slice none 0 0) (.slice none 0 0)
      have o6 := put5_only w2 w.heap.size (.string ⟨#[]⟩) (.string ⟨#[]⟩) (.slice none 0 0) (.slice none 0 0) (.slice none 0 0)
      change bodyPost _ _ _ _ _ (put5 w2 w.heap.size (.string ⟨#[]⟩) (.string ⟨#[]⟩) (.slice none 0 0) (.slice none 0 0) (.slice none 0 0))
      generalize put5 w2 w.heap.size (.string ⟨#[]⟩) (.string ⟨#[]⟩) (.slice none 0 0) (.slice none 0 0) (.slice none 0 0) = W at *
      obtain ⟨q0, q1, q2, q3, q4⟩ := five_cells q
      refine bodyPost_ret (v := .tuple #[.agg #[.string ⟨#[]⟩, .string ⟨#[]⟩, .slice none 0 0, .slice none 0 0, .slice none 0 0], .int .i64 2]) (by simp [results, Tryz.results53, go_sem, q0, q1, q2, q3, q4]) rfl ?_
      rw [HP.out]
      exact ⟨_, rfl, parse_none, HB2.out.trans (o6.below (Nat.le_refl _) (by omega))⟩
end Go.Proofs.YtggoebbfgkebcaaGreatDoor

namespace Go.Proofs.YtggoebbfgkebcaaGreatDoor
open Go.RowKit Go.Sort Go.Maps

/-- What PrintAll answers. -/
def printAllB (l : List Tree) : List UInt8 := if checkB (around l) = 0 then writeAllB l else []
theorem parseAllB_no {s : List UInt8} (h : (readL s).2 = false) : parseAllB s = ([], 2) := by
  unfold parseAllB
  rcases hq : readL s with ⟨l, b⟩
  rw [hq] at h
  simp only at h
  subst h
  rfl
theorem parseAllB_yes {s : List UInt8} (h : (readL s).2 = true) : parseAllB s = if checkB (around (readL s).1) = 0 then ((readL s).1, 0) else ([], checkB (around (readL s).1)) := by
  unfold parseAllB
  rcases hq : readL s with ⟨l, b⟩
  rw [hq] at h
  simp only at h
  subst h
  rfl
/-- How ParseAll ends. -/
def ParseAllPost (w : World) (q : List Tree × Int) (e : Ending) (w' : World) : Prop :=
  ∃ v, e = .returned (.tuple #[v, .int .i64 q.2]) ∧ Kids w' (From w.heap.size w'.heap.size) v q.1 ∧ Below w.heap.size w w'

set_option maxHeartbeats 4000000 in
theorem parseAll_any (s : ByteArray) (w : World) (hs : s.size ≤ 124000) (hT : Tabs w) :
    Calls Tryz.prog 17 #[.string s] w (ParseAllPost w (parseAllB s.data.toList)) := by
  have HT := Lib.hid hT
  clear hT
  have hsl : s.data.toList.length = s.size := by rw [Lib.size_eq]
  have hwg := readL_weigh s.data.toList
  go_enter Tryz.func17, Tryz.ntmps17
  go_wp2_with fail
  refine (read_any s w hs HT.out).mono ?_
  rintro e w2 ⟨v2, rfl, hk2, hb2⟩
  have HB2 := Lib.hid hb2
  have HK2 := Lib.hid hk2
  obtain ⟨A, c, rfl, hlc⟩ := hk2.form
  clear hb2 hk2
  cases hok : (readL s.data.toList).2 with
  | false =>
    have HP := Lib.hid (parseAllB_no hok)
    clear hok
    go_wp2
    go_ret2
    rw [HP.out]
    exact ⟨_, rfl, kids_none, HB2.out⟩
  | true =>
    have HP := Lib.hid (parseAllB_yes hok)
    clear hok
    generalize (readL s.data.toList).1 = l at *
    have hwa : weigh (around l) ≤ 1000000 := by unfold around; simp only [weigh, weighL, weighP, List.map_nil, List.sum_nil]; rw [show (⟨#[120]⟩ : ByteArray).size = 1 from rfl, show (⟨#[]⟩ : ByteArray).size = 0 from rfl]; omega
    have HWA := Lib.hid hwa
    clear hwa hwg hsl
    go_wp2_with fail
    refine (around_any A l.length c w2).mono ?_
    rintro e w3 ⟨rfl, hb3⟩
    have HB3 := Lib.hid (belowNext HB2.out hb3)
    have HK3 := Lib.hid (HK2.out.keep (S' := From w.heap.size w3.heap.size) (fun b hb => ⟨hb.1, Nat.lt_of_lt_of_le hb.2 hb3.size⟩) fun b hb => hb3.block b hb.2)
    clear hb3
    go_wp2_with fail
    refine (check_any _ (around l) w3 ⟨_, _, _, rfl, strs_none, pairs_none, HK3.out.keep (fun b hb => hb.2) (fun _ _ => rfl)⟩ HWA.out (HT.out.below HB3.out)).mono ?_
    rintro e w4 ⟨rfl, hb4⟩
    have HB4 := Lib.hid (belowNext HB3.out hb4)
    have HK4 := Lib.hid (HK3.out.keep (S' := From w.heap.size w4.heap.size) (fun b hb => ⟨hb.1, Nat.lt_of_lt_of_le hb.2 hb4.size⟩) fun b hb => hb4.block b hb.2)
    clear hb4
    by_cases hc : checkB (around l) = 0
    · have HQ : Hid (parseAllB s.data.toList = (l, 0)) := Lib.hid (by rw [HP.out, if_pos hc])
      rw [hc]
      go_wp2
      go_ret2
      rw [HQ.out]
      exact ⟨_, rfl, HK4.out, HB4.out⟩
    · have HQ : Hid (parseAllB s.data.toList = ([], checkB (around l))) := Lib.hid (by rw [HP.out, if_neg hc])
      have hcb : (checkB (around l) != 0) = true := by simpa using hc
      generalize checkB (around l) = r at *
      clear hc
      go_wp2
      go_ret2
      rw [HQ.out]
      exact ⟨_, rfl, kids_none, HB4.out⟩
end Go.Proofs.YtggoebbfgkebcaaGreatDoor

namespace Go.Proofs.YtggoebbfgkebcaaGreatDoor
open Go.RowKit Go.Sort Go.Maps

theorem int_eq (a b : Nat) : ((a : Int) == (b : Int)) = decide (a = b) := by
  by_cases h : a = b
  · subst h; simp
  · rw [decide_eq_false h]; exact beq_eq_false_iff_ne.2 (by omega)
theorem bytes_eq (a b : ByteArray) : (a.toList == b.toList) = decide (a = b) := by
  by_cases h : a = b
  · subst h; simp
  · rw [decide_eq_false h, Bool.eq_false_iff]; exact fun e => h ((bytes_iff a b).1 e)
/-- A token that lies in a block of its own. -/
abbrev TokO (a : Tok) : Obj := .cells #[.int .u8 (a.kind : Int), .string a.text, .string a.head] 25
abbrev TokA (a : Tok) : Value := .agg #[.int .u8 (a.kind : Int), .string a.text, .string a.head]
theorem tokO_cells {w : World} {g : Nat} {a : Tok} (h : w.heap[g]? = some (TokO a)) : w.cell? ⟨g, 0, none⟩ = some (.int .u8 (a.kind : Int)) ∧ w.cell? ⟨g, 1, none⟩ = some (.string a.text) ∧ w.cell? ⟨g, 2, none⟩ = some (.string a.head) :=
  ⟨by simp [World.cell?, h], by simp [World.cell?, h], by simp [World.cell?, h]⟩

set_option maxHeartbeats 2000000 in
theorem talike_any (a b : Tok) (w : World) :
    Calls Tryz.prog 30 #[TokA a, TokA b] w fun e w' => e = .returned (.bool (likeT a b)) ∧ Below w.heap.size w w' := by
  have hlk : likeT a b = (((a.kind : Int) == (116 : Int)) && (((b.kind : Int) == (116 : Int)) && (a.head.toList == b.head.toList))) := by
    unfold likeT; rw [show (116 : Int) = ((116 : Nat) : Int) from rfl, int_eq, int_eq, bytes_eq]
  rw [hlk]
  clear hlk
  have HB : Hid (Below w.heap.size w ((w.alloc (TokO a)).alloc (TokO b))) := Lib.hid (((Below.refl _ _).alloc (Nat.le_refl _) _).alloc (by simp) _)
  obtain ⟨x0, x1, x2⟩ := tokO_cells (w := (w.alloc (TokO a)).alloc (TokO b)) (g := w.heap.size) (a := a) (heap_old _ _ _ (heap_new _ _))
  obtain ⟨y0, y1, y2⟩ := tokO_cells (w := (w.alloc (TokO a)).alloc (TokO b)) (g := w.heap.size + 1) (a := b) (heap_new' _ _ (by simp))
  cases q0 : ((a.kind : Int) == (116 : Int)) with
  | false =>
    go_enter Tryz.func30, Tryz.ntmps30
    go_wp2
    go_ret
    exact ⟨rfl, HB.out⟩
  | true =>
    cases q1 : ((b.kind : Int) == (116 : Int)) with
    | false =>
      go_enter Tryz.func30, Tryz.ntmps30
      go_wp2
      go_ret
      exact ⟨rfl, HB.out⟩
    | true =>
      go_enter Tryz.func30, Tryz.ntmps30
      go_wp2
      go_ret
      exact ⟨rfl, HB.out⟩

theorem partN_step {l : List Tok} {k : Nat} {x y : Tok} (hx : l[k]? = some x) (hy : l[k + 1]? = some y) : partN (l.drop k) = if likeT x y then partN (l.drop (k + 1)) + 1 else 1 := by
  have h1 := (List.getElem?_eq_some_iff.1 hx).1
  have h2 := (List.getElem?_eq_some_iff.1 hy).1
  have e1 := (List.getElem?_eq_some_iff.1 hx).2
  have e2 := (List.getElem?_eq_some_iff.1 hy).2
  rw [List.drop_eq_getElem_cons h1, List.drop_eq_getElem_cons h2, e1, e2, partN]
theorem partN_last {l : List Tok} {k : Nat} (h : k + 1 = l.length) : partN (l.drop k) = 1 := by
  rw [List.drop_eq_getElem_cons (by omega), List.drop_eq_nil_of_le (by omega)]; rfl

set_option maxHeartbeats 4000000 in
set_option maxRecDepth 100000 in
theorem partLength_any (v : Value) (l : List Tok) (w : World) (h : Toks w (Under w.heap.size) v l) (h0 : l ≠ []) (hl : l.length ≤ 1000000) :
    Calls Tryz.prog 14 #[v] w fun e w' => e = .returned (.int .i64 (partN l)) ∧ Below w.heap.size w w' := by
  have hpos : 0 < l.length := List.length_pos_iff.2 h0
  have HL := Lib.hid h
  obtain ⟨A, c, rfl, _⟩ := h.form
  clear h
  go_enter Tryz.func14, Tryz.ntmps14
  go_wp2
  go_loopw [3] (fun i wr => ∃ k : Nat, k < l.length ∧ i = .int .i64 ((k : Int) + 1) ∧ Hid (partN l = k + partN (l.drop k)) ∧ Below w.heap.size w wr) (fun i _ => l.length + 1 - (intOf i).toNat)
  case atStart => exact ⟨0, hpos, rfl, Lib.hid (by simp), Below.refl _ _⟩
  case round =>
    obtain ⟨k, hk, rfl, hrun, hbr⟩ := hrel
    by_cases hlt : k + 1 < l.length
    · have hlx : l[k]? = some l[k] := List.getElem?_eq_getElem hk
      have hly : l[k + 1]? = some l[k + 1] := List.getElem?_eq_getElem hlt
      generalize l[k] = x at *
      generalize l[k + 1] = y at *
      have HST := Lib.hid (partN_step hlx hly)
      obtain ⟨b, o, rfl, hub, e0, e1, e2⟩ := HL.out.get hlx
      obtain ⟨b', o', he, _, d0, d1, d2⟩ := HL.out.get hly
      injection he with he; injection he with he1 he2; subst he1; subst he2
      have k0 := cell_regrown (cell_kept e0 hbr)
      have k1 := cell_regrown (cell_kept e1 hbr)
      have k2 := cell_regrown (cell_kept e2 hbr)
      have m0 := cell_regrown (cell_kept d0 hbr)
      have m1 := cell_regrown (cell_kept d1 hbr)
      have m2 := cell_regrown (cell_kept d2 hbr)
      have g1 : ((k : Int) + 1 - 1).toNat = k := by omega
      have g2 : ((k : Int) + 1).toNat = k + 1 := by omega
      have g3 : decide ((k : Int) + 1 < (l.length : Int)) = true := by simp; omega
      have HAL := Lib.hid (regrown_any (w := wr) fun W hW => talike_any x y W)
      clear e0 e1 e2 d0 d1 d2 hlx hly
      cases hal : likeT x y with
      | true =>
        rw [hal] at HST HAL
        clear hal
        go_wp2_with fail
        refine wp_region_quiet_below (by kernel_rfl) (by kernel_rfl) ?_
        repeat (first | go_big_quiet_step (exact HAL.out _ _) | quiet_step (exact HAL.out _ _))
        refine wpQuiet_nil ?_
        intro _ hw'
        obtain ⟨⟨dq, osq⟩, hw''⟩ := hw'
        subst hw''
        have HQ := Lib.hid (below_regrown wr dq osq)
        go_wp2
        exact ⟨⟨k + 1, hlt, by go_num, Lib.hid (by rw [hrun.out, HST.out]; simp; omega), belowNext hbr HQ.out⟩, by simp [intOf]; omega⟩
      | false =>
        rw [hal] at HST HAL
        clear hal
        go_wp2_with fail
        refine wp_region_quiet_below (by kernel_rfl) (by kernel_rfl) ?_
        repeat (first | go_big_quiet_step (exact HAL.out _ _) | quiet_step (exact HAL.out _ _))
        refine wpQuiet_nil ?_
        intro _ hw'
        obtain ⟨⟨dq, osq⟩, hw''⟩ := hw'
        subst hw''
        have HQ := Lib.hid (below_regrown wr dq osq)
        go_wp2
        go_ret
        exact ⟨ret_num (by rw [hrun.out, HST.out]; simp), belowNext hbr HQ.out⟩
    · have HR : Hid (partN (l.drop k) = 1) := Lib.hid (partN_last (by omega))
      have g3 : decide ((k : Int) + 1 < (l.length : Int)) = false := by simp; omega
      go_wp2_with fail
      refine wp_region_quiet_below (by kernel_rfl) (by kernel_rfl) ?_
      repeat (first | go_big_quiet_step (fail) | quiet_step (fail))
      refine wpQuiet_nil ?_
      intro _ hw'
      obtain ⟨⟨dq, osq⟩, hw''⟩ := hw'
      subst hw''
      have HQ := Lib.hid (below_regrown wr dq osq)
      go_wp2
      go_ret
      exact ⟨ret_num (by rw [hrun.out, HR.out]; omega), belowNext hbr HQ.out⟩

set_option maxHeartbeats 2000000 in
theorem reads_any (s : ByteArray) (w : World) (hs : s.size ≤ 124000) (hT : Tabs w) :
    Calls Tryz.prog 31 #[.string s] w fun e w' => e = .returned (.bool (readsB s.data.toList)) ∧ Below w.heap.size w w' := by
  have HT := Lib.hid hT
  clear hT
  go_enter Tryz.func31, Tryz.ntmps31
  go_wp2_with fail
  refine (parse_any s w hs HT.out).mono ?_
  rintro e w1 ⟨v, rfl, hn, hb⟩
  have HRB : Hid (readsB s.data.toList = ((parseB s.data.toList).2 == 0)) := Lib.hid (by unfold readsB; by_cases h : (parseB s.data.toList).2 = 0 <;> simp [h])
  obtain ⟨A2, n2, c2, A3, n3, c3, A4, n4, c4, rfl⟩ := node_form hn
  have HB := Lib.hid hb
  clear hn hb
  generalize (parseB s.data.toList).1.kind = x at *
  generalize (parseB s.data.toList).1.text = y at *
  generalize (parseB s.data.toList).2 = r at *
  have HB2 : Hid (Below w.heap.size w (w1.alloc (.cells #[.string x, .string y, .slice A2 n2 c2, .slice A3 n3 c3, .slice A4 n4 c4] 41))) := Lib.hid (HB.out.alloc HB.out.size _)
  go_wp2
  go_ret
  exact ⟨ret_bool HRB.out.symm, HB2.out⟩
end Go.Proofs.YtggoebbfgkebcaaGreatDoor
