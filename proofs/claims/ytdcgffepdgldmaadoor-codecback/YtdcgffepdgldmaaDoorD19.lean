/-
  Parse and ParseAll answer as their plain functions.
-/
import Derived.Test.YtdcgffepdgldmaaDoorD18
namespace Go.Proofs.YtdcgffepdgldmaaDoor
open Go.RowKit Go.Sort Go.Maps

theorem readN_weigh : ∀ (n : Nat) (l : List UInt8) (x : Bool) (st : List Tree), weighAll (readN n l x st).1 ≤ weighAll st + 8 * l.length
  | 0, _, _, _ => Nat.le_add_right _ _
  | _ + 1, [], _, _ => Nat.le_add_right _ _
  | _ + 1, _ :: _, _, [] => by rw [readN]; simp [weighAll]
  | n + 1, c :: l, x, top :: st => by
    rw [readN_step]
    have h1 := readN_weigh n (roundL c l x top st).1 (roundL c l x top st).2.1 (roundL c l x top st).2.2
    have h2 := (round_size c l x top st).1
    simp only [List.length_cons]
    omega
theorem weigh_kids (t : Tree) : weighAll t.kids ≤ weigh t := by obtain ⟨a, b, c, d, e⟩ := t; simp only [weigh, Tree.kids]; omega
theorem readL_weigh (s : List UInt8) : weighAll (readL s).1 ≤ 8 * s.length + 3 := by
  have h := readN_weigh s.length s false [around []]
  have h0 : weighAll [around []] = 3 := by simp only [weighAll, around, weigh, weighL, weighP, List.map_nil, List.sum_nil]; rfl
  unfold readL
  cases hq : (readN s.length s false [around []]).1.getLast? with
  | none => simp [weighAll]
  | some t =>
    have h1 := weigh_mem (List.mem_of_getLast? hq)
    have h2 := weigh_kids t
    show weighAll t.kids ≤ _
    omega

theorem parseB_no {s : List UInt8} (h : (readL s).2 = false) : parseB s = (noTree, 2) := by
  unfold parseB
  rcases hq : readL s with ⟨l, b⟩
  rw [hq] at h
  simp only at h
  subst h
  rcases l with _ | ⟨t, _ | _⟩ <;> rfl
theorem parseB_len {s : List UInt8} (h : (readL s).1.length ≠ 1) : parseB s = (noTree, 2) := by
  unfold parseB
  rcases hq : readL s with ⟨l, b⟩
  rw [hq] at h
  rcases l with _ | ⟨t, _ | ⟨u, l⟩⟩
  · rfl
  · exact absurd rfl h
  · rfl
theorem parseB_one {s : List UInt8} {t : Tree} (h : readL s = ([t], true)) : parseB s = if checkB t = 0 then (t, 0) else (noTree, checkB t) := by
  unfold parseB; rw [h]

/-- How Parse ends. -/
def ParsePost (w : World) (q : Tree × Int) (e : Ending) (w' : World) : Prop :=
  ∃ v, e = .returned (.tuple #[v, .int .i64 q.2]) ∧ Node w' (From w.heap.size w'.heap.size) v q.1 ∧ Below w.heap.size w w'

theorem parse_none {w2 : World} {S : Nat → Prop} : Node w2 S (.agg #[.string ⟨#[]⟩, .string ⟨#[]⟩, .slice none 0 0, .slice none 0 0, .slice none 0 0]) noTree :=
  ⟨_, _, _, rfl, strs_nil, pairs_nil, kids_nil⟩

set_option maxHeartbeats 4000000 in
theorem parse_any (s : ByteArray) (w : World) (hs : s.size ≤ 100000) (hT : Tabs w) :
    Calls Tryd.prog 12 #[.string s] w (ParsePost w (parseB s.data.toList)) := by
  have HT := Lib.hid hT
  have hb0 : Below w.heap.size w (w.alloc (.cells #[.string ⟨#[]⟩, .string ⟨#[]⟩, .slice none 0 0, .slice none 0 0, .slice none 0 0] 27)) := (Below.refl _ _).alloc (Nat.le_refl _) _
  have hz0 : (w.alloc (.cells #[.string ⟨#[]⟩, .string ⟨#[]⟩, .slice none 0 0, .slice none 0 0, .slice none 0 0] 27)).heap.size = w.heap.size + 1 := by simp
  have hc0 := heap_alloc_new w (.cells #[.string ⟨#[]⟩, .string ⟨#[]⟩, .slice none 0 0, .slice none 0 0, .slice none 0 0] 27)
  have HB0 := Lib.hid hb0
  have HC0 := Lib.hid hc0
  clear hT hb0 hc0
  have hsl : s.data.toList.length = s.size := by rw [Lib.size_eq]
  have hwg := readL_weigh s.data.toList
  go_enter Tryd.func12, Tryd.ntmps12
  go_wp2_with fail
  generalize w.alloc (.cells #[.string ⟨#[]⟩, .string ⟨#[]⟩, .slice none 0 0, .slice none 0 0, .slice none 0 0] 27) = w1 at *
  refine (read_any s w1 hs (HT.out.below HB0.out)).mono ?_
  rintro e w2 ⟨v2, rfl, hk2, hb2⟩
  have hc2 := (hb2.block w.heap.size (by omega)).trans HC0.out
  have HC2 := Lib.hid hc2
  have HB2 := Lib.hid (HB0.out.trans (hb2.mono (by omega)))
  have hz2 := hb2.size
  obtain ⟨b0, b1, b2, b3, b4⟩ := five_cells hc2
  have f0 := frozen_of_row w2 _ 0 _ _ hc2
  have f1 := frozen_of_row w2 _ 1 _ _ hc2
  have f2 := frozen_of_row w2 _ 2 _ _ hc2
  have f3 := frozen_of_row w2 _ 3 _ _ hc2
  have f4 := frozen_of_row w2 _ 4 _ _ hc2
  obtain ⟨A, c, rfl, hlc⟩ := hk2.form
  have HK2 := Lib.hid hk2
  clear hb2 hk2 hc2
  cases hok : (readL s.data.toList).2 with
  | false =>
    have HP := Lib.hid (parseB_no hok)
    clear hok
    go_wp2
    have q := put5_at HC2.out (.string ⟨#[]⟩) (.string ⟨#[]⟩) (.slice none 0 0) (.slice none 0 0) (.slice none 0 0)
    have o6 := put5_only w2 w.heap.size (.string ⟨#[]⟩) (.string ⟨#[]⟩) (.slice none 0 0) (.slice none 0 0) (.slice none 0 0)
    change bodyPost _ _ _ _ _ (put5 w2 w.heap.size (.string ⟨#[]⟩) (.string ⟨#[]⟩) (.slice none 0 0) (.slice none 0 0) (.slice none 0 0))
    generalize put5 w2 w.heap.size (.string ⟨#[]⟩) (.string ⟨#[]⟩) (.slice none 0 0) (.slice none 0 0) (.slice none 0 0) = W at *
    obtain ⟨q0, q1, q2, q3, q4⟩ := five_cells q
    refine bodyPost_ret (v := .tuple #[.agg #[.string ⟨#[]⟩, .string ⟨#[]⟩, .slice none 0 0, .slice none 0 0, .slice none 0 0], .int .i64 2]) (by simp [results, Tryd.results12, go_sem, q0, q1, q2, q3, q4]) rfl ?_
    rw [HP.out]
    exact ⟨_, rfl, parse_none, HB2.out.trans (o6.below (Nat.le_refl _) (by omega))⟩
  | true =>
    by_cases hln : (readL s.data.toList).1.length = 1
    · obtain ⟨t, ht⟩ : ∃ t, (readL s.data.toList).1 = [t] := List.length_eq_one_iff.1 hln
      have hrl : readL s.data.toList = ([t], true) := Prod.ext ht hok
      have HP := Lib.hid (parseB_one hrl)
      have hk := HK2.out
      rw [ht] at hk hwg ⊢
      have hwt : weigh t ≤ 1000000 := by simp only [weighAll] at hwg; omega
      obtain ⟨A', c', he, _, _, hrow⟩ := hk
      injection he with e1 _ e3
      subst e1; subst e3
      rcases hrow with h0 | ⟨g, o, rfl, hg, hr⟩
      · cases h0
      have hat := rowAt_get _ _ _ hr 0 t rfl
      rw [Nat.zero_mul, Nat.add_zero] at hat
      obtain ⟨vm, va, vk, t0, t1, t2, t3, t4, hm, ha, hkk⟩ := (nodeAt_iff t g o).1 hat
      have HM := Lib.hid hm
      have HA := Lib.hid ha
      have HKK := Lib.hid hkk
      obtain ⟨Am, cm, rfl, _⟩ := hm.form
      obtain ⟨Aa, ca, rfl, _⟩ := ha.form
      obtain ⟨Ak, cq, rfl, _⟩ := hkk.form
      have HN : Hid (Node w2 (From w1.heap.size w2.heap.size) (.agg #[.string t.kind, .string t.text, .slice Am t.marks.length cm, .slice Aa t.attrs.length ca, .slice Ak t.kids.length cq]) t) := Lib.hid ⟨_, _, _, rfl, hm, ha, hkk⟩
      have hg2 : g < w2.heap.size := hg.2
      have hgw : ¬ g = w.heap.size := by have := hg.1; omega
      have i0 : (0 : Int) < 1 := by omega
      have hl1 : ([t] : List Tree).length = 1 := rfl
      rw [hl1]
      clear hok hln ht hrl hwg hr hat hm ha hkk hl1 HK2 hlc hg
      go_wp2_with fail
      refine (check_any _ t w2 (HN.out.keep (fun b hb => hb.2) (fun _ _ => rfl)) hwt (HT.out.below HB2.out)).mono ?_
      rintro e w3 ⟨rfl, hb3⟩
      have hz3 := hb3.size
      have HC3 := Lib.hid ((hb3.block w.heap.size (by omega)).trans HC2.out)
      have HB3 := Lib.hid (HB2.out.trans (hb3.mono (by omega)))
      have HN3 := Lib.hid (HN.out.keep (S' := From w1.heap.size w2.heap.size) (fun _ h => h) fun b hb => hb3.block b hb.2)
      have s0 := (World.cell?_of_block (a := ⟨g, o, none⟩) (hb3.block g hg2)).trans t0
      have s1 := (World.cell?_of_block (a := ⟨g, o + 1, none⟩) (hb3.block g hg2)).trans t1
      have s2 := (World.cell?_of_block (a := ⟨g, o + 2, none⟩) (hb3.block g hg2)).trans t2
      have s3 := (World.cell?_of_block (a := ⟨g, o + 3, none⟩) (hb3.block g hg2)).trans t3
      have s4 := (World.cell?_of_block (a := ⟨g, o + 4, none⟩) (hb3.block g hg2)).trans t4
      clear hb3 b0 b1 b2 b3 b4 f0 f1 f2 f3 f4 t0 t1 t2 t3 t4
      have hc3 := HC3.out
      obtain ⟨b0, b1, b2, b3, b4⟩ := five_cells hc3
      have f0 := frozen_of_row w3 _ 0 _ _ hc3
      have f1 := frozen_of_row w3 _ 1 _ _ hc3
      have f2 := frozen_of_row w3 _ 2 _ _ hc3
      have f3 := frozen_of_row w3 _ 3 _ _ hc3
      have f4 := frozen_of_row w3 _ 4 _ _ hc3
      clear hc3
      by_cases hc : checkB t = 0
      · have HQ : Hid (parseB s.data.toList = (t, 0)) := Lib.hid (by rw [HP.out, if_pos hc])
        rw [hc]
        clear hc
        go_wp2
        have q := put5_at HC3.out (.string t.kind) (.string t.text) (.slice Am t.marks.length cm) (.slice Aa t.attrs.length ca) (.slice Ak t.kids.length cq)
        have o6 := put5_only w3 w.heap.size (.string t.kind) (.string t.text) (.slice Am t.marks.length cm) (.slice Aa t.attrs.length ca) (.slice Ak t.kids.length cq)
        change bodyPost _ _ _ _ _ (put5 w3 w.heap.size (.string t.kind) (.string t.text) (.slice Am t.marks.length cm) (.slice Aa t.attrs.length ca) (.slice Ak t.kids.length cq))
        generalize put5 w3 w.heap.size (.string t.kind) (.string t.text) (.slice Am t.marks.length cm) (.slice Aa t.attrs.length ca) (.slice Ak t.kids.length cq) = W at *
        have hz6 := o6.size
        obtain ⟨q0, q1, q2, q3, q4⟩ := five_cells q
        refine bodyPost_ret (v := .tuple #[.agg #[.string t.kind, .string t.text, .slice Am t.marks.length cm, .slice Aa t.attrs.length ca, .slice Ak t.kids.length cq], .int .i64 0]) (by simp [results, Tryd.results12, go_sem, q0, q1, q2, q3, q4]) rfl ?_
        rw [HQ.out]
        exact ⟨_, rfl, HN3.out.keep (fun b hb => ⟨by have := hb.1; omega, by have := hb.2; omega⟩) (fun b hb => o6.block b (by have := hb.2; omega) (by have := hb.1; omega)), HB3.out.trans (o6.below (Nat.le_refl _) (by omega))⟩
      · have HQ : Hid (parseB s.data.toList = (noTree, checkB t)) := Lib.hid (by rw [HP.out, if_neg hc])
        have hcb : (checkB t != 0) = true := by simpa using hc
        generalize checkB t = r at *
        clear hc
        go_wp2
        have q := put5_at HC3.out (.string ⟨#[]⟩) (.string ⟨#[]⟩) (.slice none 0 0) (.slice none 0 0) (.slice none 0 0)
        have o6 := put5_only w3 w.heap.size (.string ⟨#[]⟩) (.string ⟨#[]⟩) (.slice none 0 0) (.slice none 0 0) (.slice none 0 0)
        change bodyPost _ _ _ _ _ (put5 w3 w.heap.size (.string ⟨#[]⟩) (.string ⟨#[]⟩) (.slice none 0 0) (.slice none 0 0) (.slice none 0 0))
        generalize put5 w3 w.heap.size (.string ⟨#[]⟩) (.string ⟨#[]⟩) (.slice none 0 0) (.slice none 0 0) (.slice none 0 0) = W at *
        obtain ⟨q0, q1, q2, q3, q4⟩ := five_cells q
        refine bodyPost_ret (v := .tuple #[.agg #[.string ⟨#[]⟩, .string ⟨#[]⟩, .slice none 0 0, .slice none 0 0, .slice none 0 0], .int .i64 r]) (by simp [results, Tryd.results12, go_sem, q0, q1, q2, q3, q4]) rfl ?_
        rw [HQ.out]
        exact ⟨_, rfl, parse_none, HB3.out.trans (o6.below (Nat.le_refl _) (by omega))⟩
    · have HP := Lib.hid (parseB_len hln)
      have hlb : (((readL s.data.toList).1.length : Int) != 1) = true := by rw [bne_iff_ne]; omega
      clear hln
      go_wp2
      have q := put5_at HC2.out (.string ⟨#[]⟩) (.string ⟨#[]⟩) (.slice none 0 0) (.slice none 0 0) (.slice none 0 0)
      have o6 := put5_only w2 w.heap.size (.string ⟨#[]⟩) (.string ⟨#[]⟩) (.slice none 0 0) (.slice none 0 0) (.slice none 0 0)
      change bodyPost _ _ _ _ _ (put5 w2 w.heap.size (.string ⟨#[]⟩) (.string ⟨#[]⟩) (.slice none 0 0) (.slice none 0 0) (.slice none 0 0))
      generalize put5 w2 w.heap.size (.string ⟨#[]⟩) (.string ⟨#[]⟩) (.slice none 0 0) (.slice none 0 0) (.slice none 0 0) = W at *
      obtain ⟨q0, q1, q2, q3, q4⟩ := five_cells q
      refine bodyPost_ret (v := .tuple #[.agg #[.string ⟨#[]⟩, .string ⟨#[]⟩, .slice none 0 0, .slice none 0 0, .slice none 0 0], .int .i64 2]) (by simp [results, Tryd.results12, go_sem, q0, q1, q2, q3, q4]) rfl ?_
      rw [HP.out]
      exact ⟨_, rfl, parse_none, HB2.out.trans (o6.below (Nat.le_refl _) (by omega))⟩
end Go.Proofs.YtdcgffepdgldmaaDoor
