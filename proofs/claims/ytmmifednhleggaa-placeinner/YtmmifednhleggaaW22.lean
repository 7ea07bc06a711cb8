/-
  What node.Copy answers: the node, in memory of its own.
-/
import Derived.Test.YtmmifednhleggaaW21
import Derived.Test.YtmmifednhleggaaW24
namespace Go.Proofs.Ytmmifednhleggaa
open Go.RowKit Go.Sort

set_option maxHeartbeats 10000000 in
theorem copy_walk : ∀ t, CopySaid t := by
  intro t
  induction t using Tree.induct_one with
  | h k t m a l ih =>
    have IH := Lib.hid ih
    clear ih
    intro v w p hN hw hp
    have hwt : weigh (.mk k t m a l) = k.size + t.size + weighL m + weighP a + weighAll l + 2 := by simp only [weigh]
    have hml := length_le_weighL m
    have hal := length_le_weighP a
    have hkl := length_le_weigh l
    obtain ⟨vm, va, vk, rfl, hm, ha, hl⟩ := hN
    have HP := Lib.hid hp
    have HM := Lib.hid hm
    have HA := Lib.hid ha
    have HL := Lib.hid hl
    obtain ⟨A1, d1, rfl, _⟩ := hm.form
    obtain ⟨A2, d2, rfl, _⟩ := ha.form
    obtain ⟨A3, d3, rfl, _⟩ := hl.form
    clear hm ha hl hp
    simp only [Tree.kind, Tree.text, Tree.kids, Tree.marks, Tree.attrs] at *
    go_enter Try.func39, Try.ntmps39
    go_wp2_with fail
    generalize hW2 : (w.alloc _).alloc _ = W2
    obtain ⟨hB, c0, c1', c2, c3, c4, q2, q3, q4⟩ : Below w.heap.size w W2 ∧ W2.cell? ⟨w.heap.size, 0, none⟩ = some (.string k) ∧ W2.cell? ⟨w.heap.size, 1, none⟩ = some (.string t) ∧ W2.cell? ⟨w.heap.size, 2, none⟩ = some (.slice A1 m.length d1) ∧ W2.cell? ⟨w.heap.size, 3, none⟩ = some (.slice A2 a.length d2) ∧
        W2.cell? ⟨w.heap.size, 4, none⟩ = some (.slice A3 l.length d3) ∧ W2.frozen? ⟨w.heap.size, 2, none⟩ = false ∧ W2.frozen? ⟨w.heap.size, 3, none⟩ = false ∧ W2.frozen? ⟨w.heap.size, 4, none⟩ = false := by
      subst hW2
      exact ⟨((Below.refl _ _).alloc (Nat.le_refl _) _).alloc (by simp) _, by simp [go_sem], by simp [go_sem], by simp [go_sem], by simp [go_sem], by simp [go_sem], by simp [go_sem], by simp [go_sem], by simp [go_sem]⟩
    have hr : W2.heap[w.heap.size + 1]? = some (.cells #[.string ⟨#[]⟩, .string ⟨#[]⟩, .slice none 0 0, .slice none 0 0, .slice none 0 0] 31) := by subst hW2; exact heap_new' _ _ (by simp)
    have hzz : W2.heap.size = w.heap.size + 2 := by subst hW2; simp
    have HX := Lib.hid (And.intro hB (And.intro hzz (And.intro hr (And.intro c0 c1'))))
    have hBW := Below.refl W2.heap.size W2
    clear hW2 hr hzz c0 c1'
    go_cut [] (fun wx => CopyMid w k t m a l wx)
    case first =>
      go_region_with (first
      | (go_at_call 40; refine (cloneS_any _ m (Under w.heap.size) _ (by exact (HM.out.below hB).keep (fun _ h => h) (fun _ _ => rfl)) (by omega)).mono ?_; rintro e w5 ⟨v5, rfl, hv5, hb5⟩; obtain ⟨E1, g1, rfl, _⟩ := hv5.form; have HV5 : Hid (StrsP w5 (From W2.heap.size w5.heap.size) (.slice E1 m.length g1) m) := Lib.hid hv5; replace q2 := frozen_kept q2 c2 (by first | exact hb5 | exact undrew hb5); replace q3 := frozen_kept q3 c3 (by first | exact hb5 | exact undrew hb5); replace q4 := frozen_kept q4 c4 (by first | exact hb5 | exact undrew hb5); replace c2 := cell_kept c2 (by first | exact hb5 | exact undrew hb5); replace c3 := cell_kept c3 (by first | exact hb5 | exact undrew hb5); replace c4 := cell_kept c4 (by first | exact hb5 | exact undrew hb5); replace hB := belowNext hB (by first | exact hb5 | exact undrew hb5); replace hBW := belowNext hBW (by first | exact hb5 | exact undrew hb5); clear hv5 hb5)
      | (go_at_call 41; refine (cloneA_any _ a (Under w.heap.size) _ (by exact (HA.out.below hB).keep (fun _ h => h) (fun _ _ => rfl)) (by omega)).mono ?_; rintro e w6 ⟨v6, rfl, hv6, hb6⟩; obtain ⟨E2, g2, rfl, _⟩ := hv6.form; have HV6 : Hid (PairsP w6 (From W2.heap.size w6.heap.size) (.slice E2 a.length g2) a ∧ StrsP w6 (From W2.heap.size w6.heap.size) (.slice E1 m.length g1) m) := Lib.hid ⟨hv6.keep (fun _ h => ⟨Nat.le_trans hBW.size h.1, h.2⟩) (fun _ _ => rfl), HV5.out.keep (fun _ h => ⟨h.1, Nat.lt_of_lt_of_le h.2 hb6.size⟩) (fun b h => hb6.block b h.2)⟩; replace q2 := frozen_kept q2 c2 (by first | exact hb6 | exact undrew hb6); replace q3 := frozen_kept q3 c3 (by first | exact hb6 | exact undrew hb6); replace q4 := frozen_kept q4 c4 (by first | exact hb6 | exact undrew hb6); replace c2 := cell_kept c2 (by first | exact hb6 | exact undrew hb6); replace c3 := cell_kept c3 (by first | exact hb6 | exact undrew hb6); replace c4 := cell_kept c4 (by first | exact hb6 | exact undrew hb6); replace hB := belowNext hB (by first | exact hb6 | exact undrew hb6); replace hBW := belowNext hBW (by first | exact hb6 | exact undrew hb6); clear hv6 hb6)
      | (go_at_call 42; refine (cloneN_any _ l (Under w.heap.size) _ (by exact (HL.out.below hB).keep (fun _ h => h) (fun _ _ => rfl)) (by exact fun _ h => Nat.lt_of_lt_of_le h hB.size) (by omega)).mono ?_; rintro e w7 ⟨v7, rfl, hv7, hb7⟩; obtain ⟨E3, g3, hv7s⟩ := own_form hv7; subst hv7s; have HV7 := Lib.hid (And.intro hv7 (And.intro (HV6.out.1.keep (fun _ h => h) (fun b h => hb7.block b h.2)) (And.intro (HV6.out.2.keep (fun _ h => h) (fun b h => hb7.block b h.2)) (And.intro hBW.size hb7.size)))); replace q2 := frozen_kept q2 c2 (by first | exact hb7 | exact undrew hb7); replace q3 := frozen_kept q3 c3 (by first | exact hb7 | exact undrew hb7); replace q4 := frozen_kept q4 c4 (by first | exact hb7 | exact undrew hb7); replace c2 := cell_kept c2 (by first | exact hb7 | exact undrew hb7); replace c3 := cell_kept c3 (by first | exact hb7 | exact undrew hb7); replace c4 := cell_kept c4 (by first | exact hb7 | exact undrew hb7); replace hB := belowNext hB (by first | exact hb7 | exact undrew hb7); replace hBW := belowNext hBW (by first | exact hb7 | exact undrew hb7); clear hv7 hb7))
      all_goals
        go_wp2_with fail
        go_meet
        exact copyMid_of HX.out.1 HX.out.2.1 hBW HX.out.2.2.1 HX.out.2.2.2.1 HX.out.2.2.2.2 c2 c3 c4 HV7.out.2.2.2.1 HV7.out.2.2.2.2 HV7.out.2.2.1 HV7.out.2.1 HV7.out.1
    case rest =>
      clear hB c2 c3 c4 q2 q3 q4 hBW HX
      obtain ⟨hB, hz2, hr, E1, g1, E2, g2, E3, g3, c0, c1, c2, c3, c4, z, hz, hzw, hsm, hsa, hown⟩ := hcut
      have r0 : wc.cell? ⟨w.heap.size + 1, 0, none⟩ = some (.string ⟨#[]⟩) := by simp only [World.cell?, hr]; rfl
      have HS := Lib.hid (And.intro hsm hsa)
      have HO := Lib.hid hown
      have HR := Lib.hid hr
      clear hsm hsa hown hr
      have HP1 := Lib.hid (cell_kept HP.out hB)
      have hpl := cell_lt HP.out
      have HC := Lib.hid (And.intro c0 (And.intro c1 (And.intro c2 (And.intro c3 c4))))
      rcases Nat.eq_zero_or_pos l.length with h0 | h0
      · have hl0 : l = [] := List.eq_nil_of_length_eq_zero h0
        have hcap : g3 ≤ maxLen := by
          rcases HO.out with ⟨_, h⟩ | ⟨xs, ⟨_, ho⟩, _⟩
          · exact h
          · rcases ho with ⟨h, _⟩ | ⟨g, cap, cur, hv, _, _, _, hcm, _⟩
            · injection h with _ _ h; rw [h]; exact Nat.zero_le _
            · injection hv with _ _ hv; rw [hv]; exact hcm
        subst hl0
        simp only [List.length_nil] at c4 HC
        clear r0 h0 HO HL
        go_wp2
        go_loopw [21] (fun i wr => i = .int .i64 0 ∧ wr = wc) (fun _ _ => 0)
        case atStart => exact ⟨rfl, rfl⟩
        case round =>
          obtain ⟨rfl, rfl⟩ := hrel
          have y0 := HC.out.1
          have y1 := HC.out.2.1
          have y2 := HC.out.2.2.1
          have y3 := HC.out.2.2.2.1
          have y4 := HC.out.2.2.2.2
          have hrr : wr.heap[w.heap.size + 1]? = _ := HR.out
          have p0 : wr.cell? ⟨w.heap.size + 1, 0, none⟩ = some (.string ⟨#[]⟩) := by simp only [World.cell?, hrr]; rfl
          have p1 : wr.cell? ⟨w.heap.size + 1, 1, none⟩ = some (.string ⟨#[]⟩) := by simp only [World.cell?, hrr]; rfl
          have p2 : wr.cell? ⟨w.heap.size + 1, 2, none⟩ = some (.slice none 0 0) := by simp only [World.cell?, hrr]; rfl
          have p3 : wr.cell? ⟨w.heap.size + 1, 3, none⟩ = some (.slice none 0 0) := by simp only [World.cell?, hrr]; rfl
          have p4 : wr.cell? ⟨w.heap.size + 1, 4, none⟩ = some (.slice none 0 0) := by simp only [World.cell?, hrr]; rfl
          have q : ∀ o, wr.frozen? ⟨w.heap.size + 1, o, none⟩ = false := fun o => by simp [World.frozen?, hrr]
          have q0 := q 0
          have q1 := q 1
          have q2 := q 2
          have q3 := q 3
          have q4 := q 4
          obtain ⟨s0, s1, s2, s3, s4, hbl, hzz⟩ := set5 (v0 := .string k) (v1 := .string t) (v2 := .slice E1 m.length g1) (v3 := .slice E2 a.length g2) (v4 := .slice E3 0 g3) p0 p1 p2 p3 p4
          have HBL := Lib.hid hbl
          have HQ := Lib.hid (And.intro s0 (And.intro s1 (And.intro s2 (And.intro s3 s4))))
          have HZ := Lib.hid hzz
          have HZO := Lib.hid (set5_os wr (w.heap.size + 1) (.string k) (.string t) (.slice E1 m.length g1) (.slice E2 a.length g2) (.slice E3 0 g3))
          clear q hbl s0 s1 s2 s3 s4 hzz hrr
          go_wp2
          generalize ((((wr.setCell ⟨w.heap.size + 1, 0, none⟩ (.string k)).setCell ⟨w.heap.size + 1, 1, none⟩ (.string t)).setCell ⟨w.heap.size + 1, 2, none⟩ (.slice E1 m.length g1)).setCell ⟨w.heap.size + 1, 3, none⟩ (.slice E2 a.length g2)).setCell ⟨w.heap.size + 1, 4, none⟩ (.slice E3 0 g3) = W9 at *
          obtain ⟨s0, s1, s2, s3, s4⟩ := HQ.out
          refine bodyPost_ret (v := .agg #[.string k, .string t, .slice E1 m.length g1, .slice E2 a.length g2, .slice E3 0 g3]) (by simp [results, Try.results39, go_sem, s0, s1, s2, s3, s4]) rfl ⟨_, rfl, ?_, ?_⟩
          · rw [NodeP]
            exact ⟨_, _, _, g3, rfl, Nat.zero_le _, hcap, z, by omega, by have := HZ.out; omega, HS.out.1.keep (fun b hb => ⟨by have := hb.1; omega, hb.2⟩) (fun b hb => HBL.out b (by have := hb.1; omega)), HS.out.2.keep (fun b hb => ⟨by have := hb.1; omega, hb.2⟩) (fun b hb => HBL.out b (by have := hb.1; omega)), .inl rfl⟩
          · exact ⟨HZO.out.1.trans hB.os, HZO.out.2.1.trans hB.tape, HZO.out.2.2.trans hB.output, by have := HZ.out; have := hB.size; omega, fun b hb => (HBL.out b (by omega)).trans (hB.block b hb)⟩
      · obtain ⟨g, cur, rfl, hcap, hgz, hgh, hcur, hrw⟩ : ∃ g cur, E3 = some ⟨g, 0, none⟩ ∧ (l.length ≤ g3 ∧ g3 ≤ maxLen) ∧ z ≤ g ∧ wc.heap[g]? = some (.cells cur 31) ∧ l.length * 5 ≤ cur.size ∧ RowAt wc (Under w.heap.size) l g 0 := by
          rcases HO.out with ⟨h, _⟩ | ⟨xs, ⟨_, ho⟩, hc⟩
          · subst h; simp at h0
          · rcases ho with ⟨_, hn⟩ | ⟨g, cap, cur, hv, hg, hh, hnc, hcm, hsz, htk⟩
            · omega
            · injection hv with hv _ hcp
              subst hv
              subst hcp
              refine ⟨g, cur, rfl, ⟨hnc, hcm⟩, hg, hh, by rw [hsz]; omega, rowAt_cells hc fun j u hj => ?_⟩
              subst htk
              have hj' : j < l.length * 5 := by
                have := (List.getElem?_eq_some_iff.1 hj).1
                simp at this; omega
              rw [List.getElem?_take_of_lt hj'] at hj
              simp only [World.cell?, hh]
              simpa using hj
        have HRW := Lib.hid (And.intro hgh (And.intro hcur hrw))
        have hgl : g < wc.heap.size := (Array.getElem?_eq_some_iff.1 hgh).1
        clear hgh hcur hrw r0
        go_wp2
        go_loopw [21] (fun i wr => ∃ k : Nat, k ≤ l.length ∧ i = .int .i64 k ∧ Only g wc wr ∧ Hid (CopyRow w g l k wr) ∧ Hid (RowPart wr g l k wr.heap.size)) (fun i _ => l.length - (intOf i).toNat)
        case atStart =>
          refine ⟨0, by omega, rfl, Only.refl _ _, Lib.hid ⟨⟨cur, HRW.out.1, HRW.out.2.1⟩, fun j x hj => ?_⟩, Lib.hid (RowPart.start HRW.out.1 HRW.out.2.1 hgl)⟩
          have h := rowAt_get l g 0 HRW.out.2.2 j x hj
          rw [Nat.zero_add] at h
          exact nodeAt_keep (S := Under w.heap.size) (fun b hb => by simp only [Nat.not_lt_zero, if_false]; exact hb) (fun _ _ => rfl) x g (j * 5) rfl h
        case round =>
          obtain ⟨i, hi, rfl, hor, hrow, hprt⟩ := hrel
          by_cases hlt : i < l.length
          · have hlx : l[i]? = some l[i] := List.getElem?_eq_getElem hlt
            generalize hx : l[i] = x at *
            have HIH := Lib.hid (IH.out x (List.mem_of_getElem? hlx))
            have hwx := weigh_mem (List.mem_of_getElem? hlx)
            have hat := hrow.out.2 i x hlx
            simp only [Nat.lt_irrefl, if_false] at hat
            obtain ⟨xm, xa, xk, f0, f1, f2, f3, f4, exm, exa, exk⟩ := (nodeAt_iff x g (i * 5)).1 hat
            have hos := hor.size
            have HXN : Hid (Node wr (Under wr.heap.size) (.agg #[.string x.kind, .string x.text, xm, xa, xk]) x) := Lib.hid (Node.keep (S := fun b => b < w.heap.size) ⟨_, _, _, rfl, exm, exa, exk⟩ (fun b hb => by unfold Under; omega) (fun _ _ => rfl))
            obtain ⟨A4, c4', rfl, _⟩ := exm.form
            obtain ⟨A5, c5', rfl, _⟩ := exa.form
            obtain ⟨A6, c6', rfl, _⟩ := exk.form
            have hfp : SelfAt wr 39 p := hor.cell HP1.out (by omega)
            have HFP := Lib.hid hfp
            have b4 := hor.cell c4 (by omega)
            have hgr := cell_lt f0
            have hpr := cell_lt hfp
            unfold SelfAt at hfp
            clear exm exa exk hat hx c0 c1 c2 c3 c4
            go_wp2_with fail
            generalize hW5 : wr.alloc _ = W5
            have hBA : Below wr.heap.size wr W5 := by subst hW5; exact (Below.refl _ _).alloc (Nat.le_refl _) _
            have hz5 : W5.heap.size = wr.heap.size + 1 := by subst hW5; simp
            have x0 : W5.cell? ⟨wr.heap.size, 0, none⟩ = some (.string x.kind) := by subst hW5; simp [go_sem]
            have x1 : W5.cell? ⟨wr.heap.size, 1, none⟩ = some (.string x.text) := by subst hW5; simp [go_sem]
            have x2 : W5.cell? ⟨wr.heap.size, 2, none⟩ = some (.slice A4 x.marks.length c4') := by subst hW5; simp [go_sem]
            have x3 : W5.cell? ⟨wr.heap.size, 3, none⟩ = some (.slice A5 x.attrs.length c5') := by subst hW5; simp [go_sem]
            have x4 : W5.cell? ⟨wr.heap.size, 4, none⟩ = some (.slice A6 x.kids.length c6') := by subst hW5; simp [go_sem]
            clear hW5
            replace b4 := cell_kept b4 hBA
            replace hfp := cell_kept hfp hBA
            replace f0 := cell_kept f0 hBA
            replace f1 := cell_kept f1 hBA
            replace f2 := cell_kept f2 hBA
            replace f3 := cell_kept f3 hBA
            replace f4 := cell_kept f4 hBA
            have HR5 := Lib.hid (hrow.out.below (by omega) hBA)
            have HPR5 : Hid (RowPart W5 g l i W5.heap.size) := Lib.hid (hprt.out.keep (hBA.block g hgr) (fun b hb _ => hBA.block b hb) hBA.size)
            have HN5 := Lib.hid ((HXN.out.below hBA).more hBA.size)
            have HF5 : Hid (SelfAt W5 39 p) := Lib.hid hfp
            have q : ∀ o, W5.frozen? ⟨g, o, none⟩ = false := fun o => by obtain ⟨⟨cu, hcu, _⟩, _⟩ := HR5.out; simp [World.frozen?, hcu]
            have q0 := q (i * 5)
            have q1 := q (i * 5 + 1)
            have q2 := q (i * 5 + 2)
            have q3 := q (i * 5 + 3)
            have q4 := q (i * 5 + 4)
            have ho5 := hor.trans (Only.of_below hBA)
            clear q
            go_region_with ((go_at_call 39; refine (HIH.out _ _ p (by exact HN5.out.keep (fun _ h => h) (fun _ _ => rfl)) (by omega) (by exact HF5.out)).mono ?_; rintro e w6 ⟨v6, rfl, hv6, hb6⟩; have HP6 : Hid (NodeP w6 x W5.heap.size w6.heap.size v6) := Lib.hid hv6; obtain ⟨nm, na, nk, rfl, hnm, hna, hnk⟩ := NodeP.node _ _ _ _ hv6; have hb7 := undrew hb6; have HN6 : Hid (Strs w6 (From W5.heap.size w6.heap.size) nm x.marks ∧ Pairs w6 (From W5.heap.size w6.heap.size) na x.attrs ∧ Kids w6 (From W5.heap.size w6.heap.size) nk x.kids) := Lib.hid ⟨hnm, hna, hnk⟩; obtain ⟨B4, e4', rfl, _⟩ := hnm.form; obtain ⟨B5, e5', rfl, _⟩ := hna.form; obtain ⟨B6, e6', rfl, _⟩ := hnk.form; replace q0 := frozen_kept q0 f0 hb7; replace q1 := frozen_kept q1 f1 hb7; replace q2 := frozen_kept q2 f2 hb7; replace q3 := frozen_kept q3 f3 hb7; replace q4 := frozen_kept q4 f4 hb7; replace b4 := cell_kept b4 hb7; replace f0 := cell_kept f0 hb7; replace f1 := cell_kept f1 hb7; replace f2 := cell_kept f2 hb7; replace f3 := cell_kept f3 hb7; replace f4 := cell_kept f4 hb7; clear hnm hna hnk hb6 hv6))
            all_goals go_wp2
            all_goals exact ⟨⟨i + 1, by omega, by go_num, (((((ho5.trans (Only.of_below hb7)).set _ _).set _ _).set _ _).set _ _).set _ _, Lib.hid (copyRow_put (HR5.out.below (by omega) hb7) (by omega) hlx (n := W5.heap.size) (by omega) (by omega) HN6.out), Lib.hid (rowPart_put (HPR5.out.keep ((show Below W5.heap.size W5 w6 from hb7).block g (by omega)) (fun b hb _ => hb7.block b hb) (Nat.le_refl _)) hlx (by omega) hb7.size HP6.out)⟩, by simp [intOf]; omega⟩
          · have y0 := hor.cell HC.out.1 (by omega)
            have y1 := hor.cell HC.out.2.1 (by omega)
            have y2 := hor.cell HC.out.2.2.1 (by omega)
            have y3 := hor.cell HC.out.2.2.2.1 (by omega)
            have y4 := hor.cell HC.out.2.2.2.2 (by omega)
            have hrr : wr.heap[w.heap.size + 1]? = _ := (hor.block (w.heap.size + 1) (by omega) (fun e => by have := Option.some.inj e; omega)).trans HR.out
            have p0 : wr.cell? ⟨w.heap.size + 1, 0, none⟩ = some (.string ⟨#[]⟩) := by simp only [World.cell?, hrr]; rfl
            have p1 : wr.cell? ⟨w.heap.size + 1, 1, none⟩ = some (.string ⟨#[]⟩) := by simp only [World.cell?, hrr]; rfl
            have p2 : wr.cell? ⟨w.heap.size + 1, 2, none⟩ = some (.slice none 0 0) := by simp only [World.cell?, hrr]; rfl
            have p3 : wr.cell? ⟨w.heap.size + 1, 3, none⟩ = some (.slice none 0 0) := by simp only [World.cell?, hrr]; rfl
            have p4 : wr.cell? ⟨w.heap.size + 1, 4, none⟩ = some (.slice none 0 0) := by simp only [World.cell?, hrr]; rfl
            have q : ∀ o, wr.frozen? ⟨w.heap.size + 1, o, none⟩ = false := fun o => by simp [World.frozen?, hrr]
            have q0 := q 0
            have q1 := q 1
            have q2 := q 2
            have q3 := q 3
            have q4 := q 4
            have hos := hor.size
            obtain ⟨s0, s1, s2, s3, s4, hbl, hzz⟩ := set5 (v0 := .string k) (v1 := .string t) (v2 := .slice E1 m.length g1) (v3 := .slice E2 a.length g2) (v4 := .slice (some ⟨g, 0, none⟩) l.length g3) p0 p1 p2 p3 p4
            have HBL := Lib.hid hbl
            have HQ := Lib.hid (And.intro s0 (And.intro s1 (And.intro s2 (And.intro s3 s4))))
            have HZ := Lib.hid hzz
            have HZO := Lib.hid (set5_os wr (w.heap.size + 1) (.string k) (.string t) (.slice E1 m.length g1) (.slice E2 a.length g2) (.slice (some ⟨g, 0, none⟩) l.length g3))
            clear q hbl s0 s1 s2 s3 s4 hzz hrr
            go_wp2
            generalize ((((wr.setCell ⟨w.heap.size + 1, 0, none⟩ (.string k)).setCell ⟨w.heap.size + 1, 1, none⟩ (.string t)).setCell ⟨w.heap.size + 1, 2, none⟩ (.slice E1 m.length g1)).setCell ⟨w.heap.size + 1, 3, none⟩ (.slice E2 a.length g2)).setCell ⟨w.heap.size + 1, 4, none⟩ (.slice (some ⟨g, 0, none⟩) l.length g3) = W9 at *
            obtain ⟨s0, s1, s2, s3, s4⟩ := HQ.out
            have hik : i = l.length := by omega
            refine bodyPost_ret (v := .agg #[.string k, .string t, .slice E1 m.length g1, .slice E2 a.length g2, .slice (some ⟨g, 0, none⟩) l.length g3]) (by simp [results, Try.results39, go_sem, s0, s1, s2, s3, s4]) rfl ⟨_, rfl, ?_, ?_⟩
            · subst hik
              obtain ⟨cu, hcu, hcs, hrp⟩ := hprt.out
              rw [List.take_length] at hrp
              rw [NodeP]
              refine ⟨_, _, _, g3, rfl, hcap.1, hcap.2, z, by omega, by have := HZ.out; omega, ?_, ?_, .inr ⟨g, cu, rfl, hgz, by have := HZ.out; omega, (HBL.out g (by omega)).trans hcu, hcs, RowP.keep _ _ _ _ _ _ (by have := HZ.out; omega) (fun b hb => HBL.out b (by have := hb.1; omega)) hrp⟩⟩
              · exact HS.out.1.keep (fun b hb => ⟨by have := hb.1; omega, hb.2⟩) (fun b hb => (HBL.out b (by have := hb.1; omega)).trans (hor.block b (by have := hb.2; omega) (fun e => by have := Option.some.inj e; have := hb.2; omega)))
              · exact HS.out.2.keep (fun b hb => ⟨by have := hb.1; omega, hb.2⟩) (fun b hb => (HBL.out b (by have := hb.1; omega)).trans (hor.block b (by have := hb.2; omega) (fun e => by have := Option.some.inj e; have := hb.2; omega)))
            · exact ⟨HZO.out.1.trans (hor.os.trans hB.os), HZO.out.2.1.trans (hor.tape.trans hB.tape), HZO.out.2.2.trans (hor.output.trans hB.output), by have := HZ.out; have := hB.size; omega, fun b hb => (HBL.out b (by omega)).trans ((hor.block b (by have := hB.size; omega) (fun e => by have := Option.some.inj e; omega)).trans (hB.block b hb))⟩
end Go.Proofs.Ytmmifednhleggaa
