/-
  What Split answers: the walk.
-/
import Derived.Test.YtamoklceekeheaaDoorQh
import Derived.Test.YtamoklceekeheaaDoorQk
import Derived.Test.YtamoklceekeheaaDoorW26
import Derived.Deep.DrawnRows
namespace Go.Proofs.YtamoklceekeheaaDoor
open Go.RowKit Go.Sort
attribute [local go_sem ↓] Go.wp_at_zero Go.wp_at_succ

set_option maxHeartbeats 20000000 in
set_option maxRecDepth 100000 in
theorem split_any (v : Value) (l : List Tree) (n : Nat) (w : World) (h : Kids w (Under w.heap.size) v l) (hw : weighAll l ≤ 900000) (hn : n ≤ 1000000) (hT : Tabs w) :
    Calls Tryd.prog 22 #[v, .int .i64 (n : Int)] w (SplitPost w (splitB l n)) := by
  have hmf : ∀ (fn : Fn) (first cap : Array Value) (w : World), (Instr.makeFunc fn first cap).run Tryd.prog w = .ok (.func fn first cap) w := fun _ _ _ _ => rfl
  have hlen := length_le_weigh l
  have HL := Lib.hid h
  have HT := Lib.hid hT
  obtain ⟨A, c, rfl, hlc⟩ := h.form
  have hn0 : ¬ (n : Int) < 0 := by omega
  clear h hT
  go_enter_defers Tryd.func22, Tryd.ntmps22
  go_wp2
  go_loopw [1, 18] (fun a i wr => ∃ (k m : Nat) (vA : Value) (S : Nat → Prop), k ≤ l.length ∧ m ≤ n ∧ i = .int .i64 k ∧ a = .int .i64 m ∧ Hid (SplitAt w wr l n k m vA S)) (fun _ i _ => l.length - (intOf i).toNat)
  case atStart =>
    refine ⟨0, n, .slice none 0 0, fun _ => False, by omega, by omega, rfl, rfl, Lib.hid ⟨?_, ⟨heap_old _ _ _ (heap_old _ _ _ (heap_new _ _)), heap_old _ _ _ (heap_new' _ _ (by simp)), heap_new' _ _ (by simp), (((Below.refl _ _).alloc (Nat.le_refl _) _).alloc (by simp) _).alloc (by simp; omega) _⟩, by simp, own_nil _ _ _, fun _ h => h.elim⟩⟩
    rw [List.take_zero, List.drop_zero, preB_nil _ (splitB_err l n)]
  case round =>
    obtain ⟨k, m, vA, S, hk, hm, rfl, rfl, hat⟩ := hrel
    have hbw := hat.out.door.below
    have hzr := hat.out.size
    by_cases hlt : k < l.length
    · obtain ⟨b, o, rfl, hub, hrow⟩ := HL.out.get hlt
      have hlx : l[k]? = some l[k] := List.getElem?_eq_getElem hlt
      generalize l[k] = x at *
      have hwx := weigh_mem (List.mem_of_getElem? hlx)
      have hsw := size_le_weigh x
      obtain ⟨xm, xa, xk, e0, e1, e2, e3, e4, exm, exa, exk⟩ := hrow.node hlx
      have HXN : Hid (∀ W, Below w.heap.size w W → Node W (Under W.heap.size) (.agg #[.string x.kind, .string x.text, xm, xa, xk]) x) := Lib.hid fun W hW => Node.keep (S := Under w.heap.size) ⟨_, _, _, rfl, exm, exa, exk⟩ (fun b hb => Nat.lt_of_lt_of_le hb hW.size) (fun b hb => hW.block b hb)
      obtain ⟨X1, y1, rfl, _⟩ := exm.form
      obtain ⟨X2, y2, rfl, _⟩ := exa.form
      obtain ⟨X3, y3, rfl, _⟩ := exk.form
      have f0 := (hbw.cell (p := ⟨b, o + k * 5, none⟩) hub).trans e0
      have f1 := (hbw.cell (p := ⟨b, o + k * 5 + 1, none⟩) hub).trans e1
      have f2 := (hbw.cell (p := ⟨b, o + k * 5 + 2, none⟩) hub).trans e2
      have f3 := (hbw.cell (p := ⟨b, o + k * 5 + 3, none⟩) hub).trans e3
      have f4 := (hbw.cell (p := ⟨b, o + k * 5 + 4, none⟩) hub).trans e4
      obtain ⟨ha2, hx2, hl2⟩ : Below wr.heap.size wr (wr.alloc (.cells #[.string x.kind, .string x.text, .slice X1 x.marks.length y1, .slice X2 x.attrs.length y2, .slice X3 x.kids.length y3] 28)) ∧ (wr.alloc (.cells #[.string x.kind, .string x.text, .slice X1 x.marks.length y1, .slice X2 x.attrs.length y2, .slice X3 x.kids.length y3] 28)).heap[wr.heap.size]? = _ ∧ wr.heap.size < (wr.alloc (.cells #[.string x.kind, .string x.text, .slice X1 x.marks.length y1, .slice X2 x.attrs.length y2, .slice X3 x.kids.length y3] 28)).heap.size := ⟨(Below.refl _ _).alloc (Nat.le_refl _) _, heap_new _ _, by simp⟩
      have HAT2 := Lib.hid (hat.out.keep ha2)
      have HX2 := Lib.hid hx2
      have HB2 := Lib.hid (belowNext hbw ha2)
      have HL2 := Lib.hid hl2
      clear e0 e1 e2 e3 e4 exm exa exk hrow hat hx2 hl2 ha2 hbw
      go_upto_region 7 with fail
      generalize wr.alloc (.cells #[.string x.kind, .string x.text, .slice X1 x.marks.length y1, .slice X2 x.attrs.length y2, .slice X3 x.kids.length y3] 28) = w2 at *
      obtain ⟨x0, x1, x2, x3, x4⟩ := cells5 HX2.out
      generalize wr.heap.size = gx at *
      clear f0 f1 f2 f3 f4
      go_wp2_with fail
      refine (size_any _ x w2 (HXN.out w2 HB2.out) (by omega)).mono ?_
      rintro e w3 ⟨rfl, hb3⟩
      have HAT3 := Lib.hid (HAT2.out.keep hb3)
      have HX3 := Lib.hid ((hb3.block gx HL2.out).trans HX2.out)
      have HB3 := Lib.hid (belowNext HB2.out hb3)
      have HL3 : Hid (gx < w3.heap.size) := Lib.hid (Nat.lt_of_lt_of_le HL2.out hb3.size)
      clear x0 x1 x2 x3 x4 hb3 HAT2 HX2
      obtain ⟨x0, x1, x2, x3, x4⟩ := cells5 HX3.out
      obtain ⟨d4, fr4⟩ := cells1 HAT3.out.door.h4
      obtain ⟨d5, fr5⟩ := cells1 HAT3.out.door.h5
      obtain ⟨d6, fr6⟩ := cells1 HAT3.out.door.h6
      have HLK : Hid ((l.take k).length = k) := Lib.hid (by rw [List.length_take]; omega)
      obtain ⟨Ao, co, rfl, hoc⟩ : ∃ Ao co, vA = .slice Ao k co ∧ k ≤ co := by
        obtain ⟨Ao, co, hv, hc, _⟩ := HAT3.out.own.form
        rw [HLK.out] at hv hc
        exact ⟨Ao, co, hv, hc⟩
      have HOB : Hid (∀ g, (Value.slice Ao k co).ownBlock = some g → g < w3.heap.size) := Lib.hid fun g hg => (HAT3.out.block g hg).2
      by_cases hs : sizeB x ≤ m
      · have hs' : (sizeB x : Int) ≤ (m : Int) := by omega
        have hkl : (l.take k).length + [zeroT].length ≤ 1000000 := by rw [HLK.out, List.length_singleton]; omega
        have hwx2 : weigh x ≤ 1000000 := by omega
        go_upto_region 9 with fail
        go_cut [18] from 18 to 69 (fun s18 wx => ∃ vA' S', s18 = .int .i64 (k : Int) ∧ Hid (SplitAt w wx l n (k + 1) (m - sizeB x) vA' S'))
        case first =>
          have B0 : Hid (Below w3.heap.size w3 w3.drew) := Lib.hid (Below.refl _ _).drew
          have B1 : Hid (Below w3.heap.size w3 (w3.alloc ZNode).drew) := Lib.hid (((Below.refl _ _).alloc (Nat.le_refl _) _).drew)
          have Z1 : Hid (((w3.alloc ZNode).drew).heap[w3.heap.size]? = some ZNode) := Lib.hid (show (w3.alloc ZNode).heap[w3.heap.size]? = _ from heap_new _ _)
          have K1 : Hid (w3.heap.size < ((w3.alloc ZNode).drew).heap.size) := Lib.hid (show w3.heap.size < (w3.alloc ZNode).heap.size by simp)
          have HOW : Hid (∀ W, Below w3.heap.size w3 W → Own W (w.heap.size + 3) S (.slice Ao k co) (l.take k) ∧ (∀ b, S b → b < W.heap.size ∧ some b ≠ (Value.slice Ao k co).ownBlock) ∧ w.heap.size + 3 ≤ W.heap.size) := Lib.hid fun W hW => ⟨(HAT3.out.keep hW).own, fun b hb => ⟨((HAT3.out.keep hW).hS b hb).1.2, ((HAT3.out.keep hW).hS b hb).2⟩, (HAT3.out.keep hW).size⟩
          have HXW : Hid (∀ W, Below w3.heap.size w3 W → Node W (Under W.heap.size) (.agg #[.string x.kind, .string x.text, .slice X1 x.marks.length y1, .slice X2 x.attrs.length y2, .slice X3 x.kids.length y3]) x) := Lib.hid fun W hW => HXN.out W (belowNext HB3.out hW)
          obtain ⟨z0, z1, z2, z3, z4⟩ := cells5 ((B1.out.block gx HL3.out).trans HX3.out)
          obtain ⟨z5, _⟩ := cells1 (HAT3.out.keep B1.out).door.h4
          have hi1 : (k : Int) < (k : Int) + 1 := by omega
          have hi2 : (k : Int) < ((k + 1 : Nat) : Int) := by omega
          have hi3 : (0 : Int) ≤ (k : Int) := by omega
          refine wp_region_noPanic ?_
          go_region_law (first
            | ((with_reducible refine step_copy (v := .agg #[.string x.kind, .string x.text, .slice X1 x.marks.length y1, .slice X2 x.attrs.length y2, .slice X3 x.kids.length y3]) (t := x) (w := w3.drew) rfl (.tmp 29) rfl rfl (HXW.out _ B0.out) hwx2 ?_); intro C1 n1 c1 C2 n2 c2 C3 c3 wC hnC hbC; have NB := Lib.hid hnC; have BB := Lib.hid hbC; have BC := Lib.hid (belowNext B0.out hbC); have BZ : Hid (Below wC.heap.size wC (wC.alloc ZNode)) := Lib.hid ((Below.refl _ _).alloc (Nat.le_refl _) _); have ZB : Hid ((wC.alloc ZNode).heap[wC.heap.size]? = some ZNode) := Lib.hid (heap_new _ _); obtain ⟨z6, _⟩ := cells1 (HAT3.out.keep BC.out).door.h4; obtain ⟨z7, _⟩ := cells1 (HAT3.out.keep (belowNext BC.out BZ.out)).door.h4; clear hnC hbC)
            | ((with_reducible refine step_copy (v := .agg #[.string x.kind, .string x.text, .slice X1 x.marks.length y1, .slice X2 x.attrs.length y2, .slice X3 x.kids.length y3]) (t := x) (w := (w3.alloc ZNode).drew) rfl (.tmp 29) rfl rfl (HXW.out _ B1.out) hwx2 ?_); intro C1 n1 c1 C2 n2 c2 C3 c3 wC hnC hbC; have NA := Lib.hid hnC; have BA := Lib.hid hbC; have BC := Lib.hid (belowNext B1.out hbC); have ZA := Lib.hid ((hbC.block _ K1.out).trans Z1.out); obtain ⟨z6, _⟩ := cells1 (HAT3.out.keep BC.out).door.h4; clear hnC hbC)
            | ((with_reducible refine step_append_nodes (w := wC) rfl (.tmp 28) (.tmp 32) rfl (w.heap.size + 3) S (.slice Ao k co) (.slice (some ⟨w3.heap.size, 0, none⟩) 1 1) (l.take k) [zeroT] rfl rfl (HOW.out _ BC.out).1 (zero_src ZA.out) (HOW.out _ BC.out).2.1 hkl (HOW.out _ BC.out).2.2 ?_); intro va' wf hownA hgA hatA; obtain ⟨g', c', rfl, hgr⟩ := grown_of (w3 := w3) hownA hgA hatA (HOW.out _ BC.out).2.1 BC.out.size; have PF := Lib.hid (pushed_before hgr HOB.out B1.out BA.out (Below.refl _ _) NA.out); have ST := Lib.hid (pushed_stores HAT3.out HLK.out PF.out rfl); rw [HLK.out]; obtain ⟨u0, u1, u2, u3, u4, p0, p1, p2, p3, p4⟩ := ST.out.cells; have q0 := ST.out.frozen (k * 5); have q1 := ST.out.frozen (k * 5 + 1); have q2 := ST.out.frozen (k * 5 + 2); have q3 := ST.out.frozen (k * 5 + 3); have q4 := ST.out.frozen (k * 5 + 4); obtain ⟨p5, q5⟩ := ST.out.var; obtain ⟨⟨t0, t1, t2, t3, t4, s0, s1, s2, s3, s4⟩, hfz⟩ := ST.out.after (u := .slice (some ⟨g', 0, none⟩) (k + 1) c'); have r0 := hfz (k * 5); have r1 := hfz (k * 5 + 1); have r2 := hfz (k * 5 + 2); have r3 := hfz (k * 5 + 3); have r4 := hfz (k * 5 + 4); obtain ⟨p6, q6⟩ := ST.out.past (v0 := .string x.kind) (v1 := .string x.text) (v2 := .slice C1 n1 c1) (v3 := .slice C2 n2 c2) (v4 := .slice C3 x.kids.length c3); unfold put5o at p6 q6; clear hownA hgA hatA hgr hfz)
            | ((with_reducible refine step_append_nodes (w := wC.alloc ZNode) rfl (.tmp 28) (.tmp 32) rfl (w.heap.size + 3) S (.slice Ao k co) (.slice (some ⟨wC.heap.size, 0, none⟩) 1 1) (l.take k) [zeroT] rfl rfl (HOW.out _ (belowNext BC.out BZ.out)).1 (zero_src ZB.out) (HOW.out _ (belowNext BC.out BZ.out)).2.1 hkl (HOW.out _ (belowNext BC.out BZ.out)).2.2 ?_); intro va' wf hownA hgA hatA; obtain ⟨g', c', rfl, hgr⟩ := grown_of (w3 := w3) hownA hgA hatA (HOW.out _ (belowNext BC.out BZ.out)).2.1 (belowNext BC.out BZ.out).size; have PF := Lib.hid (pushed_before hgr HOB.out B0.out BB.out BZ.out NB.out); have ST := Lib.hid (pushed_stores HAT3.out HLK.out PF.out rfl); rw [HLK.out]; obtain ⟨u0, u1, u2, u3, u4, p0, p1, p2, p3, p4⟩ := ST.out.cells; have q0 := ST.out.frozen (k * 5); have q1 := ST.out.frozen (k * 5 + 1); have q2 := ST.out.frozen (k * 5 + 2); have q3 := ST.out.frozen (k * 5 + 3); have q4 := ST.out.frozen (k * 5 + 4); obtain ⟨p5, q5⟩ := ST.out.var; obtain ⟨⟨t0, t1, t2, t3, t4, s0, s1, s2, s3, s4⟩, hfz⟩ := ST.out.after (u := .slice (some ⟨g', 0, none⟩) (k + 1) c'); have r0 := hfz (k * 5); have r1 := hfz (k * 5 + 1); have r2 := hfz (k * 5 + 2); have r3 := hfz (k * 5 + 3); have r4 := hfz (k * 5 + 4); obtain ⟨p6, q6⟩ := ST.out.past (v0 := .string x.kind) (v1 := .string x.text) (v2 := .slice C1 n1 c1) (v3 := .slice C2 n2 c2) (v4 := .slice C3 x.kids.length c3); unfold put5o at p6 q6; clear hownA hgA hatA hgr hfz))
          all_goals
            refine NoPanic.normal ?_
            go_wp2_with fail
            go_meet
            obtain ⟨vA', S', hh⟩ := splitAt_push HAT3.out hlx hs PF.out
            have hh2 := hh
            rw [← put5o_comm ST.out.ne] at hh2
            unfold put5o at hh hh2
            first
              | (with_reducible exact ⟨vA', S', rfl, hh⟩)
              | (with_reducible exact ⟨vA', S', rfl, hh2⟩)
        case rest =>
          obtain ⟨vA', S', rfl, hat'⟩ := hcut
          go_wp2
          exact ⟨⟨k + 1, m - sizeB x, vA', S', by omega, by omega, by go_num, by go_num, hat'⟩, by simp [intOf]; omega⟩
      · have hs' : ¬ (sizeB x : Int) ≤ (m : Int) := by omega
        have HEQ := Lib.hid (split_here HAT3.out.eq hlx hs)
        have HKB : Hid (Kids w3 (Under w3.heap.size) (.slice (some ⟨b, o + k * 5, none⟩) (l.length - k) (c - k)) (l.drop k)) := Lib.hid (((HL.out.below HB3.out).more HB3.out.size).back hk)
        have i1 : (k : Int) ≤ (c : Int) := by omega
        have i2 : k ≤ c := by omega
        have i3 : ¬ c = k := by omega
        have i4 : (k : Int) ≤ (l.length : Int) := by omega
        have i5 : k ≤ l.length := by omega
        have i6 : (0 : Int) ≤ (k : Int) := by omega
        have hwd := weighAll_dropLe l k
        go_wp2_with fail
        refine (copies_any _ (l.drop k) w3 HKB.out (by omega)).mono ?_
        rintro e w4 ⟨vB, rfl, hrv, hb4⟩
        obtain ⟨Ab, cb, hvB, _⟩ := hrv.form
        rw [List.length_drop] at hvB
        subst hvB
        have HBA := Lib.hid (backAt_of HAT3.out hb4 hrv)
        have HZ4 := Lib.hid hb4.size
        have h4 := (HAT3.out.keep hb4).door
        have HX4 := Lib.hid ((Below.heap_setCell w4 ⟨w.heap.size + 1, 0, none⟩ (.slice Ab (l.length - k) cb) gx (show gx ≠ w.heap.size + 1 by omega)).trans ((hb4.block gx HL3.out).trans HX3.out))
        have HB4 := Lib.hid (set_below (g := w.heap.size + 1) (o := 0) (u := .slice Ab (l.length - k) cb) (Nat.le_succ _) (belowNext HB3.out hb4))
        clear d4 d5 d6 fr4 fr5 fr6 x0 x1 x2 x3 x4 hb4 hrv
        obtain ⟨d5, fr5⟩ := cells1 h4.h5
        clear h4
        go_upto_region 12 with fail
        have hzw3 := HL3.out
        generalize hgw : w4.heap.size = hi4 at *
        have HGW : Hid ((w4.setCell ⟨w.heap.size + 1, 0, none⟩ (.slice Ab (l.length - k) cb)).heap.size = hi4) := Lib.hid (by simp [World.setCell, hgw])
        clear hgw d5 fr5
        generalize w4.setCell ⟨w.heap.size + 1, 0, none⟩ (.slice Ab (l.length - k) cb) = w5 at *
        obtain ⟨d4, fr4⟩ := cells1 HBA.out.door.h4
        obtain ⟨d5, fr5⟩ := cells1 HBA.out.door.h5
        obtain ⟨d6, fr6⟩ := cells1 HBA.out.door.h6
        rcases Nat.eq_zero_or_pos m with h0 | h0
        · subst h0
          have HE : Hid (splitB l n = (0, l.take k, l.drop k)) := Lib.hid (by rw [HEQ.out, if_pos rfl])
          go_wp2_with fail
          go_region
          all_goals
            go_wp2
            rw [HE.out]
            exact door_well (laid3_door HBA.out.door).drew rfl rfl rfl (laid3_kids (HBA.out.kidsA HZ4.out)) (laid3_kids HBA.out.kidsB)
        · have hm0 : ((m : Int) == 0) = false := by rw [beq_eq_false_iff_ne]; omega
          have hm1 : ¬ (m : Int) = 0 := by omega
          obtain ⟨x0, x1, x2, x3, x4⟩ := cells5 HX4.out
          cases hT : isTxt x.kind with
          | false =>
            have hk' : (x.kind.toList == [116, 101, 120, 116]) = false := hT
            have HE : Hid (splitB l n = (10, [], [])) := Lib.hid (by rw [HEQ.out, if_neg (by omega), hT]; rfl)
            clear hT
            go_wp2_with fail
            go_region
            all_goals
              go_wp2
              rw [HE.out]
              exact door_wrong (c := 10) rfl (laid3_door HBA.out.door).drew rfl rfl rfl
          | true =>
            have hk' : (x.kind.toList == [116, 101, 120, 116]) = true := hT
            have HE : Hid (splitB l n = (0, l.take k ++ [cutL x m], cutR x m :: l.drop (k + 1))) := Lib.hid (by rw [HEQ.out, if_neg (by omega), hT]; rfl)
            have hsx := text_le_weigh x
            have hwx3 : weigh x ≤ 1000000 := by omega
            obtain ⟨gb, rfl⟩ : ∃ gb, Ab = some ⟨gb, 0, none⟩ := by
              obtain ⟨A', c', hv, _, _, hh⟩ := HBA.out.back
              rcases hh with hh | ⟨g, cur, rfl, _⟩
              · rw [List.drop_eq_nil_iff] at hh; omega
              · injection hv with hv; exact ⟨g, hv⟩
            clear hT
            go_wp2_with fail
            refine (copy_any _ x w5 (HXN.out w5 HB4.out) hwx3).mono ?_
            rintro e w6 ⟨v6, rfl, hn6, hb6⟩
            obtain ⟨C1, n1, c1, C2, n2, c2, C3, c3, rfl⟩ := hn6.forms
            obtain ⟨ha7, ht7, hl7⟩ : Below w6.heap.size w6 (w6.alloc (.cells #[.string x.kind, .string x.text, .slice C1 n1 c1, .slice C2 n2 c2, .slice C3 x.kids.length c3] 28)) ∧ (w6.alloc (.cells #[.string x.kind, .string x.text, .slice C1 n1 c1, .slice C2 n2 c2, .slice C3 x.kids.length c3] 28)).heap[w6.heap.size]? = some (.cells #[.string x.kind, .string x.text, .slice C1 n1 c1, .slice C2 n2 c2, .slice C3 x.kids.length c3] 28) ∧ w6.heap.size < (w6.alloc (.cells #[.string x.kind, .string x.text, .slice C1 n1 c1, .slice C2 n2 c2, .slice C3 x.kids.length c3] 28)).heap.size := ⟨(Below.refl _ _).alloc (Nat.le_refl _) _, heap_new _ _, by simp⟩
            have HBA7 := Lib.hid ((HBA.out.keep hb6 HZ4.out).keep ha7 HZ4.out)
            have HX7 := Lib.hid ((ha7.block gx (by have := hb6.size; have := HGW.out; have := HZ4.out; omega)).trans ((hb6.block gx (by have := HGW.out; have := HZ4.out; omega)).trans HX4.out))
            have HT7 := Lib.hid ht7
            have HL7 := Lib.hid hl7
            have HN7 : Hid (Node (w6.alloc (.cells #[.string x.kind, .string x.text, .slice C1 n1 c1, .slice C2 n2 c2, .slice C3 x.kids.length c3] 28)) (From hi4 w6.heap.size) (.agg #[.string x.kind, .string x.text, .slice C1 n1 c1, .slice C2 n2 c2, .slice C3 x.kids.length c3]) x) := Lib.hid (hn6.keep (fun b hb => ⟨by have := hb.1; have := HGW.out; omega, hb.2⟩) (fun b hb => ha7.block b hb.2))
            have HG7 : Hid (hi4 ≤ w6.heap.size) := Lib.hid (by have := hb6.size; have := HGW.out; omega)
            have HTB : Hid (Tabs (w6.alloc (.cells #[.string x.kind, .string x.text, .slice C1 n1 c1, .slice C2 n2 c2, .slice C3 x.kids.length c3] 28))) := Lib.hid (HT.out.under (belowNext (belowNext HB4.out hb6) ha7))
            clear d4 d5 d6 fr4 fr5 fr6 x0 x1 x2 x3 x4 hb6 hn6 ha7 ht7 hl7
            go_upto_region 17 with fail
            generalize w6.alloc (.cells #[.string x.kind, .string x.text, .slice C1 n1 c1, .slice C2 n2 c2, .slice C3 x.kids.length c3] 28) = w7 at *
            generalize w6.heap.size = gt at *
            obtain ⟨x0, x1, x2, x3, x4⟩ := cells5 HX7.out
            obtain ⟨d5, fr5⟩ := cells1 HBA7.out.door.h5
            have hj1 : (0 : Int) < ((l.length - k : Nat) : Int) := by omega
            have hj2 : 0 < l.length - k := by omega
            have hmx : m ≤ 1000000 := by omega
            have hsz : x.text.size ≤ 1000000 := by omega
            go_cut [] from 18 to 69 (fun wx => Hid (CutAt w wx l k m x (.slice Ao k co) (.slice (some ⟨gb, 0, none⟩) (l.length - k) cb) S w3.heap.size gt (x.text.extract 0 (atB m x.text.data.toList)) (.slice C1 n1 c1) (.slice C2 n2 c2) (.slice C3 x.kids.length c3)))
            case first =>
              have HTD : Hid (Tabs w7.drew) := Lib.hid HTB.out
              refine wp_region_noPanic ?_
              go_region_law (first
                | ((with_reducible refine step_cutText (s := x.text) (n := m) (w := w7.drew) rfl (.tmp 56) (.tmp 57) rfl rfl rfl hsz hmx HTD.out ?_); intro w8 hb8; have HB8 := Lib.hid (undrew hb8); have HBA8 := Lib.hid (HBA7.out.keep HB8.out HZ4.out); have HT8 := Lib.hid ((HB8.out.block gt HL7.out).trans HT7.out); have HC8 := Lib.hid (cutAt_of (m := m) HBA8.out hlx HZ4.out (Nat.le_refl _) HG7.out HT8.out (HN7.out.keep (fun _ h => h) (fun b hb => HB8.out.block b (Nat.lt_trans hb.2 HL7.out)))); obtain ⟨t0, t1, t2, t3, t4⟩ := cells5 HT8.out; have s1 := frozen_of_row _ _ 1 _ _ HT8.out; obtain ⟨e5, _⟩ := cells1 HBA8.out.door.h5; obtain ⟨k0, k1, k2, k3, k4⟩ := HBA8.out.first (u := .string (x.text.extract 0 (atB m x.text.data.toList))) hlx HG7.out; clear hb8)
                | fail)
              all_goals
                refine NoPanic.normal ?_
                go_wp2_with fail
                go_meet
                with_reducible exact HC8
            case rest =>
              have hca := hcut
              clear d5 fr5 x0 x1 x2 x3 x4
              obtain ⟨t0, t1, t2, t3, t4⟩ := cells5 hca.out.thru
              obtain ⟨d4, fr4⟩ := cells1 hca.out.door.h4
              obtain ⟨d5, fr5⟩ := cells1 hca.out.door.h5
              have HRD := Lib.hid hca.out.ready
              have hkl2 : (l.take k).length + [cutL x m].length ≤ 1000000 := by rw [HLK.out, List.length_singleton]; omega
              generalize hu : x.text.extract 0 (atB m x.text.data.toList) = u at *
              have d7 := (cells1 (heap_old wc (.cells #[.string x.kind, .string u, .slice C1 n1 c1, .slice C2 n2 c2, .slice C3 x.kids.length c3] 28) _ hca.out.door.h5)).1
              have d8 := (cells1 (heap_old wc (.cells #[.string x.kind, .string u, .slice C1 n1 c1, .slice C2 n2 c2, .slice C3 x.kids.length c3] 28) _ hca.out.door.h4)).1
              go_wp2_with fail
              refine wp_region_noPanic ?_
              go_region_law (first
                | ((with_reducible refine step_append_nodes (w := (wc.alloc (.cells #[.string x.kind, .string u, .slice C1 n1 c1, .slice C2 n2 c2, .slice C3 x.kids.length c3] 28)).drew) rfl (.tmp 64) (.tmp 66) rfl (w.heap.size + 3) (fun b => S b ∨ From w3.heap.size wc.heap.size b) (.slice Ao k co) (.slice (some ⟨wc.heap.size, 0, none⟩) 1 1) (l.take k) [cutL x m] rfl rfl HRD.out.1 HRD.out.2.1 HRD.out.2.2.1 hkl2 HRD.out.2.2.2 ?_); intro va' wf hownA hgA hatA; obtain ⟨A', c', rfl, hdf, hk1, hk2⟩ := hca.out.done HLK.out hownA hgA; have HDF := Lib.hid hdf; have HKF := Lib.hid (And.intro hk1 hk2); obtain ⟨p4, q4⟩ := cells1 hdf.h4; obtain ⟨p5, q5⟩ := cells1 hdf.h5; obtain ⟨p6, q6⟩ := cells1 hdf.h6; clear hownA hgA hatA hdf hk1 hk2)
                | fail)
              all_goals
                refine NoPanic.normal ?_
                go_wp2
                rw [HE.out]
                exact door_well (laid3_door HDF.out) rfl rfl rfl (laid3_kids' HKF.out.1) (laid3_kids' HKF.out.2)
    · obtain rfl : k = l.length := by omega
      obtain ⟨Ao, no, co, rfl⟩ : ∃ Ao no co, vA = .slice Ao no co := by obtain ⟨Ao, co, hv, _⟩ := hat.out.own.form; exact ⟨_, _, _, hv⟩
      have HEQ := Lib.hid (split_end hat.out.eq)
      have HDR := Lib.hid hat.out.door
      obtain ⟨d4, fr4⟩ := cells1 HDR.out.h4
      obtain ⟨d5, fr5⟩ := cells1 HDR.out.h5
      obtain ⟨d6, fr6⟩ := cells1 HDR.out.h6
      clear hbw
      rcases Nat.eq_zero_or_pos m with h0 | h0
      · subst h0
        have HE : Hid (splitB l n = (0, l, [])) := Lib.hid (by rw [HEQ.out, if_pos rfl])
        have HKA : Hid (Kids (laid3 w wr (.slice Ao no co) (.slice none 0 0) 0) (From w.heap.size (laid3 w wr (.slice Ao no co) (.slice none 0 0) 0).heap.size) (.slice Ao no co) l) := Lib.hid (by
          have h1 := hat.out.own
          rw [List.take_length] at h1
          have hz := hat.out.size
          refine (h1.kids (S' := From (w.heap.size + 3) wr.heap.size) (fun b hb => ⟨(hat.out.hS b hb).1.1, (hat.out.hS b hb).1.2⟩) (fun g hg => (hat.out.block g hg))).keep (fun b hb => ⟨by have := hb.1; omega, by rw [laid3_size]; exact hb.2⟩) (fun b hb => laid3_other hb.1))
        go_wp2_with fail
        go_region
        all_goals
          go_wp2
          rw [HE.out]
          exact door_well (laid3_door HDR.out).drew rfl rfl rfl (HKA.out.keep (fun _ h => h) (fun _ _ => rfl)) ⟨_, _, rfl, Nat.le_refl _, by unfold maxLen; omega, .inl rfl⟩
      · have hm0 : (0 : Int) < (m : Int) := by omega
        have HE : Hid (splitB l n = (3, [], [])) := Lib.hid (by rw [HEQ.out, if_neg (by omega)])
        go_wp2_with fail
        go_region
        all_goals
          go_wp2
          rw [HE.out]
          exact door_wrong (c := 3) rfl (laid3_door HDR.out).drew rfl rfl rfl
end Go.Proofs.YtamoklceekeheaaDoor
