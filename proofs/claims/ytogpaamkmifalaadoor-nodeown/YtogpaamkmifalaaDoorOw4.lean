/-
  NodeOwn walked.
-/
import Derived.Test.YtogpaamkmifalaaDoorOw2
import Derived.Test.YtogpaamkmifalaaDoorOw3
import Derived.Test.YtogpaamkmifalaaDoorOw5
import Derived.Test.YtogpaamkmifalaaDoorW11
import Derived.Test.YtogpaamkmifalaaDoorW23
import Derived.Test.YtogpaamkmifalaaDoorW28
import Derived.Test.YtogpaamkmifalaaDoorSameP
import Derived.Deep.LoopGhost
namespace Go.Proofs.YtogpaamkmifalaaDoor
open Go.RowKit Go.Sort

theorem owDoc_weigh (l : List Cel) : weigh (docB l) ≤ 800 := by
  have h := madeB_weigh l
  have h1 : DOC.size = 3 := by decide
  have h2 : ByteArray.empty.size = 0 := by decide
  simp only [docB, weigh, weighL, weighP, List.map_nil, List.sum_nil, h1, h2]; omega
abbrev owCells (A : Option Addr) (n c : Nat) : Array Value := #[.string ⟨#[100, 111, 99]⟩, .string ⟨#[]⟩, .slice none 0 0, .slice none 0 0, .slice A n c]
theorem ow_node {w : World} {S : Nat → Prop} {A : Option Addr} {c : Nat} {l : List Cel} (h : Kids w S (.slice A (madeB l).length c) (madeB l)) : Node w S (.agg (owCells A (madeB l).length c)) (docB l) := ⟨_, _, _, rfl, strs_nil, pairs_nil, h⟩
theorem ow_box (w : World) (ob : Obj) : Below w.heap.size w (w.alloc ob) ∧ (w.alloc ob).heap[w.heap.size]? = some ob ∧ w.heap.size < (w.alloc ob).heap.size := ⟨(Below.refl _ _).alloc (Nat.le_refl _) _, heap_new _ _, by simp⟩
theorem ow_cells {w : World} {g : Nat} {u0 u1 u2 u3 u4 : Value} {T : TypeId} (h : w.heap[g]? = some (.cells #[u0, u1, u2, u3, u4] T)) :
    w.cell? ⟨g, 0, none⟩ = some u0 ∧ w.cell? ⟨g, 1, none⟩ = some u1 ∧ w.cell? ⟨g, 2, none⟩ = some u2 ∧ w.cell? ⟨g, 3, none⟩ = some u3 ∧ w.cell? ⟨g, 4, none⟩ = some u4 := by
  simp [World.cell?, h]
/-- The first kid's kind tells the copy from the node. -/
theorem own_differs (l : List Cel) (ys : List Tree) (h : ∀ y ∈ ys, y.kind = YK) (hne : madeB l ≠ []) : docB l ≠ .mk DOC ByteArray.empty [] [] ys := by
  intro e
  have hk : madeB l = ys := congrArg Tree.kids e
  cases hm : madeB l with
  | nil => exact hne hm
  | cons x r =>
    have h1 := four_made l x (by rw [hm]; simp)
    have h2 := h x (by rw [← hk, hm]; simp)
    rw [h2] at h1
    exact absurd h1 (by decide)

set_option maxHeartbeats 20000000 in
set_option maxRecDepth 100000 in
theorem nodeOwn_walk (v : Value) (l : List Cel) (w : World) (h : Cels w (Under w.heap.size) v l) (hT : Tabs w) :
    Calls Tryd.prog 3 #[v] w fun e w' => e = .returned (.bool true) ∧ Below w.heap.size w w' := by
  have HC := Lib.hid h
  have HT := Lib.hid hT
  clear h hT
  go_enter Tryd.func3, Tryd.ntmps3
  go_wp2_with fail
  refine (shown_any _ HT.out).mono ?_
  rintro e w1 ⟨rfl, hb1⟩
  have HB1 := Lib.hid hb1
  clear hb1
  go_wp2_with fail
  refine (doc_any _ l w1 ((HC.out.below HB1.out).more HB1.out.size)).mono ?_
  rintro e w2 ⟨A, c, rfl, hk2, hb2⟩
  have hdw := owDoc_weigh l
  have hmw := madeB_weigh l
  obtain ⟨ha3, hd3, hl3⟩ := ow_box w2 (.cells (owCells A (madeB l).length c) 28)
  have HB3 := Lib.hid (belowNext HB1.out (belowNext hb2 ha3))
  have HK2 := Lib.hid (hk2.keep (S' := Under w2.heap.size) (fun _ h => h.2) (fun _ _ => rfl))
  have HA3 := Lib.hid ha3
  have HD3 := Lib.hid hd3
  have HL3 := Lib.hid hl3
  clear hk2 hb2 ha3 hd3 hl3
  go_upto_region 5 with fail
  generalize w2.alloc (.cells (owCells A (madeB l).length c) 28) = w3 at *
  go_wp2_with fail
  refine (doc_any _ l w3 ((HC.out.below HB3.out).more HB3.out.size)).mono ?_
  rintro e w4 ⟨A', c', rfl, hk4, hb4⟩
  obtain ⟨ha5, hd5, hl5⟩ := ow_box w4 (.cells (owCells A' (madeB l).length c') 28)
  have HB5 := Lib.hid (belowNext hb4 ha5)
  have HK4 := Lib.hid (hk4.keep (S' := Under w4.heap.size) (fun _ h => h.2) (fun _ _ => rfl))
  have HA5 := Lib.hid ha5
  have HD5 := Lib.hid hd5
  have HL5 := Lib.hid hl5
  clear hk4 hb4 ha5 hd5 hl5
  go_upto_region 6 with fail
  generalize w4.alloc (.cells (owCells A' (madeB l).length c') 28) = w5 at *
  have HC5 := Lib.hid (belowNext HA3.out HB5.out)
  have HNA : Hid (∀ W, Below w5.heap.size w5 W → Node W (Under W.heap.size) (.agg (owCells A (madeB l).length c)) (docB l) ∧ W.heap[w2.heap.size]? = some (.cells (owCells A (madeB l).length c) 28)) := Lib.hid fun W hW =>
    ⟨ow_node ((HK2.out.below (belowNext HC5.out hW)).more (belowNext HC5.out hW).size), ((belowNext HB5.out hW).block _ HL3.out).trans HD3.out⟩
  have HNB : Hid (∀ W, Below w5.heap.size w5 W → Node W (Under W.heap.size) (.agg (owCells A' (madeB l).length c')) (docB l) ∧ W.heap[w4.heap.size]? = some (.cells (owCells A' (madeB l).length c') 28)) := Lib.hid fun W hW =>
    ⟨ow_node ((HK4.out.below (belowNext HA5.out hW)).more (belowNext HA5.out hW).size), (hW.block _ HL5.out).trans HD5.out⟩
  have HE5 := Lib.hid (belowNext HB3.out HB5.out)
  generalize w2.heap.size = ga at *
  generalize w4.heap.size = gb at *
  clear HK2 HA3 HD3 HL3 HK4 HA5 HD5 HL5 HC5
  -- the copy
  obtain ⟨x0, x1, x2, x3, x4⟩ := ow_cells (HNA.out w5 (Below.refl _ _)).2
  go_wp2_with fail
  refine (copyP_any _ (docB l) w5 (HNA.out w5 (Below.refl _ _)).1 (by omega)).mono ?_
  rintro e w6 ⟨v6, rfl, hnp, hb6⟩
  obtain ⟨vm, va, A6, c6, rfl, hc6, hcm, z6, hz1, hz2, hsm, hsp, hrow⟩ := (nodeP_iff (docB l) _ _ _).1 hnp
  obtain ⟨A1, d1, rfl, _⟩ := hsm.form
  obtain ⟨A2, d2, rfl, _⟩ := hsp.form
  have hn6 := NodeP.node _ _ _ _ hnp
  obtain ⟨ha7, hd7, hl7⟩ := ow_box w6 (.cells #[.string (docB l).kind, .string (docB l).text, .slice A1 (docB l).marks.length d1, .slice A2 (docB l).attrs.length d2, .slice A6 (docB l).kids.length c6] 28)
  have HB7 := Lib.hid (belowNext hb6 ha7)
  have HD7 := Lib.hid hd7
  have HL7 := Lib.hid hl7
  have HN7 := Lib.hid (hn6.keep (S' := Under w6.heap.size) (fun _ h => h.2) (fun b hb => ha7.block b hb.2))
  have HROW7 : Hid ((docB l).kids = [] ∨ ∃ g cur, A6 = some ⟨g, 0, none⟩ ∧ w5.heap.size ≤ g ∧ g < w6.heap.size ∧ (w6.alloc (.cells #[.string (docB l).kind, .string (docB l).text, .slice A1 (docB l).marks.length d1, .slice A2 (docB l).attrs.length d2, .slice A6 (docB l).kids.length c6] 28)).heap[g]? = some (.cells cur 28) ∧ (docB l).kids.length * 5 ≤ cur.size ∧ RowP (w6.alloc (.cells #[.string (docB l).kind, .string (docB l).text, .slice A1 (docB l).marks.length d1, .slice A2 (docB l).attrs.length d2, .slice A6 (docB l).kids.length c6] 28)) (docB l).kids (g + 1) w6.heap.size cur 0) := Lib.hid (by
    rcases hrow with hrow | ⟨g, cur, rfl, g1, g2, hh, hs, hr⟩
    · exact .inl hrow
    · exact .inr ⟨g, cur, rfl, by omega, g2, (ha7.block g g2).trans hh, hs, RowP.keep _ _ _ _ _ _ (Nat.le_refl _) (fun b hb => ha7.block b hb.2) hr⟩)
  have HHI : Hid (w5.heap.size ≤ w6.heap.size) := Lib.hid hb6.size
  have HVM : Hid (∀ (W : World) (S : Nat → Prop), Strs W S (.slice A1 (docB l).marks.length d1) []) := Lib.hid fun W S => strs_nil_of hsm.1
  have HVA : Hid (∀ (W : World) (S : Nat → Prop), Pairs W S (.slice A2 (docB l).attrs.length d2) []) := Lib.hid fun W S => pairs_nil_of hsp.1
  have HCAP := Lib.hid (And.intro hc6 hcm)
  clear hnp hsm hsp hrow hn6 hb6 ha7 hd7 hl7 x0 x1 x2 x3 x4
  rw [show (docB l).kids = madeB l from rfl, show (docB l).marks = [] from rfl, show (docB l).attrs = [] from rfl] at *
  go_upto_region 7 with fail
  generalize w6.alloc (.cells #[.string (docB l).kind, .string (docB l).text, .slice A1 ([] : List ByteArray).length d1, .slice A2 ([] : List (ByteArray × ByteArray)).length d2, .slice A6 (madeB l).length c6] 28) = w7 at *
  generalize w6.heap.size = gc at *
  -- the same
  obtain ⟨x0, x1, x2, x3, x4⟩ := ow_cells (HNA.out w7 HB7.out).2
  obtain ⟨y0, y1, y2, y3, y4⟩ := ow_cells HD7.out
  go_wp2_with fail
  refine (nsame_any _ _ (docB l) (docB l) w7 (HNA.out w7 HB7.out).1 (HN7.out.keep (fun b hb => Nat.lt_trans hb HL7.out) (fun _ _ => rfl)) (by omega) (by omega)).mono ?_
  rintro e w8 ⟨he, hb8⟩
  rw [sameB_self] at he
  subst he
  have HB8 := Lib.hid (belowNext HB7.out hb8)
  have HS8 := Lib.hid hb8
  have HD8 := Lib.hid ((hb8.block gc HL7.out).trans HD7.out)
  have HL8 : Hid (gc < w8.heap.size) := Lib.hid (Nat.lt_of_lt_of_le HL7.out hb8.size)
  have hnl : (madeB l).length ≤ 1000000 := by have := length_le_weigh (madeB l); omega
  have HWT : Hid (weigh (docB l) ≤ 800) := Lib.hid hdw
  have HWM : Hid (weighAll (madeB l) ≤ 760) := Lib.hid hmw
  have HFM : Hid (∀ x ∈ madeB l, formedB x = true) := Lib.hid (ow_formed (madeB_ok l))
  clear hb8 x0 x1 x2 x3 x4 y0 y1 y2 y3 y4 hdw hmw
  rcases HROW7.out with hnil | ⟨g, cur0, rfl, hg1, hg2, hh0, hs0, hr0⟩
  · -- no kids
    have hl0 : (madeB l).length = 0 := by rw [hnil]; rfl
    have hl0' : ((madeB l).length : Int) = 0 := by rw [hl0]; rfl
    have HX8 := Lib.hid (HNA.out w8 HB8.out)
    have HY8 := Lib.hid (HNB.out w8 HB8.out)
    obtain ⟨y0, y1, y2, y3, y4⟩ := ow_cells HD8.out
    clear hnil
    go_wp2
    go_loopg [7] 0 (fun _ s7 wx => s7 = .int .i64 0 ∧ wx = w8)
    case atStart => exact ⟨rfl, rfl⟩
    case round =>
      obtain ⟨rfl, rfl⟩ := hrel
      have hnlt : ¬ (0 : Int) < ((madeB l).length : Int) := by omega
      obtain ⟨x0, x1, x2, x3, x4⟩ := ow_cells HX8.out.2
      obtain ⟨z0, z1, z2, z3, z4⟩ := ow_cells HY8.out.2
      clear hl0 hl0'
      go_wp2_with fail
      refine (nsame_any _ _ (docB l) (docB l) wr HX8.out.1 HY8.out.1 (by have := HWT.out; omega) (by have := HWT.out; omega)).mono ?_
      rintro e w9 ⟨he, hb9⟩
      rw [sameB_self] at he
      subst he
      have HE9 := Lib.hid (belowNext HE5.out (belowNext HB8.out hb9))
      obtain ⟨q0, q1, q2, q3, q4⟩ := ow_cells ((hb9.block gc HL8.out).trans HD8.out)
      have hz : ((((madeB l).length : Int)) == 0) = true := by rw [beq_iff_eq]; omega
      have hz' : ((madeB l).length : Int) = 0 := by omega
      clear hb9 x0 x1 x2 x3 x4 y0 y1 y2 y3 y4 z0 z1 z2 z3 z4
      go_wp2
      go_ret
      exact ⟨rfl, HE9.out⟩
  · -- some
    have HO0 : Hid (OwnRel w8 (madeB l) w5.heap.size gc g gc #[.string (docB l).kind, .string (docB l).text, .slice A1 ([] : List ByteArray).length d1, .slice A2 ([] : List (ByteArray × ByteArray)).length d2, .slice (some ⟨g, 0, none⟩) (madeB l).length c6] 0 w8) := Lib.hid (by
      refine ⟨Below.refl _ _, rfl, HD8.out, cur0, g + 1, [], (HS8.out.block g (Nat.lt_trans hg2 HL7.out)).trans hh0, hs0, by omega, by omega, ?_, rfl, by simp [RowAt], by simp, by simp [weighAll]⟩
      rw [List.drop_zero, Nat.zero_mul]
      exact RowP.keep _ _ _ _ _ _ (Nat.le_refl _) (fun b hb => HS8.out.block b (Nat.lt_trans hb.2 HL7.out)) hr0)
    have HLO := Lib.hid (And.intro hg1 hg2)
    clear hg1 hg2 hh0 hs0 hr0 HROW7 HN7
    have hnl8 : (madeB l).length ≤ c6 := HCAP.out.1
    generalize hks : madeB l = ks at *
    have HKS := Lib.hid hks
    clear hks hnl8
    go_wp2
    go_loopg [7] ks.length (fun gh s7 wx => ∃ i : Nat, i + gh = ks.length ∧ s7 = .int .i64 (i : Int) ∧ Hid (OwnRel w8 ks w5.heap.size gc g gc #[.string (docB l).kind, .string (docB l).text, .slice A1 ([] : List ByteArray).length d1, .slice A2 ([] : List (ByteArray × ByteArray)).length d2, .slice (some ⟨g, 0, none⟩) ks.length c6] i wx))
    case atStart => exact ⟨0, by omega, rfl, HO0⟩
    case round =>
      obtain ⟨i, hig, rfl, hrel0⟩ := hrel
      generalize hG : gk = G at *
      obtain ⟨wo, rfl⟩ : ∃ wo : World, wo = wr := ⟨_, rfl⟩
      by_cases hlt : i < ks.length
      · have hx : ks[i]? = some ks[i] := List.getElem?_eq_getElem hlt
        have hxf := HFM.out _ (List.getElem_mem hlt)
        obtain ⟨cur, lo', ys, mid, vm, va, A, c0, z, p1, p2, p3, p4, p5, p6, p7, p8, p9, p10, p11, p12, p13, p14, p15, p16, p17, p18, p19, p20, p21⟩ := own_begin hrel0.out hx
        have hkl : ks[i].kids.length ≤ 1000000 ∧ ks[i].marks.length ≤ 1000000 ∧ ks[i].attrs.length ≤ 1000000 := by
          have h1 := weigh_mem (List.getElem_mem hlt)
          have h2 := HWM.out
          exact ow_lens ks[i] (by omega)
        have HXF := Lib.hid hxf
        have HX := Lib.hid hx
        generalize ks[i] = x at *
        obtain ⟨Am, dm, rfl, _⟩ := p17.form
        obtain ⟨Aa, da, rfl, _⟩ := p18.form
        have HP := Lib.hid (And.intro p1 (And.intro p2 (And.intro p3 (And.intro p4 (And.intro p5 (And.intro p6 (And.intro p7 (And.intro p8 (And.intro p9 (And.intro p10 (And.intro p11 (And.intro p12 p13))))))))))))
        have HF := Lib.hid p14
        have HZ := Lib.hid (And.intro p15 p16)
        have HMK := Lib.hid p17
        have HAT := Lib.hid p18
        have HCC := Lib.hid (And.intro p19 p20)
        have hz1 := HLO.out
        obtain ⟨y0, y1, y2, y3, y4⟩ := ow_cells p3
        obtain ⟨e0, e1, e2, e3, e4⟩ := ow_five p4 p14
        have HK0 : Hid (Kid2 w8 wo x w5.heap.size z mid A x.kids wo) := Lib.hid ⟨p1, p2, fun _ _ => rfl, LikeL.refl _, p21⟩
        clear p1 p2 p3 p4 p5 p6 p7 p8 p9 p10 p11 p12 p13 p14 p15 p16 p17 p18 p19 p20 p21 hx hxf hz1
        go_wp2
        clear y0 y1 y2 y3 y4 e0 e1 e2 e3 e4
        -- the kids' kids
        go_loopg [8] x.kids.length (fun gh s8 wx => ∃ (j : Nat) (l2 : List Tree), j + gh = x.kids.length ∧ s8 = .int .i64 (j : Int) ∧ Hid (Kid2 w8 wo x w5.heap.size z mid A l2 wx))
        case atStart => exact ⟨0, x.kids, by omega, rfl, HK0⟩
        case round =>
          obtain ⟨j, l2, hjg, rfl, hk2⟩ := hrel
          have hpz := HP.out
          have hzz := HZ.out
          have hlo := HLO.out
          have hgcr := (hk2.out.2.2.1 gc (fun h => by have := h.2; omega)).trans hpz.2.2.1
          have hgr := (hk2.out.2.2.1 g (fun h => by have := h.1; omega)).trans hpz.2.2.2.1
          obtain ⟨y0, y1, y2, y3, y4⟩ := ow_cells hgcr
          obtain ⟨e0, e1, e2, e3, e4⟩ := ow_five hgr HF.out
          have HGR := Lib.hid hgr
          have HGC := Lib.hid hgcr
          clear hgcr hgr
          by_cases hj : j < x.kids.length
          · obtain ⟨q1, q2, q3, q4, q5⟩ := hk2.out
            rcases q5 with hnil | ⟨g2, cur2, rfl, z1, z2, hh2, hrw⟩
            · rw [hnil] at hj; simp at hj
            have hjl : j < l2.length := by rw [q4.1]; exact hj
            have hy : l2[j]? = some l2[j] := List.getElem?_eq_getElem hjl
            have hst := kid2_step (wr := wo) q1 q2 q3 q4 z1 z2 (by omega) hh2 hrw hy
            generalize l2[j] = y at *
            obtain ⟨_, _, _, k0, k1, _⟩ := (nodeAt_iff y g2 _).1 (rowAt_get l2 g2 0 hrw j y hy)
            rw [Nat.zero_add] at k0 k1
            have f0 := frozen_of_row _ _ (j * 5) _ _ hh2
            have f1 := frozen_of_row _ _ (j * 5 + 1) _ _ hh2
            have HST := Lib.hid hst
            have HH2 := Lib.hid hh2
            have hgg : g2 ≠ gc ∧ g2 ≠ g := by omega
            have HGG := Lib.hid hgg
            have HK0' := Lib.hid k0
            unfold QK XK at HST
            clear q1 q2 q3 q4 hst hrw hy hpz hzz hlo z1 z2 hh2 hgg
            go_upto_region 16 with fail
            have s0 : (wr.setCell ⟨g2, j * 5 + 1, none⟩ (.string ⟨#[63]⟩)).cell? ⟨g2, j * 5, none⟩ = some (.string y.kind) := (set_other (by omega)).trans HK0'.out
            have t0 : (wr.setCell ⟨g2, j * 5 + 1, none⟩ (.string ⟨#[63]⟩)).frozen? ⟨g2, j * 5, none⟩ = false := frozen_of_row _ _ _ _ _ (heap_setCell_same _ _ _ _ _ _ HH2.out)
            have hgc1 := (set_blocks (w := wr) (o := j * 5 + 1) (v := .string ⟨#[63]⟩) (Ne.symm HGG.out.1)).trans HGC.out
            have hg1 := (set_blocks (w := wr) (o := j * 5 + 1) (v := .string ⟨#[63]⟩) (Ne.symm HGG.out.2)).trans HGR.out
            clear y0 y1 y2 y3 y4 e0 e1 e2 e3 e4 k0 k1 f0 f1
            generalize wr.setCell ⟨g2, j * 5 + 1, none⟩ (.string ⟨#[63]⟩) = W1 at *
            obtain ⟨y0, y1, y2, y3, y4⟩ := ow_cells hgc1
            obtain ⟨e0, e1, e2, e3, e4⟩ := ow_five hg1 HF.out
            clear hgc1 hg1
            go_wp2
            go_roundg (x.kids.length - (j + 1))
            case measure => omega
            case rel => exact ⟨j + 1, _, by omega, by go_num, HST⟩
          · have hjn : ¬ (j : Int) < (x.kids.length : Int) := by omega
            have HK2 := Lib.hid hk2.out
            have HM0 : Hid (Mark3 w8 wr x w5.heap.size lo' z (.slice Am x.marks.length dm) x.marks wr) := Lib.hid (by
              obtain ⟨q1, q2, q3, q4, q5⟩ := hk2.out
              exact ⟨q1, q2, fun _ _ => rfl, fun _ _ => rfl, Twice.refl _ _, HMK.out.keep (fun _ h => h) (fun b hb => q3 b (fun h => by have := hb.2; have := h.1; omega))⟩)
            obtain ⟨wq, rfl⟩ : ∃ wq : World, wq = wr := ⟨_, rfl⟩
            clear hpz hzz hlo hjg hk2 hj
            go_wp2
            clear y0 y1 y2 y3 y4 e0 e1 e2 e3 e4 hjn
            -- the marks
            go_loopg [9] x.marks.length (fun gh s9 wx => ∃ (j : Nat) (m2 : List ByteArray), j + gh = x.marks.length ∧ s9 = .int .i64 (j : Int) ∧ Hid (Mark3 w8 wq x w5.heap.size lo' z (.slice Am x.marks.length dm) m2 wx))
            case atStart => exact ⟨0, x.marks, by omega, rfl, HM0⟩
            case round =>
              obtain ⟨j3, m2, hjg, rfl, hm3⟩ := hrel
              have hpz := HP.out
              have hzz := HZ.out
              have hlo := HLO.out
              have hgcr := (hm3.out.2.2.1 gc (fun h => by have := h.2; omega)).trans HGC.out
              have hgr := (hm3.out.2.2.1 g (fun h => by have := h.1; omega)).trans HGR.out
              obtain ⟨y0, y1, y2, y3, y4⟩ := ow_cells hgcr
              obtain ⟨e0, e1, e2, e3, e4⟩ := ow_five hgr HF.out
              have HGR3 := Lib.hid hgr
              have HGC3 := Lib.hid hgcr
              clear hgcr hgr
              by_cases hj : j3 < x.marks.length
              · have hne : x.marks ≠ [] := fun e => by rw [e] at hj; simp at hj
                have hjl : j3 < m2.length := by rw [hm3.out.2.2.2.2.1.1]; exact hj
                have hy : m2[j3]? = some m2[j3] := List.getElem?_eq_getElem hjl
                obtain ⟨bm, om, rfl, hbm, k0, f0⟩ := strsP_get hm3.out.2.2.2.2.2 hy
                have HST := Lib.hid (mark3_step hm3.out (by omega) hy hne hbm)
                generalize m2[j3] = s3 at *
                unfold ZK at HST
                clear hy hpz hzz hlo hbm
                go_wp2
                go_roundg (x.marks.length - (j3 + 1))
                case measure => omega
                case rel => exact ⟨j3 + 1, _, by omega, by go_num, HST⟩
              · have hjn : ¬ (j3 : Int) < (x.marks.length : Int) := by omega
                have HM3 := Lib.hid hm3.out
                have HA0 : Hid (Attr4 w8 wr x w5.heap.size lo' z (.slice Aa x.attrs.length da) x.attrs wr) := Lib.hid (by
                  obtain ⟨q1, q2, q3, q4, q5, q6⟩ := hm3.out
                  refine ⟨q1, q2, fun _ _ => rfl, fun _ _ => rfl, LikeP.refl _, ?_⟩
                  by_cases hma : x.attrs = []
                  · rw [hma]; exact ⟨pairs_nil_of (by have := HAT.out.1; rw [hma] at this; exact this), .inl rfl⟩
                  · have hm0 : x.marks = [] := ow_marks HXF.out hma
                    exact HAT.out.keep (fun _ h => h) (fun b hb => (q4 hm0 b).trans (HK2.out.2.2.1 b (fun h => by have := hb.2; have := h.1; omega))))
                obtain ⟨ws, rfl⟩ : ∃ ws : World, ws = wr := ⟨_, rfl⟩
                clear hpz hzz hlo hjg hm3 hj
                go_wp2
                clear y0 y1 y2 y3 y4 e0 e1 e2 e3 e4 hjn
                -- the attributes
                go_loopg [10] x.attrs.length (fun gh s10 wx => ∃ (j : Nat) (a2 : List (ByteArray × ByteArray)), j + gh = x.attrs.length ∧ s10 = .int .i64 (j : Int) ∧ Hid (Attr4 w8 ws x w5.heap.size lo' z (.slice Aa x.attrs.length da) a2 wx))
                case atStart => exact ⟨0, x.attrs, by omega, rfl, HA0⟩
                case round =>
                  obtain ⟨j4, a2, hjg, rfl, ha4⟩ := hrel
                  have hpz := HP.out
                  have hzz := HZ.out
                  have hlo := HLO.out
                  have hgcr := (ha4.out.2.2.1 gc (fun h => by have := h.2; omega)).trans HGC3.out
                  have hgr := (ha4.out.2.2.1 g (fun h => by have := h.1; omega)).trans HGR3.out
                  obtain ⟨y0, y1, y2, y3, y4⟩ := ow_cells hgcr
                  obtain ⟨e0, e1, e2, e3, e4⟩ := ow_five hgr HF.out
                  have HGR4 := Lib.hid hgr
                  have HGC4 := Lib.hid hgcr
                  clear hgcr
                  by_cases hj : j4 < x.attrs.length
                  · have hne : x.attrs ≠ [] := fun e => by rw [e] at hj; simp at hj
                    have hjl : j4 < a2.length := by rw [ha4.out.2.2.2.2.1.1]; exact hj
                    have hy : a2[j4]? = some a2[j4] := List.getElem?_eq_getElem hjl
                    obtain ⟨bm, om, rfl, hbm, k0, f0⟩ := pairsP_get ha4.out.2.2.2.2.2 hy
                    have HST := Lib.hid (attr4_step ha4.out (by omega) hy hne hbm)
                    generalize a2[j4] = s4 at *
                    unfold QK at HST
                    clear hy hpz hzz hlo hbm hgr
                    go_wp2
                    go_roundg (x.attrs.length - (j4 + 1))
                    case measure => omega
                    case rel => exact ⟨j4 + 1, _, by omega, by go_num, HST⟩
                  · have hjn : ¬ (j4 : Int) < (x.attrs.length : Int) := by omega
                    have f0 := frozen_of_row _ _ (i * 5) _ _ hgr
                    have HA4 := Lib.hid ha4.out
                    clear hgr ha4
                    go_wp2
                    subst hG
                    go_roundg (ks.length - (i + 1))
                    case measure => omega
                    case rel =>
                      refine ⟨i + 1, by omega, by go_num, Lib.hid ?_⟩
                      exact own_round HP.out.2.2.2.2.1 HP.out.2.2.2.2.2.1 HP.out.2.2.2.2.2.2.1 HP.out.2.2.2.2.2.2.2.1 HLO.out HX.out HXF.out HP.out.2.2.2.2.2.2.2.2.1 HP.out.2.2.2.2.2.2.2.2.2.1 HP.out.2.2.2.2.2.2.2.2.2.2.1 HP.out.2.2.2.2.2.2.2.2.2.2.2.1 HP.out.2.2.2.2.2.2.2.2.2.2.2.2 HP.out.2.2.2.1 HF.out HZ.out HCC.out HK2.out HM3.out HA4.out HGR4.out HGC4.out
      · obtain rfl : i = ks.length := by omega
        have hilt : ¬ ((ks.length : Int) < (ks.length : Int)) := by omega
        obtain ⟨q1, q2, q3, cur, lo', ys, q4, q5, q6, q7, q8, q9, q10, q11, q12⟩ := hrel0.out
        have HC9 : Hid (Node wo (Under wo.heap.size) (.agg #[.string (docB l).kind, .string (docB l).text, .slice A1 ([] : List ByteArray).length d1, .slice A2 ([] : List (ByteArray × ByteArray)).length d2, .slice (some ⟨g, 0, none⟩) ks.length c6]) (.mk DOC ByteArray.empty [] [] ys)) := Lib.hid (by
          have hgl : gc < wo.heap.size := by rw [q2]; exact HL8.out
          refine ⟨_, _, _, rfl, HVM.out _ _, HVA.out _ _, some ⟨g, 0, none⟩, c6, by rw [show (Tree.mk DOC ByteArray.empty [] [] ys).kids = ys from rfl, q9], by rw [show (Tree.mk DOC ByteArray.empty [] [] ys).kids = ys from rfl, q9]; exact HCAP.out.1, HCAP.out.2, .inr ⟨g, 0, rfl, ?_, rowAt_keep (fun b hb => ?_) (fun _ _ => rfl) ys g 0 rfl q10⟩⟩
          · have := HLO.out; unfold Under; omega
          · have := hb.2; have := HLO.out; unfold Under; omega)
        have HDF : Hid (ks ≠ [] → sameB (docB l) (.mk DOC ByteArray.empty [] [] ys) = false) := Lib.hid fun hne => sameB_ne (own_differs l ys q11 (by rw [HKS.out]; exact hne))
        have HWY : Hid (weigh (.mk DOC ByteArray.empty [] [] ys) ≤ 1000000) := Lib.hid (by
          rw [List.take_length] at q12
          have h1 : DOC.size = 3 := by decide
          have h2 : ByteArray.empty.size = 0 := by decide
          have h3 := HWM.out
          simp only [weigh, weighL, weighP, List.map_nil, List.sum_nil, h1, h2]; omega)
        have HB9 : Hid (Below w5.heap.size w5 wo) := Lib.hid (HB8.out.trans q1)
        have HD9 := Lib.hid q3
        have HZ9 : Hid (gc < wo.heap.size) := Lib.hid (by rw [q2]; exact HL8.out)
        obtain ⟨y0, y1, y2, y3, y4⟩ := ow_cells q3
        obtain ⟨x0, x1, x2, x3, x4⟩ := ow_cells (HNA.out wo HB9.out).2
        obtain ⟨z0, z1, z2, z3, z4⟩ := ow_cells (HNB.out wo HB9.out).2
        clear q1 q2 q3 q4 q5 q6 q7 q8 q9 q10 q11 q12
        go_wp2_with fail
        refine (nsame_any _ _ (docB l) (docB l) wo (HNA.out wo HB9.out).1 (HNB.out wo HB9.out).1 (by have := HWT.out; omega) (by have := HWT.out; omega)).mono ?_
        rintro e w9 ⟨he, hb9⟩
        rw [sameB_self] at he
        subst he
        have HS9 := Lib.hid hb9
        have HE9 := Lib.hid (belowNext HB9.out hb9)
        clear hb9 x0 x1 x2 x3 x4 y0 y1 y2 y3 y4 z0 z1 z2 z3 z4
        obtain ⟨y0, y1, y2, y3, y4⟩ := ow_cells ((HS9.out.block gc HZ9.out).trans HD9.out)
        obtain ⟨x0, x1, x2, x3, x4⟩ := ow_cells (HNA.out w9 HE9.out).2
        by_cases hk0 : ks.length = 0
        · have hz : ((ks.length : Int) == 0) = true := by rw [beq_iff_eq]; omega
          have HE10 := Lib.hid (belowNext HE5.out HE9.out)
          have hz' : (ks.length : Int) = 0 := by omega
          clear hk0
          go_wp2
          go_ret
          exact ⟨rfl, HE10.out⟩
        · have hz : ((ks.length : Int) == 0) = false := by rw [beq_eq_false_iff_ne]; omega
          have hz' : ¬ (ks.length : Int) = 0 := by omega
          have HD0 : Hid (sameB (docB l) (.mk DOC ByteArray.empty [] [] ys) = false) := Lib.hid (HDF.out (by intro e; rw [e] at hk0; exact hk0 rfl))
          go_wp2_with fail
          refine (nsame_any _ _ (docB l) (.mk DOC ByteArray.empty [] [] ys) w9 (HNA.out w9 HE9.out).1 ((HC9.out.below HS9.out).more HS9.out.size) (by have := HWT.out; omega) HWY.out).mono ?_
          rintro e w10 ⟨he, hb10⟩
          rw [HD0.out] at he
          subst he
          have HE10 := Lib.hid (belowNext HE5.out (belowNext HE9.out hb10))
          clear hb10 x0 x1 x2 x3 x4 y0 y1 y2 y3 y4
          go_wp2
          go_ret
          exact ⟨rfl, HE10.out⟩
end Go.Proofs.YtogpaamkmifalaaDoor
