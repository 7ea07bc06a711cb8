/-
  What the document's Spots answers.
-/
import Derived.Test.YtmmifednhleggaaRgB
import Derived.Deep.DrawnRows
namespace Go.Proofs.Ytmmifednhleggaa
open Go.RowKit Go.Sort Go.Maps

set_option maxHeartbeats 20000000 in
set_option maxRecDepth 100000 in
attribute [local go_sem ↓] Go.wp_at_zero Go.wp_at_succ in
theorem rspots_of (t : Tree) (ih : ∀ x, x ∈ t.kids → SpSaid x) : SpSaid t := by
  intro v vp p w h hp hw
  have IH := Lib.hid ih
  clear ih
  have HN := Lib.hid h
  have HP := Lib.hid hp
  obtain ⟨A1, n1, c1, A2, n2, c2, A3, c3, rfl⟩ := h.forms
  obtain ⟨Ap, cp, rfl, hpc⟩ := hp.form
  have hkw := kids_weigh t
  have htl := total_le_weigh t.kids
  have hkl := length_le_weigh t.kids
  clear h hp
  go_enter Try.func23, Try.ntmps23
  go_wp2_with fail
  generalize hob : (Obj.cells #[.string t.kind, .string t.text, .slice A1 n1 c1, .slice A2 n2 c2, .slice A3 t.kids.length c3] 31) = ob
  have HA0 : Hid (SpAt w ob p t.kids 0 (.slice none 0 0) [] (w.alloc ob)) := Lib.hid ⟨SOwn.nil _ _, (Below.refl _ _).alloc (Nat.le_refl _) _, heap_new _ _, by simp⟩
  have HALL : Hid (([] : List Spt) ++ (spotsB 0 (t.kids.drop 0)).map (pre p) = (spotsB 0 t.kids).map (pre p)) := Lib.hid (by simp)
  generalize w.alloc ob = W1 at *
  have HR : Hid ((spotsB 0 t.kids).map (pre p) = (spotsB 0 t.kids).map (pre p)) := Lib.hid rfl
  generalize hRR : (spotsB 0 t.kids).map (pre p) = R at *
  have HRL : Hid (R.length = totalB t.kids + 1) := Lib.hid (by rw [← hRR, List.length_map, spotsB_len])
  clear hRR HR
  go_loopg [5, 6] t.kids.length (fun gh s5 s6 wx => ∃ (v5 : Value) (k : Nat) (lo : List Spt), v5 = s5 ∧ k + gh = t.kids.length ∧ s6 = .int .i64 (k : Int) ∧ Hid (SpAt w ob p t.kids k v5 lo wx) ∧ Hid (lo ++ (spotsB k (t.kids.drop k)).map (pre p) = R))
  case atStart => exact ⟨_, 0, [], rfl, by omega, rfl, HA0, HALL⟩
  case round =>
    clear HA0 HALL
    obtain ⟨v5, k, lo, rfl, hkg, rfl, hat, hall⟩ := hrel
    generalize hG : gk = G at *
    obtain ⟨wo, rfl⟩ : ∃ wo : World, wo = wr := ⟨_, rfl⟩
    have hbox := hat.out.box
    have hfew := hat.out.few
    have hrl := HRL.out
    have HPW : Hid (∀ W, Below w.heap.size w W → Ints W (IB W) (.slice Ap p.length cp) p) := Lib.hid fun W hW => ints_ib HP.out (ib_below (Nat.le_refl _) hW)
    rw [← hob] at hbox
    obtain ⟨_, _, _, _, x4⟩ := cells5 hbox
    have HOB : Hid (∃ cs, ob = .cells cs 31) := Lib.hid ⟨_, hob.symm⟩
    clear hbox
    have HO := Lib.hid hob
    clear hob
    by_cases hlt : k < t.kids.length
    · have hx : t.kids[k]? = some t.kids[k] := List.getElem?_eq_getElem hlt
      have HIX := Lib.hid (IH.out t.kids[k] (List.getElem_mem hlt))
      have hwx := weigh_kidAt hx
      have hti := total_take_le t.kids (k + 1)
      generalize t.kids[k] = x at *
      obtain ⟨b, o, E1, l1, e1, E2, l2, e2, E3, e3, rfl, hbo, r0, r1, r2, r3, r4, hnx⟩ := HN.out.kidsOf.old hat.out.below hx
      have HX := Lib.hid hx
      have HNX := Lib.hid hnx
      have hsx := size_le_weigh x
      clear hnx
      cases hT : isTxt x.kind with
      | true =>
        have HT := Lib.hid hT
        have hkk : (x.kind.toList == [116, 101, 120, 116]) = true := hT
        have HFI := Lib.hid (sp_text HX.out HT.out hall.out)
        clear hT hx
        go_wp2_with fail
        generalize hkob : (Obj.cells #[.string x.kind, .string x.text, .slice E1 l1 e1, .slice E2 l2 e2, .slice E3 x.kids.length e3] 31) = kob
        have HA3 : Hid (SpAt w ob p t.kids k v5 lo (wo.alloc kob)) := Lib.hid (hat.out.later ((Below.refl _ _).alloc (Nat.le_refl _) _))
        have HK3 : Hid ((wo.alloc kob).heap[wo.heap.size]? = some kob) := Lib.hid (heap_new _ _)
        have HKO := Lib.hid hkob
        generalize wo.alloc kob = W3 at *
        generalize wo.heap.size = g at *
        clear x4 r0 r1 r2 r3 r4 hkob hat
        go_loopg [5, 8] (sizeB x) (fun gh s5 s8 wx => ∃ (u5 : Value) (j : Nat), u5 = s5 ∧ j + gh = sizeB x ∧ s8 = .int .i64 (j : Int) ∧ Hid (SpAt w ob p t.kids k u5 (lo ++ (List.range j).map (fun j => (p, k, j))) wx) ∧ Hid (wx.heap[g]? = some kob))
        case atStart => exact ⟨_, 0, rfl, by omega, rfl, Lib.hid (by simpa using HA3.out), HK3⟩
        case round =>
          clear HA3 HK3
          obtain ⟨u5, j, rfl, hjg, rfl, hin, hkb⟩ := hrel
          have hk5 := hkb.out
          rw [← HKO.out] at hk5
          obtain ⟨k0, k1, k2, k3, k4⟩ := cells5 hk5
          clear hk5
          go_wp2_with fail
          refine (rsize_any _ x wr (HNX.out.keep (fun b hb => Nat.lt_of_lt_of_le hb hin.out.below.size) (fun b hb => hin.out.below.block b hb)) (by omega)).mono ?_
          rintro e w4 ⟨rfl, hb4⟩
          have HI4 := Lib.hid (hin.out.later hb4)
          have HK4 := Lib.hid ((hb4.block g (heap_lt' hkb.out)).trans hkb.out)
          clear hb4 k0 k1 k2 k3 k4
          by_cases hj : j < sizeB x
          · have HRG : Hid (lo ++ (List.range (j + 1)).map (fun j => (p, k, j)) = (lo ++ (List.range j).map (fun j => (p, k, j))) ++ [(p, k, j)]) := Lib.hid (by rw [List.range_succ]; simp)
            have HLL : Hid ((lo ++ (List.range j).map (fun j => (p, k, j))).length + [(p, k, j)].length ≤ 10000000) := Lib.hid (by have h1 := HI4.out.few; simp only [List.length_cons, List.length_nil]; omega)
            have HFW : Hid ((lo ++ (List.range (j + 1)).map (fun j => (p, k, j))).length ≤ 1000001) := Lib.hid (by have h1 := hrl; have h2 := congrArg List.length HFI.out; have h3 := congrArg List.length hall.out; simp only [List.length_append, List.length_map, List.length_range] at h1 h2 h3 ⊢; omega)
            have hj' : (j : Int) < (sizeB x : Int) := by omega
            generalize sizeB x = sz at *
            generalize hlj : lo ++ (List.range j).map (fun j => (p, k, j)) = lj at *
            have RW : Hid (SOwn (w4.alloc (.cells #[.slice Ap p.length cp, .int .i64 (k : Int), .int .i64 (j : Int)] 36)) w.heap.size u5 lj) := Lib.hid (HI4.out.row.below ((Below.refl _ _).alloc (Nat.le_refl _) _))
            have SR : Hid (SSrc (w4.alloc (.cells #[.slice Ap p.length cp, .int .i64 (k : Int), .int .i64 (j : Int)] 36)) (.slice (some ⟨w4.heap.size, 0, none⟩) 1 1) [(p, k, j)]) := Lib.hid (spot_lit (HPW.out w4 HI4.out.below))
            have BZ : Hid (w.heap.size ≤ (w4.alloc (.cells #[.slice Ap p.length cp, .int .i64 (k : Int), .int .i64 (j : Int)] 36)).heap.size) := Lib.hid (by have := HI4.out.below.size; simp; omega)
            go_wp2_with (first
              | (at_builtin; (refine wpList_append_spots rfl (.tmp 30) (.tmp 35) rfl w.heap.size u5 _ lj [(p, k, j)] rfl rfl RW.out SR.out HLL.out BZ.out ?_; intro v' w5 ho5 hg5; have HA5 := Lib.hid (HI4.out.push HOB.out hg5 ho5 (by have := HFW.out; rw [HRG.out] at this; exact this)); have HK5 := Lib.hid (HI4.out.row.keepN ⟨_, HKO.out.symm⟩ hg5 HK4.out); clear ho5 hg5)))
            go_roundg (sz - (j + 1))
            case measure => omega
            case rel => exact ⟨_, j + 1, rfl, by omega, by go_num, Lib.hid (by rw [HRG.out]; exact HA5.out), HK5⟩
          · have hj' : ¬ (j : Int) < (sizeB x : Int) := by omega
            have hje : j = sizeB x := by omega
            have HFI' := HFI.out
            rw [← hje] at HFI'
            have HFF := Lib.hid HFI'
            clear HFI' hje
            generalize sizeB x = sz at *
            go_wp2
            go_roundg (t.kids.length - (k + 1))
            case measure => omega
            case rel => exact ⟨_, k + 1, _, rfl, by omega, by go_num, Lib.hid HI4.out.up, HFF⟩
      | false =>
        have HT := Lib.hid hT
        have hkk : (x.kind.toList == [116, 101, 120, 116]) = false := hT
        have HFI := Lib.hid (sp_node HX.out HT.out hall.out)
        have HLL : Hid (lo.length + [(p, k, 0)].length ≤ 10000000) := Lib.hid (by simp only [List.length_cons, List.length_nil]; omega)
        have HFW : Hid ((lo ++ [(p, k, 0)]).length ≤ 1000001) := Lib.hid (by have h2 := congrArg List.length HFI.out; simp only [List.length_append, List.length_map, List.length_cons, List.length_nil] at h2 ⊢; omega)
        have HFX : Hid (((lo ++ [(p, k, 0)]) ++ (spotsB 0 x.kids).map (pre (p ++ [(k : Int)]))).length ≤ 1000001) := Lib.hid (by have h2 := congrArg List.length HFI.out; simp only [List.length_append, List.length_map, List.length_cons, List.length_nil] at h2 ⊢; omega)
        clear hT hx
        generalize hkob : (Obj.cells #[.string x.kind, .string x.text, .slice E1 l1 e1, .slice E2 l2 e2, .slice E3 x.kids.length e3] 31) = kob
        have HA3 : Hid (SpAt w ob p t.kids k v5 lo (wo.alloc kob)) := Lib.hid (hat.out.later ((Below.refl _ _).alloc (Nat.le_refl _) _))
        have HK3 : Hid ((wo.alloc kob).heap[wo.heap.size]? = some kob) := Lib.hid (heap_new _ _)
        have HKO := Lib.hid hkob
        have RW : Hid (SOwn ((wo.alloc kob).alloc (.cells #[.slice Ap p.length cp, .int .i64 (k : Int), .int .i64 0] 36)) w.heap.size v5 lo) := Lib.hid (HA3.out.row.below ((Below.refl _ _).alloc (Nat.le_refl _) _))
        have SR : Hid (SSrc ((wo.alloc kob).alloc (.cells #[.slice Ap p.length cp, .int .i64 (k : Int), .int .i64 0] 36)) (.slice (some ⟨wo.heap.size + 1, 0, none⟩) 1 1) [(p, k, 0)]) := Lib.hid (by have := spot_lit (i := k) (j := 0) (HPW.out _ HA3.out.below); simpa using this)
        have BZ : Hid (w.heap.size ≤ ((wo.alloc kob).alloc (.cells #[.slice Ap p.length cp, .int .i64 (k : Int), .int .i64 0] 36)).heap.size) := Lib.hid (by have := hat.out.below.size; simp; omega)
        subst hkob
        go_upto_region 12 with (first
          | (at_builtin; (refine wpList_append_spots rfl (.tmp 37) (.tmp 41) rfl w.heap.size v5 _ lo [(p, k, 0)] rfl rfl RW.out SR.out HLL.out BZ.out ?_; intro v6 w5 ho5 hg5; have HA5 := Lib.hid (HA3.out.push HOB.out hg5 ho5 HFW.out); have HK5 := Lib.hid (HA3.out.row.keepN ⟨_, rfl⟩ hg5 HK3.out); clear ho5 hg5)))
        generalize wo.heap.size = g at *
        have HNX5 : Hid (∀ W, Below w.heap.size w W → Node W (Under W.heap.size) (.agg #[.string x.kind, .string x.text, .slice E1 l1 e1, .slice E2 l2 e2, .slice E3 x.kids.length e3]) x) := Lib.hid fun W hW => HNX.out.keep (fun b hb => Nat.lt_of_lt_of_le hb hW.size) (fun b hb => hW.block b hb)
        obtain ⟨W5, rfl⟩ : ∃ W : World, W = w5 := ⟨_, rfl⟩
        clear HA3 HK3 RW SR BZ x4 r0 r1 r2 r3 r4 hat HKO HLL HFW hall
        have hgl := heap_lt' HK5.out
        have HP5 : Hid (∀ W', Below W5.heap.size W5 W' → Ints W' (IB W5) (.slice Ap p.length cp) p) := Lib.hid fun W' hW => (HPW.out W5 HA5.out.below).keep (fun _ h => h) fun b ⟨cs, hc⟩ => hW.block b (heap_lt' hc)
        have B0 : Hid (Below W5.heap.size W5 ((W5.alloc (.cells #[] 3)).drew)) := Lib.hid (((Below.refl _ _).alloc (Nat.le_refl _) _).drew)
        have B1 : Hid (Below W5.heap.size W5 ((W5.alloc (.cells #[.int .i64 (k : Int)] 3)).drew)) := Lib.hid (((Below.refl _ _).alloc (Nat.le_refl _) _).drew)
        have B01 : Hid (Below W5.heap.size W5 (((W5.alloc (.cells #[] 3)).alloc (.cells #[.int .i64 (k : Int)] 3)).drew)) := Lib.hid ((((Below.refl _ _).alloc (Nat.le_refl _) _).alloc (by simp) _).drew)
        have B10 : Hid (Below W5.heap.size W5 (((W5.alloc (.cells #[.int .i64 (k : Int)] 3)).alloc (.cells #[] 3)).drew)) := Lib.hid ((((Below.refl _ _).alloc (Nat.le_refl _) _).alloc (by simp) _).drew)
        obtain ⟨k0, k1, k2, k3, k4⟩ := cells5 (HK5.out)
        obtain ⟨ka0, ka1, ka2, ka3, ka4⟩ := cells5 ((B0.out.block g hgl).trans HK5.out)
        obtain ⟨kb0, kb1, kb2, kb3, kb4⟩ := cells5 ((B1.out.block g hgl).trans HK5.out)
        obtain ⟨kc0, kc1, kc2, kc3, kc4⟩ := cells5 ((B01.out.block g hgl).trans HK5.out)
        obtain ⟨kd0, kd1, kd2, kd3, kd4⟩ := cells5 ((B10.out.block g hgl).trans HK5.out)
        have F0 : Hid (((W5.alloc (.cells #[] 3)).drew).ownsRow W5.heap.size 3 1 (.slice (some ⟨W5.heap.size, 0, none⟩) 0 0) ([] : List Int).length (([] : List Int).map (Value.int .i64))) := Lib.hid (own_int0 (heap_new W5 _) (Nat.le_refl _))
        have F01 : Hid ((((W5.alloc (.cells #[] 3)).alloc (.cells #[.int .i64 (k : Int)] 3)).drew).ownsRow W5.heap.size 3 1 (.slice (some ⟨W5.heap.size, 0, none⟩) 0 0) ([] : List Int).length (([] : List Int).map (Value.int .i64))) := Lib.hid (own_int0 (heap_old _ _ _ (heap_new W5 _)) (Nat.le_refl _))
        have F10 : Hid ((((W5.alloc (.cells #[.int .i64 (k : Int)] 3)).alloc (.cells #[] 3)).drew).ownsRow W5.heap.size 3 1 (.slice (some ⟨W5.heap.size + 1, 0, none⟩) 0 0) ([] : List Int).length (([] : List Int).map (Value.int .i64))) := Lib.hid (own_int0 (heap_new' (W5.alloc (.cells #[.int .i64 (k : Int)] 3)) _ (by simp)) (Nat.le_succ _))
        have G01 : Hid ((((W5.alloc (.cells #[] 3)).alloc (.cells #[.int .i64 (k : Int)] 3)).drew).heap[W5.heap.size + 1]? = some (.cells #[.int .i64 (k : Int)] 3)) := Lib.hid (heap_new' (W5.alloc (.cells #[] 3)) _ (by simp))
        have G10 : Hid ((((W5.alloc (.cells #[.int .i64 (k : Int)] 3)).alloc (.cells #[] 3)).drew).heap[W5.heap.size]? = some (.cells #[.int .i64 (k : Int)] 3)) := Lib.hid (heap_old _ _ _ (heap_new W5 _))
        have NP : Hid (([] : List Int).length + p.length ≤ 10000000) := Lib.hid (by simp; omega)
        have NK : Hid (p.length + [(k : Int)].length ≤ 10000000) := Lib.hid (by simp; omega)
        have HWL : Hid (weigh x + (p ++ [(k : Int)]).length ≤ 1000000) := Lib.hid (by simp only [List.length_append, List.length_cons, List.length_nil]; omega)
        generalize hlo1 : lo ++ [(p, k, 0)] = lo1 at *
        have NS : Hid (lo1.length + ((spotsB 0 x.kids).map (pre (p ++ [(k : Int)]))).length ≤ 10000000) := Lib.hid (by have h2 := HFX.out; rw [List.length_append] at h2; omega)
        generalize hl4 : (spotsB 0 x.kids).map (pre (p ++ [(k : Int)])) = l4 at *
        have HIC : Hid (∀ W' v', Below W5.heap.size W5 W' → Ints W' (IB W') v' (p ++ [(k : Int)]) → Calls Try.prog 23 #[(.agg #[.string x.kind, .string x.text, .slice E1 l1 e1, .slice E2 l2 e2, .slice E3 x.kids.length e3]), v'] W' (SpPost W' l4)) := Lib.hid fun W' v' hW hv => by rw [← hl4]; exact HIX.out _ v' _ W' (HNX5.out W' (belowNext HA5.out.below hW)) hv HWL.out
        clear hl4 hlo1 HNX HNX5 HIX HPW hsx hwx hti hfew hrl hpc HX HT hkk HP HN
        go_region_law (first
          | (refine step_append_ints (w := (W5.alloc (.cells #[] 3)).drew) rfl (.tmp 45) (.tmp 46) rfl W5.heap.size (IB W5) (.slice (some ⟨W5.heap.size, 0, none⟩) 0 0) (.slice Ap p.length cp) [] p rfl rfl F0.out (HP5.out _ B0.out) NP.out B0.out.size ?_; intro v2 w2 ho2 hg2; have HO2 : Hid (w2.ownsRow W5.heap.size 3 1 v2 p.length (p.map (Value.int .i64))) := Lib.hid (by simpa using ho2); have HB2 := Lib.hid (B0.out.trans ((Below.refl _ _).grown hg2 B0.out.size fun q hq => (row_ty F0.out hq).1)); obtain ⟨m0, m1, m2, m3, m4⟩ := cells5 ((HB2.out.block g hgl).trans HK5.out); have HB50 := Lib.hid (HB2.out.alloc HB2.out.size (.cells #[.int .i64 (k : Int)] 3)); have HO50 := Lib.hid (row_below HO2.out ((Below.refl _ _).alloc (Nat.le_refl _) (.cells #[.int .i64 (k : Int)] 3))); have HS50 : Hid (Ints (w2.alloc (.cells #[.int .i64 (k : Int)] 3)) (fun _ => True) (.slice (some ⟨w2.heap.size, 0, none⟩) 1 1) [(k : Int)]) := Lib.hid (ints_lit (heap_new w2 _)); obtain ⟨n0, n1, n2, n3, n4⟩ := cells5 ((HB50.out.block g hgl).trans HK5.out); clear ho2 hg2)
          | (refine step_append_ints (w := ((W5.alloc (.cells #[] 3)).alloc (.cells #[.int .i64 (k : Int)] 3)).drew) rfl (.tmp 45) (.tmp 46) rfl W5.heap.size (IB W5) (.slice (some ⟨W5.heap.size, 0, none⟩) 0 0) (.slice Ap p.length cp) [] p rfl rfl F01.out (HP5.out _ B01.out) NP.out B01.out.size ?_; intro v2 w2 ho2 hg2; have HO2 : Hid (w2.ownsRow W5.heap.size 3 1 v2 p.length (p.map (Value.int .i64))) := Lib.hid (by simpa using ho2); have HB2 := Lib.hid (B01.out.trans ((Below.refl _ _).grown hg2 B01.out.size fun q hq => (row_ty F01.out hq).1)); obtain ⟨m0, m1, m2, m3, m4⟩ := cells5 ((HB2.out.block g hgl).trans HK5.out); have HB50 := HB2; have HO50 := HO2; have HS50 : Hid (Ints w2 (fun _ => True) (.slice (some ⟨W5.heap.size + 1, 0, none⟩) 1 1) [(k : Int)]) := Lib.hid (ints_lit ((hg2.block _ (heap_lt' G01.out) (by simp [Value.ownBlock])).trans G01.out)); clear ho2 hg2)
          | (refine step_append_ints (w := ((W5.alloc (.cells #[.int .i64 (k : Int)] 3)).alloc (.cells #[] 3)).drew) rfl (.tmp 45) (.tmp 46) rfl W5.heap.size (IB W5) (.slice (some ⟨W5.heap.size + 1, 0, none⟩) 0 0) (.slice Ap p.length cp) [] p rfl rfl F10.out (HP5.out _ B10.out) NP.out B10.out.size ?_; intro v2 w2 ho2 hg2; have HO2 : Hid (w2.ownsRow W5.heap.size 3 1 v2 p.length (p.map (Value.int .i64))) := Lib.hid (by simpa using ho2); have HB2 := Lib.hid (B10.out.trans ((Below.refl _ _).grown hg2 B10.out.size fun q hq => (row_ty F10.out hq).1)); obtain ⟨m0, m1, m2, m3, m4⟩ := cells5 ((HB2.out.block g hgl).trans HK5.out); have HB50 := HB2; have HO50 := HO2; have HS50 : Hid (Ints w2 (fun _ => True) (.slice (some ⟨W5.heap.size, 0, none⟩) 1 1) [(k : Int)]) := Lib.hid (ints_lit ((hg2.block _ (heap_lt' G10.out) (by simp [Value.ownBlock])).trans G10.out)); clear ho2 hg2)
          | (refine step_append_ints rfl (.tmp 47) (.tmp 49) rfl W5.heap.size (fun _ => True) v2 _ p [(k : Int)] rfl rfl HO50.out HS50.out NK.out HB50.out.size ?_; intro v3 w3 ho3 hg3; obtain ⟨A9, c9, rfl, _⟩ := row_form ho3; have HI3 : Hid (Ints w3 (IB w3) (.slice A9 (p.length + 1) c9) (p ++ [(k : Int)])) := Lib.hid (by have h := row_ib ho3; rw [List.length_append] at h; exact h); have HB3 := Lib.hid (HB50.out.trans ((Below.refl _ _).grown hg3 HB50.out.size fun q hq => (row_ty HO50.out hq).1)); obtain ⟨o0, o1, o2, o3, o4⟩ := cells5 ((HB3.out.block g hgl).trans HK5.out); clear ho3 hg3)
          | (refine step_spots (v := (.agg #[.string x.kind, .string x.text, .slice E1 l1 e1, .slice E2 l2 e2, .slice E3 x.kids.length e3])) rfl (.tmp 44) (.tmp 50) rfl rfl rfl (HIC.out _ _ HB3.out HI3.out) ?_; intro A4 c4 w4 hs4 hb4; have HS4 := Lib.hid hs4.src; have HA4 := Lib.hid (HA5.out.later (HB3.out.trans (hb4.mono HB3.out.size))); clear hs4 hb4)
          | (refine step_append_spots rfl (.tmp 43) (.tmp 51) rfl w.heap.size v6 _ lo1 l4 rfl rfl HA4.out.row HS4.out NS.out HA4.out.below.size ?_; intro v7 w7 ho7 hg7; have HA7 := Lib.hid (HA4.out.push0 HOB.out hg7 ho7 HFX.out); clear ho7 hg7))
        all_goals
          go_wp2
          go_roundg (t.kids.length - (k + 1))
          case measure => omega
          case rel => exact ⟨_, k + 1, _, rfl, by omega, by go_num, Lib.hid HA7.out.up, HFI⟩
    · have hke : k = t.kids.length := by omega
      subst hke
      have HEN := Lib.hid (sp_end hall.out)
      have HLL : Hid (lo.length + [(p, t.kids.length, 0)].length ≤ 10000000) := Lib.hid (by simp only [List.length_cons, List.length_nil]; omega)
      have RW : Hid (SOwn (wo.alloc (.cells #[.slice Ap p.length cp, .int .i64 (t.kids.length : Int), .int .i64 0] 36)) w.heap.size v5 lo) := Lib.hid (hat.out.row.below ((Below.refl _ _).alloc (Nat.le_refl _) _))
      have SR : Hid (SSrc (wo.alloc (.cells #[.slice Ap p.length cp, .int .i64 (t.kids.length : Int), .int .i64 0] 36)) (.slice (some ⟨wo.heap.size, 0, none⟩) 1 1) [(p, t.kids.length, 0)]) := Lib.hid (spot_lit (j := 0) (HPW.out _ hat.out.below))
      have BZ : Hid (w.heap.size ≤ (wo.alloc (.cells #[.slice Ap p.length cp, .int .i64 (t.kids.length : Int), .int .i64 0] 36)).heap.size) := Lib.hid (by have := hat.out.below.size; simp; omega)
      go_wp2_with (first
        | (at_builtin; (refine wpList_append_spots rfl (.tmp 53) (.tmp 59) rfl w.heap.size v5 _ lo [(p, t.kids.length, 0)] rfl rfl RW.out SR.out HLL.out BZ.out ?_; intro v6 w5 ho5 hg5; have HO5 := Lib.hid ho5; have HB5 := Lib.hid (hat.out.below.trans (SOwn.grown hat.out.row hat.out.below.size hg5)); clear ho5 hg5)))
      go_ret
      exact ⟨_, rfl, by rw [← HEN.out]; exact HO5.out, HB5.out⟩
end Go.Proofs.Ytmmifednhleggaa
