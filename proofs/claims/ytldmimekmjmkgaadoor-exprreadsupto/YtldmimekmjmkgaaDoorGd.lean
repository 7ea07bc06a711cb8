/-
  The reader's row and choice, and the induction: what read answers.
-/
import Derived.Test.YtldmimekmjmkgaaDoorGc
namespace Go.Proofs.YtldmimekmjmkgaaDoor
open Go.RowKit Go.Sort Go.Maps Go.WideMaps

set_option maxHeartbeats 4000000 in
theorem row_of (n : Nat) (HP : Hid (PSaid n)) (R : Nat) (s : RdS) (w : World) (h : RdE w R s.1 s.2) (hl : s.1.length ≤ 50000000) (h24 : s.2 ≤ 24) (hlo : 0 ≤ s.2) (hn : s.2.toNat ≤ n) :
    Calls Tryd.prog 74 #[.pointer (some ⟨R, 0, none⟩)] w (RPost w R (rowP n s)) := by
  have HB : Hid (Below w.heap.size w (w.alloc (.cells #[.int .u8 0, .string ⟨#[]⟩, .slice none 0 0] 24))) := Lib.hid ((Below.refl _ _).alloc (Nat.le_refl _) _)
  have HZB : Hid ((w.alloc (.cells #[.int .u8 0, .string ⟨#[]⟩, .slice none 0 0] 24)).heap[w.heap.size]? = some (.cells #[.int .u8 0, .string ⟨#[]⟩, .slice none 0 0] 24)) := Lib.hid (heap_new _ _)
  have HR := Lib.hid (h.below HB.out)
  have hRl := h.lt
  clear h
  go_enter Tryd.func74, Tryd.ntmps74
  go_wp2_with fail
  generalize w.alloc (.cells #[.int .u8 0, .string ⟨#[]⟩, .slice none 0 0] 24) = W1 at *
  have hz1 : w.heap.size < W1.heap.size := (Array.getElem?_eq_some_iff.1 HZB.out).1
  refine (several_r n HP R s W1 HR.out hl h24 hlo hn).mono ?_
  rintro x w2 ⟨A, k, c, rfl, hk2, hr2, ho2⟩
  have HQ : Hid (rowP n s = rowP n s) := Lib.hid rfl
  generalize hq : rowP n s = q at HQ
  have hq' : severalP 115 [32] (repeatedP (unitP n)) s = q := hq
  rw [hq'] at hk2 hr2 ⊢
  obtain ⟨e, t, m⟩ := q
  simp only at hk2 hr2
  have HO2 := Lib.hid ((OnlyR.of_below R HB.out).trans ho2)
  have HZ2 : Hid (w2.heap[w.heap.size]? = some (.cells #[.int .u8 0, .string ⟨#[]⟩, .slice none 0 0] 24)) := Lib.hid ((ho2.block _ hz1 (Nat.ne_of_gt hRl)).trans HZB.out)
  have HR2 := Lib.hid hr2
  have HK2 : Hid (Exs w2 (From (w.heap.size + 1) w2.heap.size) (.slice A k c) e.kids) := Lib.hid (hk2.keep (fun b hb => ⟨by have := hb.1; omega, hb.2⟩) fun _ _ => rfl)
  have HQ2 := Lib.hid hq
  clear hk2 hr2 ho2 HR HZB HB hq hq' HQ
  obtain ⟨q0, q1, q2⟩ := three_cells HZ2.out
  have t0 := frozen_of_row _ w.heap.size 0 _ _ HZ2.out
  have t1 := frozen_of_row _ w.heap.size 1 _ _ HZ2.out
  have t2 := frozen_of_row _ w.heap.size 2 _ _ HZ2.out
  have hzq := cell_lt q0
  go_wp2
  obtain ⟨x0, x1, x2, x3⟩ := read_fin HO2.out HR2.out HZ2.out hRl HK2.out (o := (e.op : Int)) (s := e.name)
  obtain ⟨y0, y1, y2⟩ := three_cells x0
  refine bodyPost_ret (v := .agg #[.int .u8 (e.op : Int), .string e.name, .slice A k c]) (by simp [results, Tryd.results74, go_sem, y0, y1, y2]) rfl ?_
  rw [HQ2.out]
  exact ⟨A, k, c, rfl, x1, x2, x3⟩

def OSaid (n : Nat) : Prop := ∀ (R : Nat) (s : RdS) (w : World), RdE w R s.1 s.2 → s.1.length ≤ 50000000 → s.2 ≤ 24 → 0 ≤ s.2 → s.2.toNat ≤ n →
  Calls Tryd.prog 74 #[.pointer (some ⟨R, 0, none⟩)] w (RPost w R (rowP n s))

set_option maxRecDepth 100000 in
set_option maxHeartbeats 4000000 in
theorem several_c (n : Nat) (HP : Hid (OSaid n)) (R : Nat) (s : RdS) (w : World) (h : RdE w R s.1 s.2) (hl : s.1.length ≤ 50000000) (h24 : s.2 ≤ 24) (hlo : 0 ≤ s.2) (hn : s.2.toNat ≤ n) :
    Calls Tryd.prog 73 #[.pointer (some ⟨R, 0, none⟩), .int .u8 97, .string ⟨#[124]⟩, .func (.func 74) #[.pointer (some ⟨R, 0, none⟩)] #[]] w (RPost w R (severalP 97 [124] (rowP n) s)) := by
  have HSH := Lib.hid (shr_row n)
  have hsh0 := shr_row n s
  have HB : Hid (Below w.heap.size w (w.alloc (.cells #[.int .u8 0, .string ⟨#[]⟩, .slice none 0 0] 24))) := Lib.hid ((Below.refl _ _).alloc (Nat.le_refl _) _)
  have HZB : Hid ((w.alloc (.cells #[.int .u8 0, .string ⟨#[]⟩, .slice none 0 0] 24)).heap[w.heap.size]? = some (.cells #[.int .u8 0, .string ⟨#[]⟩, .slice none 0 0] 24)) := Lib.hid (heap_new _ _)
  have HR := Lib.hid (h.below HB.out)
  have hRl := h.lt
  clear h
  go_enter Tryd.func73, Tryd.ntmps73
  go_wp2_with fail
  generalize w.alloc (.cells #[.int .u8 0, .string ⟨#[]⟩, .slice none 0 0] 24) = W1 at *
  have hz1 : w.heap.size < W1.heap.size := (Array.getElem?_eq_some_iff.1 HZB.out).1
  refine (HP.out R s W1 HR.out hl h24 hlo hn).mono ?_
  rintro x w2 ⟨A, k, c, rfl, hk2, hr2, ho2⟩
  generalize hp0 : rowP n s = p at *
  obtain ⟨e, t, m⟩ := p
  obtain ⟨part, hpart⟩ : ∃ part, part = rowP n := ⟨_, rfl⟩
  have HPART := Lib.hid hpart
  rw [← hpart] at HSH
  have HP0 : Hid (part s = (e, t, m)) := Lib.hid (by rw [hpart]; exact hp0)
  clear hp0 hpart
  simp only at hk2 hr2 hsh0
  have hw2 : W1.heap.size ≤ w2.heap.size := ho2.size
  have HO2 := Lib.hid ((OnlyR.of_below R HB.out).trans ho2)
  have HZ2 : Hid (w2.heap[w.heap.size]? = some (.cells #[.int .u8 0, .string ⟨#[]⟩, .slice none 0 0] 24)) := Lib.hid ((ho2.block _ hz1 (Nat.ne_of_gt hRl)).trans HZB.out)
  have HR2 := Lib.hid hr2
  have HK2 : Hid (Exs w2 (From (w.heap.size + 1) w2.heap.size) (.slice A k c) e.kids) := Lib.hid (hk2.keep (fun b hb => ⟨by have := hb.1; omega, hb.2⟩) fun _ _ => rfl)
  have HB3 : Hid (Below w2.heap.size w2 (w2.alloc (.cells #[.int .u8 (e.op : Int), .string e.name, .slice A k c] 24))) := Lib.hid ((Below.refl _ _).alloc (Nat.le_refl _) _)
  have HST : Hid (SevRel w R [124] part n m.toNat e (t, m) m.toNat (.slice (some ⟨w2.heap.size, 0, none⟩) 1 1) (w2.alloc (.cells #[.int .u8 (e.op : Int), .string e.name, .slice A k c] 24))) := Lib.hid
    ⟨[e], t, m, KRow.first (by omega) HK2.out, HR2.out.below HB3.out, HO2.out.trans (OnlyR.of_below R HB3.out), (Below.heap_alloc _ _ _ (by omega)).trans HZ2.out, Nat.le_refl _, by simp only [List.length_cons, List.length_nil]; omega, Nat.le_refl _, by omega, by omega, by omega, by omega, rfl, rfl⟩
  clear hk2 hr2 ho2 HR HZB HB
  go_wp2_with fail
  go_loopg [9] m.toNat (fun g v wx => SevRel w R [124] part n m.toNat e (t, m) g v wx)
  case atStart => exact HST.out
  case round =>
    clear HST HR2 HK2 HB3 HZ2 HO2
    obtain ⟨ks, t3, m3, hK, hR, hO, hZ, h1, hlen, hg, hmn, hm24, hmlo, htl, hA, hB⟩ := hrel
    obtain ⟨g0, cK, rfl, hg1, hg2, hc1, hc2⟩ := hK.slice h1
    obtain ⟨K, hL⟩ : ∃ K, ks.length = K := ⟨_, rfl⟩
    have HKR := Lib.hid hK
    have HRR := Lib.hid hR
    have HOR := Lib.hid hO
    have HZR := Lib.hid hZ
    have HA := Lib.hid hA
    have HBB := Lib.hid hB
    have HL := Lib.hid hL
    rw [hL] at HKR hc1 hlen h1 ⊢
    have c0 := hR.rest
    have c1 := hR.left
    have hRl3 := hR.lt
    clear hK hR hO hZ hA hB hL
    unfold maxLen at hc2
    by_cases hm0 : 0 < m3
    · go_wp2_with fail
      refine (skip_any R t3 m3 ⟨#[124]⟩ wr HRR.out).mono ?_
      rintro x w3 ⟨rfl, hr3, ho3⟩
      have HR3 := Lib.hid hr3
      have HO3 := Lib.hid (HOR.out.trans ho3)
      have hz3 : w.heap.size < wr.heap.size := (Array.getElem?_eq_some_iff.1 HZR.out).1
      have HZ3 := Lib.hid ((ho3.block _ hz3 (Nat.ne_of_gt hRl)).trans HZR.out)
      have HK3 := Lib.hid (HKR.out.keep ho3.size fun b hb1 hb2 => ho3.block b hb2 (by omega))
      have hg3 : g0 < w3.heap.size := Nat.lt_of_lt_of_le hg2 ho3.size
      clear hr3 ho3
      cases hpre : Lib.hasPrefix t3 [124] with
      | true =>
        obtain ⟨g, rfl⟩ : ∃ g, gk = g + 1 := ⟨gk - 1, by omega⟩
        have hpre' : Lib.hasPrefix t3 (⟨#[124]⟩ : ByteArray).data.toList = true := hpre
        have HON := Lib.hid (more_on (part := part) (g := g) (s := (t3, m3)) hm0 hpre)
        have hlt := trim_le t3 [124]
        have hsh := HSH.out (Lib.trimPrefix t3 [124], m3)
        clear hpre
        go_wp2_with fail
        refine (HP.out R (Lib.trimPrefix t3 [124], m3) w3 HR3.out (by dsimp only; omega) (by dsimp only; omega) (by dsimp only; omega) (by dsimp only; omega)).mono ?_
        rintro x w4 ⟨A4, k4, c4, rfl, hk4, hr4, ho4⟩
        generalize hp : rowP n (Lib.trimPrefix t3 [124], m3) = p at *
        have hp' : part (Lib.trimPrefix t3 [124], m3) = p := by rw [HPART.out]; exact hp
        obtain ⟨x, t4, m4⟩ := p
        simp only [skipL, hp'] at HON hsh
        clear hp hp'
        simp only at hk4 hr4
        have HO4 := Lib.hid (HO3.out.trans ho4)
        have hz4 : w.heap.size < w3.heap.size := (Array.getElem?_eq_some_iff.1 HZ3.out).1
        have HZ4 := Lib.hid ((ho4.block _ hz4 (Nat.ne_of_gt hRl)).trans HZ3.out)
        have HK4 := Lib.hid (HK3.out.keep ho4.size fun b hb1 hb2 => ho4.block b hb2 (by omega))
        have HR4 := Lib.hid hr4
        have hw4 : w3.heap.size ≤ w4.heap.size := ho4.size
        have HX4 := Lib.hid hk4
        have HB5 : Hid (Below w4.heap.size w4 (w4.alloc (.cells #[.int .u8 (x.op : Int), .string x.name, .slice A4 k4 c4] 24))) := Lib.hid ((Below.refl _ _).alloc (Nat.le_refl _) _)
        obtain ⟨xs, hxs, hkc⟩ := HK4.out.keep HB5.out.size fun b _ hb2 => HB5.out.block b hb2
        rw [HL.out] at hxs
        have HXS := Lib.hid hxs
        have HKC := Lib.hid hkc
        clear hk4 hr4 ho4 hxs hkc HK3 HZ3 HR3 HO3 HKR HRR HOR HZR c0 c1
        go_wp2_with (at_builtin; refine wpList_append_ex rfl (.tmp 23) (.tmp 26) rfl (w.heap.size + 1) (.slice (some ⟨g0, 0, none⟩) K cK) K xs w4.heap.size 1 (.int .u8 (x.op : Int)) (.string x.name) (.slice A4 k4 c4) rfl rfl HXS.out (heap_new _ _) (by simp [Value.oneCell']) (by omega) (by simp; omega) ?_; intro v5 w5 ho5 hg5 hb5)
        have HO5 := Lib.hid (HO4.out.trans (OnlyR.of_below R HB5.out))
        have h5z : w4.heap.size + 1 ≤ w5.heap.size := by have := hg5.size; simpa using this
        have hbl : ∀ b, b < w4.heap.size + 1 → b ≠ g0 → w5.heap[b]? = (w4.alloc (.cells #[.int .u8 (x.op : Int), .string x.name, .slice A4 k4 c4] 24)).heap[b]? := fun b hb hne => hg5.block b (by simpa using hb) (by intro e5; exact hne (Option.some.inj e5))
        have hR4l := HR4.out.lt
        go_roundg g
        case measure => omega
        case rel =>
          refine ⟨ks ++ [x], t4, m4, KRow.more HKC.out (by rw [HL.out]; exact ho5) hg5 hb5 ?_, ?_, ?_, ?_, by simp, by rw [List.length_append, HL.out]; simp only [List.length_cons, List.length_nil]; omega, by omega, by omega, by omega, by omega, by omega, ?_, ?_⟩
          · exact HX4.out.keep (fun b hb => ⟨by have := hb.1; omega, by have := hb.2; simp; omega, by intro e5; have h6 : g0 = b := Option.some.inj e5; have := hb.1; omega⟩) fun b hb => HB5.out.block b hb.2
          · exact (hbl R (by omega) (by omega)).trans (HR4.out.below HB5.out)
          · exact ⟨hg5.os.trans HO5.out.os, hg5.tape.trans HO5.out.tape, hg5.output.trans HO5.out.output, Nat.le_trans HO5.out.size hg5.size, fun b hb hne => (hbl b (by omega) (by omega)).trans (HO5.out.block b hb hne)⟩
          · exact (hbl _ (by omega) (by omega)).trans ((HB5.out.block _ (by omega)).trans HZ4.out)
          · rw [HA.out, HON.out, List.append_assoc]; rfl
          · rw [HBB.out, HON.out]
      | false =>
        have hpre' : Lib.hasPrefix t3 (⟨#[124]⟩ : ByteArray).data.toList = false := hpre
        have htr : Lib.trimPrefix t3 (⟨#[124]⟩ : ByteArray).data.toList = t3 := by unfold Lib.trimPrefix; rw [hpre']; rfl
        rw [htr] at HR3
        have HEND := Lib.hid (more_end (sep := [124]) (part := part) (g := gk) (s := (t3, m3)) (fun h => by rw [hpre] at h; exact absurd h.2 (by decide)))
        clear htr hpre HKR HRR HOR HZR
        have HSEV := Lib.hid (And.intro (HA.out.trans (by rw [HEND.out, List.append_nil])) (HBB.out.trans (by rw [HEND.out])))
        obtain ⟨q0, q1, q2⟩ := three_cells HZ3.out
        have t0 := frozen_of_row _ w.heap.size 0 _ _ HZ3.out
        have t1 := frozen_of_row _ w.heap.size 1 _ _ HZ3.out
        have t2 := frozen_of_row _ w.heap.size 2 _ _ HZ3.out
        have hzq := cell_lt q0
        by_cases hK1 : K = 1
        · subst hK1
          obtain ⟨x, rfl⟩ : ∃ x, ks = [x] := List.length_eq_one_iff.1 HL.out
          obtain ⟨A', n', cc, d0, d1, d2, hx⟩ := HK3.out.only
          have HX := Lib.hid hx
          have hgl := cell_lt d0
          clear hx
          go_wp2
          obtain ⟨x0, x1, x2, x3⟩ := read_fin HO3.out HR3.out HZ3.out hRl HX.out (o := (x.op : Int)) (s := x.name)
          obtain ⟨y0, y1, y2⟩ := three_cells x0
          refine bodyPost_ret (v := .agg #[.int .u8 (x.op : Int), .string x.name, .slice A' n' cc]) (by simp [results, Tryd.results73, go_sem, y0, y1, y2]) rfl ?_
          rw [← HPART.out, several_one HP0.out HSEV.out.1 HSEV.out.2]
          exact ⟨A', n', cc, rfl, x1, x2, x3⟩
        · have hK2 : ¬ ((K : Int) = 1) := by omega
          have HX : Hid (Exs w3 (From (w.heap.size + 1) w3.heap.size) (.slice (some ⟨g0, 0, none⟩) K cK) ks) := Lib.hid HK3.out.exs
          have HK3 := Lib.hid hK1
          clear hK1
          go_wp2
          obtain ⟨x0, x1, x2, x3⟩ := read_fin HO3.out HR3.out HZ3.out hRl HX.out (o := 97) (s := ⟨#[]⟩)
          obtain ⟨y0, y1, y2⟩ := three_cells x0
          refine bodyPost_ret (v := .agg #[.int .u8 97, .string ⟨#[]⟩, .slice (some ⟨g0, 0, none⟩) K cK]) (by simp [results, Tryd.results73, go_sem, y0, y1, y2]) rfl ?_
          rw [← HPART.out, several_many HP0.out HSEV.out.1 HSEV.out.2 (by rw [HL.out]; exact HK3.out)]
          exact ⟨some ⟨g0, 0, none⟩, K, cK, rfl, x1, x2, x3⟩
    · have HEND := Lib.hid (more_end (sep := [124]) (part := part) (g := gk) (s := (t3, m3)) (fun h => hm0 h.1))
      have HSEV := Lib.hid (And.intro (HA.out.trans (by rw [HEND.out, List.append_nil])) (HBB.out.trans (by rw [HEND.out])))
      obtain ⟨q0, q1, q2⟩ := three_cells HZR.out
      have t0 := frozen_of_row _ w.heap.size 0 _ _ HZR.out
      have t1 := frozen_of_row _ w.heap.size 1 _ _ HZR.out
      have t2 := frozen_of_row _ w.heap.size 2 _ _ HZR.out
      have hzq := cell_lt q0
      by_cases hK1 : K = 1
      · subst hK1
        obtain ⟨x, rfl⟩ : ∃ x, ks = [x] := List.length_eq_one_iff.1 HL.out
        obtain ⟨A', n', cc, d0, d1, d2, hx⟩ := HKR.out.only
        have HX := Lib.hid hx
        have hgl := cell_lt d0
        clear hx
        go_wp2
        obtain ⟨x0, x1, x2, x3⟩ := read_fin HOR.out HRR.out HZR.out hRl HX.out (o := (x.op : Int)) (s := x.name)
        obtain ⟨y0, y1, y2⟩ := three_cells x0
        refine bodyPost_ret (v := .agg #[.int .u8 (x.op : Int), .string x.name, .slice A' n' cc]) (by simp [results, Tryd.results73, go_sem, y0, y1, y2]) rfl ?_
        rw [← HPART.out, several_one HP0.out HSEV.out.1 HSEV.out.2]
        exact ⟨A', n', cc, rfl, x1, x2, x3⟩
      · have hK2 : ¬ ((K : Int) = 1) := by omega
        have HX : Hid (Exs wr (From (w.heap.size + 1) wr.heap.size) (.slice (some ⟨g0, 0, none⟩) K cK) ks) := Lib.hid HKR.out.exs
        have HK3 := Lib.hid hK1
        clear hK1
        go_wp2
        obtain ⟨x0, x1, x2, x3⟩ := read_fin HOR.out HRR.out HZR.out hRl HX.out (o := 97) (s := ⟨#[]⟩)
        obtain ⟨y0, y1, y2⟩ := three_cells x0
        refine bodyPost_ret (v := .agg #[.int .u8 97, .string ⟨#[]⟩, .slice (some ⟨g0, 0, none⟩) K cK]) (by simp [results, Tryd.results73, go_sem, y0, y1, y2]) rfl ?_
        rw [← HPART.out, several_many HP0.out HSEV.out.1 HSEV.out.2 (by rw [HL.out]; exact HK3.out)]
        exact ⟨some ⟨g0, 0, none⟩, K, cK, rfl, x1, x2, x3⟩

set_option maxHeartbeats 4000000 in
theorem choice_of (n : Nat) (HP : Hid (OSaid n)) (R : Nat) (s : RdS) (w : World) (h : RdE w R s.1 s.2) (hl : s.1.length ≤ 50000000) (h24 : s.2 ≤ 24) (hlo : 0 ≤ s.2) (hn : s.2.toNat ≤ n) :
    Calls Tryd.prog 55 #[.pointer (some ⟨R, 0, none⟩)] w (RPost w R (choiceP n s)) := by
  have HB : Hid (Below w.heap.size w (w.alloc (.cells #[.int .u8 0, .string ⟨#[]⟩, .slice none 0 0] 24))) := Lib.hid ((Below.refl _ _).alloc (Nat.le_refl _) _)
  have HZB : Hid ((w.alloc (.cells #[.int .u8 0, .string ⟨#[]⟩, .slice none 0 0] 24)).heap[w.heap.size]? = some (.cells #[.int .u8 0, .string ⟨#[]⟩, .slice none 0 0] 24)) := Lib.hid (heap_new _ _)
  have HR := Lib.hid (h.below HB.out)
  have hRl := h.lt
  clear h
  go_enter Tryd.func55, Tryd.ntmps55
  go_wp2_with fail
  generalize w.alloc (.cells #[.int .u8 0, .string ⟨#[]⟩, .slice none 0 0] 24) = W1 at *
  have hz1 : w.heap.size < W1.heap.size := (Array.getElem?_eq_some_iff.1 HZB.out).1
  refine (several_c n HP R s W1 HR.out hl h24 hlo hn).mono ?_
  rintro x w2 ⟨A, k, c, rfl, hk2, hr2, ho2⟩
  have HQ : Hid (choiceP n s = choiceP n s) := Lib.hid rfl
  generalize hq : choiceP n s = q at HQ
  have hq' : severalP 97 [124] (rowP n) s = q := hq
  rw [hq'] at hk2 hr2 ⊢
  obtain ⟨e, t, m⟩ := q
  simp only at hk2 hr2
  have HO2 := Lib.hid ((OnlyR.of_below R HB.out).trans ho2)
  have HZ2 : Hid (w2.heap[w.heap.size]? = some (.cells #[.int .u8 0, .string ⟨#[]⟩, .slice none 0 0] 24)) := Lib.hid ((ho2.block _ hz1 (Nat.ne_of_gt hRl)).trans HZB.out)
  have HR2 := Lib.hid hr2
  have HK2 : Hid (Exs w2 (From (w.heap.size + 1) w2.heap.size) (.slice A k c) e.kids) := Lib.hid (hk2.keep (fun b hb => ⟨by have := hb.1; omega, hb.2⟩) fun _ _ => rfl)
  have HQ2 := Lib.hid hq
  clear hk2 hr2 ho2 HR HZB HB hq hq' HQ
  obtain ⟨q0, q1, q2⟩ := three_cells HZ2.out
  have t0 := frozen_of_row _ w.heap.size 0 _ _ HZ2.out
  have t1 := frozen_of_row _ w.heap.size 1 _ _ HZ2.out
  have t2 := frozen_of_row _ w.heap.size 2 _ _ HZ2.out
  have hzq := cell_lt q0
  go_wp2
  obtain ⟨x0, x1, x2, x3⟩ := read_fin HO2.out HR2.out HZ2.out hRl HK2.out (o := (e.op : Int)) (s := e.name)
  obtain ⟨y0, y1, y2⟩ := three_cells x0
  refine bodyPost_ret (v := .agg #[.int .u8 (e.op : Int), .string e.name, .slice A k c]) (by simp [results, Tryd.results55, go_sem, y0, y1, y2]) rfl ?_
  rw [HQ2.out]
  exact ⟨A, k, c, rfl, x1, x2, x3⟩

theorem csaid : ∀ n, CSaid n := by
  intro n
  induction n with
  | zero =>
    have hU : USaid 0 := unit_of 0 (Lib.hid fun k hk => absurd hk (by omega))
    have hP : PSaid 0 := fun R s w h hl h24 hlo hn => repeated_of 0 (Lib.hid hU) R s w h hl h24 (by omega) hn (Nat.le_trans (shr_unit 0 s).1 hl)
    have hW : OSaid 0 := fun R s w h hl h24 hlo hn => row_of 0 (Lib.hid hP) R s w h hl h24 hlo hn
    exact fun R s w h hl h24 hlo hn => choice_of 0 (Lib.hid hW) R s w h hl h24 hlo hn
  | succ n ih =>
    have hU : USaid (n + 1) := unit_of (n + 1) (Lib.hid fun k hk => by have : n = k := by omega
                                                                       subst this; exact ih)
    have hP : PSaid (n + 1) := fun R s w h hl h24 hlo hn => repeated_of (n + 1) (Lib.hid hU) R s w h hl h24 (by omega) hn (Nat.le_trans (shr_unit (n + 1) s).1 hl)
    have hW : OSaid (n + 1) := fun R s w h hl h24 hlo hn => row_of (n + 1) (Lib.hid hP) R s w h hl h24 hlo hn
    exact fun R s w h hl h24 hlo hn => choice_of (n + 1) (Lib.hid hW) R s w h hl h24 hlo hn

/-- An expression told: its kids lie in new blocks. -/
def EPost (w : World) (e : Ex) (x : Ending) (w' : World) : Prop :=
  ∃ (A : Option Addr) (n c : Nat), x = .returned (.agg #[.int .u8 (e.op : Int), .string e.name, .slice A n c]) ∧ Exs w' (From w.heap.size w'.heap.size) (.slice A n c) e.kids ∧ Below w.heap.size w w'

set_option maxHeartbeats 4000000 in
theorem read_any (s : ByteArray) (w : World) (hs : s.size ≤ 50000000) :
    Calls Tryd.prog 40 #[.string s] w (EPost w (readE s.data.toList)) := by
  obtain ⟨l, hl⟩ : ∃ l, l = s.data.toList := ⟨_, rfl⟩
  have hls : l.length ≤ 50000000 := by rw [hl, list_size]; exact hs
  have hsl : s = ⟨l.toArray⟩ := by rw [hl]
  rw [← hl]
  have HL := Lib.hid hls
  clear hl hls hs
  subst hsl
  have HB : Hid (Below w.heap.size w ((w.alloc (.cells #[.int .u8 0, .string ⟨#[]⟩, .slice none 0 0] 24)).alloc (.cells #[.string ⟨l.toArray⟩, .int .i64 24] 90))) := Lib.hid (((Below.refl _ _).alloc (Nat.le_refl _) _).alloc (by simp) _)
  have hz : (w.alloc (.cells #[.int .u8 0, .string ⟨#[]⟩, .slice none 0 0] 24)).heap.size = w.heap.size + 1 := by simp
  have HZB : Hid (((w.alloc (.cells #[.int .u8 0, .string ⟨#[]⟩, .slice none 0 0] 24)).alloc (.cells #[.string ⟨l.toArray⟩, .int .i64 24] 90)).heap[w.heap.size]? = some (.cells #[.int .u8 0, .string ⟨#[]⟩, .slice none 0 0] 24)) := Lib.hid ((Below.heap_alloc _ _ _ (by omega)).trans (heap_new _ _))
  have HR : Hid (RdE ((w.alloc (.cells #[.int .u8 0, .string ⟨#[]⟩, .slice none 0 0] 24)).alloc (.cells #[.string ⟨l.toArray⟩, .int .i64 24] 90)) (w.heap.size + 1) l 24) := Lib.hid (heap_new' _ _ hz)
  have hz2 : ((w.alloc (.cells #[.int .u8 0, .string ⟨#[]⟩, .slice none 0 0] 24)).alloc (.cells #[.string ⟨l.toArray⟩, .int .i64 24] 90)).heap.size = w.heap.size + 2 := by simp
  have HZS := Lib.hid hz2
  clear hz hz2
  go_enter Tryd.func40, Tryd.ntmps40
  go_wp2_with fail
  generalize (w.alloc (.cells #[.int .u8 0, .string ⟨#[]⟩, .slice none 0 0] 24)).alloc (.cells #[.string ⟨l.toArray⟩, .int .i64 24] 90) = W1 at *
  refine (csaid 24 (w.heap.size + 1) (l, 24) W1 HR.out HL.out (Int.le_refl (24 : Int)) (by simp only; omega) (by simp only; omega)).mono ?_
  rintro x w2 ⟨A, k, c, rfl, hk2, hr2, ho2⟩
  generalize hq : readE l = q
  have hq' : (choiceP 24 (l, 24)).1 = q := hq
  rw [hq'] at hk2 ⊢
  have HO2 := Lib.hid ho2
  have hw2 : W1.heap.size ≤ w2.heap.size := ho2.size
  have HZ2 : Hid (w2.heap[w.heap.size]? = some (.cells #[.int .u8 0, .string ⟨#[]⟩, .slice none 0 0] 24)) := Lib.hid ((ho2.block _ (by rw [HZS.out]; omega) (by omega)).trans HZB.out)
  have HK2 : Hid (Exs w2 (From (w.heap.size + 1) w2.heap.size) (.slice A k c) q.kids) := Lib.hid (hk2.keep (fun b hb => ⟨by have h3 := hb.1; rw [HZS.out] at h3; omega, hb.2⟩) fun _ _ => rfl)
  have HBW : Hid (Below w.heap.size w w2) := Lib.hid ⟨ho2.os.trans HB.out.os, ho2.tape.trans HB.out.tape, ho2.output.trans HB.out.output, Nat.le_trans HB.out.size ho2.size, fun b hb => (ho2.block b (by rw [HZS.out]; omega) (by omega)).trans (HB.out.block b hb)⟩
  have HQ := Lib.hid hq
  clear hk2 hr2 ho2 hq hq' hw2
  obtain ⟨q0, q1, q2⟩ := three_cells HZ2.out
  have t0 := frozen_of_row _ w.heap.size 0 _ _ HZ2.out
  have t1 := frozen_of_row _ w.heap.size 1 _ _ HZ2.out
  have t2 := frozen_of_row _ w.heap.size 2 _ _ HZ2.out
  have hzq := cell_lt q0
  go_wp2
  obtain ⟨x0, hx, hzz⟩ := put3x (v0 := .int .u8 (q.op : Int)) (v1 := .string q.name) (v2 := .slice A k c) HZ2.out
  obtain ⟨y0, y1, y2⟩ := three_cells x0
  refine bodyPost_ret (v := .agg #[.int .u8 (q.op : Int), .string q.name, .slice A k c]) (by simp [results, Tryd.results40, go_sem, y0, y1, y2]) rfl ?_
  rw [HQ.out]
  exact ⟨A, k, c, rfl, HK2.out.keep (fun b hb => ⟨by have := hb.1; omega, by rw [hzz]; exact hb.2⟩) fun b hb => hx b (by have := hb.1; omega), HBW.out.os, HBW.out.tape, HBW.out.output, by rw [hzz]; exact HBW.out.size, fun b hb => (hx b (by omega)).trans (HBW.out.block b hb)⟩
end Go.Proofs.YtldmimekmjmkgaaDoor
