/-
  The reader's row: several of what repeated reads.
-/
import Derived.Test.YtldmimekmjmkgaaDoorGb
namespace Go.Proofs.YtldmimekmjmkgaaDoor
open Go.RowKit Go.Sort Go.Maps Go.WideMaps

def PSaid (n : Nat) : Prop := ∀ (R : Nat) (s : RdS) (w : World), RdE w R s.1 s.2 → s.1.length ≤ 50000000 → s.2 ≤ 24 → 0 ≤ s.2 → s.2.toNat ≤ n →
  Calls Tryd.prog 87 #[.pointer (some ⟨R, 0, none⟩)] w (RPost w R (repeatedP (unitP n) s))

set_option maxRecDepth 100000 in
set_option maxHeartbeats 4000000 in
theorem several_r (n : Nat) (HP : Hid (PSaid n)) (R : Nat) (s : RdS) (w : World) (h : RdE w R s.1 s.2) (hl : s.1.length ≤ 50000000) (h24 : s.2 ≤ 24) (hlo : 0 ≤ s.2) (hn : s.2.toNat ≤ n) :
    Calls Tryd.prog 73 #[.pointer (some ⟨R, 0, none⟩), .int .u8 115, .string ⟨#[32]⟩, .func (.func 87) #[.pointer (some ⟨R, 0, none⟩)] #[]] w (RPost w R (severalP 115 [32] (repeatedP (unitP n)) s)) := by
  have HSH := Lib.hid (shr_repeated (shr_unit n))
  have hsh0 := shr_repeated (shr_unit n) s
  have HB : Hid (Below w.heap.size w (w.alloc (.cells #[.int .u8 0, .string ⟨#[]⟩, .slice none 0 0] 24))) := Lib.hid ((Below.refl _ _).alloc (Nat.le_refl _) _)
  have HZB : Hid ((w.alloc (.cells #[.int .u8 0, .string ⟨#[]⟩, .slice none 0 0] 24)).heap[w.heap.size]? = some (.cells #[.int .u8 0, .string ⟨#[]⟩, .slice none 0 0] 24)) := Lib.hid (heap_new _ _)
  have HR := Lib.hid (h.below HB.out)
  have hRl := h.lt
  clear h
  go_enter Tryd.func73, Tryd.ntmps73
  go_wp2_with fail
  generalize w.alloc (.cells #[.int .u8 0, .string ⟨#[]⟩, .slice none 0 0] 24) = W1 at *
  have hz1 : w.heap.size < W1.heap.size := (Array.getElem?_eq_some_iff.1 HZB.out).1
  refine (HP.out R s W1 HR.out hl h24 hlo hn).mono ?_
  rintro x w2 ⟨A, k, c, rfl, hk2, hr2, ho2⟩
  generalize hp0 : repeatedP (unitP n) s = p at *
  obtain ⟨e, t, m⟩ := p
  obtain ⟨part, hpart⟩ : ∃ part, part = repeatedP (unitP n) := ⟨_, rfl⟩
  have HPART := Lib.hid hpart
  rw [← hpart] at HSH
  have HP0 : Hid (part s = (e, t, m)) := Lib.hid (by rw [hpart]; exact hp0)
  clear hp0 hpart
  simp only at hk2 hr2 hsh0
  have hw2 : W1.heap.size ≤ w2.heap.size := ho2.size
  have HO2 := Lib.hid ((OnlyR.of_below R HB.out).trans ho2)
  have HZ2 : Hid (w2.heap[w.heap.size]? = some (.cells #[.int .u8 0, .string ⟨#[]⟩, .slice none 0 0] 24)) := Lib.hid ((ho2.block _ hz1 (Nat.ne_of_gt hRl)).trans HZB.out)
  have HR2 := Lib.hid hr2
  have HK2 : Hid (Exs w2 (From (w.heap.size + 1) w2.heap.size) (.slice A k c) e.kids) := Lib.hid (hk2.keep (fun b hb => ⟨by have := hb.1; omega, hb.2⟩) fun _ _ => rfl)
  have HB3 : Hid (Below w2.heap.size w2 (w2.alloc (.cells #[.int .u8 (e.op : Int), .string e.name, .slice A k c] 24))) := Lib.hid ((Below.refl _ _).alloc (Nat.le_refl _) _)
  have HST : Hid (SevRel w R [32] part n m.toNat e (t, m) m.toNat (.slice (some ⟨w2.heap.size, 0, none⟩) 1 1) (w2.alloc (.cells #[.int .u8 (e.op : Int), .string e.name, .slice A k c] 24))) := Lib.hid
    ⟨[e], t, m, KRow.first (by omega) HK2.out, HR2.out.below HB3.out, HO2.out.trans (OnlyR.of_below R HB3.out), (Below.heap_alloc _ _ _ (by omega)).trans HZ2.out, Nat.le_refl _, by simp only [List.length_cons, List.length_nil]; omega, Nat.le_refl _, by omega, by omega, by omega, by omega, rfl, rfl⟩
  clear hk2 hr2 ho2 HR HZB HB
  go_wp2_with fail
  go_loopg [9] m.toNat (fun g v wx => SevRel w R [32] part n m.toNat e (t, m) g v wx)
  case atStart => exact HST.out
  case round =>
    clear HST HR2 HK2 HB3 HZ2 HO2
    obtain ⟨ks, t3, m3, hK, hR, hO, hZ, h1, hlen, hg, hmn, hm24, hmlo, htl, hA, hB⟩ := hrel
    obtain ⟨g0, cK, rfl, hg1, hg2, hc1, hc2⟩ := hK.slice h1
    obtain ⟨K, hL⟩ : ∃ K, ks.length = K := ⟨_, rfl⟩
    have HKR := Lib.hid hK
    have HRR := Lib.hid hR
    have HOR := Lib.hid hO
    have HZR := Lib.hid hZ
    have HA := Lib.hid hA
    have HBB := Lib.hid hB
    have HL := Lib.hid hL
    rw [hL] at HKR hc1 hlen h1 ⊢
    have c0 := hR.rest
    have c1 := hR.left
    have hRl3 := hR.lt
    clear hK hR hO hZ hA hB hL
    unfold maxLen at hc2
    by_cases hm0 : 0 < m3
    · go_wp2_with fail
      refine (skip_any R t3 m3 ⟨#[32]⟩ wr HRR.out).mono ?_
      rintro x w3 ⟨rfl, hr3, ho3⟩
      have HR3 := Lib.hid hr3
      have HO3 := Lib.hid (HOR.out.trans ho3)
      have hz3 : w.heap.size < wr.heap.size := (Array.getElem?_eq_some_iff.1 HZR.out).1
      have HZ3 := Lib.hid ((ho3.block _ hz3 (Nat.ne_of_gt hRl)).trans HZR.out)
      have HK3 := Lib.hid (HKR.out.keep ho3.size fun b hb1 hb2 => ho3.block b hb2 (by omega))
      have hg3 : g0 < w3.heap.size := Nat.lt_of_lt_of_le hg2 ho3.size
      clear hr3 ho3
      cases hpre : Lib.hasPrefix t3 [32] with
      | true =>
        obtain ⟨g, rfl⟩ : ∃ g, gk = g + 1 := ⟨gk - 1, by omega⟩
        have hpre' : Lib.hasPrefix t3 (⟨#[32]⟩ : ByteArray).data.toList = true := hpre
        have HON := Lib.hid (more_on (part := part) (g := g) (s := (t3, m3)) hm0 hpre)
        have hlt := trim_le t3 [32]
        have hsh := HSH.out (Lib.trimPrefix t3 [32], m3)
        clear hpre
        go_wp2_with fail
        refine (HP.out R (Lib.trimPrefix t3 [32], m3) w3 HR3.out (by dsimp only; omega) (by dsimp only; omega) (by dsimp only; omega) (by dsimp only; omega)).mono ?_
        rintro x w4 ⟨A4, k4, c4, rfl, hk4, hr4, ho4⟩
        generalize hp : repeatedP (unitP n) (Lib.trimPrefix t3 [32], m3) = p at *
        have hp' : part (Lib.trimPrefix t3 [32], m3) = p := by rw [HPART.out]; exact hp
        obtain ⟨x, t4, m4⟩ := p
        simp only [skipL, hp'] at HON hsh
        clear hp hp'
        simp only at hk4 hr4
        have HO4 := Lib.hid (HO3.out.trans ho4)
        have hz4 : w.heap.size < w3.heap.size := (Array.getElem?_eq_some_iff.1 HZ3.out).1
        have HZ4 := Lib.hid ((ho4.block _ hz4 (Nat.ne_of_gt hRl)).trans HZ3.out)
        have HK4 := Lib.hid (HK3.out.keep ho4.size fun b hb1 hb2 => ho4.block b hb2 (by omega))
        have HR4 := Lib.hid hr4
        have hw4 : w3.heap.size ≤ w4.heap.size := ho4.size
        have HX4 := Lib.hid hk4
        have HB5 : Hid (Below w4.heap.size w4 (w4.alloc (.cells #[.int .u8 (x.op : Int), .string x.name, .slice A4 k4 c4] 24))) := Lib.hid ((Below.refl _ _).alloc (Nat.le_refl _) _)
        obtain ⟨xs, hxs, hkc⟩ := HK4.out.keep HB5.out.size fun b _ hb2 => HB5.out.block b hb2
        rw [HL.out] at hxs
        have HXS := Lib.hid hxs
        have HKC := Lib.hid hkc
        clear hk4 hr4 ho4 hxs hkc HK3 HZ3 HR3 HO3 HKR HRR HOR HZR c0 c1
        go_wp2_with (at_builtin; refine wpList_append_ex rfl (.tmp 23) (.tmp 26) rfl (w.heap.size + 1) (.slice (some ⟨g0, 0, none⟩) K cK) K xs w4.heap.size 1 (.int .u8 (x.op : Int)) (.string x.name) (.slice A4 k4 c4) rfl rfl HXS.out (heap_new _ _) (by simp [Value.oneCell']) (by omega) (by simp; omega) ?_; intro v5 w5 ho5 hg5 hb5)
        have HO5 := Lib.hid (HO4.out.trans (OnlyR.of_below R HB5.out))
        have h5z : w4.heap.size + 1 ≤ w5.heap.size := by have := hg5.size; simpa using this
        have hbl : ∀ b, b < w4.heap.size + 1 → b ≠ g0 → w5.heap[b]? = (w4.alloc (.cells #[.int .u8 (x.op : Int), .string x.name, .slice A4 k4 c4] 24)).heap[b]? := fun b hb hne => hg5.block b (by simpa using hb) (by intro e5; exact hne (Option.some.inj e5))
        have hR4l := HR4.out.lt
        go_roundg g
        case measure => omega
        case rel =>
          refine ⟨ks ++ [x], t4, m4, KRow.more HKC.out (by rw [HL.out]; exact ho5) hg5 hb5 ?_, ?_, ?_, ?_, by simp, by rw [List.length_append, HL.out]; simp only [List.length_cons, List.length_nil]; omega, by omega, by omega, by omega, by omega, by omega, ?_, ?_⟩
          · exact HX4.out.keep (fun b hb => ⟨by have := hb.1; omega, by have := hb.2; simp; omega, by intro e5; have h6 : g0 = b := Option.some.inj e5; have := hb.1; omega⟩) fun b hb => HB5.out.block b hb.2
          · exact (hbl R (by omega) (by omega)).trans (HR4.out.below HB5.out)
          · exact ⟨hg5.os.trans HO5.out.os, hg5.tape.trans HO5.out.tape, hg5.output.trans HO5.out.output, Nat.le_trans HO5.out.size hg5.size, fun b hb hne => (hbl b (by omega) (by omega)).trans (HO5.out.block b hb hne)⟩
          · exact (hbl _ (by omega) (by omega)).trans ((HB5.out.block _ (by omega)).trans HZ4.out)
          · rw [HA.out, HON.out, List.append_assoc]; rfl
          · rw [HBB.out, HON.out]
      | false =>
        have hpre' : Lib.hasPrefix t3 (⟨#[32]⟩ : ByteArray).data.toList = false := hpre
        have htr : Lib.trimPrefix t3 (⟨#[32]⟩ : ByteArray).data.toList = t3 := by unfold Lib.trimPrefix; rw [hpre']; rfl
        rw [htr] at HR3
        have HEND := Lib.hid (more_end (sep := [32]) (part := part) (g := gk) (s := (t3, m3)) (fun h => by rw [hpre] at h; exact absurd h.2 (by decide)))
        clear htr hpre HKR HRR HOR HZR
        have HSEV := Lib.hid (And.intro (HA.out.trans (by rw [HEND.out, List.append_nil])) (HBB.out.trans (by rw [HEND.out])))
        obtain ⟨q0, q1, q2⟩ := three_cells HZ3.out
        have t0 := frozen_of_row _ w.heap.size 0 _ _ HZ3.out
        have t1 := frozen_of_row _ w.heap.size 1 _ _ HZ3.out
        have t2 := frozen_of_row _ w.heap.size 2 _ _ HZ3.out
        have hzq := cell_lt q0
        by_cases hK1 : K = 1
        · subst hK1
          obtain ⟨x, rfl⟩ : ∃ x, ks = [x] := List.length_eq_one_iff.1 HL.out
          obtain ⟨A', n', cc, d0, d1, d2, hx⟩ := HK3.out.only
          have HX := Lib.hid hx
          have hgl := cell_lt d0
          clear hx
          go_wp2
          obtain ⟨x0, x1, x2, x3⟩ := read_fin HO3.out HR3.out HZ3.out hRl HX.out (o := (x.op : Int)) (s := x.name)
          obtain ⟨y0, y1, y2⟩ := three_cells x0
          refine bodyPost_ret (v := .agg #[.int .u8 (x.op : Int), .string x.name, .slice A' n' cc]) (by simp [results, Tryd.results73, go_sem, y0, y1, y2]) rfl ?_
          rw [← HPART.out, several_one HP0.out HSEV.out.1 HSEV.out.2]
          exact ⟨A', n', cc, rfl, x1, x2, x3⟩
        · have hK2 : ¬ ((K : Int) = 1) := by omega
          have HX : Hid (Exs w3 (From (w.heap.size + 1) w3.heap.size) (.slice (some ⟨g0, 0, none⟩) K cK) ks) := Lib.hid HK3.out.exs
          have HK3 := Lib.hid hK1
          clear hK1
          go_wp2
          obtain ⟨x0, x1, x2, x3⟩ := read_fin HO3.out HR3.out HZ3.out hRl HX.out (o := 115) (s := ⟨#[]⟩)
          obtain ⟨y0, y1, y2⟩ := three_cells x0
          refine bodyPost_ret (v := .agg #[.int .u8 115, .string ⟨#[]⟩, .slice (some ⟨g0, 0, none⟩) K cK]) (by simp [results, Tryd.results73, go_sem, y0, y1, y2]) rfl ?_
          rw [← HPART.out, several_many HP0.out HSEV.out.1 HSEV.out.2 (by rw [HL.out]; exact HK3.out)]
          exact ⟨some ⟨g0, 0, none⟩, K, cK, rfl, x1, x2, x3⟩
    · have HEND := Lib.hid (more_end (sep := [32]) (part := part) (g := gk) (s := (t3, m3)) (fun h => hm0 h.1))
      have HSEV := Lib.hid (And.intro (HA.out.trans (by rw [HEND.out, List.append_nil])) (HBB.out.trans (by rw [HEND.out])))
      obtain ⟨q0, q1, q2⟩ := three_cells HZR.out
      have t0 := frozen_of_row _ w.heap.size 0 _ _ HZR.out
      have t1 := frozen_of_row _ w.heap.size 1 _ _ HZR.out
      have t2 := frozen_of_row _ w.heap.size 2 _ _ HZR.out
      have hzq := cell_lt q0
      by_cases hK1 : K = 1
      · subst hK1
        obtain ⟨x, rfl⟩ : ∃ x, ks = [x] := List.length_eq_one_iff.1 HL.out
        obtain ⟨A', n', cc, d0, d1, d2, hx⟩ := HKR.out.only
        have HX := Lib.hid hx
        have hgl := cell_lt d0
        clear hx
        go_wp2
        obtain ⟨x0, x1, x2, x3⟩ := read_fin HOR.out HRR.out HZR.out hRl HX.out (o := (x.op : Int)) (s := x.name)
        obtain ⟨y0, y1, y2⟩ := three_cells x0
        refine bodyPost_ret (v := .agg #[.int .u8 (x.op : Int), .string x.name, .slice A' n' cc]) (by simp [results, Tryd.results73, go_sem, y0, y1, y2]) rfl ?_
        rw [← HPART.out, several_one HP0.out HSEV.out.1 HSEV.out.2]
        exact ⟨A', n', cc, rfl, x1, x2, x3⟩
      · have hK2 : ¬ ((K : Int) = 1) := by omega
        have HX : Hid (Exs wr (From (w.heap.size + 1) wr.heap.size) (.slice (some ⟨g0, 0, none⟩) K cK) ks) := Lib.hid HKR.out.exs
        have HK3 := Lib.hid hK1
        clear hK1
        go_wp2
        obtain ⟨x0, x1, x2, x3⟩ := read_fin HOR.out HRR.out HZR.out hRl HX.out (o := 115) (s := ⟨#[]⟩)
        obtain ⟨y0, y1, y2⟩ := three_cells x0
        refine bodyPost_ret (v := .agg #[.int .u8 115, .string ⟨#[]⟩, .slice (some ⟨g0, 0, none⟩) K cK]) (by simp [results, Tryd.results73, go_sem, y0, y1, y2]) rfl ?_
        rw [← HPART.out, several_many HP0.out HSEV.out.1 HSEV.out.2 (by rw [HL.out]; exact HK3.out)]
        exact ⟨some ⟨g0, 0, none⟩, K, cK, rfl, x1, x2, x3⟩
end Go.Proofs.YtldmimekmjmkgaaDoor
