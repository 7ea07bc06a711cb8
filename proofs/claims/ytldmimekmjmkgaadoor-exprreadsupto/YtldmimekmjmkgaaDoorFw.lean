/-
  The reader's repeated.
-/
import Derived.Test.YtldmimekmjmkgaaDoorFv
namespace Go.Proofs.YtldmimekmjmkgaaDoor
open Go.RowKit Go.Sort Go.Maps Go.WideMaps

theorem ex_row {w : World} {S : Nat → Prop} {g : Nat} {e : Ex} {A : Option Addr} {n c : Nat} (hg : w.heap[g]? = some (.cells #[.int .u8 (e.op : Int), .string e.name, .slice A n c] 24)) (hS : S g) (hk : Exs w S (.slice A n c) e.kids) : Exs w S (.slice (some ⟨g, 0, none⟩) 1 1) [e] := by
  obtain ⟨y0, y1, y2⟩ := three_cells hg
  exact ⟨_, 1, rfl, Nat.le_refl _, by unfold maxLen; omega, .inr ⟨g, 0, rfl, hS, (exAt_iff e g 0).2 ⟨_, y0, y1, y2, hk⟩, trivial⟩⟩
theorem read_fin0 {w W : World} {R : Nat} {l : List UInt8} {m : Int} {u0 u1 u2 v0 v1 v2 : Value} (hO : OnlyR R w W) (hR : RdE W R l m) (hz : W.heap[w.heap.size]? = some (.cells #[u0, u1, u2] 24)) (hRl : R < w.heap.size) (o1 o2 : Obj) :
    ((((((W.setCell ⟨w.heap.size, 0, none⟩ v0).setCell ⟨w.heap.size, 1, none⟩ v1).setCell ⟨w.heap.size, 2, none⟩ v2).alloc o1).alloc o2)).heap[w.heap.size]? = some (.cells #[v0, v1, v2] 24) ∧
    RdE (((((W.setCell ⟨w.heap.size, 0, none⟩ v0).setCell ⟨w.heap.size, 1, none⟩ v1).setCell ⟨w.heap.size, 2, none⟩ v2).alloc o1).alloc o2) R l m ∧
    OnlyR R w (((((W.setCell ⟨w.heap.size, 0, none⟩ v0).setCell ⟨w.heap.size, 1, none⟩ v1).setCell ⟨w.heap.size, 2, none⟩ v2).alloc o1).alloc o2) ∧
    (((((W.setCell ⟨w.heap.size, 0, none⟩ v0).setCell ⟨w.heap.size, 1, none⟩ v1).setCell ⟨w.heap.size, 2, none⟩ v2).alloc o1).alloc o2).heap[W.heap.size + 1]? = some o2 ∧
    (((((W.setCell ⟨w.heap.size, 0, none⟩ v0).setCell ⟨w.heap.size, 1, none⟩ v1).setCell ⟨w.heap.size, 2, none⟩ v2).alloc o1).alloc o2).heap.size = W.heap.size + 2 ∧
    ∀ b, b < W.heap.size → b ≠ w.heap.size → (((((W.setCell ⟨w.heap.size, 0, none⟩ v0).setCell ⟨w.heap.size, 1, none⟩ v1).setCell ⟨w.heap.size, 2, none⟩ v2).alloc o1).alloc o2).heap[b]? = W.heap[b]? := by
  obtain ⟨x0, hx, hzz⟩ := put3x (v0 := v0) (v1 := v1) (v2 := v2) hz
  have hzl := (Array.getElem?_eq_some_iff.1 hz).1
  have hz1 : (((((W.setCell ⟨w.heap.size, 0, none⟩ v0).setCell ⟨w.heap.size, 1, none⟩ v1).setCell ⟨w.heap.size, 2, none⟩ v2).alloc o1)).heap.size = W.heap.size + 1 := by simp [hzz]
  have hj : ∀ j, j < W.heap.size → (((((W.setCell ⟨w.heap.size, 0, none⟩ v0).setCell ⟨w.heap.size, 1, none⟩ v1).setCell ⟨w.heap.size, 2, none⟩ v2).alloc o1).alloc o2).heap[j]? = (((W.setCell ⟨w.heap.size, 0, none⟩ v0).setCell ⟨w.heap.size, 1, none⟩ v1).setCell ⟨w.heap.size, 2, none⟩ v2).heap[j]? := fun j h => (Below.heap_alloc _ _ _ (by omega)).trans (Below.heap_alloc _ _ _ (by omega))
  have hRW := hR.lt
  refine ⟨(hj _ hzl).trans x0, (hj R hRW).trans ((hx R (Nat.ne_of_lt hRl)).trans hR), ⟨hO.os, hO.tape, hO.output, by have := hO.size; simp [World.setCell]; omega, fun k hk hne => (hj k (by omega)).trans ((hx k (Nat.ne_of_lt hk)).trans (hO.block k hk hne))⟩, heap_new' _ _ hz1, by simp [World.setCell], fun b hb hne => (hj b hb).trans (hx b hne)⟩

/-- One block more. -/
theorem read_more {w W : World} {R : Nat} {l : List UInt8} {m : Int} {v : Obj} {A : Option Addr} {n c : Nat} {ks : List Ex} (h : W.heap[w.heap.size]? = some v ∧ Exs W (From w.heap.size W.heap.size) (.slice A n c) ks ∧ RdE W R l m ∧ OnlyR R w W) (o : Obj) :
    (W.alloc o).heap[w.heap.size]? = some v ∧ Exs (W.alloc o) (From w.heap.size (W.alloc o).heap.size) (.slice A n c) ks ∧ RdE (W.alloc o) R l m ∧ OnlyR R w (W.alloc o) := by
  have hb : Below W.heap.size W (W.alloc o) := (Below.refl _ _).alloc (Nat.le_refl _) _
  exact ⟨(hb.block _ (Array.getElem?_eq_some_iff.1 h.1).1).trans h.1, h.2.1.keep (fun b hb' => ⟨hb'.1, Nat.lt_of_lt_of_le hb'.2 hb.size⟩) fun b hb' => hb.block b hb'.2, h.2.2.1.below hb, h.2.2.2.trans (OnlyR.of_below R hb)⟩

set_option maxHeartbeats 4000000 in
theorem repeated_of (n : Nat) (HU : Hid (USaid n)) (R : Nat) (s : RdS) (w : World) (h : RdE w R s.1 s.2) (hl : s.1.length ≤ 50000000) (h24 : s.2 ≤ 24) (hlo : -1000 ≤ s.2) (hn : s.2.toNat ≤ n) (hlen : (unitP n s).2.1.length ≤ 50000000) :
    Calls Tryd.prog 87 #[.pointer (some ⟨R, 0, none⟩)] w (RPost w R (repeatedP (unitP n) s)) := by
  have HB : Hid (Below w.heap.size w (w.alloc (.cells #[.int .u8 0, .string ⟨#[]⟩, .slice none 0 0] 24))) := Lib.hid ((Below.refl _ _).alloc (Nat.le_refl _) _)
  have HZB : Hid ((w.alloc (.cells #[.int .u8 0, .string ⟨#[]⟩, .slice none 0 0] 24)).heap[w.heap.size]? = some (.cells #[.int .u8 0, .string ⟨#[]⟩, .slice none 0 0] 24)) := Lib.hid (heap_new _ _)
  have HR := Lib.hid (h.below HB.out)
  have hRl := h.lt
  clear h
  go_enter Tryd.func87, Tryd.ntmps87
  go_wp2_with fail
  generalize w.alloc (.cells #[.int .u8 0, .string ⟨#[]⟩, .slice none 0 0] 24) = W1 at *
  have hz1 : w.heap.size < W1.heap.size := (Array.getElem?_eq_some_iff.1 HZB.out).1
  refine (HU.out R s W1 HR.out hl h24 hlo hn).mono ?_
  rintro x w2 ⟨A, k, c, rfl, hk2, hr2, ho2⟩
  have HP : Hid (repeatedP (unitP n) s = match (unitP n s).2.1 with
    | [] => unitP n s
    | c :: r => if repE c.toNat then (.mk c.toNat ByteArray.empty [(unitP n s).1], (r, (unitP n s).2.2)) else unitP n s) := Lib.hid rfl
  generalize repeatedP (unitP n) s = q at *
  generalize unitP n s = p at *
  obtain ⟨e, t, m⟩ := p
  simp only at HP hk2 hr2 hlen
  have HK2 := Lib.hid hk2
  have HR2 := Lib.hid hr2
  have HO2 := Lib.hid (((OnlyR.of_below R HB.out)).trans ho2)
  have HZ2 : Hid (w2.heap[w.heap.size]? = some (.cells #[.int .u8 0, .string ⟨#[]⟩, .slice none 0 0] 24)) := Lib.hid ((ho2.block _ hz1 (Nat.ne_of_gt hRl)).trans HZB.out)
  have hw2 : W1.heap.size ≤ w2.heap.size := ho2.size
  clear hk2 hr2 ho2 HR HZB HB
  have HB3 : Hid (Below w2.heap.size w2 (w2.alloc (.cells #[.int .u8 (e.op : Int), .string e.name, .slice A k c] 24))) := Lib.hid ((Below.refl _ _).alloc (Nat.le_refl _) _)
  have HK2' : Hid (Exs w2 (From (w.heap.size + 1) w2.heap.size) (.slice A k c) e.kids) := Lib.hid (HK2.out.keep (fun b hb => ⟨by have := hb.1; omega, hb.2⟩) fun _ _ => rfl)
  have HFIN := Lib.hid (read_more (read_fin (o := (e.op : Int)) (s := e.name) HO2.out HR2.out HZ2.out hRl HK2'.out) (.cells #[.int .u8 (e.op : Int), .string e.name, .slice A k c] 24))
  have c0 := HR2.out.rest
  have f0 := HR2.out.free 0
  obtain ⟨q0, q1, q2⟩ := three_cells HZ2.out
  have t0 := frozen_of_row _ w.heap.size 0 _ _ HZ2.out
  have t1 := frozen_of_row _ w.heap.size 1 _ _ HZ2.out
  have t2 := frozen_of_row _ w.heap.size 2 _ _ HZ2.out
  have hzq := cell_lt q0
  have hR2 := cell_lt c0
  obtain ⟨S, hS⟩ : ∃ S : ByteArray, S = ⟨t.toArray⟩ := ⟨_, rfl⟩
  have hd : S.data.toList = t := by rw [hS]
  have hsz : S.size = t.length := by rw [Lib.size_eq, hd]
  rw [← hS] at c0
  have HS := Lib.hid hS
  have HD := Lib.hid hd
  clear hS hd
  cases t with
  | nil =>
    have HQ : Hid (q = (e, ([], m))) := Lib.hid HP.out
    have es : (S.toList == []) = true := by rw [Lib.toList_data, HD.out]; rfl
    clear HP hsz
    go_wp2
    obtain ⟨x0, x1, x2, x3⟩ := HFIN.out
    obtain ⟨y0, y1, y2⟩ := three_cells x0
    refine bodyPost_ret (v := .agg #[.int .u8 (e.op : Int), .string e.name, .slice A k c]) (by simp [results, Tryd.results87, go_sem, y0, y1, y2]) rfl ?_
    rw [HQ.out]
    exact ⟨A, k, c, rfl, x1, x2, x3⟩
  | cons ch r =>
    have es : (S.toList == []) = false := by rw [Lib.toList_data, HD.out]; rfl
    have hs0 : 0 < S.size := by rw [hsz]; simp
    have hs0' : S[0] = ch := by
      have h1 := dropB_at S 0 hs0
      rw [HD.out] at h1
      simp only [List.drop_zero, List.cons.injEq] at h1
      exact h1.1.symm
    have hsm : S.size ≤ 50000000 := by rw [hsz]; exact hlen
    have hch : ch.toNat < 256 := ch.toNat_lt
    clear hsz
    cases hr : repE ch.toNat with
    | false =>
      have HQ : Hid (q = (e, (ch :: r, m))) := Lib.hid (by rw [HP.out]; show (if repE ch.toNat = true then _ else _) = _; rw [hr]; rfl)
      have HRP := Lib.hid hr
      clear HP hr
      go_wp2_with fail
      refine (repeats_any ch.toNat _ hch).mono ?_
      rintro x w3 ⟨rfl, rfl⟩
      rw [HRP.out]
      go_wp2
      obtain ⟨x0, x1, x2, x3⟩ := HFIN.out
      obtain ⟨y0, y1, y2⟩ := three_cells x0
      refine bodyPost_ret (v := .agg #[.int .u8 (e.op : Int), .string e.name, .slice A k c]) (by simp [results, Tryd.results87, go_sem, y0, y1, y2]) rfl ?_
      rw [HQ.out]
      exact ⟨A, k, c, rfl, x1, x2, x3⟩
    | true =>
      have HQ : Hid (q = (.mk ch.toNat ByteArray.empty [e], (r, m))) := Lib.hid (by rw [HP.out]; show (if repE ch.toNat = true then _ else _) = _; rw [hr]; rfl)
      have HRP := Lib.hid hr
      clear HP hr HFIN
      have HSX : Hid (S.extract 1 S.size = ⟨r.toArray⟩) := Lib.hid (by rw [ext_drop, HD.out]; rfl)
      go_wp2_with fail
      refine (repeats_any ch.toNat _ hch).mono ?_
      rintro x w3 ⟨rfl, rfl⟩
      rw [HRP.out]
      go_wp2
      rw [HSX.out]
      have hRs := HR2.out.lt
      have hss : (w2.setCell ⟨R, 0, none⟩ (.string ⟨r.toArray⟩)).heap.size = w2.heap.size := by simp [World.setCell]
      obtain ⟨x0, x2, x3, x4, x5, x6⟩ := read_fin0 (v0 := .int .u8 (ch.toNat : Int)) (v1 := .string ⟨#[]⟩) (v2 := .slice (some ⟨w2.heap.size + 1, 0, none⟩) 1 1) (HO2.out.trans (OnlyR.set R 0 w2 (.string ⟨r.toArray⟩))) (HR2.out.set0 r) ((Below.heap_setCell _ _ _ _ (Nat.ne_of_gt hRl)).trans HZ2.out) hRl (.cells #[.int .u8 (e.op : Int), .string e.name, .slice A k c] 24) (.cells #[.int .u8 (e.op : Int), .string e.name, .slice A k c] 24)
      obtain ⟨y0, y1, y2⟩ := three_cells x0
      refine bodyPost_ret (v := .agg #[.int .u8 (ch.toNat : Int), .string ⟨#[]⟩, .slice (some ⟨w2.heap.size + 1, 0, none⟩) 1 1]) (by simp [results, Tryd.results87, go_sem, y0, y1, y2]) rfl ?_
      rw [HQ.out]
      rw [hss] at x4 x5
      refine ⟨_, 1, 1, rfl, ex_row x4 ⟨by omega, by omega⟩ (HK2'.out.keep (fun b hb => ⟨by have := hb.1; omega, by have := hb.2; omega⟩) fun b hb => ?_), x2, x3⟩
      exact (x6 b (by rw [hss]; exact hb.2) (by have := hb.1; omega)).trans (Below.heap_setCell _ _ _ _ (by have := hb.1; dsimp only; omega))
end Go.Proofs.YtldmimekmjmkgaaDoor
