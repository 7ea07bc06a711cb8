/-
  The reader's unit and closed (what choice answers is a premise: the induction on the units left closes it).
-/
import Derived.Test.YtldmimekmjmkgaaDoorFt
namespace Go.Proofs.YtldmimekmjmkgaaDoor
open Go.RowKit Go.Sort Go.Maps Go.WideMaps

/-- An expression read: its kids lie in new blocks; of the old ones the reader's alone has turned. -/
def RPost (w : World) (R : Nat) (p : Ex × RdS) (x : Ending) (w' : World) : Prop :=
  ∃ (A : Option Addr) (n c : Nat), x = .returned (.agg #[.int .u8 (p.1.op : Int), .string p.1.name, .slice A n c]) ∧ Exs w' (From w.heap.size w'.heap.size) (.slice A n c) p.1.kids ∧ RdE w' R p.2.1 p.2.2 ∧ OnlyR R w w'
theorem exs_nil (w : World) (S : Nat → Prop) : Exs w S (.slice none 0 0) [] := ⟨none, 0, rfl, Nat.le_refl _, by unfold maxLen; omega, .inl rfl⟩
/-- What is answered, stored in the call's own box. -/
theorem read_fin {w W : World} {R : Nat} {l : List UInt8} {m : Int} {u0 u1 u2 : Value} {o : Int} {s : ByteArray} {A : Option Addr} {n c : Nat} {ks : List Ex} (hO : OnlyR R w W) (hR : RdE W R l m) (hz : W.heap[w.heap.size]? = some (.cells #[u0, u1, u2] 24)) (hRl : R < w.heap.size) (hk : Exs W (From (w.heap.size + 1) W.heap.size) (.slice A n c) ks) :
    (((W.setCell ⟨w.heap.size, 0, none⟩ (.int .u8 o)).setCell ⟨w.heap.size, 1, none⟩ (.string s)).setCell ⟨w.heap.size, 2, none⟩ (.slice A n c)).heap[w.heap.size]? = some (.cells #[.int .u8 o, .string s, .slice A n c] 24) ∧
    Exs (((W.setCell ⟨w.heap.size, 0, none⟩ (.int .u8 o)).setCell ⟨w.heap.size, 1, none⟩ (.string s)).setCell ⟨w.heap.size, 2, none⟩ (.slice A n c)) (From w.heap.size (((W.setCell ⟨w.heap.size, 0, none⟩ (.int .u8 o)).setCell ⟨w.heap.size, 1, none⟩ (.string s)).setCell ⟨w.heap.size, 2, none⟩ (.slice A n c)).heap.size) (.slice A n c) ks ∧
    RdE (((W.setCell ⟨w.heap.size, 0, none⟩ (.int .u8 o)).setCell ⟨w.heap.size, 1, none⟩ (.string s)).setCell ⟨w.heap.size, 2, none⟩ (.slice A n c)) R l m ∧
    OnlyR R w (((W.setCell ⟨w.heap.size, 0, none⟩ (.int .u8 o)).setCell ⟨w.heap.size, 1, none⟩ (.string s)).setCell ⟨w.heap.size, 2, none⟩ (.slice A n c)) := by
  obtain ⟨x0, hx, hzz⟩ := put3x (v0 := .int .u8 o) (v1 := .string s) (v2 := .slice A n c) hz
  refine ⟨x0, hk.keep (fun b hb => ⟨by have := hb.1; omega, by rw [hzz]; exact hb.2⟩) fun b hb => hx b (by have := hb.1; omega), (hx R (Nat.ne_of_lt hRl)).trans hR, ⟨hO.os, hO.tape, hO.output, by rw [hzz]; exact hO.size, fun k hk hne => (hx k (Nat.ne_of_lt hk)).trans (hO.block k hk hne)⟩⟩

def CSaid (n : Nat) : Prop := ∀ (R : Nat) (s : RdS) (w : World), RdE w R s.1 s.2 → s.1.length ≤ 50000000 → s.2 ≤ 24 → 0 ≤ s.2 → s.2.toNat ≤ n →
  Calls Tryd.prog 55 #[.pointer (some ⟨R, 0, none⟩)] w (RPost w R (choiceP n s))
/-- closed, as a plain function. -/
def closedP (n : Nat) (s : RdS) : Ex × RdS := if Lib.hasPrefix (choiceP n s).2.1 [41] then ((choiceP n s).1, (Lib.trimPrefix (choiceP n s).2.1 [41], (choiceP n s).2.2)) else (nulE, (choiceP n s).2)

set_option maxHeartbeats 2000000 in
theorem closed_of (n : Nat) (HC : Hid (CSaid n)) (R : Nat) (s : RdS) (w : World) (h : RdE w R s.1 s.2) (hl : s.1.length ≤ 50000000) (h24 : s.2 ≤ 24) (hlo : 0 ≤ s.2) (hn : s.2.toNat ≤ n) :
    Calls Tryd.prog 97 #[.pointer (some ⟨R, 0, none⟩)] w (RPost w R (closedP n s)) := by
  have HB : Hid (Below w.heap.size w (w.alloc (.cells #[.int .u8 0, .string ⟨#[]⟩, .slice none 0 0] 24))) := Lib.hid ((Below.refl _ _).alloc (Nat.le_refl _) _)
  have HZB : Hid ((w.alloc (.cells #[.int .u8 0, .string ⟨#[]⟩, .slice none 0 0] 24)).heap[w.heap.size]? = some (.cells #[.int .u8 0, .string ⟨#[]⟩, .slice none 0 0] 24)) := Lib.hid (heap_new _ _)
  have HR := Lib.hid (h.below HB.out)
  have hRl := h.lt
  clear h
  go_enter Tryd.func97, Tryd.ntmps97
  go_wp2_with fail
  generalize w.alloc (.cells #[.int .u8 0, .string ⟨#[]⟩, .slice none 0 0] 24) = W1 at *
  have hz1 : w.heap.size < W1.heap.size := (Array.getElem?_eq_some_iff.1 HZB.out).1
  refine (HC.out R s W1 HR.out hl h24 hlo hn).mono ?_
  rintro x w2 ⟨A, k, c, rfl, hk2, hr2, ho2⟩
  have HP : Hid (closedP n s = if Lib.hasPrefix (choiceP n s).2.1 [41] then ((choiceP n s).1, (Lib.trimPrefix (choiceP n s).2.1 [41], (choiceP n s).2.2)) else (nulE, (choiceP n s).2)) := Lib.hid rfl
  generalize choiceP n s = p at *
  generalize closedP n s = q at *
  obtain ⟨e, t, m⟩ := p
  have HK2 := Lib.hid hk2
  have HR2 := Lib.hid hr2
  have HO2 := Lib.hid ho2
  have HZ2 : Hid (w2.heap[w.heap.size]? = some (.cells #[.int .u8 0, .string ⟨#[]⟩, .slice none 0 0] 24)) := Lib.hid ((ho2.block _ hz1 (Nat.ne_of_gt hRl)).trans HZB.out)
  clear hk2 hr2 ho2
  have HB3 : Hid (Below w2.heap.size w2 (w2.alloc (.cells #[.int .u8 (e.op : Int), .string e.name, .slice A k c] 24))) := Lib.hid ((Below.refl _ _).alloc (Nat.le_refl _) _)
  simp only at HP HR2 HK2
  go_wp2_with fail
  refine (skip_any R t m ⟨#[41]⟩ _ (HR2.out.below HB3.out)).mono ?_
  rintro x w3 ⟨rfl, hr3, ho3⟩
  have hw2 : W1.heap.size ≤ w2.heap.size := HO2.out.size
  have hw3 : w2.heap.size + 1 ≤ w3.heap.size := by have := ho3.size; simpa using this
  have HO3 := Lib.hid ((((OnlyR.of_below R HB.out).trans HO2.out).trans (OnlyR.of_below R HB3.out)).trans ho3)
  have HZ3 : Hid (w3.heap[w.heap.size]? = some (.cells #[.int .u8 0, .string ⟨#[]⟩, .slice none 0 0] 24)) := Lib.hid ((ho3.block _ (by simp; omega) (Nat.ne_of_gt hRl)).trans ((Below.heap_alloc _ _ _ (by omega)).trans HZ2.out))
  have HE3 : Hid (w3.heap[w2.heap.size]? = some (.cells #[.int .u8 (e.op : Int), .string e.name, .slice A k c] 24)) := Lib.hid ((ho3.block _ (by simp) (by omega)).trans (heap_new _ _))
  have HK3 : Hid (Exs w3 (From (w.heap.size + 1) w3.heap.size) (.slice A k c) e.kids) := Lib.hid (HK2.out.keep (fun b hb => ⟨by have := hb.1; omega, by have := hb.2; omega⟩) fun b hb => (ho3.block _ (by have := hb.2; simp; omega) (by have := hb.1; omega)).trans (Below.heap_alloc _ _ _ hb.2))
  have HR3 := Lib.hid hr3
  clear hr3 ho3
  obtain ⟨q0, q1, q2⟩ := three_cells HZ3.out
  have t0 := frozen_of_row _ w.heap.size 0 _ _ HZ3.out
  have t1 := frozen_of_row _ w.heap.size 1 _ _ HZ3.out
  have t2 := frozen_of_row _ w.heap.size 2 _ _ HZ3.out
  obtain ⟨d0, d1, d2⟩ := three_cells HE3.out
  have hzq := cell_lt q0
  have hzd := cell_lt d0
  generalize hpx : Lib.hasPrefix t [41] = b at *
  have hpx' : Lib.hasPrefix t (⟨#[41]⟩ : ByteArray).data.toList = b := hpx
  cases b with
  | true =>
    have HQ : Hid (q = (e, (Lib.trimPrefix t [41], m))) := Lib.hid (by rw [HP.out]; rfl)
    clear HP
    go_wp2
    obtain ⟨x0, x1, x2, x3⟩ := read_fin HO3.out HR3.out HZ3.out hRl HK3.out (o := (e.op : Int)) (s := e.name)
    obtain ⟨y0, y1, y2⟩ := three_cells x0
    refine bodyPost_ret (v := .agg #[.int .u8 (e.op : Int), .string e.name, .slice A k c]) (by simp [results, Tryd.results97, go_sem, y0, y1, y2]) rfl ?_
    rw [HQ.out]
    exact ⟨A, k, c, rfl, x1, x2, x3⟩
  | false =>
    have HQ : Hid (q = (nulE, (t, m))) := Lib.hid (by rw [HP.out]; rfl)
    have htr : Lib.trimPrefix t (⟨#[41]⟩ : ByteArray).data.toList = t := by unfold Lib.trimPrefix; rw [hpx']; rfl
    rw [htr] at HR3
    clear HP
    go_wp2
    obtain ⟨x0, x1, x2, x3⟩ := read_fin HO3.out HR3.out HZ3.out hRl (exs_nil w3 (From (w.heap.size + 1) w3.heap.size)) (o := 0) (s := ⟨#[]⟩)
    obtain ⟨y0, y1, y2⟩ := three_cells x0
    refine bodyPost_ret (v := .agg #[.int .u8 0, .string ⟨#[]⟩, .slice none 0 0]) (by simp [results, Tryd.results97, go_sem, y0, y1, y2]) rfl ?_
    rw [HQ.out]
    exact ⟨none, 0, 0, rfl, x1, x2, x3⟩
end Go.Proofs.YtldmimekmjmkgaaDoor
