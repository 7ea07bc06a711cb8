/-
  What link does: each place of first may come right behind each of last.
-/
import Derived.Test.YtldmimekmjmkgaaDoorFg
import Derived.Deep.RegionLaw
namespace Go.Proofs.YtldmimekmjmkgaaDoor
open Go.RowKit Go.Sort Go.Maps

theorem ownsRow_set {w : World} {B : Nat} {v : Value} {nx : List Nat} {k z g c : Nat} {T : TypeId} (h : w.ownsRow B T 1 v nx.length (nx.map fun x : Nat => .int .u32 (x : Int))) (hv : v = .slice (some ⟨g, 0, none⟩) nx.length c) (hk : k < nx.length) :
    (w.setCell ⟨g, k, none⟩ (.int .u32 (z : Int))).ownsRow B T 1 v (nx.set k z).length ((nx.set k z).map fun x : Nat => .int .u32 (x : Int)) := by
  obtain ⟨h1, ⟨_, h0⟩ | ⟨g', c', cur, hv', hb, hg, hc, hm, hs, ht⟩⟩ := h
  · omega
  · rw [hv] at hv'
    injection hv' with e1 _ e3
    injection e1 with e1
    injection e1 with e1 _ _
    subst e1 e3
    refine ⟨by simp, .inr ⟨g, c, _, by rw [List.length_set]; exact hv, hb, heap_setCell_same w g k _ _ _ hg, by rw [List.length_set]; exact hc, hm, by simpa using hs, ?_⟩⟩
    rw [List.length_set]
    rw [List.map_set, ← ht]
    simp [List.take_set]
/-- A place's number stored. -/
theorem Mn.store {w : World} {B M bm g c k z : Nat} {nm : List ByteArray} {nx : List Nat} (h : Mn w B M bm (.slice (some ⟨g, 0, none⟩) nx.length c) nm nx) (hk : k < nx.length) :
    Mn (w.setCell ⟨g, k, none⟩ (.int .u32 (z : Int))) B M bm (.slice (some ⟨g, 0, none⟩) nx.length c) nm (nx.set k z) ∧ Grw M bm (.slice (some ⟨g, 0, none⟩) nx.length c) (.slice (some ⟨g, 0, none⟩) nx.length c) w (w.setCell ⟨g, k, none⟩ (.int .u32 (z : Int))) := by
  have hM : M ≠ g := fun e => h.apM (by rw [e]; rfl)
  have hb : bm ≠ g := fun e => h.apb (by rw [e]; rfl)
  refine ⟨⟨(Below.heap_setCell _ _ _ _ hM).trans h.box, h.map.keep (Below.heap_setCell _ _ _ _ hb), ownsRow_set (z := z) h.row rfl hk, h.loM, h.lob, h.ne, h.apM, h.apb⟩, ?_⟩
  exact ⟨rfl, rfl, rfl, by simp [World.setCell], fun i _ _ _ hi => Below.heap_setCell _ _ _ _ fun e => hi (by rw [e]; rfl), .inl rfl⟩
theorem Grw.drew {M bm : Nat} {v v' : Value} {w w' : World} (h : Grw M bm v v' w w') : Grw M bm v v' w w'.drew := ⟨h.os, h.tape, h.output, h.size, h.block, h.own⟩
theorem Mn.drew {w : World} {B M bm : Nat} {v : Value} {nm : List ByteArray} {nx : List Nat} (h : Mn w B M bm v nm nx) : Mn w.drew B M bm v nm nx := ⟨h.box, h.map.keep rfl, h.row, h.loM, h.lob, h.ne, h.apM, h.apb⟩

set_option maxHeartbeats 2000000 in
theorem link_any (B M bm : Nat) (v : Value) (nm : List ByteArray) (nx : List Nat) (l f : Nat) (w : World) (hM : Mn w B M bm v nm nx) (hT : TabB w) (hB : 0 < B) (hl : l < 4294967296) (hf : f < 4294967296) (hs : ∀ q, nx.getD q 0 < 4294967296) (hq : ∀ q, l.testBit q = true → q < nx.length) :
    Calls Tryd.prog 53 #[.pointer (some ⟨M, 0, none⟩), .int .u32 (l : Int), .int .u32 (f : Int)] w fun e w' => e = .returned (.tuple #[]) ∧ ∃ nx', Mn w' B M bm v nm nx' ∧ Lnk nx l f 0 nx' ∧ Grw M bm v v w w' := by
  have HM := Lib.hid hM
  have HT := Lib.hid hT
  have HQ := Lib.hid hq
  have HF : Hid (Lnk nx l f l nx) := Lib.hid (Lnk.first hl hs)
  have hMl := hM.mlt
  clear hM hT hq hl hs
  go_enter Tryd.func53, Tryd.ntmps53
  go_wp2
  go_loopw [1] (fun i wr => ∃ (p : Nat) (nr : List Nat), i = .int .u32 (p : Int) ∧ Hid (Lnk nx l f p nr) ∧ Hid (Mn wr B M bm v nm nr) ∧ Hid (Grw M bm v v w wr)) (fun i _ => (intOf i).toNat)
  case atStart => exact ⟨l, nx, rfl, HF, HM, Lib.hid (Grw.refl _ _ _ _)⟩
  case round =>
    obtain ⟨p, nr, rfl, hbeh, hmr, hgr⟩ := hrel
    by_cases h0 : p = 0
    · subst h0
      go_wp2
      go_end0
      exact ⟨rfl, nr, hmr.out, hbeh.out, hgr.out⟩
    · have e0 : ((p : Int) != 0) = true := by simp; omega
      have hplt := hbeh.out.plt
      obtain ⟨hc32, hcb, hclt, _⟩ := low_bit h0 hplt
      have hcl := HQ.out _ (hbeh.out.sub _ hcb)
      rw [← hbeh.out.len] at hcl
      have HN := Lib.hid (hbeh.out.next h0 hf hcl)
      have hx := hbeh.out.small (Lib.ctz 32 p)
      obtain ⟨g, c, rfl, hgc, hgm, hgl, hcell, hfz⟩ := hmr.out.at hcl
      have hfk := hfz (Lib.ctz 32 p)
      have HST := Lib.hid (hmr.out.store (z := nr.getD (Lib.ctz 32 p) 0 ||| f) hcl)
      have hb1 := hmr.out.cell1
      have hMr := cell_lt hb1
      have HTR : Hid (TabB wr) := Lib.hid (by
        intro j hj
        exact (World.cell?_of_block (a := ⟨_, j, none⟩) ((hgr.out.below HM.out (by have := HM.out.loM; omega)).block _ hB)).trans (HT.out j hj))
      have ea : bits .and .u32 (p : Int) ((p - 1 : Nat) : Int) = ((p &&& (p - 1) : Nat) : Int) := u32_and_nat p (p - 1) hplt (by omega)
      have eo : bits .or .u32 ((nr.getD (Lib.ctz 32 p) 0 : Nat) : Int) (f : Int) = ((nr.getD (Lib.ctz 32 p) 0 ||| f : Nat) : Int) := u32_or_nat _ _ hx hf
      have ep : ((p : Int) - 1) = ((p - 1 : Nat) : Int) := by omega
      clear hbeh hcb h0 hfz
      generalize nr.getD (Lib.ctz 32 p) 0 = y at *
      generalize hk : Lib.ctz 32 p = k at *
      have HK := Lib.hid hk
      clear hk
      go_wp2
      go_region_with (go_at_call 72; refine (tz_any p _ hplt (by exact HTR.out)).mono ?_; rintro e w2 ⟨rfl, rfl⟩; rw [HK.out])
      all_goals
        go_wp2
        exact ⟨⟨p &&& (p - 1), nr.set k (y ||| f), rfl, HN, Lib.hid HST.out.1.drew, Lib.hid (hgr.out.trans HST.out.2).drew⟩, by simp [intOf]; omega⟩
end Go.Proofs.YtldmimekmjmkgaaDoor
