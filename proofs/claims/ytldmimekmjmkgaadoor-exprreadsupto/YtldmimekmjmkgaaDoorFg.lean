/-
  What behind answers: the places that may come right behind one of these.
-/
import Derived.Test.YtldmimekmjmkgaaDoorFf
namespace Go.Proofs.YtldmimekmjmkgaaDoor
open Go.RowKit Go.Sort Go.Maps

theorem TabB.below {w w' : World} (h : TabB w) (hb : Below w.heap.size w w') : TabB w' := fun j hj => cell_kept (h j hj) hb

set_option maxHeartbeats 1000000 in
theorem behind_any (B M bm : Nat) (v : Value) (nm : List ByteArray) (nx : List Nat) (m : Nat) (w : World) (hM : Mn w B M bm v nm nx) (hT : TabB w) (hm : m < 4294967296) (hs : ∀ q, nx.getD q 0 < 4294967296) (hq : ∀ q, m.testBit q = true → q < nx.length) :
    Calls Tryd.prog 49 #[.pointer (some ⟨M, 0, none⟩), .int .u32 (m : Int)] w fun e w' => (∃ r : Nat, e = .returned (.int .u32 (r : Int)) ∧ Gathered nx m r) ∧ Below w.heap.size w w' := by
  have HM := Lib.hid hM
  have HT := Lib.hid hT
  have HS := Lib.hid hs
  have HQ := Lib.hid hq
  have HF : Hid (Beh nx m m 0) := Lib.hid (Beh.first hm)
  clear hM hT hs hq hm
  go_enter Tryd.func49, Tryd.ntmps49
  go_wp2
  go_loopw [1, 5] (fun i j wr => ∃ p r : Nat, i = .int .u32 (p : Int) ∧ j = .int .u32 (r : Int) ∧ Hid (Beh nx m p r) ∧ Below w.heap.size w wr) (fun i _ _ => (intOf i).toNat)
  case atStart => exact ⟨m, 0, rfl, rfl, HF, Below.refl _ _⟩
  case round =>
    obtain ⟨p, r, rfl, rfl, hbeh, hbr⟩ := hrel
    by_cases h0 : p = 0
    · subst h0
      go_wp2
      go_ret
      exact ⟨⟨r, rfl, hbeh.out.last⟩, hbr⟩
    · have e0 : ((p : Int) != 0) = true := by simp; omega
      have hplt := hbeh.out.plt
      have HP := Lib.hid h0
      have hrlt := hbeh.out.rlt
      obtain ⟨hc32, hcb, hclt, _⟩ := low_bit h0 hplt
      have hcl := HQ.out _ (hbeh.out.sub _ hcb)
      have HN := Lib.hid (hbeh.out.next h0 (HS.out _))
      have hx := HS.out (Lib.ctz 32 p)
      obtain ⟨g, c, rfl, hgc, hgm, hgl, hcell, _⟩ := (HM.out.below hbr).at hcl
      have hb1 := (HM.out.below hbr).cell1
      have hMl := cell_lt hb1
      have HC := Lib.hid (regrown_any (w := wr) fun W hW => (tz_any p W hplt ((HT.out.below hbr).below hW)).mono fun e w' h => ⟨h.1, by rw [h.2]; exact Below.refl _ _⟩)
      have ea : bits .and .u32 (p : Int) ((p - 1 : Nat) : Int) = ((p &&& (p - 1) : Nat) : Int) := u32_and_nat p (p - 1) hplt (by omega)
      have eo : bits .or .u32 (r : Int) ((nx.getD (Lib.ctz 32 p) 0 : Nat) : Int) = ((r ||| nx.getD (Lib.ctz 32 p) 0 : Nat) : Int) := u32_or_nat _ _ hrlt hx
      have ep : ((p : Int) - 1) = ((p - 1 : Nat) : Int) := by omega
      clear hbeh hcb h0
      generalize nx.getD (Lib.ctz 32 p) 0 = y at *
      generalize Lib.ctz 32 p = k at *
      go_wp2
      have k1 := cell_regrown hb1
      have k2 := cell_regrown hcell
      refine wp_region_quiet_below (by kernel_rfl) (by kernel_rfl) ?_
      repeat (first | go_big_quiet_step (exact HC.out _ _) | quiet_step (exact HC.out _ _))
      refine wpQuiet_nil ?_
      intro _ hw'
      obtain ⟨⟨dq, osq⟩, hw''⟩ := hw'
      subst hw''
      have HBN := Lib.hid (belowNext hbr (below_regrown wr dq osq))
      clear k1 k2 hb1 hcell
      generalize grow (redrawn wr dq) osq = wn at *
      go_wp2
      exact ⟨⟨p &&& (p - 1), r ||| y, rfl, rfl, HN, HBN.out⟩, by simp [intOf]; omega⟩
end Go.Proofs.YtldmimekmjmkgaaDoor
