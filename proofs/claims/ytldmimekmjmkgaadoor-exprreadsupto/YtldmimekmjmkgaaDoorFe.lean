/-
  What right and Right answer.
-/
import Derived.Test.YtldmimekmjmkgaaDoorFd
namespace Go.Proofs.YtldmimekmjmkgaaDoor
open Go.RowKit Go.Sort

/-- How much may still be looked at, in a block of its own. -/
def Num (w : World) (L : Nat) (m : Int) : Prop := w.heap[L]? = some (.cells #[.int .i64 m] 3)
theorem Num.lt {w : World} {L : Nat} {m : Int} (h : Num w L m) : L < w.heap.size := (Array.getElem?_eq_some_iff.1 h).1
theorem Num.cell {w : World} {L : Nat} {m : Int} (h : Num w L m) : w.cell? ⟨L, 0, none⟩ = some (.int .i64 m) := by simp [World.cell?, show w.heap[L]? = _ from h]
theorem Num.free {w : World} {L : Nat} {m : Int} (h : Num w L m) (i : Nat) : w.frozen? ⟨L, i, none⟩ = false := frozen_of_row w L i _ _ h
theorem Num.set {w : World} {L : Nat} {m : Int} (h : Num w L m) (m' : Int) : Num (w.setCell ⟨L, 0, none⟩ (.int .i64 m')) L m' := heap_setCell_same w L 0 _ _ _ h
theorem Num.below {w w' : World} {L : Nat} {m : Int} (h : Num w L m) (hb : Below w.heap.size w w') : Num w' L m := (hb.block L h.lt).trans h
theorem Exs.only {w w' : World} {B L : Nat} {v : Value} {l : List Ex} (h : Exs w (Under B) v l) (hk : OnlyR L w w') (hB : B ≤ L) (hw : B ≤ w.heap.size) : Exs w' (Under B) v l :=
  h.keep (fun _ h => h) fun b hb => hk.block b (Nat.lt_of_lt_of_le hb hw) (Nat.ne_of_lt (Nat.lt_of_lt_of_le hb hB))

theorem box3_new {W : World} {g : Nat} {v0 v1 v2 : Value} {T : TypeId} (hg : W.heap.size = g) :
    (W.alloc (.cells #[v0, v1, v2] T)).cell? ⟨g, 0, none⟩ = some v0 ∧ (W.alloc (.cells #[v0, v1, v2] T)).cell? ⟨g, 1, none⟩ = some v1 ∧ (W.alloc (.cells #[v0, v1, v2] T)).cell? ⟨g, 2, none⟩ = some v2 := by
  subst hg
  refine ⟨?_, ?_, ?_⟩ <;> (simp only [World.cell?, heap_new]; rfl)
def RSaid (e : Ex) : Prop := ∀ (A : Option Addr) (n c B L : Nat) (m : Int) (w : World), e.fits → Exs w (Under B) (.slice A n c) e.kids → B ≤ L → Num w L m → 0 ≤ m → m ≤ 24 →
  Calls Tryd.prog 30 #[.agg #[.int .u8 e.op, .string e.name, .slice A n c], .pointer (some ⟨L, 0, none⟩)] w fun e' w' => e' = .returned (.bool (goR okN e m).1) ∧ Num w' L (goR okN e m).2 ∧ OnlyR L w w'

set_option maxHeartbeats 2000000 in
theorem right_walk : ∀ e, RSaid e := by
  intro e
  induction e using Ex.induct_one with
  | h o s l ih =>
    intro A n c B L m w he hl hBL hL hm0 hm1
    have IH := Lib.hid ih
    clear ih
    simp only [Ex.op, Ex.name, Ex.kids] at *
    have hlen := hl.len
    obtain ⟨A', c', hv, hc, hm, _⟩ := id hl
    injection hv with hA hn hc'
    subst hA hn hc'
    unfold maxLen at hm
    have hLlt := hL.lt
    have hBw : B ≤ w.heap.size := by omega
    have cL := hL.cell
    have fL := hL.free 0
    have HF := Lib.hid he
    have HA := Lib.hid hl
    
    have HL1 := Lib.hid (hL.set (m - 1))
    have HO1 : Hid (OnlyR L w (w.setCell ⟨L, 0, none⟩ (.int .i64 (m - 1)))) := Lib.hid (OnlyR.set L 0 _ _)
    have HBX : Hid (Below (w.setCell ⟨L, 0, none⟩ (.int .i64 (m - 1))).heap.size (w.setCell ⟨L, 0, none⟩ (.int .i64 (m - 1))) ((w.setCell ⟨L, 0, none⟩ (.int .i64 (m - 1))).alloc (.cells #[.int .u8 o, .string s, .slice A l.length c] 24))) := Lib.hid ((Below.refl _ _).alloc (Nat.le_refl _) _)
    clear hl he hL
    by_cases h0 : m = 0
    · subst h0
      have HG : Hid (goR okN (.mk o s l) 0 = (false, 0 - 1)) := Lib.hid (by unfold goR; rfl)
      go_enter Tryd.func30, Tryd.ntmps30
      go_wp2
      go_ret
      exact ⟨ret_bool (by rw [HG.out]), by rw [HG.out]; exact HL1.out.below HBX.out, HO1.out.trans (OnlyR.of_below L HBX.out)⟩
    · have h1 : (m - 1 < 0) = False := by simp; omega
      have HG : Hid (goR okN (.mk o s l) m = if shapedE okN (.mk o s l) then goRs okN l (m - 1) else (false, m - 1)) := Lib.hid (by unfold goR; rw [if_neg (by omega)])
      go_enter Tryd.func30, Tryd.ntmps30
      go_wp2_with fail
      have HN1 : Hid (Num ((w.setCell ⟨L, 0, none⟩ (.int .i64 (m - 1))).alloc (.cells #[.int .u8 o, .string s, .slice A l.length c] 24)) L (m - 1)) := Lib.hid (HL1.out.below HBX.out)
      have HO2 : Hid (OnlyR L w ((w.setCell ⟨L, 0, none⟩ (.int .i64 (m - 1))).alloc (.cells #[.int .u8 o, .string s, .slice A l.length c] 24))) := Lib.hid (HO1.out.trans (OnlyR.of_below L HBX.out))
      have hz : (w.setCell ⟨L, 0, none⟩ (.int .i64 (m - 1))).heap.size = w.heap.size := by simp [World.setCell]
      obtain ⟨x0, x1, x2⟩ := box3_new (W := w.setCell ⟨L, 0, none⟩ (.int .i64 (m - 1))) (g := w.heap.size) (v0 := .int .u8 o) (v1 := .string s) (v2 := .slice A l.length c) (T := 24) hz
      clear cL fL
      generalize (w.setCell ⟨L, 0, none⟩ (.int .i64 (m - 1))).alloc (.cells #[.int .u8 o, .string s, .slice A l.length c] 24) = w1 at *
      clear HBX HL1 HO1 hz
      have HX1 : Hid (Exs w1 (Under w1.heap.size) (.slice A l.length c) l) := Lib.hid ((HA.out.only HO2.out hBL hBw).more (Nat.le_trans hBw HO2.out.size))
      refine (shaped_any (.mk o s l) A l.length c w1 HF.out HX1.out).mono ?_
      rintro e w2 ⟨rfl, hb2⟩
      have y2 := cell_kept x2 hb2
      have y1 := cell_kept x1 hb2
      have y0 := cell_kept x0 hb2
      have hyl := cell_lt y0
      have HN2 := Lib.hid (HN1.out.below hb2)
      have HO3 := Lib.hid (HO2.out.trans (OnlyR.of_below L hb2))
      clear hb2 x0 x1 x2 HX1 HN1 HO2
      generalize shapedE okN (.mk o s l) = r at *
      cases r with
      | false =>
        go_wp2
        go_ret
        exact ⟨ret_bool (by rw [HG.out]; rfl), by rw [HG.out]; exact HN2.out, HO3.out⟩
      | true =>
        have HG' : Hid (goR okN (.mk o s l) m = goRs okN l (m - 1)) := Lib.hid (by rw [HG.out]; rfl)
        clear HG
        go_wp2
        go_loopw [24] (fun i wr => ∃ (k : Nat) (mm : Int), k ≤ l.length ∧ i = .int .i64 k ∧ Hid (OnlyR L w2 wr) ∧ Hid (Num wr L mm) ∧ Hid (upR okN l (m - 1) k mm) ∧ 0 ≤ mm ∧ mm ≤ 24) (fun i _ => l.length - (intOf i).toNat)
        case atStart => exact ⟨0, m - 1, by omega, rfl, Lib.hid (OnlyR.refl _ _), HN2, Lib.hid (upR_start _ _ _), by omega, by omega⟩
        case round =>
          obtain ⟨k, mm, hk, rfl, hor, hnr, hup, hm0', hm1'⟩ := hrel
          by_cases hlt : k < l.length
          · have hlx : l[k]? = some l[k] := List.getElem?_eq_getElem hlt
            generalize hx : l[k] = x at *
            have HOR := Lib.hid (HO3.out.trans hor.out)
            have HXR : Hid (Exs wr (Under B) (.slice A l.length c) l) := Lib.hid (HA.out.only HOR.out hBL hBw)
            obtain ⟨b, off, rfl, hb, hat⟩ := HXR.out.get hlx
            obtain ⟨vk, f0, f1, f2, exk⟩ := (exAt_iff x b _).1 hat
            obtain ⟨A3, c3, rfl, _⟩ := id exk
            have hl3 := cell_lt f0
            have HX := Lib.hid hlx
            have HEK := Lib.hid exk
            clear exk hx hlx hat hb
            go_wp2_with fail
            have HBX2 : Hid (Below wr.heap.size wr (wr.alloc (.cells #[.int .u8 x.op, .string x.name, .slice A3 x.kids.length c3] 24))) := Lib.hid ((Below.refl _ _).alloc (Nat.le_refl _) _)
            have hxm := List.mem_of_getElem? HX.out
            have HEK2 : Hid (Exs (wr.alloc (.cells #[.int .u8 x.op, .string x.name, .slice A3 x.kids.length c3] 24)) (Under B) (.slice A3 x.kids.length c3) x.kids) := Lib.hid (HEK.out.keep (fun _ h => h) fun b hb => HBX2.out.block b (Nat.lt_of_lt_of_le hb (Nat.le_trans hBw HOR.out.size)))
            refine (IH.out x hxm A3 _ c3 B L mm _ (HF.out.kid (e := .mk o s l) hxm) HEK2.out hBL (hnr.out.below HBX2.out) hm0' hm1').mono ?_
            rintro e w3 ⟨rfl, hn3, ho3⟩
            have HO4 : Hid (OnlyR L w2 w3) := Lib.hid ((hor.out.trans (OnlyR.of_below L HBX2.out)).trans ho3)
            have HLF := goR_left okN x mm hm0'
            have HN3 := Lib.hid hn3
            have HU1 := Lib.hid (fun h => upR_next hup.out HX.out (ok := okN) h)
            have HU2 := Lib.hid (fun h => upR_stop hup.out HX.out (ok := okN) h)
            clear hn3 ho3 HBX2 f0 f1 f2 hup hnr hor HEK HEK2
            generalize goR okN x mm = q at *
            obtain ⟨q1, q2⟩ := q
            cases q1 with
            | false =>
              have HU := Lib.hid (HU2.out rfl)
              clear HU1 HU2 HLF
              go_wp2
              go_ret
              exact ⟨ret_bool (by rw [HG'.out, HU.out]), by rw [HG'.out, HU.out]; exact HN3.out, HO3.out.trans HO4.out⟩
            | true =>
              have HU := Lib.hid (HU1.out rfl)
              have h3 := HLF.2.2 rfl
              have h4 := HLF.2.1
              clear HU1 HU2 HLF
              go_wp2
              exact ⟨⟨k + 1, q2, by omega, by go_num, HO4, HN3, HU, h3, by omega⟩, by simp [intOf]; omega⟩
          · go_wp2
            go_ret
            exact ⟨ret_bool (by rw [HG'.out, upR_end hup.out (by omega)]), by rw [HG'.out, upR_end hup.out (by omega)]; exact hnr.out, HO3.out.trans hor.out⟩

set_option maxHeartbeats 1000000 in
theorem right_ok (e : Ex) (A : Option Addr) (n c : Nat) (w : World) (he : e.fits) (hl : Exs w (Under w.heap.size) (.slice A n c) e.kids) :
    Calls Tryd.prog 16 #[.agg #[.int .u8 e.op, .string e.name, .slice A n c]] w fun e' w' => e' = .returned (.bool (rightE okN e)) ∧ Below w.heap.size w w' := by
  have HB : Hid (Below w.heap.size w (w.alloc (.cells #[.int .u8 e.op, .string e.name, .slice A n c] 24))) := Lib.hid ((Below.refl _ _).alloc (Nat.le_refl _) _)
  have HA := Lib.hid hl
  clear hl
  go_enter Tryd.func16, Tryd.ntmps16
  go_wp2_with fail
  have hz : (w.alloc (.cells #[.int .u8 e.op, .string e.name, .slice A n c] 24)).heap.size = w.heap.size + 1 := by simp
  have HB2 : Hid (Below w.heap.size w ((w.alloc (.cells #[.int .u8 e.op, .string e.name, .slice A n c] 24)).alloc (.cells #[.int .i64 24] 3))) := Lib.hid (HB.out.alloc (by omega) _)
  have HN : Hid (Num ((w.alloc (.cells #[.int .u8 e.op, .string e.name, .slice A n c] 24)).alloc (.cells #[.int .i64 24] 3)) (w.heap.size + 1) 24) := Lib.hid (by unfold Num; rw [← hz]; exact heap_new _ _)
  refine (right_walk e A n c w.heap.size (w.heap.size + 1) 24 _ he (HA.out.below HB2.out) (by omega) HN.out (by omega) (by omega)).mono ?_
  rintro e' w1 ⟨rfl, _, ho⟩
  have HO := Lib.hid (ho.below (B := w.heap.size) (by omega) HB2.out.size)
  clear ho
  rw [goR_right]
  go_wp2
  go_ret
  exact ⟨rfl, HB2.out.trans HO.out⟩
end Go.Proofs.YtldmimekmjmkgaaDoor
