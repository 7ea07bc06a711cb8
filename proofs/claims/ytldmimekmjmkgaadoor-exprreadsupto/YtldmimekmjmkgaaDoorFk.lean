/-
  addRow.
-/
import Derived.Test.YtldmimekmjmkgaaDoorFj
namespace Go.Proofs.YtldmimekmjmkgaaDoor
open Go.RowKit Go.Sort Go.Maps Go.WideMaps

/-- What link makes of it. -/
structure Lkd (w : World) (B M bm : Nat) (v : Value) (nm : List ByteArray) (nx : List Nat) (R : List (Nat × Nat)) (w3 w5 : World) (acc : Pl) (f l : Nat) (b : Bool) (p : Pl) (f' l' : Nat) (b' : Bool) (v2 : Value) (nr3 : List Nat) : Prop where
  mn : Mn w5 B M bm v2 (nm ++ (acc.names ++ p.names)) nr3
  len : nr3.length = nx.length + (acc.names ++ p.names).length
  row : Nx nr3 (R ++ (pCat acc p).fol)
  grw : Grw M bm v v2 w w5
  all : w5.heap[w.heap.size + 1]? = some (.cells #[.int .u32 (f : Int), .int .u32 (l : Int), .bool b] 71)
  box : w5.heap[w3.heap.size]? = some (.cells #[.int .u32 (f' : Int), .int .u32 (l' : Int), .bool b'] 71)
  res : w5.heap[w.heap.size]? = some (.cells #[.int .u32 0, .int .u32 0, .bool false] 71)
  ap : ∀ k, v2.ownBlock = some k → k ≠ w.heap.size ∧ k ≠ w.heap.size + 1 ∧ k ≠ w3.heap.size
  far : w.heap.size + 1 < w3.heap.size
theorem link_bits {nx : List Nat} {acc : Pl} {f l : Nat} {b : Bool} (he : Ends f l b acc) (ha : At acc nx.length) {m : Nat} (hm : nx.length + acc.names.length ≤ m) : ∀ q, l.testBit q = true → q < m := fun q hq => by
  have := ha.last q ((he.last.2 q).1 hq)
  omega
theorem Lkd.of {w : World} {B M bm : Nat} {v : Value} {nm : List ByteArray} {nx : List Nat} {R : List (Nat × Nat)} {w3 w5 : World} {acc : Pl} {f l : Nat} {b : Bool} {p : Pl} {f' l' : Nat} {b' : Bool} {v2 : Value} {nr2 nr3 : List Nat}
    (h : Part w B M bm v nm nx R w3 acc f l b p f' l' b' v2 nr2) (hM : Mn w B M bm v nm nx) (hm : Mn w5 B M bm v2 (nm ++ (acc.names ++ p.names)) nr3) (hl : Lnk nr2 l f' 0 nr3) (hg : Grw M bm v2 v2 (w3.alloc (.cells #[.int .u32 (f' : Int), .int .u32 (l' : Int), .bool b'] 71)) w5) :
    Lkd w B M bm v nm nx R w3 w5 acc f l b p f' l' b' v2 nr3 := by
  have hMl := hM.mlt
  have hbl := hM.map.lt
  have hz := h.grw.size
  have hfar : w.heap.size + 1 < w3.heap.size := (Array.getElem?_eq_some_iff.1 h.all).1
  have hap : ∀ k, v2.ownBlock = some k → k ≠ w.heap.size ∧ k ≠ w.heap.size + 1 ∧ k ≠ w3.heap.size := fun k hk => ⟨(h.ap k hk).1, (h.ap k hk).2, by have := (h.mn.row.lt k hk).2; omega⟩
  refine ⟨hm, by rw [hl.len]; exact h.len, ?_, (h.grw.alloc _).trans hg, ?_, ?_, ?_, hap, hfar⟩
  · refine (h.row.link h.ends.last h.ends'.first hl).congr fun x => ?_
    simp only [pCat, List.mem_append, or_assoc]
  · exact hg.box ((Below.heap_alloc _ _ _ hfar).trans h.all) (by omega) (by omega) fun e => (hap _ e).2.1 rfl
  · exact hg.box (heap_new _ _) (by omega) (by omega) fun e => (hap _ e).2.2 rfl
  · exact hg.box ((Below.heap_alloc _ _ _ (by omega)).trans h.res) (by omega) (by omega) fun e => (hap _ e).1 rfl
theorem Lkd.done {w : World} {B M bm : Nat} {v : Value} {nm : List ByteArray} {nx : List Nat} {R : List (Nat × Nat)} {w3 w5 W : World} {acc : Pl} {f l : Nat} {b : Bool} {p : Pl} {f' l' : Nat} {b' : Bool} {v2 : Value} {nr3 : List Nat} {F L : Nat} {c : Bool}
    (h : Lkd w B M bm v nm nx R w3 w5 acc f l b p f' l' b' v2 nr3) (hM : Mn w B M bm v nm nx) (hq : Ends F L c (pCat acc p)) (ha : At (pCat acc p) nx.length)
    (hW : W.heap[w.heap.size + 1]? = some (.cells #[.int .u32 (F : Int), .int .u32 (L : Int), .bool c] 71)) (hO : ∀ j, j ≠ w.heap.size + 1 → j ≠ w3.heap.size → W.heap[j]? = w5.heap[j]?) (h1 : W.os = w5.os) (h2 : W.tape = w5.tape) (h3 : W.output = w5.output) (h4 : w5.heap.size ≤ W.heap.size) :
    AccAt w B M bm v nm nx R W (pCat acc p) F L c v2 nr3 := by
  have hMl := hM.mlt
  have hbl := hM.map.lt
  have hfar := h.far
  refine ⟨hq, h.mn.keepAt fun j hj => ?_, h.len, h.row, h.grw.after h1 h2 h3 h4 fun j hj => hO j (by omega) (by omega), hW, (hO _ (by omega) (by omega)).trans h.res, fun j hj => ⟨(h.ap j hj).1, (h.ap j hj).2.1⟩, ha⟩
  rcases hj with rfl | rfl | hj
  · exact hO _ (by omega) (by omega)
  · exact hO _ (by omega) (by omega)
  · exact hO _ (h.ap j hj).2.1 (h.ap j hj).2.2
set_option maxHeartbeats 4000000 in
theorem addRow_of (l : List Ex) (IH : Hid (∀ x ∈ l, AddSaid x)) (B M bm : Nat) (v : Value) (nm : List ByteArray) (nx : List Nat) (R : List (Nat × Nat)) (w : World) (A : Option Addr) (n c : Nat) (hf : Ex.fitsAll l) (ha : allEs okN l = true) (hl : Exs w (Under B) (.slice A n c) l)
    (hM : Mn w B M bm v nm nx) (hln : nm.length = nx.length) (hN : Nx nx R) (hT : TabB w) (hG : 0 < B) (hB : B ≤ w.heap.size) (hc : nx.length + (placeSeq pEps l nx.length).names.length ≤ 31) :
    Calls Tryd.prog 51 #[.pointer (some ⟨M, 0, none⟩), .slice A n c] w (AddPost B M bm v nm nx R w (placeSeq pEps l nx.length)) := by
  have hlen := hl.len
  obtain ⟨A', c', hv, hc', hm, _⟩ := id hl
  injection hv with hA hn hcc
  subst hA hn hcc
  unfold maxLen at hm
  have HA := Lib.hid hl
  have HM := Lib.hid hM
  have HT := Lib.hid hT
  have HFA := Lib.hid hf
  have HAL := Lib.hid ha
  have hMl := hM.mlt
  have hbl := hM.map.lt
  have HC := Lib.hid hc
  have HB2 : Hid (Below w.heap.size w ((w.alloc (.cells #[.int .u32 0, .int .u32 0, .bool false] 71)).alloc (.cells #[.int .u32 0, .int .u32 0, .bool true] 71))) := Lib.hid (((Below.refl _ _).alloc (Nat.le_refl _) _).alloc (by simp) _)
  have HST : Hid (AccAt w B M bm v nm nx R ((w.alloc (.cells #[.int .u32 0, .int .u32 0, .bool false] 71)).alloc (.cells #[.int .u32 0, .int .u32 0, .bool true] 71)) pEps 0 0 true v nx) := Lib.hid
    ⟨ends_eps, by have h := hM.below HB2.out; simpa [pEps] using h, by simp [pEps], by simpa [pEps] using hN, Grw.of_below M bm v HB2.out, heap_new' _ _ (by simp), (Below.heap_alloc _ _ _ (by simp)).trans (heap_new _ _), fun k hk => by have := (hM.row.lt k hk).2; omega, at_eps _⟩
  clear hl hM hT hf ha hc
  go_enter Tryd.func51, Tryd.ntmps51
  go_wp2
  go_loopw [12] (fun i wr => ∃ (k : Nat) (acc : Pl) (f g : Nat) (b : Bool) (v' : Value) (nr : List Nat), k ≤ l.length ∧ i = .int .i64 k ∧ Hid (AccAt w B M bm v nm nx R wr acc f g b v' nr) ∧ Hid (placeSeq pEps l nx.length = placeSeq acc (l.drop k) (nx.length + acc.names.length))) (fun i _ => l.length - (intOf i).toNat)
  case atStart => exact ⟨0, pEps, 0, 0, true, v, nx, by omega, rfl, HST, Lib.hid (by simp [pEps])⟩
  case round =>
    obtain ⟨k, acc, f, g, b, v', nr, hk, rfl, hac, hrest⟩ := hrel
    by_cases hlt : k < l.length
    · have hlx : l[k]? = some l[k] := List.getElem?_eq_getElem hlt
      generalize hx : l[k] = x at *
      have HBR := Lib.hid (hac.out.grw.below HM.out hB)
      have HXR := Lib.hid (HA.out.below HBR.out)
      obtain ⟨bk, off, rfl, _, hat⟩ := HXR.out.get hlx
      obtain ⟨vk, f0, f1, f2, exk⟩ := (exAt_iff x bk _).1 hat
      obtain ⟨A3, c3, rfl, _⟩ := id exk
      have hl3 := cell_lt f0
      have HX := Lib.hid hlx
      have HEK := Lib.hid exk
      clear exk hx hlx hat
      go_wp2_with fail
      have hxm := List.mem_of_getElem? HX.out
      have HBX : Hid (Below wr.heap.size wr (wr.alloc (.cells #[.int .u8 x.op, .string x.name, .slice A3 x.kids.length c3] 24))) := Lib.hid ((Below.refl _ _).alloc (Nat.le_refl _) _)
      have hBr : B ≤ wr.heap.size := Nat.le_trans hB HBR.out.size
      have hBw2 : B ≤ (wr.alloc (.cells #[.int .u8 x.op, .string x.name, .slice A3 x.kids.length c3] 24)).heap.size := Nat.le_trans hBr HBX.out.size
      have hcnt : nr.length + (place x nr.length).names.length ≤ 31 := by
        have h1 := HC.out
        have h2 := seq_ge (l.drop (k + 1)) (pCat acc (place x (nx.length + acc.names.length))) (nx.length + acc.names.length + (place x (nx.length + acc.names.length)).names.length)
        rw [hrest.out, drop_at HX.out, placeSeq] at h1
        rw [show (pCat acc (place x (nx.length + acc.names.length))).names.length = acc.names.length + (place x (nx.length + acc.names.length)).names.length by simp [pCat]] at h2
        rw [hac.out.len]
        omega
      refine (IH.out x hxm B M bm v' (nm ++ acc.names) nr (R ++ acc.fol) _ A3 _ c3 (Ex.fits_mem HFA.out hxm) (mem_allEs HAL.out x hxm) (HEK.out.keep (fun _ h => h) fun b hb => HBX.out.block b (Nat.lt_of_lt_of_le hb hBr)) (hac.out.mn.below HBX.out) (by rw [List.length_append, hac.out.len, hln]) hac.out.row ((HT.out.grw hac.out.grw HM.out hG hB).below HBX.out) hG hBw2 hcnt).mono ?_
      rintro e w3 ⟨f', g', b', v2, nr2, rfl, he2, hm2, hl2, hn2, hg2⟩
      have HP := Lib.hid (Part.of hac.out HM.out he2 hm2 hl2 hn2 hg2)
      have HR1 : Hid (placeSeq pEps l nx.length = placeSeq (pCat acc (place x (nx.length + acc.names.length))) (l.drop (k + 1)) (nx.length + (pCat acc (place x (nx.length + acc.names.length))).names.length)) := Lib.hid (by
        rw [hrest.out, drop_at HX.out, placeSeq]; simp only [pCat, List.length_append]; rw [Nat.add_assoc])
      obtain ⟨a0, a1, a2⟩ := three_cells HP.out.all
      have z0 := frozen_of_row _ (w.heap.size + 1) 0 _ _ HP.out.all
      have z1 := frozen_of_row _ (w.heap.size + 1) 1 _ _ HP.out.all
      have z2 := frozen_of_row _ (w.heap.size + 1) 2 _ _ HP.out.all
      have hza := cell_lt a0
      clear he2 hm2 hl2 hn2 hg2 hac hrest HBX HBR HXR hcnt hBr hBw2 f0 f1 f2
      have HT3 := Lib.hid (HT.out.grw HP.out.grw HM.out hG hB)
      have HB3 : Hid (Below w3.heap.size w3 (w3.alloc (.cells #[.int .u32 (f' : Int), .int .u32 (g' : Int), .bool b'] 71))) := Lib.hid ((Below.refl _ _).alloc (Nat.le_refl _) _)
      go_wp2_with fail
      refine (link_any B M bm v2 _ nr2 g f' _ (HP.out.mn.below HB3.out) (HT3.out.below HB3.out) hG HP.out.ends.last.1 HP.out.ends'.first.1 HP.out.row.1 (link_bits HP.out.ends HP.out.at_ (by rw [HP.out.len, List.length_append]; omega))).mono ?_
      rintro e w5 ⟨rfl, nr3, hm5, hl5, hg5⟩
      have HL := Lib.hid (Lkd.of HP.out HM.out hm5 hl5 hg5)
      have HEN := Lib.hid (HP.out.ends.cat HP.out.ends')
      have HAT := Lib.hid (at_cat HP.out.at_ HP.out.at')
      have eo1 : bits .or .u32 (f : Int) (f' : Int) = ((f ||| f' : Nat) : Int) := u32_or_nat _ _ HP.out.ends.first.1 HP.out.ends'.first.1
      have eo2 : bits .or .u32 (g' : Int) (g : Int) = ((g' ||| g : Nat) : Int) := u32_or_nat _ _ HP.out.ends'.last.1 HP.out.ends.last.1
      clear hm5 hl5 hg5 a0 a1 a2 z0 z1 z2 hza
      obtain ⟨a0, a1, a2⟩ := three_cells HL.out.all
      have z0 := frozen_of_row _ (w.heap.size + 1) 0 _ _ HL.out.all
      have z1 := frozen_of_row _ (w.heap.size + 1) 1 _ _ HL.out.all
      have z2 := frozen_of_row _ (w.heap.size + 1) 2 _ _ HL.out.all
      obtain ⟨d0, d1, d2⟩ := three_cells HL.out.box
      have y0 := frozen_of_row _ w3.heap.size 0 _ _ HL.out.box
      have y1 := frozen_of_row _ w3.heap.size 1 _ _ HL.out.box
      have y2 := frozen_of_row _ w3.heap.size 2 _ _ HL.out.box
      have hza := cell_lt a0
      have hzd := cell_lt d0
      have hfar := HL.out.far
      clear HP HT3 HB3
      have hne : w.heap.size + 1 ≠ w3.heap.size := by omega
      cases b with
      | true =>
        cases b' with
        | true =>
          go_wp2
          go_region
          all_goals
            go_wp2
            exact ⟨⟨k + 1, pCat acc (place x (nx.length + acc.names.length)), f ||| f', g' ||| g, true, v2, nr3, by omega, by go_num, Lib.hid (HL.out.done HM.out (by simpa using HEN.out) HAT.out (heap_setCell_same _ (w.heap.size + 1) 2 _ _ _ (heap_setCell_same _ (w.heap.size + 1) 1 _ _ _ ((Below.heap_setCell _ _ _ _ hne).trans (heap_setCell_same _ (w.heap.size + 1) 0 _ _ _ HL.out.all)))) (fun j h1 h2 => ((Below.heap_setCell _ _ _ _ h1).trans ((Below.heap_setCell _ _ _ _ h1).trans ((Below.heap_setCell _ _ _ _ h2).trans (Below.heap_setCell _ _ _ _ h1))))) rfl rfl rfl (by simp [World.setCell])), HR1⟩, by simp [intOf]; omega⟩
        | false =>
          go_wp2
          go_region
          all_goals
            go_wp2
            exact ⟨⟨k + 1, pCat acc (place x (nx.length + acc.names.length)), f ||| f', g', false, v2, nr3, by omega, by go_num, Lib.hid (HL.out.done HM.out (by simpa using HEN.out) HAT.out (heap_setCell_same _ (w.heap.size + 1) 2 _ _ _ (heap_setCell_same _ (w.heap.size + 1) 1 _ _ _ (heap_setCell_same _ (w.heap.size + 1) 0 _ _ _ HL.out.all))) (fun j h1 h2 => ((Below.heap_setCell _ _ _ _ h1).trans ((Below.heap_setCell _ _ _ _ h1).trans (Below.heap_setCell _ _ _ _ h1)))) rfl rfl rfl (by simp [World.setCell])), HR1⟩, by simp [intOf]; omega⟩
      | false =>
        cases b' with
        | true =>
          go_wp2
          go_region
          all_goals
            go_wp2
            exact ⟨⟨k + 1, pCat acc (place x (nx.length + acc.names.length)), f, g' ||| g, false, v2, nr3, by omega, by go_num, Lib.hid (HL.out.done HM.out (by simpa using HEN.out) HAT.out (heap_setCell_same _ (w.heap.size + 1) 2 _ _ _ (heap_setCell_same _ (w.heap.size + 1) 1 _ _ _ ((Below.heap_setCell _ _ _ _ hne).trans HL.out.all))) (fun j h1 h2 => ((Below.heap_setCell _ _ _ _ h1).trans ((Below.heap_setCell _ _ _ _ h1).trans (Below.heap_setCell _ _ _ _ h2)))) rfl rfl rfl (by simp [World.setCell])), HR1⟩, by simp [intOf]; omega⟩
        | false =>
          go_wp2
          go_region
          all_goals
            go_wp2
            exact ⟨⟨k + 1, pCat acc (place x (nx.length + acc.names.length)), f, g', false, v2, nr3, by omega, by go_num, Lib.hid (HL.out.done HM.out (by simpa using HEN.out) HAT.out (heap_setCell_same _ (w.heap.size + 1) 2 _ _ _ (heap_setCell_same _ (w.heap.size + 1) 1 _ _ _ HL.out.all)) (fun j h1 h2 => ((Below.heap_setCell _ _ _ _ h1).trans (Below.heap_setCell _ _ _ _ h1))) rfl rfl rfl (by simp [World.setCell])), HR1⟩, by simp [intOf]; omega⟩
    · have HE : Hid (placeSeq pEps l nx.length = acc) := Lib.hid (by rw [hrest.out, List.drop_of_length_le (by omega)]; unfold placeSeq; rfl)
      have HAC := Lib.hid hac.out
      obtain ⟨a0, a1, a2⟩ := three_cells hac.out.all
      obtain ⟨r0, r1, r2⟩ := three_cells hac.out.res
      have z0 := frozen_of_row _ w.heap.size 0 _ _ hac.out.res
      have z1 := frozen_of_row _ w.heap.size 1 _ _ hac.out.res
      have z2 := frozen_of_row _ w.heap.size 2 _ _ hac.out.res
      have hzr := cell_lt a0
      clear hac hrest
      go_wp2
      obtain ⟨x0, hx, hz⟩ := put3x (v0 := .int .u32 f) (v1 := .int .u32 g) (v2 := .bool b) HAC.out.res
      obtain ⟨y0, y1, y2⟩ := three_cells x0
      refine bodyPost_ret (v := .agg #[.int .u32 f, .int .u32 g, .bool b]) (by simp [results, Tryd.results51, go_sem, y0, y1, y2]) rfl ⟨f, g, b, v', nr, rfl, ?_, ?_, ?_, ?_, ?_⟩
      · rw [HE.out]; exact HAC.out.ends
      · rw [HE.out]
        refine HAC.out.mn.keepAt fun j hj => hx j ?_
        rcases hj with rfl | rfl | hj
        · exact Nat.ne_of_lt hMl
        · exact Nat.ne_of_lt hbl
        · exact (HAC.out.ap j hj).1
      · rw [HE.out]; exact HAC.out.len
      · rw [HE.out]; exact HAC.out.row
      · exact HAC.out.grw.after rfl rfl rfl (Nat.le_of_eq hz.symm) fun j hj => hx j (Nat.ne_of_lt hj)
end Go.Proofs.YtldmimekmjmkgaaDoor
