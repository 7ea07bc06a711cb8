/-
  What add does, in words; addChoice.
-/
import Derived.Test.YtldmimekmjmkgaaDoorFi
namespace Go.Proofs.YtldmimekmjmkgaaDoor
open Go.RowKit Go.Sort Go.Maps Go.WideMaps

/-- The places of p, put behind those that were there. -/
def AddPost (B M bm : Nat) (v : Value) (nm : List ByteArray) (nx : List Nat) (R : List (Nat × Nat)) (w : World) (p : Pl) (e' : Ending) (w' : World) : Prop :=
  ∃ (f l : Nat) (b : Bool) (v' : Value) (nx' : List Nat), e' = .returned (.agg #[.int .u32 (f : Int), .int .u32 (l : Int), .bool b]) ∧ Ends f l b p ∧ Mn w' B M bm v' (nm ++ p.names) nx' ∧ nx'.length = nx.length + p.names.length ∧ Nx nx' (R ++ p.fol) ∧ Grw M bm v v' w w'
def AddSaid (e : Ex) : Prop := ∀ (B M bm : Nat) (v : Value) (nm : List ByteArray) (nx : List Nat) (R : List (Nat × Nat)) (w : World) (A : Option Addr) (n c : Nat), e.fits → allE okN e = true → Exs w (Under B) (.slice A n c) e.kids →
  Mn w B M bm v nm nx → nm.length = nx.length → Nx nx R → TabB w → 0 < B → B ≤ w.heap.size → nx.length + (place e nx.length).names.length ≤ 31 →
  Calls Tryd.prog 38 #[.pointer (some ⟨M, 0, none⟩), .agg #[.int .u8 e.op, .string e.name, .slice A n c]] w (AddPost B M bm v nm nx R w (place e nx.length))

/-- Under way: the places so far; the box of all, the box of what is answered. -/
structure AccAt (w : World) (B M bm : Nat) (v : Value) (nm : List ByteArray) (nx : List Nat) (R : List (Nat × Nat)) (wr : World) (acc : Pl) (f l : Nat) (b : Bool) (v' : Value) (nr : List Nat) : Prop where
  ends : Ends f l b acc
  mn : Mn wr B M bm v' (nm ++ acc.names) nr
  len : nr.length = nx.length + acc.names.length
  row : Nx nr (R ++ acc.fol)
  grw : Grw M bm v v' w wr
  all : wr.heap[w.heap.size + 1]? = some (.cells #[.int .u32 (f : Int), .int .u32 (l : Int), .bool b] 71)
  res : wr.heap[w.heap.size]? = some (.cells #[.int .u32 0, .int .u32 0, .bool false] 71)
  ap : ∀ k, v'.ownBlock = some k → k ≠ w.heap.size ∧ k ≠ w.heap.size + 1
  at_ : At acc nx.length
theorem seq_ge : ∀ (l : List Ex) (a : Pl) (n : Nat), a.names.length ≤ (placeSeq a l n).names.length
  | [], a, n => by unfold placeSeq; exact Nat.le_refl _
  | x :: l, a, n => by unfold placeSeq; have := seq_ge l (pCat a (place x n)) (n + (place x n).names.length); simp only [pCat, List.length_append] at this; exact Nat.le_trans (Nat.le_add_right _ _) this
theorem alt_ge : ∀ (l : List Ex) (a : Pl) (n : Nat), a.names.length ≤ (placeAlt a l n).names.length
  | [], a, n => by unfold placeAlt; exact Nat.le_refl _
  | x :: l, a, n => by unfold placeAlt; have := alt_ge l (pAlt a (place x n)) (n + (place x n).names.length); simp only [pAlt, List.length_append] at this; exact Nat.le_trans (Nat.le_add_right _ _) this
theorem drop_at {l : List Ex} {k : Nat} {x : Ex} (hx : l[k]? = some x) : l.drop k = x :: l.drop (k + 1) := by rw [List.drop_eq_getElem?_toList_append, hx]; rfl
theorem Nx.perm {nx : List Nat} {R a b c : List (Nat × Nat)} (h : Nx nx ((R ++ a) ++ b)) (e : ∀ x, x ∈ c ↔ x ∈ a ∨ x ∈ b) : Nx nx (R ++ c) :=
  h.congr fun x => by rw [List.mem_append, List.mem_append, List.mem_append, e, or_assoc]

/-- The table is kept. -/
theorem TabB.grw {w w' : World} {B M bm : Nat} {v v' : Value} {nm : List ByteArray} {nx : List Nat} (h : TabB w) (hg : Grw M bm v v' w w') (hm : Mn w B M bm v nm nx) (hT : 0 < B) (hB : B ≤ w.heap.size) : TabB w' :=
  fun j hj => (World.cell?_of_block (a := ⟨_, j, none⟩) ((hg.below hm hB).block _ hT)).trans (h j hj)

/-- A box of the call's own is kept while the meaning grows. -/
theorem Grw.box {M bm k : Nat} {v v' : Value} {a b : World} {o : Obj} (h : Grw M bm v v' a b) (hk : a.heap[k]? = some o) (h1 : k ≠ M) (h2 : k ≠ bm) (h3 : v.ownBlock ≠ some k) : b.heap[k]? = some o :=
  (h.block k (Array.getElem?_eq_some_iff.1 hk).1 h1 h2 h3).trans hk
theorem Grw.alloc {M bm : Nat} {v v' : Value} {w a : World} (h : Grw M bm v v' w a) (o : Obj) : Grw M bm v v' w (a.alloc o) :=
  h.after rfl rfl rfl (by simp) fun k hk => Below.heap_alloc _ _ _ (Nat.lt_of_lt_of_le hk h.size)
/-- What a part's answer makes of the boxes and the meaning. -/
structure Part (w : World) (B M bm : Nat) (v : Value) (nm : List ByteArray) (nx : List Nat) (R : List (Nat × Nat)) (w3 : World) (acc : Pl) (f l : Nat) (b : Bool) (p : Pl) (f' l' : Nat) (b' : Bool) (v2 : Value) (nr2 : List Nat) : Prop where
  ends : Ends f l b acc
  ends' : Ends f' l' b' p
  mn : Mn w3 B M bm v2 (nm ++ (acc.names ++ p.names)) nr2
  len : nr2.length = nx.length + (acc.names ++ p.names).length
  row : Nx nr2 (R ++ (acc.fol ++ p.fol))
  grw : Grw M bm v v2 w w3
  all : w3.heap[w.heap.size + 1]? = some (.cells #[.int .u32 (f : Int), .int .u32 (l : Int), .bool b] 71)
  res : w3.heap[w.heap.size]? = some (.cells #[.int .u32 0, .int .u32 0, .bool false] 71)
  ap : ∀ k, v2.ownBlock = some k → k ≠ w.heap.size ∧ k ≠ w.heap.size + 1
  at_ : At acc nx.length
  at' : At p (nx.length + acc.names.length)
theorem Part.of {w : World} {B M bm : Nat} {v v' : Value} {nm : List ByteArray} {nx nr : List Nat} {R : List (Nat × Nat)} {wr w3 : World} {acc : Pl} {f l : Nat} {b : Bool} {o : Obj} {x : Ex} {f' l' : Nat} {b' : Bool} {v2 : Value} {nr2 : List Nat}
    (h : AccAt w B M bm v nm nx R wr acc f l b v' nr) (hM : Mn w B M bm v nm nx) (he : Ends f' l' b' (place x nr.length)) (hm : Mn w3 B M bm v2 ((nm ++ acc.names) ++ (place x nr.length).names) nr2) (hl : nr2.length = nr.length + (place x nr.length).names.length) (hn : Nx nr2 ((R ++ acc.fol) ++ (place x nr.length).fol))
    (hg : Grw M bm v' v2 (wr.alloc o) w3) : Part w B M bm v nm nx R w3 acc f l b (place x (nx.length + acc.names.length)) f' l' b' v2 nr2 := by
  have hMl := hM.mlt
  have hbl := hM.map.lt
  have hz := h.grw.size
  have hwr : w.heap.size + 1 < wr.heap.size := (Array.getElem?_eq_some_iff.1 h.all).1
  rw [h.len] at he hm hl hn
  refine ⟨h.ends, he, by rw [← List.append_assoc]; exact hm, by rw [hl, List.length_append]; omega, hn.perm fun y => List.mem_append, (h.grw.alloc o).trans hg, ?_, ?_, fun k hk => ?_, h.at_, (place_means x _).1⟩
  · exact hg.box ((Below.heap_alloc _ _ _ hwr).trans h.all) (by omega) (by omega) fun e => (h.ap _ e).2 rfl
  · exact hg.box ((Below.heap_alloc _ _ _ (by omega)).trans h.res) (by omega) (by omega) fun e => (h.ap _ e).1 rfl
  · rcases hg.own with h1 | h1
    · exact h.ap k (h1.symm.trans hk)
    · have := h1 k hk
      have hz2 : (wr.alloc o).heap.size = wr.heap.size + 1 := by simp
      omega
/-- All of it, stored. -/
theorem Part.done {w : World} {B M bm : Nat} {v : Value} {nm : List ByteArray} {nx : List Nat} {R : List (Nat × Nat)} {w3 : World} {acc : Pl} {f l : Nat} {b : Bool} {p : Pl} {f' l' : Nat} {b' : Bool} {v2 : Value} {nr2 : List Nat} {q : Pl} {F L : Nat} {c : Bool} {o : Obj}
    (h : Part w B M bm v nm nx R w3 acc f l b p f' l' b' v2 nr2) (hM : Mn w B M bm v nm nx) (hq : Ends F L c q) (hn : q.names = acc.names ++ p.names) (hf : ∀ x, x ∈ q.fol ↔ x ∈ acc.fol ∨ x ∈ p.fol) (ha : At q nx.length) :
    AccAt w B M bm v nm nx R ((((w3.setCell ⟨w.heap.size + 1, 0, none⟩ (.int .u32 (F : Int))).setCell ⟨w.heap.size + 1, 1, none⟩ (.int .u32 (L : Int))).setCell ⟨w.heap.size + 1, 2, none⟩ (.bool c)).alloc o) q F L c v2 nr2 := by
  obtain ⟨x0, hx, hz⟩ := put3x (v0 := .int .u32 (F : Int)) (v1 := .int .u32 (L : Int)) (v2 := .bool c) h.all
  have hlt := (Array.getElem?_eq_some_iff.1 h.all).1
  have hMl := hM.mlt
  have hbl := hM.map.lt
  have hx' : ∀ j, j < w3.heap.size → j ≠ w.heap.size + 1 → (((((w3.setCell ⟨w.heap.size + 1, 0, none⟩ (.int .u32 (F : Int))).setCell ⟨w.heap.size + 1, 1, none⟩ (.int .u32 (L : Int))).setCell ⟨w.heap.size + 1, 2, none⟩ (.bool c)).alloc o)).heap[j]? = w3.heap[j]? := fun j hj hne => (Below.heap_alloc _ _ _ (by omega)).trans (hx j hne)
  refine ⟨hq, ?_, by rw [hn]; exact h.len, h.row.congr fun x => by rw [List.mem_append, List.mem_append, List.mem_append, hf], h.grw.after rfl rfl rfl (by simp [World.setCell]) fun j hj => hx' j (by omega) (by omega), (Below.heap_alloc _ _ _ (by omega)).trans x0, (hx' _ (by omega) (by omega)).trans h.res, h.ap, ha⟩
  rw [hn]
  refine h.mn.keepAt fun j hj => ?_
  rcases hj with rfl | rfl | hj
  · exact hx' _ (by omega) (by omega)
  · exact hx' _ (by omega) (by omega)
  · exact hx' _ (h.mn.row.lt j hj).2 (h.ap j hj).2
set_option maxHeartbeats 4000000 in
theorem addChoice_of (l : List Ex) (IH : Hid (∀ x ∈ l, AddSaid x)) (B M bm : Nat) (v : Value) (nm : List ByteArray) (nx : List Nat) (R : List (Nat × Nat)) (w : World) (A : Option Addr) (n c : Nat) (hf : Ex.fitsAll l) (ha : allEs okN l = true) (hl : Exs w (Under B) (.slice A n c) l)
    (hM : Mn w B M bm v nm nx) (hln : nm.length = nx.length) (hN : Nx nx R) (hT : TabB w) (hG : 0 < B) (hB : B ≤ w.heap.size) (hc : nx.length + (placeAlt pVoid l nx.length).names.length ≤ 31) :
    Calls Tryd.prog 52 #[.pointer (some ⟨M, 0, none⟩), .slice A n c] w (AddPost B M bm v nm nx R w (placeAlt pVoid l nx.length)) := by
  have hlen := hl.len
  obtain ⟨A', c', hv, hc', hm, _⟩ := id hl
  injection hv with hA hn hcc
  subst hA hn hcc
  unfold maxLen at hm
  have HA := Lib.hid hl
  have HM := Lib.hid hM
  have HT := Lib.hid hT
  have HFA := Lib.hid hf
  have HAL := Lib.hid ha
  have hMl := hM.mlt
  have hbl := hM.map.lt
  have HC := Lib.hid hc
  have HB2 : Hid (Below w.heap.size w ((w.alloc (.cells #[.int .u32 0, .int .u32 0, .bool false] 71)).alloc (.cells #[.int .u32 0, .int .u32 0, .bool false] 71))) := Lib.hid (((Below.refl _ _).alloc (Nat.le_refl _) _).alloc (by simp) _)
  have HST : Hid (AccAt w B M bm v nm nx R ((w.alloc (.cells #[.int .u32 0, .int .u32 0, .bool false] 71)).alloc (.cells #[.int .u32 0, .int .u32 0, .bool false] 71)) pVoid 0 0 false v nx) := Lib.hid
    ⟨ends_void, by have h := hM.below HB2.out; simpa [pVoid] using h, by simp [pVoid], by simpa [pVoid] using hN, Grw.of_below M bm v HB2.out, heap_new' _ _ (by simp), (Below.heap_alloc _ _ _ (by simp)).trans (heap_new _ _), fun k hk => by have := (hM.row.lt k hk).2; omega, at_void _⟩
  clear hl hM hT hf ha hc
  go_enter Tryd.func52, Tryd.ntmps52
  go_wp2
  go_loopw [11] (fun i wr => ∃ (k : Nat) (acc : Pl) (f g : Nat) (b : Bool) (v' : Value) (nr : List Nat), k ≤ l.length ∧ i = .int .i64 k ∧ Hid (AccAt w B M bm v nm nx R wr acc f g b v' nr) ∧ Hid (placeAlt pVoid l nx.length = placeAlt acc (l.drop k) (nx.length + acc.names.length))) (fun i _ => l.length - (intOf i).toNat)
  case atStart => exact ⟨0, pVoid, 0, 0, false, v, nx, by omega, rfl, HST, Lib.hid (by simp [pVoid])⟩
  case round =>
    obtain ⟨k, acc, f, g, b, v', nr, hk, rfl, hac, hrest⟩ := hrel
    by_cases hlt : k < l.length
    · have hlx : l[k]? = some l[k] := List.getElem?_eq_getElem hlt
      generalize hx : l[k] = x at *
      have HBR := Lib.hid (hac.out.grw.below HM.out hB)
      have HXR := Lib.hid (HA.out.below HBR.out)
      obtain ⟨bk, off, rfl, _, hat⟩ := HXR.out.get hlx
      obtain ⟨vk, f0, f1, f2, exk⟩ := (exAt_iff x bk _).1 hat
      obtain ⟨A3, c3, rfl, _⟩ := id exk
      have hl3 := cell_lt f0
      have HX := Lib.hid hlx
      have HEK := Lib.hid exk
      clear exk hx hlx hat
      go_wp2_with fail
      have hxm := List.mem_of_getElem? HX.out
      have HBX : Hid (Below wr.heap.size wr (wr.alloc (.cells #[.int .u8 x.op, .string x.name, .slice A3 x.kids.length c3] 24))) := Lib.hid ((Below.refl _ _).alloc (Nat.le_refl _) _)
      have hBr : B ≤ wr.heap.size := Nat.le_trans hB HBR.out.size
      have hBw2 : B ≤ (wr.alloc (.cells #[.int .u8 x.op, .string x.name, .slice A3 x.kids.length c3] 24)).heap.size := Nat.le_trans hBr HBX.out.size
      have hcnt : nr.length + (place x nr.length).names.length ≤ 31 := by
        have h1 := HC.out
        have h2 := alt_ge (l.drop (k + 1)) (pAlt acc (place x (nx.length + acc.names.length))) (nx.length + acc.names.length + (place x (nx.length + acc.names.length)).names.length)
        rw [hrest.out, drop_at HX.out, placeAlt] at h1
        rw [show (pAlt acc (place x (nx.length + acc.names.length))).names.length = acc.names.length + (place x (nx.length + acc.names.length)).names.length by simp [pAlt]] at h2
        rw [hac.out.len]
        omega
      refine (IH.out x hxm B M bm v' (nm ++ acc.names) nr (R ++ acc.fol) _ A3 _ c3 (Ex.fits_mem HFA.out hxm) (mem_allEs HAL.out x hxm) (HEK.out.keep (fun _ h => h) fun b hb => HBX.out.block b (Nat.lt_of_lt_of_le hb hBr)) (hac.out.mn.below HBX.out) (by rw [List.length_append, hac.out.len, hln]) hac.out.row ((HT.out.grw hac.out.grw HM.out hG hB).below HBX.out) hG hBw2 hcnt).mono ?_
      rintro e w3 ⟨f', g', b', v2, nr2, rfl, he2, hm2, hl2, hn2, hg2⟩
      have HP := Lib.hid (Part.of hac.out HM.out he2 hm2 hl2 hn2 hg2)
      have HR1 : Hid (placeAlt pVoid l nx.length = placeAlt (pAlt acc (place x (nx.length + acc.names.length))) (l.drop (k + 1)) (nx.length + (pAlt acc (place x (nx.length + acc.names.length))).names.length)) := Lib.hid (by
        rw [hrest.out, drop_at HX.out, placeAlt]; simp only [pAlt, List.length_append]; rw [Nat.add_assoc])
      obtain ⟨a0, a1, a2⟩ := three_cells HP.out.all
      have z0 := frozen_of_row _ (w.heap.size + 1) 0 _ _ HP.out.all
      have z1 := frozen_of_row _ (w.heap.size + 1) 1 _ _ HP.out.all
      have z2 := frozen_of_row _ (w.heap.size + 1) 2 _ _ HP.out.all
      have hza := cell_lt a0
      have eo1 : bits .or .u32 (f : Int) (f' : Int) = ((f ||| f' : Nat) : Int) := u32_or_nat _ _ HP.out.ends.first.1 HP.out.ends'.first.1
      have eo2 : bits .or .u32 (g : Int) (g' : Int) = ((g ||| g' : Nat) : Int) := u32_or_nat _ _ HP.out.ends.last.1 HP.out.ends'.last.1
      clear he2 hm2 hl2 hn2 hg2 hac hrest HBX HBR HXR hcnt hBr hBw2 f0 f1 f2
      cases b with
      | true =>
        go_wp2
        exact ⟨⟨k + 1, pAlt acc (place x (nx.length + acc.names.length)), f ||| f', g ||| g', true, v2, nr2, by omega, by go_num, Lib.hid (HP.out.done HM.out (by simpa using HP.out.ends.alt HP.out.ends') rfl (fun y => List.mem_append) (at_alt HP.out.at_ HP.out.at')), HR1⟩, by simp [intOf]; omega⟩
      | false =>
        go_wp2
        exact ⟨⟨k + 1, pAlt acc (place x (nx.length + acc.names.length)), f ||| f', g ||| g', b', v2, nr2, by omega, by go_num, Lib.hid (HP.out.done HM.out (by simpa using HP.out.ends.alt HP.out.ends') rfl (fun y => List.mem_append) (at_alt HP.out.at_ HP.out.at')), HR1⟩, by simp [intOf]; omega⟩
    · have HE : Hid (placeAlt pVoid l nx.length = acc) := Lib.hid (by rw [hrest.out, List.drop_of_length_le (by omega)]; unfold placeAlt; rfl)
      have HAC := Lib.hid hac.out
      obtain ⟨a0, a1, a2⟩ := three_cells hac.out.all
      obtain ⟨r0, r1, r2⟩ := three_cells hac.out.res
      have z0 := frozen_of_row _ w.heap.size 0 _ _ hac.out.res
      have z1 := frozen_of_row _ w.heap.size 1 _ _ hac.out.res
      have z2 := frozen_of_row _ w.heap.size 2 _ _ hac.out.res
      have hzr := cell_lt a0
      clear hac hrest
      go_wp2
      obtain ⟨x0, hx, hz⟩ := put3x (v0 := .int .u32 f) (v1 := .int .u32 g) (v2 := .bool b) HAC.out.res
      obtain ⟨y0, y1, y2⟩ := three_cells x0
      refine bodyPost_ret (v := .agg #[.int .u32 f, .int .u32 g, .bool b]) (by simp [results, Tryd.results52, go_sem, y0, y1, y2]) rfl ⟨f, g, b, v', nr, rfl, ?_, ?_, ?_, ?_, ?_⟩
      · rw [HE.out]; exact HAC.out.ends
      · rw [HE.out]
        refine HAC.out.mn.keepAt fun j hj => hx j ?_
        rcases hj with rfl | rfl | hj
        · exact Nat.ne_of_lt hMl
        · exact Nat.ne_of_lt hbl
        · exact (HAC.out.ap j hj).1
      · rw [HE.out]; exact HAC.out.len
      · rw [HE.out]; exact HAC.out.row
      · exact HAC.out.grw.after rfl rfl rfl (Nat.le_of_eq hz.symm) fun j hj => hx j (Nat.ne_of_lt hj)
end Go.Proofs.YtldmimekmjmkgaaDoor
