/-
  What node.asOne answers.
-/
import Derived.Test.YtamoklceekeheaaDoorW23
namespace Go.Proofs.YtamoklceekeheaaDoor
open Go.RowKit Go.Sort

/-- A builder whose row of bytes lies at g. -/
def BuilAt (w : World) (b g : Nat) (l : List UInt8) : Prop := ∃ p cap cur fz, w.heap[b]? = some (.cells #[p, .slice (some ⟨g, 0, none⟩) l.length cap] 99 (0, 0)) ∧ w.heap[g]? = some (.cells cur 5 fz) ∧ l.length ≤ cap ∧ cap ≤ maxLen ∧ cur.size = cap ∧ cur.toList.take l.length = Lib.byteCells l
theorem BuilAt.below {w w' : World} {b g : Nat} {l : List UInt8} (h : BuilAt w b g l) (hb : Below w.heap.size w w') : BuilAt w' b g l := by
  obtain ⟨p, cap, cur, fz, h1, h2, rest⟩ := h
  exact ⟨p, cap, cur, fz, (hb.block b (Array.getElem?_eq_some_iff.1 h1).1).trans h1, (hb.block g (Array.getElem?_eq_some_iff.1 h2).1).trans h2, rest⟩
theorem Buil.row {w : World} {B b : Nat} {l : List UInt8} (h : Buil w B b l) (h0 : l ≠ []) : ∃ g, B ≤ g ∧ g < w.heap.size ∧ BuilAt w b g l := by
  have key : ∀ p, Lib.BuilderAtF 99 5 B b p (Lib.byteCells l) w → ∃ g, B ≤ g ∧ g < w.heap.size ∧ BuilAt w b g l := fun p hp => by
    obtain ⟨hB, v, hbk, hown, hne⟩ := hp
    rw [Lib.byteCells_length] at hown
    rcases hown.2 with ⟨_, hz⟩ | ⟨g, cap, cur, fz, rfl, hbg, hg, hfz, hnc, hcm, hcs, htk⟩
    · exact absurd (List.eq_nil_of_length_eq_zero hz) h0
    · exact ⟨g, hbg, (Array.getElem?_eq_some_iff.1 hg).1, p, cap, cur, fz, hbk, hg, hnc, hcm, by omega, by rw [Nat.mul_one] at htk; exact htk⟩
  rcases h with h | h
  · exact key _ h
  · exact key _ h

set_option maxHeartbeats 1000000 in
theorem string_at (b g : Nat) (l : List UInt8) (w : World) (h0 : l ≠ []) (h : BuilAt w b g l) :
    Calls Tryd.prog 70 #[.pointer (some ⟨b, 0, none⟩)] w fun e w' => e = .returned (.string ⟨l.toArray⟩) ∧ w' = w.drew.freeze ⟨g, 0, none⟩ l.length := by
  obtain ⟨p, cap, cur, fz, hbk, hg, hlc, hcm, hcs, htk⟩ := h
  have hl0 : l.length ≠ 0 := by simpa using h0
  have c1 : w.drew.cell? ⟨b, 1, none⟩ = some (.slice (some ⟨g, 0, none⟩) l.length cap) := by
    have h : w.drew.heap[b]? = some (.cells #[p, .slice (some ⟨g, 0, none⟩) l.length cap] 99 (0, 0)) := hbk
    simp only [World.cell?, h]; rfl
  have hSD : (Builtin.unsafeSliceData_ #[97] 108 #[.slice (some ⟨g, 0, none⟩) l.length cap]).run Tryd.prog w.drew = .ok (.pointer (some ⟨g, 0, none⟩)) w.drew := Lib.run_unsafeSliceData_row _ _ _ _ _ _ (by omega)
  have hUS : (Builtin.unsafeString_ #[108, 3] 9 #[.pointer (some ⟨g, 0, none⟩), .int .i64 l.length]).run Tryd.prog w.drew = .ok (.string ⟨l.toArray⟩) (w.drew.freeze ⟨g, 0, none⟩ l.length) := by
    have h : w.drew.heap[g]? = some (.cells cur 5 fz) := hg
    refine Lib.run_unsafeString_row w.drew 108 3 9 5 Tryd.underlying108 extraString.cellsByte g cur.size (by simp [World.shape?, h]) l h0 (by omega) (by unfold maxLen at hcm; omega) ?_
    intro j x hx
    have hj := (List.getElem?_eq_some_iff.1 hx).1
    have h1 : (cur.toList.take l.length)[j]? = some (.int .u8 x.toNat) := by rw [htk]; simp [Lib.byteCells, hx]
    rw [List.getElem?_take_of_lt hj] at h1
    rw [add_cell]
    simp only [World.cell?, h]
    simpa using h1
  have HZ := Lib.hid hl0
  have mixed := laysString.mixed
  clear hbk hg hlc hcm hcs htk hl0
  go_enter Tryd.func70, Tryd.ntmps70
  go_wp2
  go_region_o
  all_goals (go_wp2; go_ret; exact ⟨rfl, rfl⟩)

theorem freeze_only (w : World) (g n : Nat) : Only g w (w.drew.freeze ⟨g, 0, none⟩ n) := by
  unfold World.freeze
  split
  · exact ⟨rfl, rfl, rfl, Nat.le_refl _, fun _ _ _ => rfl⟩
  · refine ⟨rfl, rfl, rfl, ?_, fun i hi hn => ?_⟩
    · show w.heap.size ≤ (w.drew.heap.modify g _).size
      rw [Array.size_modify]; exact Nat.le_refl _
    · have hne : i ≠ g := fun e => hn (by rw [e])
      show (w.drew.heap.modify g _)[i]? = _
      rw [Array.getElem?_modify, if_neg (Ne.symm hne)]; rfl

theorem string_only (b g : Nat) (l : List UInt8) (w : World) (h0 : l ≠ []) (h : BuilAt w b g l) :
    Calls Tryd.prog 70 #[.pointer (some ⟨b, 0, none⟩)] w fun e w' => e = .returned (.string ⟨l.toArray⟩) ∧ Only g w w' :=
  (string_at b g l w h0 h).mono fun _ _ ⟨he, hw⟩ => ⟨he, by rw [hw]; exact freeze_only w g _⟩

def OnePost (w : World) (S : Nat → Prop) (l : List Tree) (e : Ending) (w' : World) : Prop := ∃ v', e = .returned v' ∧ Node w' (fun b => S b ∨ From w.heap.size w'.heap.size b) v' (asOneB l) ∧ Below w.heap.size w w'

set_option maxHeartbeats 1000000 in
theorem asOne_one (v : Value) (x : Tree) (S : Nat → Prop) (w : World) (h : Kids w S v [x]) (hS : ∀ b, S b → b < w.heap.size) :
    Calls Tryd.prog 50 #[v] w (OnePost w S [x]) := by
  obtain ⟨A, c, rfl, hlc⟩ := h.form
  obtain ⟨b, o, rfl, hub, hrow⟩ := h.get (k := 0) (by simp)
  have hub := hS b hub
  obtain ⟨xm, xa, xk, e0, e1, e2, e3, e4, exm, exa, exk⟩ := hrow.node (i := 0) (t := x) rfl
  simp only [Nat.zero_mul, Nat.add_zero] at e0 e1 e2 e3 e4
  have HS := Lib.hid hS
  have HXP := Lib.hid (And.intro exm (And.intro exa exk))
  obtain ⟨A1, c1, rfl, _⟩ := exm.form
  obtain ⟨A2, c2, rfl, _⟩ := exa.form
  obtain ⟨A3, c3, rfl, _⟩ := exk.form
  clear exm exa exk hrow h hS
  go_enter Tryd.func50, Tryd.ntmps50
  go_wp2
  generalize hW : (w.alloc _).alloc _ = W
  have hB : Below w.heap.size w W := by subst hW; exact ((Below.refl _ _).alloc (Nat.le_refl _) _).alloc (by simp) _
  refine bodyPost_ret (v := .agg #[.string x.kind, .string x.text, .slice A1 x.marks.length c1, .slice A2 x.attrs.length c2, .slice A3 x.kids.length c3]) (by subst hW; simp [results, Tryd.results50, go_sem]) rfl ⟨_, rfl, ⟨_, _, _, rfl, ?_, ?_, ?_⟩, hB⟩
  · exact HXP.out.1.keep (fun b hb => .inl hb) (fun b hb => hB.block b (HS.out b hb))
  · exact HXP.out.2.1.keep (fun b hb => .inl hb) (fun b hb => hB.block b (HS.out b hb))
  · exact HXP.out.2.2.keep (fun b hb => .inl hb) (fun b hb => hB.block b (HS.out b hb))

set_option maxHeartbeats 2000000 in
theorem asOne_many (v : Value) (l : List Tree) (S : Nat → Prop) (w : World) (h : Kids w S v l) (hS : ∀ b, S b → b < w.heap.size) (h2 : 2 ≤ l.length) (hne : textsB l ≠ []) (hw : weighAll l ≤ 1000000) :
    Calls Tryd.prog 50 #[v] w (OnePost w S l) := by
  have hlen : l.length ≤ 1000000 := by have := length_le_weigh l; omega
  obtain ⟨A, c, rfl, hlc⟩ := h.form
  obtain ⟨b, o, rfl, hub, hrow⟩ := h.get (k := l.length - 1) (by omega)
  have hub := hS b hub
  have hly : l[l.length - 1]? = some (l[l.length - 1]'(by omega)) := List.getElem?_eq_getElem (by omega)
  generalize hy : l[l.length - 1]'(by omega) = y at *
  have HONE : Hid (asOneB l = setText y ⟨(textsB l).toArray⟩) := Lib.hid (asOneB_many l y (by omega) (by rw [List.getLast?_eq_getElem?]; exact hly))
  have hwy := weigh_mem (List.mem_of_getElem? hly)
  obtain ⟨ym, ya, yk, e0, e1, e2, e3, e4, eym, eya, eyk⟩ := hrow.node hly
  have HS := Lib.hid hS
  have HR := Lib.hid hrow
  have HYN : Hid (Node w (Under w.heap.size) (.agg #[.string y.kind, .string y.text, ym, ya, yk]) y) := Lib.hid (Node.keep (S := S) ⟨_, _, _, rfl, eym, eya, eyk⟩ (fun b hb => hS b hb) (fun _ _ => rfl))
  obtain ⟨A1, c1, rfl, _⟩ := eym.form
  obtain ⟨A2, c2, rfl, _⟩ := eya.form
  obtain ⟨A3, c3, rfl, _⟩ := eyk.form
  have HNE := Lib.hid hne
  have g1 : ((l.length : Int) - 1).toNat = l.length - 1 := by omega
  have g2 : ((l.length : Int) == 1) = false := by rw [beq_eq_false_iff_ne]; omega
  clear eym eya eyk hrow h hS hy hly hne
  go_enter Tryd.func50, Tryd.ntmps50
  go_wp2
  generalize hW0 : ((w.alloc _).alloc _).alloc _ = W0
  have HB0 : Hid (Below w.heap.size w W0) := Lib.hid (by subst hW0; exact (((Below.refl _ _).alloc (Nat.le_refl _) _).alloc (by simp) _).alloc (by simp; omega) _)
  have hz0 : W0.heap.size = w.heap.size + 3 := by subst hW0; simp
  have HRES : Hid (W0.heap[w.heap.size]? = some (.cells #[.string ⟨#[]⟩, .string ⟨#[]⟩, .slice none 0 0, .slice none 0 0, .slice none 0 0] 28)) := Lib.hid (by subst hW0; exact heap_old _ _ _ (heap_old _ _ _ (heap_new _ _)))
  have HLST : Hid (W0.heap[w.heap.size + 1]? = some (.cells #[.string y.kind, .string y.text, .slice A1 y.marks.length c1, .slice A2 y.attrs.length c2, .slice A3 y.kids.length c3] 28)) := Lib.hid (by subst hW0; exact heap_old _ _ _ (heap_new' _ _ (by simp)))
  have HI : Hid (Buil W0 (w.heap.size + 2) (w.heap.size + 2) []) := Lib.hid (by
    subst hW0
    have h := Lib.IsBuilderF.of (Lib.fresh_isBuilder 99 5 ((w.alloc (.cells #[.string ⟨#[]⟩, .string ⟨#[]⟩, .slice none 0 0, .slice none 0 0, .slice none 0 0] 28)).alloc (.cells #[.string y.kind, .string y.text, .slice A1 y.marks.length c1, .slice A2 y.attrs.length c2, .slice A3 y.kids.length c3] 28)))
    rw [show ((w.alloc (.cells #[.string ⟨#[]⟩, .string ⟨#[]⟩, .slice none 0 0, .slice none 0 0, .slice none 0 0] 28)).alloc (.cells #[.string y.kind, .string y.text, .slice A1 y.marks.length c1, .slice A2 y.attrs.length c2, .slice A3 y.kids.length c3] 28)).heap.size = w.heap.size + 2 by simp] at h
    exact h)
  have HZ0 := Lib.hid hz0
  clear hW0 hz0 e0 e1 e2 e3 e4
  go_loopw [20] (fun i wr => ∃ k : Nat, k ≤ l.length ∧ i = .int .i64 k ∧ Below (w.heap.size + 2) W0 wr ∧ Hid (Buil wr (w.heap.size + 2) (w.heap.size + 2) (textsB (l.take k)))) (fun i _ => l.length - (intOf i).toNat)
  case atStart => exact ⟨0, by omega, rfl, Below.refl _ _, Lib.hid (by simpa [textsB] using HI.out)⟩
  case round =>
    obtain ⟨i, hi, rfl, hbr, hcr⟩ := hrel
    have hws := hbr.size
    have hz := HZ0.out
    have hbw : Below w.heap.size w wr := HB0.out.trans (hbr.mono (by omega))
    by_cases hlt : i < l.length
    · have hlx : l[i]? = some l[i] := List.getElem?_eq_getElem hlt
      have HTK : Hid (l.take (i + 1) = l.take i ++ [l[i]]) := Lib.hid (List.take_succ_eq_append_getElem hlt)
      generalize hx : l[i] = x at *
      have hwx := weighAll_take_get l i x HTK.out
      obtain ⟨xm, xa, xk, e0, e1, e2, e3, e4, exm, exa, exk⟩ := HR.out.node hlx
      have f0 := (hbw.cell (p := ⟨b, o + i * 5, none⟩) hub).trans e0
      have f1 := (hbw.cell (p := ⟨b, o + i * 5 + 1, none⟩) hub).trans e1
      have f2 := (hbw.cell (p := ⟨b, o + i * 5 + 2, none⟩) hub).trans e2
      have f3 := (hbw.cell (p := ⟨b, o + i * 5 + 3, none⟩) hub).trans e3
      have f4 := (hbw.cell (p := ⟨b, o + i * 5 + 4, none⟩) hub).trans e4
      obtain ⟨A4, c4, rfl, _⟩ := exm.form
      obtain ⟨A5, c5, rfl, _⟩ := exa.form
      obtain ⟨A6, c6, rfl, _⟩ := exk.form
      have hbl := cell_lt f0
      have htl := textsB_le (l.take i)
      have hxt := text_le_weigh x
      clear e0 e1 e2 e3 e4 exm exa exk hx hlx hz
      go_wp2_with fail
      generalize hW2 : wr.alloc _ = W2 at *
      have HA : Hid (Below wr.heap.size wr W2) := Lib.hid (by subst hW2; exact (Below.refl _ _).alloc (Nat.le_refl _) _)
      clear hW2
      refine (write_any (w.heap.size + 2) (w.heap.size + 2) (textsB (l.take i)) x.text W2 (hcr.out.below HA.out) (by omega) (by have := HA.out.size; have := HZ0.out; omega)).mono ?_
      rintro e w2 ⟨rfl, hb2, hB2, _⟩
      have HC := Lib.hid hb2
      have HO := Lib.hid (hbr.trans ((HA.out.mono (by have := HZ0.out; omega)).trans hB2))
      clear hb2 hB2 f0 f1 f2 f3 f4
      go_wp2
      refine ⟨⟨i + 1, by omega, by go_num, HO.out, Lib.hid ?_⟩, by simp [intOf]; omega⟩
      have h := HC.out
      rw [HTK.out, textsB_append, textsB_one]
      exact h
    · have hfull : l.take i = l := List.take_of_length_le (by omega)
      rw [hfull] at hcr
      obtain ⟨g, hg2, hgl, hbat⟩ := hcr.out.row HNE.out
      have HBA := Lib.hid hbat
      have hls : wr.heap[w.heap.size + 1]? = _ := (hbr.block _ (by omega)).trans HLST.out
      have y0 : wr.cell? ⟨w.heap.size + 1, 0, none⟩ = some (.string y.kind) := by simp only [World.cell?, hls]; rfl
      have y1 : wr.cell? ⟨w.heap.size + 1, 1, none⟩ = some (.string y.text) := by simp only [World.cell?, hls]; rfl
      have y2 : wr.cell? ⟨w.heap.size + 1, 2, none⟩ = some (.slice A1 y.marks.length c1) := by simp only [World.cell?, hls]; rfl
      have y3 : wr.cell? ⟨w.heap.size + 1, 3, none⟩ = some (.slice A2 y.attrs.length c2) := by simp only [World.cell?, hls]; rfl
      have y4 : wr.cell? ⟨w.heap.size + 1, 4, none⟩ = some (.slice A3 y.kids.length c3) := by simp only [World.cell?, hls]; rfl
      clear hls hbat hfull hcr
      go_wp2_with fail
      refine (copy_any _ y wr ((HYN.out.below hbw).more hbw.size) (by omega)).mono ?_
      rintro e w5 ⟨v5, rfl, hn5, hb5⟩
      obtain ⟨nm, na, nk, rfl, hnm, hna, hnk⟩ := hn5
      have HN5 := Lib.hid (And.intro hnm (And.intro hna hnk))
      obtain ⟨B4, e4', rfl, _⟩ := hnm.form
      obtain ⟨B5, e5', rfl, _⟩ := hna.form
      obtain ⟨B6, e6', rfl, _⟩ := hnk.form
      have HB5 := Lib.hid hb5
      clear hnm hna hnk y0 y1 y2 y3 y4 hb5
      go_wp2_with fail
      generalize hW6 : w5.alloc _ = W6 at *
      have HA6 : Hid (Below w5.heap.size w5 W6) := Lib.hid (by subst hW6; exact (Below.refl _ _).alloc (Nat.le_refl _) _)
      have HONE6 : Hid (W6.heap[w5.heap.size]? = some (.cells #[.string y.kind, .string y.text, .slice B4 y.marks.length e4', .slice B5 y.attrs.length e5', .slice B6 y.kids.length e6'] 28)) := Lib.hid (by subst hW6; exact heap_new _ _)
      have hz6 : W6.heap.size = w5.heap.size + 1 := by subst hW6; simp
      clear hW6
      have hB6 := belowNext HB5.out HA6.out
      refine (string_only (w.heap.size + 2) g (textsB l) W6 HNE.out (HBA.out.below hB6)).mono ?_
      rintro e w7 ⟨rfl, ho7⟩
      have h5s := HB5.out.size
      have hr7 : w7.heap[w5.heap.size]? = _ := (ho7.block _ (by omega) (fun e => by have := Option.some.inj e; omega)).trans HONE6.out
      have hr0 : w7.heap[w.heap.size]? = _ := (ho7.block _ (by omega) (fun e => by have := Option.some.inj e; omega)).trans ((hB6.block _ (by omega)).trans ((hbr.block _ (by omega)).trans HRES.out))
      have x0 : w7.cell? ⟨w5.heap.size, 0, none⟩ = some (.string y.kind) := by simp only [World.cell?, hr7]; rfl
      have x1 : w7.cell? ⟨w5.heap.size, 1, none⟩ = some (.string y.text) := by simp only [World.cell?, hr7]; rfl
      have x2 : w7.cell? ⟨w5.heap.size, 2, none⟩ = some (.slice B4 y.marks.length e4') := by simp only [World.cell?, hr7]; rfl
      have x3 : w7.cell? ⟨w5.heap.size, 3, none⟩ = some (.slice B5 y.attrs.length e5') := by simp only [World.cell?, hr7]; rfl
      have x4 : w7.cell? ⟨w5.heap.size, 4, none⟩ = some (.slice B6 y.kids.length e6') := by simp only [World.cell?, hr7]; rfl
      have xq : w7.frozen? ⟨w5.heap.size, 1, none⟩ = false := by simp [World.frozen?, hr7]
      have p0 : w7.cell? ⟨w.heap.size, 0, none⟩ = some (.string ⟨#[]⟩) := by simp only [World.cell?, hr0]; rfl
      have p1 : w7.cell? ⟨w.heap.size, 1, none⟩ = some (.string ⟨#[]⟩) := by simp only [World.cell?, hr0]; rfl
      have p2 : w7.cell? ⟨w.heap.size, 2, none⟩ = some (.slice none 0 0) := by simp only [World.cell?, hr0]; rfl
      have p3 : w7.cell? ⟨w.heap.size, 3, none⟩ = some (.slice none 0 0) := by simp only [World.cell?, hr0]; rfl
      have p4 : w7.cell? ⟨w.heap.size, 4, none⟩ = some (.slice none 0 0) := by simp only [World.cell?, hr0]; rfl
      have q : ∀ o, w7.frozen? ⟨w.heap.size, o, none⟩ = false := fun o => by simp [World.frozen?, hr0]
      have q0 := q 0
      have q1 := q 1
      have q2 := q 2
      have q3 := q 3
      have q4 := q 4
      have HO7 := Lib.hid ho7
      have HB6 := Lib.hid hB6
      have hzw5 : w.heap.size < w5.heap.size := by omega
      obtain ⟨_, _, _, blk8, sz8, os8⟩ := set_one (w := w7) (g := w5.heap.size) (o := 1) (v := .string ⟨(textsB l).toArray⟩) x1
      have hn5 : w.heap.size ≠ w5.heap.size := by omega
      have r8 : ∀ j, (w7.setCell ⟨w5.heap.size, 1, none⟩ (.string ⟨(textsB l).toArray⟩)).cell? ⟨w.heap.size, j, none⟩ = w7.cell? ⟨w.heap.size, j, none⟩ := fun j => World.cell?_of_block (a := ⟨w.heap.size, j, none⟩) (blk8 _ hn5)
      obtain ⟨s0, s1, s2, s3, s4, hbl, hzs⟩ := set5 (w := w7.setCell ⟨w5.heap.size, 1, none⟩ (.string ⟨(textsB l).toArray⟩)) (v0 := .string y.kind) (v1 := .string ⟨(textsB l).toArray⟩) (v2 := .slice B4 y.marks.length e4') (v3 := .slice B5 y.attrs.length e5') (v4 := .slice B6 y.kids.length e6') ((r8 0).trans p0) ((r8 1).trans p1) ((r8 2).trans p2) ((r8 3).trans p3) ((r8 4).trans p4)
      have HBL := Lib.hid (fun b (h1 : b ≠ w.heap.size) (h2 : b ≠ w5.heap.size) => (hbl b h1).trans (blk8 b h2))
      have HQ := Lib.hid (And.intro s0 (And.intro s1 (And.intro s2 (And.intro s3 s4))))
      have HZS := Lib.hid (hzs.trans sz8)
      have hzo := set5_os (w7.setCell ⟨w5.heap.size, 1, none⟩ (.string ⟨(textsB l).toArray⟩)) w.heap.size (.string y.kind) (.string ⟨(textsB l).toArray⟩) (.slice B4 y.marks.length e4') (.slice B5 y.attrs.length e5') (.slice B6 y.kids.length e6')
      have HZO := Lib.hid (And.intro (hzo.1.trans os8.1) (And.intro (hzo.2.1.trans os8.2.1) (hzo.2.2.trans os8.2.2)))
      clear hr7 hr0 q ho7 hB6 hbl s0 s1 s2 s3 s4 hzs hzo blk8 sz8 os8 r8 hn5
      go_wp2
      generalize (((((w7.setCell ⟨w5.heap.size, 1, none⟩ (.string ⟨(textsB l).toArray⟩)).setCell ⟨w.heap.size, 0, none⟩ (.string y.kind)).setCell ⟨w.heap.size, 1, none⟩ (.string ⟨(textsB l).toArray⟩)).setCell ⟨w.heap.size, 2, none⟩ (.slice B4 y.marks.length e4')).setCell ⟨w.heap.size, 3, none⟩ (.slice B5 y.attrs.length e5')).setCell ⟨w.heap.size, 4, none⟩ (.slice B6 y.kids.length e6') = W9 at *
      obtain ⟨s0, s1, s2, s3, s4⟩ := HQ.out
      have kb : ∀ b, From wr.heap.size w5.heap.size b → W9.heap[b]? = w5.heap[b]? := fun b hb => by
        have h1 := hb.1
        have h2 := hb.2
        exact (HBL.out b (by omega) (by omega)).trans ((HO7.out.block b (by omega) (fun e => by have := Option.some.inj e; omega)).trans (HA6.out.block b h2))
      have hz7 := HO7.out.size
      have hz9 := HZS.out
      have kf : ∀ b, From wr.heap.size w5.heap.size b → S b ∨ From w.heap.size W9.heap.size b := fun b hb => .inr ⟨by have := hb.1; omega, by have := hb.2; omega⟩
      refine bodyPost_ret (v := .agg #[.string y.kind, .string ⟨(textsB l).toArray⟩, .slice B4 y.marks.length e4', .slice B5 y.attrs.length e5', .slice B6 y.kids.length e6']) (by simp [results, Tryd.results50, go_sem, s0, s1, s2, s3, s4]) rfl ⟨_, rfl, ?_, ?_⟩
      · rw [HONE.out]
        exact ⟨_, _, _, rfl, HN5.out.1.keep kf kb, HN5.out.2.1.keep kf kb, HN5.out.2.2.keep kf kb⟩
      · refine ⟨HZO.out.1.trans (HO7.out.os.trans (HB6.out.os.trans hbw.os)), HZO.out.2.1.trans (HO7.out.tape.trans (HB6.out.tape.trans hbw.tape)), HZO.out.2.2.trans (HO7.out.output.trans (HB6.out.output.trans hbw.output)), by omega, fun b hb => ?_⟩
        exact (HBL.out b (by omega) (by omega)).trans ((HO7.out.block b (by omega) (fun e => by have := Option.some.inj e; omega)).trans ((HB6.out.block b (by omega)).trans (hbw.block b hb)))

theorem asOne_any (v : Value) (l : List Tree) (S : Nat → Prop) (w : World) (h : Kids w S v l) (hS : ∀ b, S b → b < w.heap.size) (h0 : l ≠ []) (hne : l.length ≠ 1 → textsB l ≠ []) (hw : weighAll l ≤ 1000000) :
    Calls Tryd.prog 50 #[v] w (OnePost w S l) := by
  have hp : 0 < l.length := List.length_pos_iff.2 h0
  by_cases h1 : l.length = 1
  · obtain ⟨x, rfl⟩ := List.length_eq_one_iff.1 h1
    exact asOne_one v x S w h hS
  · exact asOne_many v l S w h hS (by omega) (hne h1) hw
end Go.Proofs.YtamoklceekeheaaDoor
