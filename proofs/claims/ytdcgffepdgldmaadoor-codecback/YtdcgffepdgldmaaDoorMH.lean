/-
  What the document's Same and SameAll answer at nodes that are alike: true.
  The chapter's example (at the head of the statements of chapter 2).
  Two nodes are the same just if they are equal trees: plain facts.
  What was read is what is written of it: texts and heads. Plain facts.
  What was read without fault, and is right, is what is written of it: the reader's loop. Plain facts.
  A written document that is cut is none: the level of brackets outside quotes. Plain facts.
  What is written is flat; a document that is cut is none. Plain facts.
  PrintAll and ParseAll: what they answer.
  CodecBack walked: what was written is read as it was, and what was read is written again; a text that is cut is no node.
-/
import Derived.Test.YtdcgffepdgldmaaDoorW8
import Derived.Lib.QuietBelow
import Derived.Test.YtdcgffepdgldmaaDoorC3
import Derived.Test.YtdcgffepdgldmaaDoorW13a
import Derived.Test.YtdcgffepdgldmaaDoorRight
import Derived.Test.YtdcgffepdgldmaaDoorW28
import Derived.Test.YtdcgffepdgldmaaDoorRightA
import Derived.Test.YtdcgffepdgldmaaDoorD12
import Derived.Test.YtdcgffepdgldmaaDoorD13
import Derived.Test.YtdcgffepdgldmaaDoorD19
namespace Go.Proofs.YtdcgffepdgldmaaDoor
open Go.RowKit Go.Sort

theorem sameL_refl (l : List ByteArray) : sameL l l = true := by
  simp [sameL]

def SameSaid (n : Nat) : Prop := ∀ (l : List Tree) (va vb : Value) (w : World), weighAll l ≤ n → weighAll l ≤ 1000000 → Kids w (Under w.heap.size) va l → Kids w (Under w.heap.size) vb l →
    Calls Tryd.prog 17 #[va, vb] w fun e w' => e = .returned (.bool true) ∧ Below w.heap.size w w'

set_option maxHeartbeats 2000000 in
theorem same_of (n : Nat) (IH : Hid (SameSaid n)) (t : Tree) (va vb : Value) (w : World) (hn : weighAll t.kids ≤ n) (hw : weigh t ≤ 1000000) (ha : Node w (Under w.heap.size) va t) (hb : Node w (Under w.heap.size) vb t) :
    Calls Tryd.prog 16 #[va, vb] w fun e w' => e = .returned (.bool true) ∧ Below w.heap.size w w' := by
  obtain ⟨am, aa, ak, rfl, ham, haa, hak⟩ := ha
  obtain ⟨bm, ba, bk, rfl, hbm, hba, hbk⟩ := hb
  obtain ⟨A1, c1, rfl, _⟩ := ham.form
  obtain ⟨A2, c2, rfl, _⟩ := haa.form
  obtain ⟨A3, c3, rfl, _⟩ := hak.form
  obtain ⟨B1, e1, rfl, _⟩ := hbm.form
  obtain ⟨B2, e2, rfl, _⟩ := hba.form
  obtain ⟨B3, e3, rfl, _⟩ := hbk.form
  have HM := Lib.hid (And.intro ham hbm)
  have HA := Lib.hid (And.intro haa hba)
  have HK := Lib.hid (And.intro hak hbk)
  clear ham haa hak hbm hba hbk
  generalize hW2 : (w.alloc (.cells #[.string t.kind, .string t.text, .slice A1 t.marks.length c1, .slice A2 t.attrs.length c2, .slice A3 t.kids.length c3] 27)).alloc (.cells #[.string t.kind, .string t.text, .slice B1 t.marks.length e1, .slice B2 t.attrs.length e2, .slice B3 t.kids.length e3] 27) = W2
  obtain ⟨z0, z1, z2, z3, z4, hz, hzz⟩ := box5 (w := w) (T := 27) (v0 := .string t.kind) (v1 := .string t.text) (v2 := .slice A1 t.marks.length c1) (v3 := .slice A2 t.attrs.length c2) (v4 := .slice A3 t.kids.length c3) (Below.refl _ _)
  obtain ⟨y0, y1, y2, y3, y4, hy, hyy⟩ := box5 (w := w.alloc (.cells #[.string t.kind, .string t.text, .slice A1 t.marks.length c1, .slice A2 t.attrs.length c2, .slice A3 t.kids.length c3] 27)) (T := 27) (v0 := .string t.kind) (v1 := .string t.text) (v2 := .slice B1 t.marks.length e1) (v3 := .slice B2 t.attrs.length e2) (v4 := .slice B3 t.kids.length e3) (Below.refl _ _)
  rw [hW2] at y0 y1 y2 y3 y4 hy hyy
  rw [show (w.alloc (.cells #[.string t.kind, .string t.text, .slice A1 t.marks.length c1, .slice A2 t.attrs.length c2, .slice A3 t.kids.length c3] 27)).heap.size = w.heap.size + 1 by simp] at y0 y1 y2 y3 y4 hyy
  replace z0 := cell_kept z0 hy
  replace z1 := cell_kept z1 hy
  replace z2 := cell_kept z2 hy
  replace z3 := cell_kept z3 hy
  replace z4 := cell_kept z4 hy
  have HB2 := Lib.hid (belowNext hz hy)
  have HC := Lib.hid (And.intro (And.intro z0 (And.intro z1 (And.intro z2 (And.intro z3 z4)))) (And.intro y0 (And.intro y1 (And.intro y2 (And.intro y3 y4)))))
  have HW2 := Lib.hid hW2
  clear hW2 z0 z1 z2 z3 z4 y0 y1 y2 y3 y4 hz hzz hy hyy
  have hwm : weighL t.marks + weighP t.attrs + weighAll t.kids ≤ weigh t := by obtain ⟨k, t, m, a, l⟩ := t; simp only [weigh, Tree.marks, Tree.attrs, Tree.kids]; omega
  have hal := length_le_weighP t.attrs
  go_enter Tryd.func16, Tryd.ntmps16
  go_wp2_with fail
  rw [HW2.out]
  refine (sameNames_any _ _ t.marks t.marks _ _ W2 (HM.out.1.below HB2.out) (HM.out.2.below HB2.out) (by omega)).mono ?_
  rintro e w1 ⟨rfl, n1, hn1⟩
  rw [sameL_refl]
  have hb1 : Below W2.heap.size W2 w1 := by subst hn1; exact ⟨rfl, rfl, rfl, Nat.le_refl _, fun _ _ => rfl⟩
  clear hn1
  obtain ⟨⟨z0, z1, z2, z3, z4⟩, y0, y1, y2, y3, y4⟩ := HC.out
  replace z0 := cell_kept z0 hb1
  replace z1 := cell_kept z1 hb1
  replace z2 := cell_kept z2 hb1
  replace z3 := cell_kept z3 hb1
  replace z4 := cell_kept z4 hb1
  replace y0 := cell_kept y0 hb1
  replace y1 := cell_kept y1 hb1
  replace y2 := cell_kept y2 hb1
  replace y3 := cell_kept y3 hb1
  replace y4 := cell_kept y4 hb1
  have hB1 := belowNext HB2.out hb1
  have hl1 := cell_lt z0
  have hl2 := cell_lt y0
  clear hb1
  go_wp2
  have HC1 := Lib.hid (And.intro z3 (And.intro z4 (And.intro y3 y4)))
  clear z0 z1 z2 z3 z4 y0 y1 y2 y3 y4
  go_loopw [5] (fun i wr => ∃ k n : Nat, k ≤ t.attrs.length ∧ i = .int .i64 k ∧ wr = w1.drewN n) (fun i _ => t.attrs.length - (intOf i).toNat)
  case atStart => exact ⟨0, 0, by omega, rfl, rfl⟩
  case round =>
    obtain ⟨i, n2, hi, rfl, rfl⟩ := hrel
    obtain ⟨z3, z4, y3, y4⟩ := HC1.out
    by_cases hlt : i < t.attrs.length
    · obtain ⟨b, o, rfl, hub, hcell⟩ := HA.out.1.get hlt
      obtain ⟨b', o', rfl, hub', hcell'⟩ := HA.out.2.get hlt
      have f0 := cell_kept (hcell i hlt).1 hB1
      have f1 := cell_kept (hcell i hlt).2 hB1
      have f2 := cell_kept (hcell' i hlt).1 hB1
      have f3 := cell_kept (hcell' i hlt).2 hB1
      have g1 := cell_lt f0
      have g2 := cell_lt f2
      generalize (pairAt t.attrs i) = pr at *
      clear hcell hcell' z4 y4
      go_wp2
      go_quiet (fail)
      go_wp2
      exact ⟨⟨i + 1, _, by omega, by go_num, rfl⟩, by simp [intOf]; omega⟩
    · go_wp2_with fail
      have HBD : Hid (Below w1.heap.size w1 (w1.drewN n2)) := Lib.hid ⟨rfl, rfl, rfl, Nat.le_refl _, fun _ _ => rfl⟩
      have hB2 := belowNext hB1 HBD.out
      refine (IH.out t.kids _ _ _ hn (by omega) ((HK.out.1.below hB2).more hB2.size) ((HK.out.2.below hB2).more hB2.size)).mono ?_
      rintro e w3 ⟨rfl, hb3⟩
      have hB3 := belowNext hB2 hb3
      clear z3 z4 y3 y4
      go_wp2
      go_ret
      exact ⟨rfl, hB3⟩

set_option maxHeartbeats 2000000 in
theorem sameAll_all : ∀ n, SameSaid n := by
  intro n
  induction n using Nat.strongRecOn with
  | ind n ih =>
    have IH := Lib.hid ih
    clear ih
    intro l va vb w hn hw ha hb
    have hlen : l.length ≤ 1000000 := by have := length_le_weigh l; omega
    have HA := Lib.hid ha
    have HB := Lib.hid hb
    obtain ⟨A, c, rfl, _⟩ := ha.form
    obtain ⟨B, d, rfl, _⟩ := hb.form
    clear ha hb
    go_enter Tryd.func17, Tryd.ntmps17
    go_wp2
    go_loopw [5] (fun i wr => ∃ k : Nat, k ≤ l.length ∧ i = .int .i64 k ∧ Below w.heap.size w wr) (fun i _ => l.length - (intOf i).toNat)
    case atStart => exact ⟨0, by omega, rfl, Below.refl _ _⟩
    case round =>
      obtain ⟨i, hi, rfl, hbr⟩ := hrel
      by_cases hlt : i < l.length
      · obtain ⟨b, o, rfl, hub, hrow⟩ := HA.out.get hlt
        obtain ⟨b', o', rfl, hub', hrow'⟩ := HB.out.get hlt
        have hlx : l[i]? = some l[i] := List.getElem?_eq_getElem hlt
        generalize hx : l[i] = x at *
        have hwx := weigh_mem (List.mem_of_getElem? hlx)
        have hkx := kids_weigh x
        obtain ⟨xm, xa, xk, e0, e1, e2, e3, e4, exm, exa, exk⟩ := hrow.node hlx
        obtain ⟨ym, ya, yk, d0, d1, d2, d3, d4, dxm, dxa, dxk⟩ := hrow'.node hlx
        have HXN : Hid (Node w (Under w.heap.size) (.agg #[.string x.kind, .string x.text, xm, xa, xk]) x) := Lib.hid ⟨_, _, _, rfl, exm, exa, exk⟩
        have HYN : Hid (Node w (Under w.heap.size) (.agg #[.string x.kind, .string x.text, ym, ya, yk]) x) := Lib.hid ⟨_, _, _, rfl, dxm, dxa, dxk⟩
        obtain ⟨A1, c1, rfl, _⟩ := exm.form
        obtain ⟨A2, c2, rfl, _⟩ := exa.form
        obtain ⟨A3, c3, rfl, _⟩ := exk.form
        obtain ⟨A4, c4, rfl, _⟩ := dxm.form
        obtain ⟨A5, c5, rfl, _⟩ := dxa.form
        obtain ⟨A6, c6, rfl, _⟩ := dxk.form
        have f0 := cell_kept e0 hbr
        have f1 := cell_kept e1 hbr
        have f2 := cell_kept e2 hbr
        have f3 := cell_kept e3 hbr
        have f4 := cell_kept e4 hbr
        have g0 := cell_kept d0 hbr
        have g1 := cell_kept d1 hbr
        have g2 := cell_kept d2 hbr
        have g3 := cell_kept d3 hbr
        have g4 := cell_kept d4 hbr
        have h1 := cell_lt f0
        have h2 := cell_lt g0
        clear e0 e1 e2 e3 e4 d0 d1 d2 d3 d4 exm exa exk dxm dxa dxk hx hlx hrow hrow'
        have HIH := Lib.hid (IH.out (weighAll x.kids) (by omega))
        have HS := Lib.hid (regrown_any (w := wr) fun W hW => same_of (weighAll x.kids) HIH x _ _ W (Nat.le_refl _) (by omega) ((HXN.out.below (hbr.trans (hW.mono hbr.size))).more (Nat.le_trans hbr.size hW.size)) ((HYN.out.below (hbr.trans (hW.mono hbr.size))).more (Nat.le_trans hbr.size hW.size)))
        have k0 := cell_regrown f0
        have k1 := cell_regrown f1
        have k2 := cell_regrown f2
        have k3 := cell_regrown f3
        have k4 := cell_regrown f4
        have m0 := cell_regrown g0
        have m1 := cell_regrown g1
        have m2 := cell_regrown g2
        have m3 := cell_regrown g3
        have m4 := cell_regrown g4
        go_wp2_with fail
        clear f0 f1 f2 f3 f4 g0 g1 g2 g3 g4
        refine wp_region_quiet_below (by kernel_rfl) (by kernel_rfl) ?_
        repeat (first | go_big_quiet_step (exact HS.out _ _) | quiet_step (exact HS.out _ _))
        refine wpQuiet_nil ?_
        intro _ hw'
        obtain ⟨⟨dq, osq⟩, hw''⟩ := hw'
        subst hw''
        have HQ := Lib.hid (below_regrown wr dq osq)
        clear k0 k1 k2 k3 k4 m0 m1 m2 m3 m4
        go_wp2
        exact ⟨⟨i + 1, by omega, by go_num, belowNext hbr HQ.out⟩, by simp [intOf]; omega⟩
      · go_wp2
        go_ret
        exact ⟨rfl, hbr⟩

theorem sameAll_any (va vb : Value) (l : List Tree) (w : World) (ha : Kids w (Under w.heap.size) va l) (hb : Kids w (Under w.heap.size) vb l) (hw : weighAll l ≤ 1000000) :
    Calls Tryd.prog 17 #[va, vb] w fun e w' => e = .returned (.bool true) ∧ Below w.heap.size w w' :=
  sameAll_all (weighAll l) l va vb w (Nat.le_refl _) hw ha hb
end Go.Proofs.YtdcgffepdgldmaaDoor

namespace Go.Proofs.YtdcgffepdgldmaaDoor
open Go.RowKit Go.Sort

def exBang : Tree := .mk TEXT ⟨#[33]⟩ [BB] [] []
def exHi : Tree := .mk TEXT ⟨#[104, 105]⟩ [] [] []
def exPara : Tree := .mk ⟨#[112, 97, 114, 97]⟩ ByteArray.empty [] [(ALIGN, ⟨#[108, 101, 102, 116]⟩)] [exHi, exBang]
def exDoc : Tree := .mk DOC ByteArray.empty [] [] [exPara]
theorem exDoc_weigh : weigh exDoc ≤ 1000000 := by decide +kernel
theorem exDoc_check : checkB exDoc = 0 := by decide +kernel
theorem exDoc_print : printB exDoc = [100, 111, 99, 91, 112, 97, 114, 97, 40, 97, 108, 105, 103, 110, 61, 34, 108, 101, 102, 116, 34, 41, 91, 34, 104, 105, 34, 34, 33, 34, 60, 98, 62, 93, 93] := by decide +kernel

set_option maxHeartbeats 1000000 in
theorem shown2_any (w : World) (hT : Tabs w) : Calls Tryd.prog 11 #[] w fun e w' => e = .returned (.bool true) ∧ Below w.heap.size w w' := by
  have HT := Lib.hid hT
  clear hT
  go_enter Tryd.func11, Tryd.ntmps11
  go_wp2_with fail
  generalize hW6 : (((((w.alloc _).alloc _).alloc _).alloc _).alloc _).alloc _ = W6
  have hB : Below w.heap.size w W6 := by subst hW6; exact ((((((Below.refl _ _).alloc (Nat.le_refl _) _).alloc (by simp) _).alloc (by simp; omega) _).alloc (by simp; omega) _).alloc (by simp; omega) _).alloc (by simp; omega) _
  have hz : W6.heap.size = w.heap.size + 1 + 1 + 1 + 1 + 1 + 1 := by subst hW6; simp
  have g0 : W6.heap[w.heap.size]? = some (.cells #[.string ⟨#[98]⟩] 9) := by subst hW6; exact heap_old _ _ _ (heap_old _ _ _ (heap_old _ _ _ (heap_old _ _ _ (heap_old _ _ _ (heap_new _ _)))))
  have g2 : W6.heap[w.heap.size + 1 + 1]? = some (.cells #[.string ⟨#[97, 108, 105, 103, 110]⟩, .string ⟨#[108, 101, 102, 116]⟩] 48) := by subst hW6; exact heap_old _ _ _ (heap_old _ _ _ (heap_old _ _ _ (heap_new' _ _ (by simp))))
  have g3 : W6.heap[w.heap.size + 1 + 1 + 1]? = some (.cells #[.string ⟨#[116, 101, 120, 116]⟩, .string ⟨#[104, 105]⟩, .slice none 0 0, .slice none 0 0, .slice none 0 0, .string ⟨#[116, 101, 120, 116]⟩, .string ⟨#[33]⟩, .slice (some ⟨w.heap.size, 0, none⟩) 1 1, .slice none 0 0, .slice none 0 0] 27) := by subst hW6; exact heap_old _ _ _ (heap_old _ _ _ (heap_new' _ _ (by simp)))
  have g4 : W6.heap[w.heap.size + 1 + 1 + 1 + 1]? = some (.cells #[.string ⟨#[112, 97, 114, 97]⟩, .string ⟨#[]⟩, .slice none 0 0, .slice (some ⟨w.heap.size + 1 + 1, 0, none⟩) 1 1, .slice (some ⟨w.heap.size + 1 + 1 + 1, 0, none⟩) 2 2] 27) := by subst hW6; exact heap_old _ _ _ (heap_new' _ _ (by simp))
  clear hW6
  have m0 : Strs W6 (Under W6.heap.size) (.slice (some ⟨w.heap.size, 0, none⟩) 1 1) [BB] := strs_one (by simp only [World.cell?, g0]; rfl) (by unfold Under; omega)
  have a0 : Pairs W6 (Under W6.heap.size) (.slice (some ⟨w.heap.size + 1 + 1, 0, none⟩) 1 1) [(ALIGN, ⟨#[108, 101, 102, 116]⟩)] := pairs_one (s := ALIGN) (t := ⟨#[108, 101, 102, 116]⟩) (by simp only [World.cell?, g2]; rfl) (by simp only [World.cell?, g2]; rfl) rfl rfl (by unfold Under; omega)
  have k0 : Kids W6 (Under W6.heap.size) (.slice (some ⟨w.heap.size + 1 + 1 + 1, 0, none⟩) 2 2) [exHi, exBang] := kids_block g3 ⟨_, _, _, _, rfl, strs_none, pairs_none, kids_none, _, _, _, _, rfl, m0, pairs_none, kids_none, rfl⟩ rfl (by unfold Under; omega)
  have k1 : Kids W6 (Under W6.heap.size) (.slice (some ⟨w.heap.size + 1 + 1 + 1 + 1, 0, none⟩) 1 1) [exPara] := kids_block g4 ⟨_, _, _, _, rfl, strs_none, a0, k0, rfl⟩ rfl (by unfold Under; omega)
  have HN : Hid (Node W6 (Under W6.heap.size) (.agg #[.string ⟨#[100, 111, 99]⟩, .string ⟨#[]⟩, .slice none 0 0, .slice none 0 0, .slice (some ⟨w.heap.size + 1 + 1 + 1 + 1, 0, none⟩) 1 1]) exDoc) := Lib.hid ⟨_, _, _, rfl, strs_none, pairs_none, k1⟩
  clear g0 g2 g3 g4 m0 a0 k0 k1 hz
  refine (print_any _ exDoc W6 HN.out exDoc_weigh (HT.out.below hB)).mono ?_
  rintro e w7 ⟨rfl, hb7⟩
  rw [exDoc_print, exDoc_check]
  have hB7 := belowNext hB hb7
  clear hb7
  go_wp2
  go_ret
  exact ⟨rfl, hB7⟩
end Go.Proofs.YtdcgffepdgldmaaDoor

namespace Go.Proofs.YtdcgffepdgldmaaDoor
open Go.RowKit Go.Sort

theorem bytes_eq {s t : ByteArray} (h : (s.toList == t.toList) = true) : s = t := by
  rw [beq_iff_eq, Lib.toList_data, Lib.toList_data] at h
  exact ByteArray.ext (Array.ext' h)
theorem bytes_refl (s : ByteArray) : (s.toList == s.toList) = true := by simp
theorem sameL_self (l : List ByteArray) : sameL l l = true := sameL_all rfl fun _ _ => bytes_refl _
theorem sameP_self (l : List (ByteArray × ByteArray)) : sameP l l = true := sameP_all rfl fun _ _ => by simp [pairEq]
theorem sameP_eq {a b : List (ByteArray × ByteArray)} (h : sameP a b = true) : a = b := by
  simp only [sameP, Bool.and_eq_true, decide_eq_true_eq, List.all_eq_true, List.mem_range] at h
  obtain ⟨hl, h⟩ := h
  apply List.ext_getElem hl
  intro i h1 h2
  have h3 := h i h1
  simp only [pairEq, pairAt, List.getD, List.getElem?_eq_getElem h1, List.getElem?_eq_getElem h2, Option.getD_some, Bool.and_eq_true] at h3
  exact Prod.ext (bytes_eq h3.1) (bytes_eq h3.2)
mutual
theorem sameB_self : ∀ t : Tree, sameB t t = true
  | .mk k t m a l => by rw [sameB]; simp only [Tree.kind, Tree.text, Tree.marks, Tree.attrs, Tree.kids, bytes_refl, sameL_self, sameP_self, sameAllB_self l]; rfl
theorem sameAllB_self : ∀ l : List Tree, sameAllB l l = true
  | [] => rfl
  | x :: l => by rw [sameAllB, sameB_self x, sameAllB_self l]; rfl
end
mutual
theorem sameB_eq : ∀ (a b : Tree), sameB a b = true → a = b
  | .mk k t m a l, .mk k' t' m' a' l', h => by
    rw [sameB] at h
    simp only [Tree.kind, Tree.text, Tree.marks, Tree.attrs, Tree.kids, Bool.and_eq_true] at h
    obtain ⟨h1, h2, h3, h4, h5⟩ := h
    rw [bytes_eq h1, bytes_eq h2, sameL_eq h3, sameP_eq h4, sameAllB_eq l l' h5]
theorem sameAllB_eq : ∀ (a b : List Tree), sameAllB a b = true → a = b
  | [], [], _ => rfl
  | [], _ :: _, h => by simp [sameAllB] at h
  | _ :: _, [], h => by simp [sameAllB] at h
  | x :: l, y :: l', h => by
    rw [sameAllB, Bool.and_eq_true] at h
    rw [sameB_eq x y h.1, sameAllB_eq l l' h.2]
end
theorem sameB_ne {a b : Tree} (h : a ≠ b) : sameB a b = false := by
  cases hs : sameB a b with
  | false => rfl
  | true => exact absurd (sameB_eq a b hs) h
end Go.Proofs.YtdcgffepdgldmaaDoor

namespace Go.Proofs.YtdcgffepdgldmaaDoor
open Go.RowKit Go.Sort Go.Maps

theorem unq_inv : ∀ (n : Nat) (l s r : List UInt8), l.length ≤ n → unq l = some (s, r) → l = escL s ++ 34 :: r
  | n, [], s, r, _, h => by simp [unq] at h
  | 0, _ :: _, _, _, hn, _ => by simp at hn
  | n + 1, c :: l, s, r, hn, h => by
    rw [List.length_cons] at hn
    by_cases h1 : c = 34
    · subst h1
      rw [unq_q] at h
      injection h with h
      injection h with h1 h2
      subst h1; subst h2
      rfl
    · by_cases h2 : c = 92
      · subst h2
        cases l with
        | nil => rw [unq_s1] at h; cases h
        | cons d l =>
          rw [unq_s] at h
          split at h
          · rename_i hd
            cases hq : unq l with
            | none => rw [hq] at h; cases h
            | some p =>
              rw [hq] at h
              injection h with h
              injection h with h3 h4
              subst h3; subst h4
              have := unq_inv n l p.1 p.2 (by simp only [List.length_cons] at hn; omega) hq
              rw [this]
              show _ = escL (d :: p.1) ++ _
              rw [escL, if_pos hd]; simp
          · cases h
      · have e1 : (c == 34) = false := beq_eq_false_iff_ne.2 h1
        have e2 : (c == 92) = false := beq_eq_false_iff_ne.2 h2
        have hu : unq (c :: l) = (unq l).map (fun p => (c :: p.1, p.2)) := by rw [unq.eq_def]; simp [e1, e2]
        rw [hu] at h
        cases hq : unq l with
        | none => rw [hq] at h; cases h
        | some p =>
          rw [hq] at h
          injection h with h
          injection h with h3 h4
          subst h3; subst h4
          have := unq_inv n l p.1 p.2 (by omega) hq
          rw [this]
          show _ = escL (c :: p.1) ++ _
          rw [escL, e1, e2]; simp
theorem want_inv {p l : List UInt8} (h : Lib.hasPrefix l p = true) : l = p ++ wantL p l := by
  unfold wantL; rw [if_pos h]
  obtain ⟨t, ht⟩ := List.isPrefixOf_iff_prefix.1 h
  rw [← ht]; simp
theorem qL_inv {l s r : List UInt8} (h : qL l = some (s, r)) : l = quoteL s ++ r := by
  unfold qL at h
  have hp : Lib.hasPrefix l [34] = true := by
    cases hp : Lib.hasPrefix l [34] with
    | true => rfl
    | false => unfold wantL at h; rw [hp] at h; simp [unq] at h
  have h1 := want_inv hp
  have h2 := unq_inv _ _ s r (Nat.le_refl _) h
  rw [h1, h2]; simp [quoteL]
theorem quo_inv {l r : List UInt8} (h : (quoL l).2 = some r) : l = quoteL (quoL l).1.data.toList ++ r := by
  cases hq : qL l with
  | none => unfold quoL at h; rw [hq] at h; cases h
  | some p =>
    have h1 := qL_inv (s := p.1) (r := p.2) hq
    have e : quoL l = (⟨p.1.toArray⟩, some p.2) := by unfold quoL; rw [hq]
    rw [e] at h ⊢
    injection h with h
    rw [← h]; simpa using h1
theorem names_inv (l : List UInt8) : l = ((restNames l).1.flatMap fun x => 44 :: x.data.toList) ++ (restNames l).2 := by
  cases l with
  | nil => rw [restNames.eq_def]; rfl
  | cons c r =>
    rw [restNames.eq_def]
    split
    · rename_i hc
      simp at hc
    · rename_i c' r' he
      injection he with h1 h2
      subst h1; subst h2
      by_cases h44 : (c == 44) = true
      · rw [if_pos h44]
        have ih := names_inv (r.dropWhile small)
        have e : c = 44 := by simpa using h44
        subst e
        simp only [List.flatMap_cons, List.cons_append, List.append_assoc]
        rw [← ih]
        simp
      · rw [if_neg h44]; rfl
termination_by l.length
decreasing_by
  have := drops_le r
  simp only [List.length_cons]; omega
theorem comma_flat : ∀ (x : ByteArray) (m : List ByteArray), commaM (x :: m) = x.data.toList ++ m.flatMap fun x => 44 :: x.data.toList
  | x, [] => by simp [commaM]
  | x, y :: m => by
    show x.data.toList ++ 44 :: commaM (y :: m) = _
    rw [comma_flat y m]; simp
theorem marks_inv {l : List UInt8} (h : (marksL l).2.2 = true) : l = marksW (marksL l).1 ++ (marksL l).2.1 := by
  unfold marksL at h ⊢
  split
  · rename_i hp
    rw [if_pos hp] at h
    simp only at h ⊢
    have h1 := want_inv hp
    have h2 := names_inv ((l.drop 1).dropWhile small)
    have h3 := want_inv h
    have e0 : l = 60 :: l.drop 1 := by unfold wantL at h1; rw [if_pos hp] at h1; simpa using h1
    have e1 : l.drop 1 = (l.drop 1).takeWhile small ++ (l.drop 1).dropWhile small := (List.takeWhile_append_dropWhile).symm
    rw [marksW, if_neg (by simp), comma_flat]
    conv => lhs; rw [e0, e1, h2, h3]
    simp
  · simp [marksW]
theorem attr_inv {l r : List UInt8} (h : (attrL l).2 = some r) : l = attrW (attrL l).1 ++ r := by
  unfold attrL at h ⊢
  simp only at h ⊢
  have h1 := quo_inv h
  have hp : Lib.hasPrefix (l.dropWhile small) [61] = true := by
    cases hp : Lib.hasPrefix (l.dropWhile small) [61] with
    | true => rfl
    | false =>
      unfold wantL at h; rw [hp] at h
      simp [quoL, qL, wantL, Lib.hasPrefix, unq] at h
  have h2 := want_inv hp
  have e1 : l = l.takeWhile small ++ l.dropWhile small := (List.takeWhile_append_dropWhile).symm
  unfold attrW
  conv => lhs; rw [e1, h2, h1]
  simp
theorem pre_drop {l : List UInt8} {c : UInt8} (h : Lib.hasPrefix l [c] = true) : l = c :: l.drop 1 := by
  have h1 := want_inv h
  unfold wantL at h1; rw [if_pos h] at h1; simpa using h1
theorem restAttrs_inv (l : List UInt8) (h : (restAttrs l).2.2 = false) : l = ((restAttrs l).1.flatMap fun p => 32 :: attrW p) ++ (restAttrs l).2.1 := by
  rw [restAttrs.eq_def] at h ⊢
  split
  · rename_i hp
    rw [dif_pos hp] at h
    simp only [Bool.or_eq_false_iff] at h ⊢
    obtain ⟨h1, h2⟩ := h
    cases hq : (attrL (l.drop 1)).2 with
    | none => rw [hq] at h1; cases h1
    | some r =>
      rw [hq] at h2
      have e1 := attr_inv hq
      have e0 := pre_drop hp
      have hlt : r.length < l.length := by
        have := congrArg List.length e1
        rw [List.length_append] at this
        have h3 := congrArg List.length e0
        rw [List.length_cons] at h3
        omega
      have ih := restAttrs_inv r h2
      rw [show (some r).getD [] = r from rfl]
      conv => lhs; rw [e0, e1, ih]
      simp
  · simp
termination_by l.length
theorem blank_flat : ∀ (x : ByteArray × ByteArray) (m : List (ByteArray × ByteArray)), blankA (x :: m) = attrW x ++ m.flatMap fun p => 32 :: attrW p
  | x, [] => by simp [blankA]
  | x, y :: m => by
    show attrW x ++ 32 :: blankA (y :: m) = _
    rw [blank_flat y m]; simp
theorem attrs_inv {l : List UInt8} (h : (attrsL l).2.2 = false) : l = attrsW (attrsL l).1 ++ (attrsL l).2.1 := by
  unfold attrsL at h ⊢
  split
  · rename_i hp
    rw [if_pos hp] at h
    simp only [Bool.or_eq_false_iff] at h ⊢
    obtain ⟨⟨h1, h2⟩, h3⟩ := h
    cases hq : (attrL (l.drop 1)).2 with
    | none => rw [hq] at h1; cases h1
    | some r =>
      rw [hq] at h2 h3
      rw [show (some r).getD [] = r from rfl] at h2 h3 ⊢
      have e1 := attr_inv hq
      have e0 := pre_drop hp
      have e2 := restAttrs_inv r h2
      have e3 := want_inv (p := [41]) (l := (restAttrs r).2.1) (by simpa using h3)
      rw [attrsW, if_neg (by simp), blank_flat]
      conv => lhs; rw [e0, e1, e2, e3]
      simp
  · simp [attrsW]
/-- A text that was read without fault. -/
theorem text_inv {l : List UInt8} (h : (textL l).2.2 = false) : l = quoteL (textL l).1.text.data.toList ++ (marksW (textL l).1.marks ++ (textL l).2.1) := by
  unfold textL at h ⊢
  simp only [Bool.or_eq_false_iff] at h
  obtain ⟨h1, h2⟩ := h
  cases hq : (quoL l).2 with
  | none => rw [hq] at h1; cases h1
  | some r =>
    rw [hq] at h2
    rw [show (some r).getD [] = r from rfl] at h2 ⊢
    have e1 := quo_inv hq
    have e2 := marks_inv (l := r) (by simpa using h2)
    simp only [Tree.text, Tree.marks]
    rw [← e2]
    exact e1
/-- A head that was read without fault. -/
theorem head_inv {l : List UInt8} (h : (headL l).2.2 = false) : l = (headL l).1.kind.data.toList ++ (attrsW (headL l).1.attrs ++ 91 :: (headL l).2.1) := by
  unfold headL at h ⊢
  simp only [Bool.or_eq_false_iff] at h
  obtain ⟨h1, h2⟩ := h
  have e1 := attrs_inv h1
  have e2 := want_inv (p := [91]) (l := (attrsL (l.dropWhile small)).2.1) (by simpa using h2)
  have e0 : l = l.takeWhile small ++ l.dropWhile small := (List.takeWhile_append_dropWhile).symm
  simp only [Tree.kind, Tree.attrs]
  conv => lhs; rw [e0, e1, e2]
  simp
end Go.Proofs.YtdcgffepdgldmaaDoor

namespace Go.Proofs.YtdcgffepdgldmaaDoor
open Go.RowKit Go.Sort Go.Maps

/-- What has been read of the open nodes (the innermost ahead, the last one the root). -/
def openW : List Tree → List UInt8
  | [] => []
  | [root] => writeAllB root.kids
  | top :: up :: st => openW (up :: st) ++ (top.kind.data.toList ++ (attrsW top.attrs ++ 91 :: writeAllB top.kids))
/-- No open node lies, or leads, too deep. -/
def levelOK : List Tree → Prop
  | [] => True
  | top :: st => st.length + deepB top.kids ≤ 40 ∧ levelOK st
theorem openW_kid : ∀ (top : Tree) (st : List Tree) (k : Tree), openW (addKid top k :: st) = openW (top :: st) ++ writeB k
  | top, [], k => by
    show writeAllB (top.kids ++ [k]) = writeAllB top.kids ++ writeB k
    rw [writeAllB_append]; simp [writeAllB]
  | top, up :: st, k => by
    show openW (up :: st) ++ (top.kind.data.toList ++ (attrsW top.attrs ++ 91 :: writeAllB (top.kids ++ [k]))) = (openW (up :: st) ++ (top.kind.data.toList ++ (attrsW top.attrs ++ 91 :: writeAllB top.kids))) ++ writeB k
    rw [writeAllB_append]; simp [writeAllB]
theorem readN_wrong : ∀ (n : Nat) (l : List UInt8) (st : List Tree), (readN n l true st).2 = true
  | 0, _, _ => rfl
  | _ + 1, [], _ => rfl
  | _ + 1, _ :: _, [] => rfl
  | n + 1, c :: l, top :: st => by
    rw [readN_step]
    have : (roundL c l true top st).2.1 = true := by
      unfold roundL
      split
      · simp
      · split
        · cases st <;> simp
        · simp
    rw [this]
    exact readN_wrong n _ _
theorem wnode_inv {t : Tree} (h : isTxt t.kind = false) : writeB t = t.kind.data.toList ++ (attrsW t.attrs ++ 91 :: (writeAllB t.kids ++ [93])) := by
  obtain ⟨k, x, m, a, l⟩ := t
  simp only [Tree.kind] at h
  rw [writeB, h]; simp [Tree.kind, Tree.attrs, Tree.kids]
theorem write_txt {t : Tree} (h : isTxt t.kind = true) : writeB t = quoteL t.text.data.toList ++ marksW t.marks := by
  obtain ⟨k, x, m, a, l⟩ := t
  simp only [Tree.kind] at h
  rw [writeB, h]; simp [Tree.marks, Tree.text]
theorem txt_is : isTxt TEXT = true := by decide +kernel
/-- A formed node without words is none of the texts. -/
theorem formed_node {t : Tree} (h : formedB t = true) (ht : t.text = ⟨#[]⟩) : isTxt t.kind = false ∧ rowB none t.kids = true := by
  obtain ⟨k, x, m, a, l⟩ := t
  simp only [Tree.text] at ht
  subst ht
  cases hk : isTxt k with
  | true =>
    rw [formedB, hk] at h
    simp only [if_true] at h
    have : textB (.mk k ⟨#[]⟩ m a l) = false := by unfold textB; simp [Tree.text]
    rw [this] at h; cases h
  | false =>
    rw [formedB, hk] at h
    simp only [Bool.false_eq_true, if_false, Bool.and_eq_true] at h
    exact ⟨hk, h.2⟩

theorem read_inv : ∀ (n : Nat) (l : List UInt8) (st : List Tree) (root : Tree), l.length ≤ n → (∀ t ∈ st, t.text = ⟨#[]⟩) → readN n l false st = ([root], false) → (∀ k ∈ root.kids, formedB k = true) → deepB root.kids ≤ 40 →
    openW st ++ l = writeAllB root.kids ∧ (∀ t ∈ st, ∀ k ∈ t.kids, formedB k = true) ∧ levelOK st
  | n, [], st, root, _, _, h, hf, hd => by
    have e : st = [root] := by
      cases n with
      | zero => exact (Prod.mk.inj h).1
      | succ n => exact (Prod.mk.inj h).1
    subst e
    refine ⟨by simp [openW], fun t ht => ?_, by simpa [levelOK] using hd⟩
    simp only [List.mem_singleton] at ht
    subst ht; exact hf
  | 0, c :: l, st, root, hn, _, _, _, _ => by simp at hn
  | n + 1, c :: l, [], root, _, _, h, _, _ => by
    have := (Prod.mk.inj h).1
    cases this
  | n + 1, c :: l, top :: st, root, hn, hx, h, hf, hd => by
    rw [readN_step] at h
    have hlen := (round_size c l false top st).2
    have hx' : (roundL c l false top st).2.1 = false := by
      cases hq : (roundL c l false top st).2.1 with
      | false => rfl
      | true =>
        rw [hq] at h
        have := readN_wrong n (roundL c l false top st).1 (roundL c l false top st).2.2
        rw [h] at this; cases this
    rw [hx'] at h
    have hn' : (roundL c l false top st).1.length ≤ n := by simp only [List.length_cons] at hn; omega
    by_cases h34 : (c == 34) = true
    · -- a text
      have e : roundL c l false top st = ((textL (c :: l)).2.1, false || (textL (c :: l)).2.2, addKid top (textL (c :: l)).1 :: st) := by unfold roundL; rw [if_pos h34]
      rw [e] at h hx' hn'
      simp only [Bool.false_or] at hx'
      simp only at h hn'
      obtain ⟨i1, i2, i3⟩ := read_inv n _ _ root hn' (by
        intro t ht
        rcases List.mem_cons.1 ht with rfl | ht
        · exact hx top (List.mem_cons_self ..)
        · exact hx t (List.mem_cons_of_mem _ ht)) h hf hd
      refine ⟨?_, ?_, ?_⟩
      · rw [openW_kid, write_txt (show isTxt (textL (c :: l)).1.kind = true from txt_is)] at i1
        rw [← i1]
        have := text_inv hx'
        conv => lhs; rw [this]
        simp
      · intro t ht
        rcases List.mem_cons.1 ht with e1 | ht
        · intro k hk
          rw [e1] at hk
          exact i2 _ (List.mem_cons_self ..) k (by show k ∈ top.kids ++ _; exact List.mem_append_left _ hk)
        · exact i2 t (List.mem_cons_of_mem _ ht)
      · obtain ⟨j1, j2⟩ := i3
        refine ⟨?_, j2⟩
        have : deepB (addKid top (textL (c :: l)).1).kids = max (deepB top.kids) (deepB [(textL (c :: l)).1]) := deepB_append _ _
        omega
    · by_cases h93 : (c == 93) = true
      · cases st with
        | nil =>
          have e : roundL c l false top [] = ([], true, [top]) := by unfold roundL; rw [if_neg h34, if_pos h93]
          rw [e] at hx'; cases hx'
        | cons up st =>
          have e : roundL c l false top (up :: st) = (if (closedL (st.length + 1) top).2 then [] else l, false || (closedL (st.length + 1) top).2, addKid up (closedL (st.length + 1) top).1 :: st) := by unfold roundL; rw [if_neg h34, if_pos h93]
          rw [e] at h hx' hn'
          simp only [Bool.false_or] at hx'
          rw [hx'] at h hn'
          simp only [Bool.false_eq_true, if_false] at h hn'
          obtain ⟨i1, i2, i3⟩ := read_inv n _ _ root hn' (by
            intro t ht
            rcases List.mem_cons.1 ht with rfl | ht
            · exact hx up (by simp)
            · exact hx t (by simp [ht])) h hf hd
          have htx := hx top (List.mem_cons_self ..)
          have hcf : formedB (closedL (st.length + 1) top).1 = true := i2 _ (List.mem_cons_self ..) _ (by show _ ∈ up.kids ++ _; simp)
          have hct : (closedL (st.length + 1) top).1.text = ⟨#[]⟩ := by unfold closedL; split <;> exact htx
          obtain ⟨f1, f2⟩ := formed_node hcf hct
          have hdeep : deepB (addKid up (closedL (st.length + 1) top).1).kids = max (deepB up.kids) (deepB [(closedL (st.length + 1) top).1]) := deepB_append _ _
          have hd1 : deepB [(closedL (st.length + 1) top).1] = depthB (closedL (st.length + 1) top).1 := by simp [deepB]
          have hdn : depthB (closedL (st.length + 1) top).1 = deepB (closedL (st.length + 1) top).1.kids + 1 := by
            generalize (closedL (st.length + 1) top).1 = q at *
            obtain ⟨k, x, m, a, l⟩ := q
            simp only [Tree.kind] at f1
            rw [depthB, f1]; simp [Tree.kids]
          obtain ⟨j1, j2⟩ := i3
          have hle : st.length + 1 ≤ 40 := by omega
          have hcl : (closedL (st.length + 1) top).1 = top := by unfold closedL; rw [if_pos hle]
          rw [hcl] at f1 f2 hdeep hd1 hdn i1 j1
          refine ⟨?_, ?_, ?_, ?_, j2⟩
          · rw [openW_kid, wnode_inv f1] at i1
            rw [← i1]
            have e93 : c = 93 := by simpa using h93
            subst e93
            show (openW (up :: st) ++ (top.kind.data.toList ++ (attrsW top.attrs ++ 91 :: writeAllB top.kids))) ++ 93 :: l = _
            simp
          · intro t ht
            rcases List.mem_cons.1 ht with e1 | ht
            · rw [e1]; exact row_all _ none f2
            · rcases List.mem_cons.1 ht with e1 | ht
              · intro k hk
                rw [e1] at hk
                exact i2 _ (List.mem_cons_self ..) k (by show k ∈ up.kids ++ _; exact List.mem_append_left _ hk)
              · exact i2 t (List.mem_cons_of_mem _ ht)
          · show (up :: st).length + deepB top.kids ≤ 40
            simp only [List.length_cons]; omega
          · show st.length + deepB up.kids ≤ 40
            omega
      · have e : roundL c l false top st = ((headL (c :: l)).2.1, false || (headL (c :: l)).2.2, (headL (c :: l)).1 :: top :: st) := by unfold roundL; rw [if_neg h34, if_neg h93]
        rw [e] at h hx' hn'
        simp only [Bool.false_or] at hx'
        simp only at h hn'
        obtain ⟨i1, i2, i3⟩ := read_inv n _ _ root hn' (by
          intro t ht
          rcases List.mem_cons.1 ht with rfl | ht
          · rfl
          · exact hx t ht) h hf hd
        refine ⟨?_, fun t ht => i2 t (List.mem_cons_of_mem _ ht), i3.2⟩
        rw [← i1]
        have := head_inv hx'
        show openW (top :: st) ++ (c :: l) = (openW (top :: st) ++ ((headL (c :: l)).1.kind.data.toList ++ (attrsW (headL (c :: l)).1.attrs ++ 91 :: writeAllB []))) ++ (headL (c :: l)).2.1
        conv => lhs; rw [this]
        simp [writeAllB]
theorem readL_inv {s : List UInt8} {l : List Tree} (h : readL s = (l, true)) (hf : ∀ k ∈ l, formedB k = true) (hd : deepB l ≤ 40) : writeAllB l = s := by
  unfold readL at h
  obtain ⟨h1, h2⟩ := Prod.mk.inj h
  simp only [Bool.and_eq_true, Bool.not_eq_true', beq_iff_eq] at h2
  rcases hq : readN s.length s false [around []] with ⟨st, x⟩
  rw [hq] at h1 h2
  obtain ⟨h2, h3⟩ := h2
  simp only at h1 h2 h3
  subst h2
  match st, h3 with
  | [root], _ =>
    have e : root.kids = l := by simpa using h1
    subst e
    have := (read_inv s.length s [around []] root (Nat.le_refl _) (by intro t ht; simp only [List.mem_singleton] at ht; subst ht; rfl) hq hf hd).1
    rw [← this]
    simp [openW, around, Tree.kids, writeAllB]
/-- What Parse reads is right, and is written as it was. -/
theorem parse_inv {s : List UInt8} {t : Tree} (h : parseB s = (t, 0)) : checkB t = 0 ∧ writeB t = s := by
  unfold parseB at h
  split at h
  · rename_i t' hr
    split at h
    · rename_i hc
      obtain ⟨rfl, _⟩ := Prod.mk.inj h
      refine ⟨hc, ?_⟩
      have hp : formedB t' = true ∧ depthB t' ≤ 40 := by
        unfold checkB at hc
        split at hc
        · rename_i hf
          split at hc
          · cases hc
          · exact ⟨hf, by omega⟩
        · cases hc
      have := readL_inv hr (by intro k hk; simp only [List.mem_singleton] at hk; subst hk; exact hp.1) (by simpa [deepB] using hp.2)
      rw [← this]; simp [writeAllB]
    · rename_i hc
      exact absurd (Prod.mk.inj h).2 hc
  · have := (Prod.mk.inj h).2
    cases this
theorem parseB_zero {s : List UInt8} (h : (parseB s).2 ≠ 0) : (parseB s).1 = noTree := by
  unfold parseB at h ⊢
  split
  · rename_i t hr
    rw [hr] at h
    simp only at h
    split
    · rename_i hc; rw [if_pos hc] at h; exact absurd rfl h
    · rfl
  · rfl
end Go.Proofs.YtdcgffepdgldmaaDoor

namespace Go.Proofs.YtdcgffepdgldmaaDoor
open Go.RowKit Go.Sort Go.Maps

/-- The state (0 outside quotes, 1 in them, 2 behind a backslash there) and the level behind some bytes. -/
def scan : Nat → Int → List UInt8 → Nat × Int
  | q, lev, [] => (q, lev)
  | 0, lev, c :: l => if c == 34 then scan 1 lev l else if c == 91 then scan 0 (lev + 1) l else if c == 93 then scan 0 (lev - 1) l else scan 0 lev l
  | 1, lev, c :: l => if c == 34 then scan 0 lev l else if c == 92 then scan 2 lev l else scan 1 lev l
  | _ + 2, lev, _ :: l => scan 1 lev l
theorem scan_app : ∀ (a : List UInt8) (q : Nat) (lev : Int) (b : List UInt8), scan q lev (a ++ b) = scan (scan q lev a).1 (scan q lev a).2 b
  | [], q, lev, b => by cases q <;> simp [scan]
  | c :: a, 0, lev, b => by
    rw [List.cons_append]
    simp only [scan]
    split
    · exact scan_app a _ _ b
    · split
      · exact scan_app a _ _ b
      · split <;> exact scan_app a _ _ b
  | c :: a, 1, lev, b => by
    rw [List.cons_append]
    simp only [scan]
    split
    · exact scan_app a _ _ b
    · split <;> exact scan_app a _ _ b
  | c :: a, n + 2, lev, b => by
    rw [List.cons_append]
    simp only [scan]
    exact scan_app a _ _ b
/-- From state q on, never lower on the way. -/
def Lev (q : Nat) (a : List UInt8) : Prop := ∀ (lev : Int) (p r : List UInt8), a = p ++ r → lev ≤ (scan q lev p).2
/-- Outside quotes: it ends where it began, and is never lower. -/
def Flat (a : List UInt8) : Prop := (∀ lev, scan 0 lev a = (0, lev)) ∧ Lev 0 a
theorem flat_nil : Flat [] := ⟨fun _ => rfl, fun lev p r h => by
  have : p = [] := (List.append_eq_nil_iff.1 h.symm).1
  subst this; exact Int.le_refl _⟩
theorem flat_app {a b : List UInt8} (ha : Flat a) (hb : Flat b) : Flat (a ++ b) := by
  refine ⟨fun lev => by rw [scan_app, ha.1, hb.1], fun lev p r h => ?_⟩
  rcases List.append_eq_append_iff.1 h with ⟨c, rfl, h2⟩ | ⟨c, h1, h2⟩
  · rw [scan_app, ha.1]
    exact hb.2 lev c r h2
  · exact ha.2 lev p c h1
def neutral (c : UInt8) : Bool := !(c == 34 || c == 91 || c == 93)
theorem flat_one {c : UInt8} (h : neutral c = true) : Flat [c] := by
  unfold neutral at h
  simp only [Bool.not_eq_true', Bool.or_eq_false_iff] at h
  obtain ⟨⟨h1, h2⟩, h3⟩ := h
  refine ⟨fun lev => by simp [scan, h1, h2, h3], fun lev p r e => ?_⟩
  cases p with
  | nil => exact Int.le_refl _
  | cons d p =>
    injection e with e1 e2
    have : p = [] := (List.append_eq_nil_iff.1 e2.symm).1
    subst this; subst e1
    simp [scan, h1, h2, h3]
theorem flat_cons {c : UInt8} {a : List UInt8} (h : neutral c = true) (ha : Flat a) : Flat (c :: a) := flat_app (a := [c]) (flat_one h) ha
theorem flat_all : ∀ (a : List UInt8), (∀ c ∈ a, neutral c = true) → Flat a
  | [], _ => flat_nil
  | c :: a, h => flat_cons (h c (by simp)) (flat_all a fun d hd => h d (by simp [hd]))
theorem small_neutral (c : UInt8) (h : small c = true) : neutral c = true := by
  unfold small at h
  unfold neutral
  simp only [Bool.and_eq_true, decide_eq_true_eq] at h
  have h1 : c ≠ 34 := fun e => by subst e; exact absurd h.1 (by decide)
  have h2 : c ≠ 91 := fun e => by subst e; exact absurd h.1 (by decide)
  have h3 : c ≠ 93 := fun e => by subst e; exact absurd h.1 (by decide)
  simp [h1, h2, h3]
/-- What stands in quotes, with the closing one. -/
theorem scan_esc : ∀ (s : List UInt8) (lev : Int), scan 1 lev (escL s ++ [34]) = (0, lev)
  | [], lev => by simp [escL, scan]
  | c :: s, lev => by
    rw [escL]
    split
    · rw [List.cons_append, List.cons_append]
      simp only [scan]
      exact scan_esc s lev
    · rename_i hc
      have h1 : (c == 34) = false := by cases h : c == 34 <;> simp_all
      have h2 : (c == 92) = false := by cases h : c == 92 <;> simp_all
      rw [List.cons_append]
      simp only [scan, h1, h2]
      exact scan_esc s lev
theorem lev_cons1 {c : UInt8} {a : List UInt8} (h1 : (c == 34) = false) (h2 : (c == 92) = false) (h : Lev 1 a) : Lev 1 (c :: a) := fun lev p r e => by
  cases p with
  | nil => exact Int.le_refl _
  | cons d p =>
    injection e with e1 e2
    subst e1
    simp only [scan, h1, h2]
    exact h lev p r e2
theorem lev_esc2 {d : UInt8} {a : List UInt8} (h : Lev 1 a) : Lev 1 (92 :: d :: a) := fun lev p r e => by
  cases p with
  | nil => exact Int.le_refl _
  | cons x p =>
    injection e with e1 e2
    subst e1
    cases p with
    | nil => exact Int.le_refl _
    | cons y p =>
      injection e2 with e3 e4
      simp only [scan]
      exact h lev p r e4
theorem lev_esc : ∀ s : List UInt8, Lev 1 (escL s ++ [34])
  | [] => fun lev p r e => by
    cases p with
    | nil => exact Int.le_refl _
    | cons d p =>
      injection e with e1 e2
      have : p = [] := (List.append_eq_nil_iff.1 e2.symm).1
      subst this; subst e1
      exact Int.le_refl _
  | c :: s => by
    rw [escL]
    split
    · rw [List.cons_append, List.cons_append]; exact lev_esc2 (lev_esc s)
    · rename_i hc
      have h1 : (c == 34) = false := by cases h : c == 34 <;> simp_all
      have h2 : (c == 92) = false := by cases h : c == 92 <;> simp_all
      rw [List.cons_append]; exact lev_cons1 h1 h2 (lev_esc s)
theorem flat_quote (s : List UInt8) : Flat (quoteL s) := by
  refine ⟨fun lev => ?_, fun lev p r e => ?_⟩
  · show scan 0 lev (34 :: (escL s ++ [34])) = _
    simp only [scan]
    exact scan_esc s lev
  · cases p with
    | nil => exact Int.le_refl _
    | cons d p =>
      injection e with e1 e2
      subst e1
      simp only [scan]
      exact lev_esc s lev p r e2
theorem flat_node {a : List UInt8} (h : Flat a) : Flat (91 :: (a ++ [93])) := by
  refine ⟨fun lev => ?_, fun lev p r e => ?_⟩
  · have e : scan 0 lev (91 :: (a ++ [93])) = scan 0 (lev + 1) (a ++ [93]) := by simp [scan]
    rw [e, scan_app, h.1]; simp [scan]
  · cases p with
    | nil => exact Int.le_refl _
    | cons d p =>
      injection e with e1 e2
      subst e1
      have e : scan 0 lev (91 :: p) = scan 0 (lev + 1) p := by simp [scan]
      rw [e]
      rcases List.append_eq_append_iff.1 e2 with ⟨c, rfl, h2⟩ | ⟨c, h1, h2⟩
      · rw [scan_app, h.1]
        cases c with
        | nil => show lev ≤ lev + 1; omega
        | cons x c =>
          injection h2 with h3 h4
          have : c = [] := (List.append_eq_nil_iff.1 h4.symm).1
          subst this; subst h3
          show lev ≤ lev + 1 - 1; omega
      · have := h.2 (lev + 1) p c h1
        omega
end Go.Proofs.YtdcgffepdgldmaaDoor

namespace Go.Proofs.YtdcgffepdgldmaaDoor
open Go.RowKit Go.Sort Go.Maps

def Small (x : ByteArray) : Prop := ∀ c ∈ x.data.toList, small c = true
theorem flat_small {x : ByteArray} (h : Small x) : Flat x.data.toList := flat_all _ fun c hc => small_neutral c (h c hc)
theorem flat_comma : ∀ m : List ByteArray, (∀ x ∈ m, Small x) → Flat (commaM m)
  | [], _ => flat_nil
  | [x], h => flat_small (h x (by simp))
  | x :: y :: m, h => by
    show Flat (x.data.toList ++ 44 :: commaM (y :: m))
    exact flat_app (flat_small (h x (by simp))) (flat_cons (by decide) (flat_comma (y :: m) fun z hz => h z (by simp only [List.mem_cons] at hz ⊢; exact .inr hz)))
theorem flat_marks (m : List ByteArray) (h : ∀ x ∈ m, Small x) : Flat (marksW m) := by
  unfold marksW
  split
  · exact flat_nil
  · exact flat_cons (by decide) (flat_app (flat_comma m h) (flat_one (by decide)))
theorem flat_attr {p : ByteArray × ByteArray} (h : Small p.1) : Flat (attrW p) := flat_app (flat_small h) (flat_cons (by decide) (flat_quote _))
theorem flat_blank : ∀ m : List (ByteArray × ByteArray), (∀ x ∈ m, Small x.1) → Flat (blankA m)
  | [], _ => flat_nil
  | [x], h => flat_attr (h x (by simp))
  | x :: y :: m, h => by
    show Flat (attrW x ++ 32 :: blankA (y :: m))
    exact flat_app (flat_attr (h x (by simp))) (flat_cons (by decide) (flat_blank (y :: m) fun z hz => h z (by simp only [List.mem_cons] at hz ⊢; exact .inr hz)))
theorem flat_attrs (m : List (ByteArray × ByteArray)) (h : ∀ x ∈ m, Small x.1) : Flat (attrsW m) := by
  unfold attrsW
  split
  · exact flat_nil
  · exact flat_cons (by decide) (flat_app (flat_blank m h) (flat_one (by decide)))
mutual
theorem flat_write : ∀ t : Tree, formedB t = true → Flat (writeB t)
  | .mk k t m a l, h => by
    cases hk : isTxt k with
    | true =>
      rw [formedB, hk] at h
      simp only [if_true] at h
      have hm : marksB m = true := by
        unfold textB at h
        simp only [Bool.and_eq_true, Tree.marks] at h
        exact h.2.2.1
      rw [writeB, hk]
      exact flat_app (flat_quote _) (flat_marks m fun x hx => name_small (marks_names hm x hx))
    | false =>
      rw [formedB, hk] at h
      simp only [Bool.false_eq_true, if_false, Bool.and_eq_true] at h
      obtain ⟨h1, h2⟩ := h
      unfold headB at h1
      simp only [Bool.and_eq_true, Tree.kind, Tree.attrs] at h1
      rw [writeB, hk]
      simp only [Bool.false_eq_true, if_false]
      exact flat_app (flat_app (flat_small (name_small h1.1)) (flat_attrs a fun x hx => name_small (attrs_names h1.2.2.2 x hx))) (flat_node (flat_writeAll l fun t ht => row_all l none h2 t ht))
theorem flat_writeAll : ∀ l : List Tree, (∀ t ∈ l, formedB t = true) → Flat (writeAllB l)
  | [], _ => flat_nil
  | t :: l, h => by
    rw [writeAllB]
    exact flat_app (flat_write t (h t (by simp))) (flat_writeAll l fun u hu => h u (by simp [hu]))
end

/-! ### reading moves the level as the open nodes -/
theorem mem_tw (f : UInt8 → Bool) : ∀ (l : List UInt8) (c : UInt8), c ∈ l.takeWhile f → f c = true
  | [], c, h => by cases h
  | d :: l, c, h => by
    rw [List.takeWhile_cons] at h
    split at h
    · rename_i hd
      rcases List.mem_cons.1 h with rfl | h
      · exact hd
      · exact mem_tw f l c h
    · cases h
theorem take_small (l : List UInt8) : Small ⟨(l.takeWhile small).toArray⟩ := fun c hc => by
  have : c ∈ l.takeWhile small := by simpa using hc
  exact mem_tw small l c this
theorem restNames_small (l : List UInt8) : ∀ x ∈ (restNames l).1, Small x := by
  cases l with
  | nil => rw [restNames.eq_def]; intro x hx; cases hx
  | cons c r =>
    rw [restNames.eq_def]
    simp only
    split
    · intro x hx
      rcases List.mem_cons.1 hx with rfl | hx
      · exact take_small r
      · exact restNames_small (r.dropWhile small) x hx
    · intro x hx; cases hx
termination_by l.length
decreasing_by
  have := drops_le r
  simp only [List.length_cons]; omega
theorem marks_small (l : List UInt8) : ∀ x ∈ (marksL l).1, Small x := by
  unfold marksL
  split
  · intro x hx
    rcases List.mem_cons.1 hx with rfl | hx
    · exact take_small _
    · exact restNames_small _ x hx
  · intro x hx; cases hx
theorem attr_small (l : List UInt8) : Small (attrL l).1.1 := take_small l
theorem restAttrs_small : ∀ (n : Nat) (l : List UInt8), l.length ≤ n → ∀ x ∈ (restAttrs l).1, Small x.1
  | n, l, hn => by
    rw [restAttrs.eq_def]
    split
    · rename_i hp
      intro x hx
      rcases List.mem_cons.1 hx with rfl | hx
      · exact attr_small _
      · have e0 := pre_drop hp
        have h3 := congrArg List.length e0
        rw [List.length_cons] at h3
        have h1 := attr_le (l.drop 1)
        cases n with
        | zero => omega
        | succ n => exact restAttrs_small n _ (by omega) x hx
    · intro x hx; cases hx
theorem attrs_small (l : List UInt8) : ∀ x ∈ (attrsL l).1, Small x.1 := by
  unfold attrsL
  split
  · intro x hx
    rcases List.mem_cons.1 hx with rfl | hx
    · exact attr_small _
    · exact restAttrs_small _ _ (Nat.le_refl _) x hx
  · intro x hx; cases hx

theorem read_level : ∀ (n : Nat) (l : List UInt8) (st st' : List Tree) (lev : Int), l.length ≤ n → readN n l false st = (st', false) → st ≠ [] → st' ≠ [] ∧ scan 0 lev l = (0, lev + (st'.length : Int) - (st.length : Int))
  | n, [], st, st', lev, _, h, h0 => by
    have e : st = st' := by
      cases n with
      | zero => exact (Prod.mk.inj h).1
      | succ n => exact (Prod.mk.inj h).1
    subst e
    exact ⟨h0, by simp only [scan]; congr 1; omega⟩
  | 0, c :: l, st, st', lev, hn, _, _ => by simp at hn
  | n + 1, c :: l, [], st', lev, _, _, h0 => absurd rfl h0
  | n + 1, c :: l, top :: st, st', lev, hn, h, _ => by
    rw [readN_step] at h
    have hlen := (round_size c l false top st).2
    have hx' : (roundL c l false top st).2.1 = false := by
      cases hq : (roundL c l false top st).2.1 with
      | false => rfl
      | true =>
        rw [hq] at h
        have := readN_wrong n (roundL c l false top st).1 (roundL c l false top st).2.2
        rw [h] at this; cases this
    rw [hx'] at h
    have hn' : (roundL c l false top st).1.length ≤ n := by simp only [List.length_cons] at hn; omega
    by_cases h34 : (c == 34) = true
    · have e : roundL c l false top st = ((textL (c :: l)).2.1, false || (textL (c :: l)).2.2, addKid top (textL (c :: l)).1 :: st) := by unfold roundL; rw [if_pos h34]
      rw [e] at h hx' hn'
      simp only [Bool.false_or] at hx'
      simp only at h hn'
      obtain ⟨i1, i2⟩ := read_level n _ _ st' lev hn' h (by simp)
      refine ⟨i1, ?_⟩
      have := text_inv hx'
      have hfl : Flat (quoteL (textL (c :: l)).1.text.data.toList ++ marksW (textL (c :: l)).1.marks) := flat_app (flat_quote _) (flat_marks _ (marks_small _))
      rw [this, ← List.append_assoc, scan_app, hfl.1, i2]
      simp
    · by_cases h93 : (c == 93) = true
      · cases st with
        | nil =>
          have e : roundL c l false top [] = ([], true, [top]) := by unfold roundL; rw [if_neg h34, if_pos h93]
          rw [e] at hx'; cases hx'
        | cons up st =>
          have e : roundL c l false top (up :: st) = (if (closedL (st.length + 1) top).2 then [] else l, false || (closedL (st.length + 1) top).2, addKid up (closedL (st.length + 1) top).1 :: st) := by unfold roundL; rw [if_neg h34, if_pos h93]
          rw [e] at h hx' hn'
          simp only [Bool.false_or] at hx'
          rw [hx'] at h hn'
          simp only [Bool.false_eq_true, if_false] at h hn'
          obtain ⟨i1, i2⟩ := read_level n _ _ st' (lev - 1) hn' h (by simp)
          refine ⟨i1, ?_⟩
          have e93 : c = 93 := by simpa using h93
          subst e93
          have e2 : scan 0 lev (93 :: l) = scan 0 (lev - 1) l := by simp [scan]
          rw [e2, i2]
          congr 1
          simp only [List.length_cons]; omega
      · have e : roundL c l false top st = ((headL (c :: l)).2.1, false || (headL (c :: l)).2.2, (headL (c :: l)).1 :: top :: st) := by unfold roundL; rw [if_neg h34, if_neg h93]
        rw [e] at h hx' hn'
        simp only [Bool.false_or] at hx'
        simp only at h hn'
        obtain ⟨i1, i2⟩ := read_level n _ _ st' (lev + 1) hn' h (by simp)
        refine ⟨i1, ?_⟩
        have := head_inv hx'
        have hfl : Flat ((headL (c :: l)).1.kind.data.toList ++ attrsW (headL (c :: l)).1.attrs) := flat_app (flat_small (take_small _)) (flat_attrs _ (attrs_small _))
        rw [this, ← List.append_assoc, scan_app, hfl.1]
        have e2 : scan 0 lev (91 :: (headL (c :: l)).2.1) = scan 0 (lev + 1) (headL (c :: l)).2.1 := by simp [scan]
        show scan 0 lev (91 :: (headL (c :: l)).2.1) = _
        rw [e2, i2]
        congr 1
        simp only [List.length_cons]; omega
theorem doc_formed (l : List Cel) : ∀ x ∈ madeB l, formedB x = true := by
  have h := docB_right l
  unfold checkB at h
  split at h
  · rename_i hf
    have hk : isTxt DOC = false := by decide +kernel
    unfold docB at hf
    rw [formedB, hk] at hf
    simp only [Bool.false_eq_true, if_false, Bool.and_eq_true] at hf
    exact row_all _ none hf.2
  · cases h
theorem doc_text (l : List Cel) : writeB (docB l) = 100 :: 111 :: 99 :: 91 :: (writeAllB (madeB l) ++ [93]) := by
  have hk : isTxt DOC = false := by decide +kernel
  unfold docB
  rw [writeB, hk]
  simp [attrsW, DOC]
/-- A document that is cut is none. -/
theorem doc_cut (l : List Cel) (k : Nat) (hk : k < (writeB (docB l)).length) : parseB ((writeB (docB l)).take k) = (noTree, 2) := by
  rw [doc_text] at hk ⊢
  match k, hk with
  | 0, _ => exact parseB_len (s := []) (by decide +kernel)
  | 1, _ => exact parseB_no (s := [100]) (by decide +kernel)
  | 2, _ => exact parseB_no (s := [100, 111]) (by decide +kernel)
  | 3, _ => exact parseB_no (s := [100, 111, 99]) (by decide +kernel)
  | k + 4, hk =>
    simp only [List.length_cons, List.length_append, List.length_nil] at hk
    have hp : (100 :: 111 :: 99 :: 91 :: (writeAllB (madeB l) ++ [93])).take (k + 4) = 100 :: 111 :: 99 :: 91 :: (writeAllB (madeB l)).take k := by
      show 100 :: 111 :: 99 :: 91 :: (writeAllB (madeB l) ++ [93]).take k = _
      rw [List.take_append_of_le_length (by omega)]
    rw [hp]
    apply parseB_no
    cases hb : (readL (100 :: 111 :: 99 :: 91 :: (writeAllB (madeB l)).take k)).2 with
    | false => rfl
    | true =>
      exfalso
      unfold readL at hb
      simp only [Bool.and_eq_true, Bool.not_eq_true', beq_iff_eq] at hb
      obtain ⟨h1, h2⟩ := hb
      have hr := read_level _ _ [around []] _ 0 (Nat.le_refl _) (Prod.ext rfl h1) (by simp)
      have h3 := hr.2
      rw [h2] at h3
      have e : scan 0 0 (100 :: 111 :: 99 :: 91 :: (writeAllB (madeB l)).take k) = scan 0 1 ((writeAllB (madeB l)).take k) := by simp [scan]
      rw [e] at h3
      have hfl := (flat_writeAll (madeB l) (doc_formed l)).2 1 ((writeAllB (madeB l)).take k) ((writeAllB (madeB l)).drop k) (List.take_append_drop k _).symm
      rw [h3] at hfl
      simp at hfl
end Go.Proofs.YtdcgffepdgldmaaDoor

namespace Go.Proofs.YtdcgffepdgldmaaDoor
open Go.RowKit Go.Sort Go.Maps

/-- What PrintAll answers. -/
def printAllB (l : List Tree) : List UInt8 := if checkB (around l) = 0 then writeAllB l else []
set_option maxHeartbeats 2000000 in
theorem printAll_any (A : Option Addr) (c : Nat) (l : List Tree) (w : World) (h : Kids w (Under w.heap.size) (.slice A l.length c) l) (hw : weighAll l ≤ 900000) (hT : Tabs w) :
    Calls Tryd.prog 20 #[.slice A l.length c] w fun e w' => e = .returned (.tuple #[.string ⟨(printAllB l).toArray⟩, .int .i64 (checkB (around l))]) ∧ Below w.heap.size w w' := by
  have HK := Lib.hid h
  have HT := Lib.hid hT
  clear h hT
  have hwa : weigh (around l) ≤ 1000000 := by unfold around; simp only [weigh, weighL, weighP, List.map_nil, List.sum_nil]; rw [show (⟨#[120]⟩ : ByteArray).size = 1 from rfl, show (⟨#[]⟩ : ByteArray).size = 0 from rfl]; omega
  have HWA := Lib.hid hwa
  clear hwa
  go_enter Tryd.func20, Tryd.ntmps20
  go_wp2_with fail
  refine (around_any A l.length c w).mono ?_
  rintro e w1 ⟨rfl, hb1⟩
  have HB1 := Lib.hid hb1
  have HK1 := Lib.hid ((HK.out.below hb1).more hb1.size)
  clear hb1
  go_wp2_with fail
  refine (check_any _ (around l) w1 ⟨_, _, _, rfl, strs_none, pairs_none, HK1.out⟩ HWA.out (HT.out.below HB1.out)).mono ?_
  rintro e w2 ⟨rfl, hb2⟩
  have HB2 := Lib.hid (belowNext HB1.out hb2)
  have HK2 := Lib.hid ((HK1.out.below hb2).more hb2.size)
  clear hb2
  by_cases hc : checkB (around l) = 0
  · have HP : Hid (printAllB l = writeAllB l) := Lib.hid (if_pos hc)
    have HC := Lib.hid hc
    rw [hc]
    clear hc
    go_wp2_with fail
    refine (written_any _ l w2 HK2.out (by omega)).mono ?_
    rintro e w3 ⟨rfl, hb3⟩
    have HB3 := Lib.hid (belowNext HB2.out hb3)
    clear hb3
    rw [← HP.out]
    go_wp2
    go_ret2
    exact ⟨ret_pair rfl HC.out.symm, HB3.out⟩
  · have HP : Hid (printAllB l = []) := Lib.hid (if_neg hc)
    have hcb : (checkB (around l) != 0) = true := by simpa using hc
    clear hc
    generalize hr : checkB (around l) = r at *
    have HR := Lib.hid hr
    clear hr
    go_wp2
    go_ret2
    exact ⟨ret_pair (by rw [HP.out]) HR.out.symm, HB2.out⟩

theorem parseAllB_no {s : List UInt8} (h : (readL s).2 = false) : parseAllB s = ([], 2) := by
  unfold parseAllB
  rcases hq : readL s with ⟨l, b⟩
  rw [hq] at h
  simp only at h
  subst h
  rfl
theorem parseAllB_yes {s : List UInt8} (h : (readL s).2 = true) : parseAllB s = if checkB (around (readL s).1) = 0 then ((readL s).1, 0) else ([], checkB (around (readL s).1)) := by
  unfold parseAllB
  rcases hq : readL s with ⟨l, b⟩
  rw [hq] at h
  simp only at h
  subst h
  rfl
/-- How ParseAll ends. -/
def ParseAllPost (w : World) (q : List Tree × Int) (e : Ending) (w' : World) : Prop :=
  ∃ v, e = .returned (.tuple #[v, .int .i64 q.2]) ∧ Kids w' (From w.heap.size w'.heap.size) v q.1 ∧ Below w.heap.size w w'

set_option maxHeartbeats 4000000 in
theorem parseAll_any (s : ByteArray) (w : World) (hs : s.size ≤ 100000) (hT : Tabs w) :
    Calls Tryd.prog 14 #[.string s] w (ParseAllPost w (parseAllB s.data.toList)) := by
  have HT := Lib.hid hT
  clear hT
  have hsl : s.data.toList.length = s.size := by rw [Lib.size_eq]
  have hwg := readL_weigh s.data.toList
  go_enter Tryd.func14, Tryd.ntmps14
  go_wp2_with fail
  refine (read_any s w hs HT.out).mono ?_
  rintro e w2 ⟨v2, rfl, hk2, hb2⟩
  have HB2 := Lib.hid hb2
  have HK2 := Lib.hid hk2
  obtain ⟨A, c, rfl, hlc⟩ := hk2.form
  clear hb2 hk2
  cases hok : (readL s.data.toList).2 with
  | false =>
    have HP := Lib.hid (parseAllB_no hok)
    clear hok
    go_wp2
    go_ret2
    rw [HP.out]
    exact ⟨_, rfl, kids_none, HB2.out⟩
  | true =>
    have HP := Lib.hid (parseAllB_yes hok)
    clear hok
    generalize (readL s.data.toList).1 = l at *
    have hwa : weigh (around l) ≤ 1000000 := by unfold around; simp only [weigh, weighL, weighP, List.map_nil, List.sum_nil]; rw [show (⟨#[120]⟩ : ByteArray).size = 1 from rfl, show (⟨#[]⟩ : ByteArray).size = 0 from rfl]; omega
    have HWA := Lib.hid hwa
    clear hwa hwg hsl
    go_wp2_with fail
    refine (around_any A l.length c w2).mono ?_
    rintro e w3 ⟨rfl, hb3⟩
    have HB3 := Lib.hid (belowNext HB2.out hb3)
    have HK3 := Lib.hid (HK2.out.keep (S' := From w.heap.size w3.heap.size) (fun b hb => ⟨hb.1, Nat.lt_of_lt_of_le hb.2 hb3.size⟩) fun b hb => hb3.block b hb.2)
    clear hb3
    go_wp2_with fail
    refine (check_any _ (around l) w3 ⟨_, _, _, rfl, strs_none, pairs_none, HK3.out.keep (fun b hb => hb.2) (fun _ _ => rfl)⟩ HWA.out (HT.out.below HB3.out)).mono ?_
    rintro e w4 ⟨rfl, hb4⟩
    have HB4 := Lib.hid (belowNext HB3.out hb4)
    have HK4 := Lib.hid (HK3.out.keep (S' := From w.heap.size w4.heap.size) (fun b hb => ⟨hb.1, Nat.lt_of_lt_of_le hb.2 hb4.size⟩) fun b hb => hb4.block b hb.2)
    clear hb4
    by_cases hc : checkB (around l) = 0
    · have HQ : Hid (parseAllB s.data.toList = (l, 0)) := Lib.hid (by rw [HP.out, if_pos hc])
      rw [hc]
      go_wp2
      go_ret2
      rw [HQ.out]
      exact ⟨_, rfl, HK4.out, HB4.out⟩
    · have HQ : Hid (parseAllB s.data.toList = ([], checkB (around l))) := Lib.hid (by rw [HP.out, if_neg hc])
      have hcb : (checkB (around l) != 0) = true := by simpa using hc
      generalize checkB (around l) = r at *
      clear hc
      go_wp2
      go_ret2
      rw [HQ.out]
      exact ⟨_, rfl, kids_none, HB4.out⟩
end Go.Proofs.YtdcgffepdgldmaaDoor

namespace Go.Proofs.YtdcgffepdgldmaaDoor
open Go.RowKit Go.Sort Go.Maps

theorem around_check (l : List Cel) : checkB (around (madeB l)) = 0 := by
  have h := docB_right l
  have hk : isTxt DOC = false := by decide +kernel
  have hk2 : isTxt (⟨#[120]⟩ : ByteArray) = false := by decide +kernel
  unfold checkB at h ⊢
  split at h
  · rename_i hf
    split at h
    · cases h
    · split at h
      · cases h
      · rename_i h1 h2
        unfold docB at hf h1 h2
        rw [formedB, hk] at hf
        rw [depthB, hk] at h1
        rw [sizeB, hk] at h2
        simp only [Bool.false_eq_true, if_false, Bool.and_eq_true] at hf h1 h2
        have e1 : formedB (around (madeB l)) = true := by
          unfold around
          rw [formedB, hk2]
          simp only [Bool.false_eq_true, if_false, Bool.and_eq_true]
          exact ⟨by show (nameB ⟨#[120]⟩ && ((⟨#[]⟩ : ByteArray).toList.isEmpty && (decide (([] : List ByteArray).length = 0) && attrsB []))) = true; decide +kernel, hf.2⟩
        have e2 : depthB (around (madeB l)) = deepB (madeB l) + 1 := by unfold around; rw [depthB, hk2]; simp
        have e3 : sizeB (around (madeB l)) = 2 + totalB (madeB l) := by unfold around; rw [sizeB, hk2]; simp
        rw [if_pos e1, e2, e3, if_neg h1, if_neg h2]
  · cases h
theorem made_deep (l : List Cel) : deepB (madeB l) ≤ 40 := by
  have h := around_check l
  unfold checkB at h
  have hk2 : isTxt (⟨#[120]⟩ : ByteArray) = false := by decide +kernel
  have e2 : depthB (around (madeB l)) = deepB (madeB l) + 1 := by unfold around; rw [depthB, hk2]; simp
  split at h
  · split at h
    · cases h
    · omega
  · cases h
theorem parseAll_made (l : List Cel) : parseAllB (writeAllB (madeB l)) = (madeB l, 0) := by
  have h := readAll_back (madeB l) (doc_formed l) (made_deep l)
  rw [parseAllB_yes (by rw [h]), h, if_pos (around_check l)]
theorem parse_weigh {s : List UInt8} {t : Tree} (h : parseB s = (t, 0)) : weigh t ≤ 8 * s.length + 3 := by
  have hw := readL_weigh s
  unfold parseB at h
  split at h
  · rename_i t' hr
    split at h
    · obtain ⟨rfl, _⟩ := Prod.mk.inj h
      rw [hr] at hw
      simpa [weighAll] using hw
    · rename_i hc
      exact absurd (Prod.mk.inj h).2 hc
  · have := (Prod.mk.inj h).2
    cases this
theorem heap_ltH {w : World} {g : Nat} {o : Obj} (h : w.heap[g]? = some o) : g < w.heap.size := (Array.getElem?_eq_some_iff.1 h).1
theorem size_ofH {a : ByteArray} {l : List UInt8} (h : a.data.toList = l) : a.size = l.length := by rw [← h, Array.length_toList]; rfl
theorem app_listH (a b : ByteArray) : (a ++ b).data.toList = a.data.toList ++ b.data.toList := by rw [ByteArray.data_append]; simp

set_option maxHeartbeats 8000000 in
set_option maxRecDepth 100000 in
theorem codecBack_walk (v : Value) (l : List Cel) (s : ByteArray) (pos : Int) (w : World) (h : Cels w (Under w.heap.size) v l) (hs : s.size ≤ maxLen) (h0 : -9223372036854775808 ≤ pos) (h1 : pos ≤ 9223372036854775807) (hT : Tabs w) :
    Calls Tryd.prog 4 #[v, .string s, .int .i64 pos] w fun e w' => e = .returned (.bool true) ∧ Below w.heap.size w w' := by
  unfold maxLen at hs
  have HA := Lib.hid h
  have HT := Lib.hid hT
  clear h hT
  by_cases hl : s.size ≤ 1500
  · have hl1 : decide ((1500 : Int) < (s.size : Int)) = false := decide_eq_false (by omega)
    go_enter Tryd.func4, Tryd.ntmps4
    go_wp2_with fail
    refine (shown2_any _ HT.out).mono ?_
    rintro e w1 ⟨rfl, hb1⟩
    have HB1 := Lib.hid hb1
    clear hb1
    go_wp2_with fail
    refine (doc_any _ l _ ((HA.out.below HB1.out).more HB1.out.size)).mono ?_
    rintro e w2 ⟨A2, c2, rfl, hk2, hb2⟩
    have HB2 := Lib.hid (belowNext HB1.out hb2)
    have HK2 := Lib.hid (hk2.keep (S' := Under w2.heap.size) (fun _ h => h.2) (fun _ _ => rfl))
    clear hk2 hb2
    have hA3 : Below w2.heap.size w2 (w2.alloc (.cells #[.string ⟨#[100, 111, 99]⟩, .string ⟨#[]⟩, .slice none 0 0, .slice none 0 0, .slice A2 (madeB l).length c2] 27)) := (Below.refl _ _).alloc (Nat.le_refl _) _
    have hP3 := heap_alloc_new w2 (.cells #[.string ⟨#[100, 111, 99]⟩, .string ⟨#[]⟩, .slice none 0 0, .slice none 0 0, .slice A2 (madeB l).length c2] 27)
    have HWD : Hid (weigh (docB l) ≤ 1000) := Lib.hid (by have := madeB_weigh l; unfold docB; simp only [weigh, weighL, weighP, List.map_nil, List.sum_nil]; rw [show DOC.size = 3 from rfl, show ByteArray.empty.size = 0 from rfl]; omega)
    go_wp2_with fail
    generalize w2.alloc (.cells #[.string ⟨#[100, 111, 99]⟩, .string ⟨#[]⟩, .slice none 0 0, .slice none 0 0, .slice A2 (madeB l).length c2] 27) = W3 at *
    have hK3 := (HK2.out.below hA3).more hA3.size
    have HN3 : Hid (Node W3 (Under W3.heap.size) (.agg #[.string ⟨#[100, 111, 99]⟩, .string ⟨#[]⟩, .slice none 0 0, .slice none 0 0, .slice A2 (madeB l).length c2]) (docB l)) := Lib.hid ⟨_, _, _, rfl, strs_none, pairs_none, hK3⟩
    have HK3 := Lib.hid hK3
    have HP3 := Lib.hid hP3
    have HB3 := Lib.hid (belowNext HB2.out hA3)
    clear hA3 hP3 hK3 HK2
    refine (print_any _ (docB l) W3 HN3.out (Nat.le_trans HWD.out (by decide)) (HT.out.below HB3.out)).mono ?_
    rintro e w4 ⟨rfl, hb4⟩
    rw [docB_right l]
    obtain ⟨t, ht⟩ : ∃ t : ByteArray, t = ⟨(printB (docB l)).toArray⟩ := ⟨_, rfl⟩
    rw [← ht]
    have HTT : Hid (t.data.toList = writeB (docB l)) := Lib.hid (by rw [ht]; show printB (docB l) = _; exact if_pos (docB_right l))
    have htz : t.size ≤ 4000 := by rw [size_ofH HTT.out]; have := writeB_le (docB l); have := HWD.out; omega
    have HB4 := Lib.hid (belowNext HB3.out hb4)
    have HL4 := Lib.hid hb4
    clear hb4 ht
    go_wp2_with fail
    refine (parse_any t w4 (by omega) (HT.out.below HB4.out)).mono ?_
    rintro e w5 ⟨v5, rfl, hn5, hb5⟩
    rw [HTT.out, parse_back (docB l) (docB_right l)] at hn5 ⊢
    obtain ⟨P2, m2, e2, P3, m3, e3, P4, m4, e4, rfl⟩ := node_form hn5
    have hx5 : Below w5.heap.size w5 (w5.alloc (.cells #[.string (docB l).kind, .string (docB l).text, .slice P2 m2 e2, .slice P3 m3 e3, .slice P4 m4 e4] 27)) := (Below.refl _ _).alloc (Nat.le_refl _) _
    have hs5 := heap_alloc_new w5 (.cells #[.string (docB l).kind, .string (docB l).text, .slice P2 m2 e2, .slice P3 m3 e3, .slice P4 m4 e4] 27)
    have HM5 := Lib.hid (hn5.keep (S' := Under (w5.alloc (.cells #[.string (docB l).kind, .string (docB l).text, .slice P2 m2 e2, .slice P3 m3 e3, .slice P4 m4 e4] 27)).heap.size) (fun b hb => Nat.lt_of_lt_of_le hb.2 hx5.size) fun b hb => hx5.block b hb.2)
    have hL5 := HL4.out.trans ((hb5.trans (hx5.mono hb5.size)).mono HL4.out.size)
    have HB5 := Lib.hid (belowNext HB4.out (hb5.trans (hx5.mono hb5.size)))
    have HS5 := Lib.hid hs5
    obtain ⟨k0, k1, k2, k3, k4⟩ := five_cells ((hL5.block _ (heap_ltH HP3.out)).trans HP3.out)
    have HL5 := Lib.hid hL5
    clear hn5 hb5 hx5 hs5 HL4 hL5
    go_wp2_with fail
    generalize w5.alloc (.cells #[.string (docB l).kind, .string (docB l).text, .slice P2 m2 e2, .slice P3 m3 e3, .slice P4 m4 e4] 27) = W6 at *
    have hmw := madeB_weigh l
    refine (printAll_any A2 c2 (madeB l) W6 ((HK3.out.below HL5.out).more HL5.out.size) (by omega) (HT.out.below HB5.out)).mono ?_
    rintro e w7 ⟨rfl, hb7⟩
    rw [around_check l]
    obtain ⟨u, hu⟩ : ∃ u : ByteArray, u = ⟨(printAllB (madeB l)).toArray⟩ := ⟨_, rfl⟩
    rw [← hu]
    have HUU : Hid (u.data.toList = writeAllB (madeB l)) := Lib.hid (by rw [hu]; show printAllB (madeB l) = _; exact if_pos (around_check l))
    have huz : u.size ≤ 4000 := by rw [size_ofH HUU.out]; have := writeAllB_le (madeB l); omega
    have HB7 := Lib.hid (belowNext HB5.out hb7)
    have HL7 := Lib.hid (HL5.out.trans (hb7.mono HL5.out.size))
    have HX7 := Lib.hid hb7
    clear hb7 hu k0 k1 k2 k3 k4
    go_wp2_with fail
    refine (parseAll_any u w7 (by omega) (HT.out.below HB7.out)).mono ?_
    rintro e w8 ⟨v8, rfl, hk8, hb8⟩
    rw [HUU.out, parseAll_made l] at hk8 ⊢
    obtain ⟨A8, c8, rfl, _⟩ := hk8.form
    have HB8 := Lib.hid (belowNext HB7.out hb8)
    have HL8 := Lib.hid (HL7.out.trans (hb8.mono HL7.out.size))
    have HX8 := Lib.hid (HX7.out.trans (hb8.mono HX7.out.size))
    have HK8 := Lib.hid (hk8.keep (S' := Under w8.heap.size) (fun _ h => h.2) (fun _ _ => rfl))
    have HKM := Lib.hid ((HK3.out.below HL8.out).more HL8.out.size)
    have HNM := Lib.hid ((HN3.out.below HL8.out).more HL8.out.size)
    have HMM := Lib.hid ((HM5.out.below HX8.out).more HX8.out.size)
    obtain ⟨k0, k1, k2, k3, k4⟩ := five_cells ((HL8.out.block _ (heap_ltH HP3.out)).trans HP3.out)
    obtain ⟨p0, p1, p2, p3, p4⟩ := five_cells ((HX8.out.block _ (heap_ltH HS5.out)).trans HS5.out)
    have hte : t = (⟨#[100, 111, 99, 91]⟩ : ByteArray) ++ u ++ ⟨#[93]⟩ := ByteArray.ext (Array.ext' (by rw [HTT.out, doc_text, app_listH, app_listH, HUU.out]; simp))
    have heq : (t.toList == ((⟨#[100, 111, 99, 91]⟩ : ByteArray) ++ u ++ ⟨#[93]⟩).toList) = true := by rw [← hte]; simp
    have o1 : ¬ 9223372036854775807 < 4 + u.size := by omega
    have o2 : ¬ 9223372036854775807 < 4 + u.size + 1 := by omega
    have htp : 0 < t.size := by rw [size_ofH HTT.out, doc_text]; simp
    clear hk8 hb8 hte
    go_wp2_with fail
    refine (nsame_any _ _ (docB l) (docB l) w8 HNM.out HMM.out (Nat.le_trans HWD.out (by decide)) (Nat.le_trans HWD.out (by decide))).mono ?_
    rintro e w9 ⟨rfl, hb9⟩
    rw [sameB_self]
    have HB9 := Lib.hid (belowNext HB8.out hb9)
    have HL9 := Lib.hid (HL8.out.trans (hb9.mono HL8.out.size))
    have HK9 := Lib.hid ((HK8.out.below hb9).more hb9.size)
    have HM9 := Lib.hid ((HKM.out.below hb9).more hb9.size)
    clear hb9 k0 k1 k2 k3 k4 p0 p1 p2 p3 p4
    obtain ⟨k0, k1, k2, k3, k4⟩ := five_cells ((HL9.out.block _ (heap_ltH HP3.out)).trans HP3.out)
    go_wp2_with fail
    refine (sameAll_any _ _ (madeB l) w9 HK9.out HM9.out (by omega)).mono ?_
    rintro e w10 ⟨rfl, hb10⟩
    have HB10 := Lib.hid (belowNext HB9.out hb10)
    clear hb10 k0 k1 k2 k3 k4
    go_wp2_with fail
    refine (pick_any pos (t.size : Int) w10 (by omega) (by omega) h0 h1).mono ?_
    rintro e w11 ⟨rfl, rfl⟩
    obtain ⟨pk, hpk⟩ : ∃ pk : Nat, pickN pos (t.size : Int) = (pk : Int) := ⟨(pickN pos (t.size : Int)).toNat, by have := pickN_lo pos (t.size : Int) (by omega); omega⟩
    have hpl : pk < t.size := by have := pickN_hi pos (t.size : Int) (by omega); omega
    rw [hpk]
    have HCUT : Hid (parseB (t.extract 0 pk).data.toList = (noTree, 2)) := Lib.hid (by
      rw [ext_take]; show parseB (t.data.toList.take pk) = _
      rw [HTT.out]; exact doc_cut l pk (by rw [← HTT.out, ← Lib.size_eq]; exact hpl))
    have hcz : (t.extract 0 pk).size ≤ 100000 := by rw [ext_take, bytes_size, List.length_take]; omega
    clear hpk
    go_wp2_with fail
    generalize t.extract 0 pk = tc at *
    refine (parse_any tc w10 hcz (HT.out.below HB10.out)).mono ?_
    rintro e w11 ⟨v11, rfl, hn11, hb11⟩
    rw [HCUT.out] at hn11 ⊢
    obtain ⟨vm, va, vk, he11, hm11, ha11, hk11⟩ := hn11
    obtain ⟨X2, y2, rfl, _⟩ := hm11.form
    obtain ⟨X3, y3, rfl, _⟩ := ha11.form
    obtain ⟨X4, y4, rfl, _⟩ := hk11.form
    subst he11
    have HB11 := Lib.hid (belowNext HB10.out hb11)
    have HB12 := Lib.hid (belowNext HB11.out ((Below.refl w11.heap.size w11).alloc (Nat.le_refl _) (.cells #[.string noTree.kind, .string noTree.text, .slice X2 noTree.marks.length y2, .slice X3 noTree.attrs.length y3, .slice X4 noTree.kids.length y4] 27)))
    have hnk : noTree.kind.toList.isEmpty = true := by decide +kernel
    clear hm11 ha11 hk11 hb11
    go_wp2_with fail
    generalize w11.alloc (.cells #[.string noTree.kind, .string noTree.text, .slice X2 noTree.marks.length y2, .slice X3 noTree.attrs.length y3, .slice X4 noTree.kids.length y4] 27) = W12 at *
    refine (parse_any s W12 (by omega) (HT.out.below HB12.out)).mono ?_
    rintro e w13 ⟨v13, rfl, hn13, hb13⟩
    have HB13 := Lib.hid (belowNext HB12.out hb13)
    have hz13 := hb13.size
    rcases hq : parseB s.data.toList with ⟨ty, r⟩
    rw [show (ty, r).snd = r from rfl]
    have hn13' : Node w13 (From W12.heap.size w13.heap.size) v13 ty := by
      first | exact hn13 | (rw [hq] at hn13; exact hn13)
    clear hn13
    have hn13 := hn13'
    clear hn13'
    by_cases hr : r = 0
    · subst hr
      obtain ⟨hy1, hy2⟩ := parse_inv hq
      have hyw : weigh ty ≤ 20000 := by have := parse_weigh hq; rw [← Lib.size_eq] at this; omega
      have HY1 := Lib.hid hy1
      have HYP : Hid ((⟨(printB ty).toArray⟩ : ByteArray) = s) := Lib.hid (by
        rw [show printB ty = s.data.toList from (if_pos hy1 : printB ty = writeB ty).trans hy2])
      clear hq hy1 hy2
      obtain ⟨Z2, f2, g2, Z3, f3, g3, Z4, f4, g4, rfl⟩ := node_form hn13
      have hx13 : Below w13.heap.size w13 (w13.alloc (.cells #[.string ty.kind, .string ty.text, .slice Z2 f2 g2, .slice Z3 f3 g3, .slice Z4 f4 g4] 27)) := (Below.refl _ _).alloc (Nat.le_refl _) _
      have hs13 := heap_alloc_new w13 (.cells #[.string ty.kind, .string ty.text, .slice Z2 f2 g2, .slice Z3 f3 g3, .slice Z4 f4 g4] 27)
      have HY := Lib.hid (hn13.keep (S' := Under (w13.alloc (.cells #[.string ty.kind, .string ty.text, .slice Z2 f2 g2, .slice Z3 f3 g3, .slice Z4 f4 g4] 27)).heap.size) (fun b hb => Nat.lt_of_lt_of_le hb.2 hx13.size) fun b hb => hx13.block b hb.2)
      have HB14 := Lib.hid (belowNext HB13.out hx13)
      have HS13 := Lib.hid hs13
      clear hn13 hb13 hx13 hs13
      obtain ⟨n0, n1, n2, n3, n4⟩ := five_cells HS13.out
      go_wp2_with fail
      generalize w13.alloc (.cells #[.string ty.kind, .string ty.text, .slice Z2 f2 g2, .slice Z3 f3 g3, .slice Z4 f4 g4] 27) = W14 at *
      refine (print_any _ ty W14 HY.out (by omega) (HT.out.below HB14.out)).mono ?_
      rintro e w15 ⟨rfl, hb15⟩
      rw [HYP.out, HY1.out]
      have HB15 := Lib.hid (belowNext HB14.out hb15)
      have HY15 := Lib.hid ((HY.out.below hb15).more hb15.size)
      obtain ⟨a0, a1, a2, a3, a4⟩ := five_cells ((hb15.block _ (heap_ltH HS13.out)).trans HS13.out)
      clear hb15 n0 n1 n2 n3 n4
      go_wp2_with fail
      refine (right_any _ ty w15 HY15.out (by omega) (HT.out.below HB15.out)).mono ?_
      rintro e w16 ⟨rfl, hb16⟩
      rw [HY1.out]
      have HB16 := Lib.hid (belowNext HB15.out hb16)
      clear hb16 a0 a1 a2 a3 a4
      go_wp2
      go_ret
      exact ⟨rfl, HB16.out⟩
    · have hty : ty = noTree := by have := parseB_zero (s := s.data.toList) (by rw [hq]; exact hr); rw [hq] at this; exact this
      subst hty
      have hrb : (r != 0) = true := by simpa using hr
      have hrb2 : (r == 0) = false := by simpa using hr
      obtain ⟨vm, va, vk, he13, hm13, ha13, hk13⟩ := hn13
      obtain ⟨Y2, z2, rfl, _⟩ := hm13.form
      obtain ⟨Y3, z3, rfl, _⟩ := ha13.form
      obtain ⟨Y4, z4, rfl, _⟩ := hk13.form
      subst he13
      have HB14 := Lib.hid (belowNext HB13.out ((Below.refl w13.heap.size w13).alloc (Nat.le_refl _) (.cells #[.string noTree.kind, .string noTree.text, .slice Y2 noTree.marks.length z2, .slice Y3 noTree.attrs.length z3, .slice Y4 noTree.kids.length z4] 27)))
      have hnt : noTree.text.toList.isEmpty = true := by decide +kernel
      clear hm13 ha13 hk13 hb13 hq hr
      go_wp2
      go_ret
      exact ⟨rfl, HB14.out⟩
  · have hl1 : decide ((1500 : Int) < (s.size : Int)) = true := decide_eq_true (by omega)
    go_enter Tryd.func4, Tryd.ntmps4
    go_wp2_with fail
    refine (shown2_any _ HT.out).mono ?_
    rintro e w1 ⟨rfl, hb1⟩
    go_wp2
    go_ret
    exact ⟨rfl, hb1⟩
end Go.Proofs.YtdcgffepdgldmaaDoor
