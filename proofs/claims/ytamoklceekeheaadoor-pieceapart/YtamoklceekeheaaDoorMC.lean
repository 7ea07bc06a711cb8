/-
  Cut and Put, where the kids of the node there lie in three parts.
  The chapter's example (at the head of the statements of chapter 5).
  What flat answers: two positions with one path.
  What node.Same answers.
  Two nodes are the same just if they are equal trees: plain facts.
  For the statements that cut and put: plain facts on documents that doc makes; Put with its answer by name.
  What the document's Same and SameAll answer at nodes that are alike: true.
-/
import Derived.Test.YtamoklceekeheaaDoorMB
import Derived.Test.YtamoklceekeheaaDoorMA
import Derived.Test.YtamoklceekeheaaDoorW8
import Derived.Lib.QuietBelow
import Derived.Test.YtamoklceekeheaaDoorRightA
namespace Go.Proofs.YtamoklceekeheaaDoor
open Go.RowKit Go.Sort Go.Maps

theorem isDoc_of {t : Tree} (hT : isTxt t.kind = false) (h : checkB t = 0) : isDocB t = true := by simp [isDocB, hT, h]
theorem areKids_of {l : List Tree} (h : rowB none l = true) : areKidsB l = true := by
  have ht : isTxt XKIND = false := by decide +kernel
  have hf : formedB (.mk XKIND ⟨#[]⟩ [] [] (joinB l)) = true := by
    rw [joinB_stays l h, formedB_node ht, h]
    show (nameB XKIND && (ByteArray.empty.toList.isEmpty && (decide (([] : List ByteArray).length = 0) && attrsB [])) && true) = true
    decide +kernel
  unfold areKidsB checkB
  rw [if_pos hf]
  split
  · rfl
  · split <;> rfl
namespace Three
variable {t u : Tree} {p : List Int} {A M C : List Tree}
theorem spans (h : Three t p u A M C) (hf : formedB t = true) : ∃ j1 o1 j2 o2 : Nat, resolveB t ((startB t p + totalB A : Nat) : Int) = some (p, j1, o1) ∧ resolveB t ((startB t p + totalB A + totalB M : Nat) : Int) = some (p, j2, o2) ∧
    SpotOk t (startB t p + totalB A) (p, j1, o1) u ∧ SpotOk t (startB t p + totalB A + totalB M) (p, j2, o2) u := by
  have ht := h.total
  have hT := go_plain p t u h.go h.plain
  have huf := go_formed p t u h.go hf
  obtain ⟨j1, o1, e1⟩ := h.spot h.lo (by omega) huf
  obtain ⟨j2, o2, e2⟩ := h.spot h.first (by omega) huf
  rw [← Nat.add_assoc] at e2
  exact ⟨j1, o1, j2, o2, e1, e2, spotOk_of hT e1 h.go, spotOk_of hT e2 h.go⟩
theorem weighs (h : Three t p u A M C) : weighAll A ≤ weighAll u.kids ∧ weighAll M ≤ weighAll u.kids ∧ weighAll C ≤ weighAll u.kids := by
  have h1 := splitB_weigh u.kids (totalB A + totalB M)
  rw [h.first] at h1
  have h2 := splitB_weigh (joinB (A ++ M)) (totalB A)
  rw [h.second] at h2
  simp only at h1 h2
  omega
theorem deeps (h : Three t p u A M C) (hf : formedB t = true) : deepB A ≤ deepB u.kids ∧ deepB M ≤ deepB u.kids ∧ deepB C ≤ deepB u.kids := by
  have hk := kids_row h.plain (go_formed p t u h.go hf)
  have h1 := parts_of u.kids none _ _ _ hk h.first
  have h2 := parts_of _ none _ _ _ h1.ahead h.second
  have := h1.deepA; have := h1.deepC; have := h2.deepA; have := h2.deepC
  omega
/-- What is put in the middle. -/
def put (t u : Tree) (p : List Int) (A l C : List Tree) : Tree := withB t p (withKids u (joinB (A ++ (l ++ C))))
theorem row (h : Three t p u A M C) {l : List Tree} (hl : rowB none l = true) : ∀ x ∈ A ++ (l ++ C), formedB x = true := fun x hx => by
  rcases List.mem_append.1 hx with e | e
  · exact rowFormed h.ahead x e
  · exact formed_app hl h.behind x e
theorem after (h : Three t p u A M C) {l : List Tree} (hl : rowB none l = true) : Three (Three.put t u p A l C) p (withKids u (joinB (A ++ (l ++ C)))) A l C :=
  ⟨goB_with p t u _ h.go, h.plain, h.ahead, hl, h.behind, rfl⟩
theorem right (h : Three t p u A M C) {l : List Tree} (hl : rowB none l = true) (hc : checkB t = 0) (hd : depthB t + deepB l ≤ 40) (hs : sizeB t + totalB l ≤ 4000) :
    checkB (Three.put t u p A l C) = 0 ∧ isTxt (Three.put t u p A l C).kind = false ∧ depthB (Three.put t u p A l C) ≤ depthB t + deepB l ∧ sizeB (Three.put t u p A l C) + totalB M = sizeB t + totalB l ∧ weigh (Three.put t u p A l C) ≤ 3 * weigh t + weighAll l ∧
      startB (Three.put t u p A l C) p = startB t p := by
  obtain ⟨hf, h1, h2⟩ := checkIs hc
  have huf := go_formed p t u h.go hf
  have hK : rowB none (joinB (A ++ (l ++ C))) = true := row_join (h.row hl)
  obtain ⟨f1, f2⟩ := with_formed p t u (withKids u (joinB (A ++ (l ++ C)))) h.go h.plain h.plain hf (formed_kids h.plain huf hK)
  have hd1 : deepB (joinB (A ++ (l ++ C))) ≤ deepB u.kids + deepB l := by
    have := joinB_deep (A ++ (l ++ C))
    obtain ⟨_, _, _⟩ := h.deeps hf
    rw [deepB_append, deepB_append] at this; omega
  have hd2 := with_depth p t u (withKids u (joinB (A ++ (l ++ C)))) (deepB l) h.go (by rw [depth_node (x := withKids u _) h.plain, depth_node h.plain, withKids_kids]; omega)
  have ht := h.total
  have hs1 := size_with p t u (withKids u (joinB (A ++ (l ++ C)))) h.go
  rw [sizeB_node (x := withKids u _) h.plain, sizeB_node h.plain, withKids_kids, joinB_total _ (h.row hl), totalB_append, totalB_append] at hs1
  have hw1 := weigh_with p t u (withKids u (joinB (A ++ (l ++ C)))) h.go
  obtain ⟨w1, w2, w3⟩ := h.weighs
  have hw2 := joinB_weigh (A ++ (l ++ C))
  rw [weighAll_append, weighAll_append] at hw2
  have hw3 := goB_weigh p t u h.go
  have hw4 := kids_weigh u
  have hw5 : weigh (withKids u (joinB (A ++ (l ++ C)))) ≤ weigh u + weighAll (joinB (A ++ (l ++ C))) := by
    obtain ⟨uk, ut, um, ua, ul⟩ := u
    simp only [withKids, Tree.kind, Tree.text, Tree.marks, Tree.attrs, weigh]; omega
  have hsz : sizeB (Three.put t u p A l C) + totalB M = sizeB t + totalB l := by unfold Three.put; omega
  refine ⟨check_of f1 (Nat.le_trans hd2 hd) (by omega), f2, hd2, hsz, ?_, start_with p t u _ h.go⟩
  unfold Three.put; omega
end Three
/-- Put. -/
theorem put_three (v vl : Value) {t u : Tree} {p : List Int} {A M C l : List Tree} {a b : Nat} (w : World) (h : Node w (Under w.heap.size) v t) (hw : weigh t ≤ 100000) (hT : Tabs w) (hl : Kids w (Under w.heap.size) vl l) (hwl : weighAll l ≤ 100000)
    (hc : checkB t = 0) (hr : rowB none l = true) (h3 : Three t p u A M C) (hg : checkB (Three.put t u p A l C) = 0) (ha : a = startB t p + totalB A) (hb : b = startB t p + totalB A + totalB M) :
    Calls Tryd.prog 14 #[v, .int .i64 (a : Int), .int .i64 (b : Int), vl] w (PutPost w (Three.put t u p A l C)) := by
  subst ha hb
  have hf := (checkIs hc).1
  have hT' := go_plain p t u h3.go h3.plain
  obtain ⟨j1, o1, j2, o2, e1, e2, s1, s2⟩ := h3.spans hf
  have hku := kids_weigh u
  have hwu := goB_weigh p t u h3.go
  have hst := startB_weigh p t
  have htt := total_le_weigh u.kids
  have htot := h3.total
  obtain ⟨w1, w2, w3⟩ := h3.weighs
  have i1 : startB t p + totalB A + totalB M - startB t p = totalB A + totalB M := by omega
  have i2 : startB t p + totalB A - startB t p = totalB A := by omega
  have k1 : (splitB (splitB u.kids (startB t p + totalB A + totalB M - startB t p)).2.1 (startB t p + totalB A - startB t p)).2.1 = A := by rw [i1, i2, h3.first]; simp only; rw [h3.second]
  have k2 : (splitB u.kids (startB t p + totalB A + totalB M - startB t p)).2.2 = C := by rw [i1, h3.first]
  have hj := joinB_weigh (A ++ (l ++ C))
  rw [weighAll_append, weighAll_append] at hj
  have := put_ok v vl t u l (startB t p + totalB A) (startB t p + totalB A + totalB M) p j1 o1 j2 o2 w h hw hT hl hwl (by have := joinB_weigh l; omega) (isDoc_of hT' hc) (areKids_of hr) e1 e2 (by omega) s1 s2 (by omega)
    (by rw [k1, k2]; exact hg) (by rw [k1, k2]; omega)
  rw [k1, k2] at this
  exact this
/-- Cut. -/
theorem cut_three (v : Value) {t u : Tree} {p : List Int} {A M C : List Tree} {a b : Nat} (w : World) (h : Node w (Under w.heap.size) v t) (hw : weigh t ≤ 100000) (hT : Tabs w)
    (hc : checkB t = 0) (h3 : Three t p u A M C) (ha : a = startB t p + totalB A) (hb : b = startB t p + totalB A + totalB M) :
    Calls Tryd.prog 13 #[v, .int .i64 (a : Int), .int .i64 (b : Int)] w (CutPost w M) := by
  subst ha hb
  have hf := (checkIs hc).1
  have hT' := go_plain p t u h3.go h3.plain
  obtain ⟨j1, o1, j2, o2, e1, e2, s1, s2⟩ := h3.spans hf
  have hku := kids_weigh u
  have hwu := goB_weigh p t u h3.go
  have hst := startB_weigh p t
  have htt := total_le_weigh u.kids
  have htot := h3.total
  have i1 : startB t p + totalB A + totalB M - startB t p = totalB A + totalB M := by omega
  have i2 : startB t p + totalB A - startB t p = totalB A := by omega
  have k1 : (splitB (splitB u.kids (startB t p + totalB A + totalB M - startB t p)).2.1 (startB t p + totalB A - startB t p)).2.2 = M := by rw [i1, i2, h3.first]; simp only; rw [h3.second]
  have := cut_ok v t u (startB t p + totalB A) (startB t p + totalB A + totalB M) p j1 o1 j2 o2 w h hw hT (isDoc_of hT' hc) e1 e2 (by omega) s1 s2 (by omega)
  rw [k1] at this
  exact this
theorem put_as (v vl : Value) {t u r : Tree} {p : List Int} {A M C l : List Tree} {a b : Nat} (w : World) (h : Node w (Under w.heap.size) v t) (hw : weigh t ≤ 100000) (hT : Tabs w) (hl : Kids w (Under w.heap.size) vl l) (hwl : weighAll l ≤ 100000)
    (hc : checkB t = 0) (hr : rowB none l = true) (h3 : Three t p u A M C) (hg : checkB r = 0) (ha : a = startB t p + totalB A) (hb : b = startB t p + totalB A + totalB M) (he : Three.put t u p A l C = r) :
    Calls Tryd.prog 14 #[v, .int .i64 (a : Int), .int .i64 (b : Int), vl] w (PutPost w r) := by
  subst he
  exact put_three v vl w h hw hT hl hwl hc hr h3 hg ha hb
end Go.Proofs.YtamoklceekeheaaDoor

namespace Go.Proofs.YtamoklceekeheaaDoor
open Go.RowKit Go.Sort Go.Maps

def txt5 (s : ByteArray) : Tree := .mk ⟨#[116, 101, 120, 116]⟩ s [] [] []
def p5 : Tree := .mk ⟨#[112]⟩ ⟨#[]⟩ [] [] [txt5 ⟨#[104, 105]⟩]
def doc5 : Tree := .mk ⟨#[100, 111, 99]⟩ ⟨#[]⟩ [] [] [p5]
def p5' : Tree := .mk ⟨#[112]⟩ ⟨#[]⟩ [] [] [txt5 ⟨#[104, 120, 105]⟩]
def doc5' : Tree := .mk ⟨#[100, 111, 99]⟩ ⟨#[]⟩ [] [] [p5']
theorem three5 : Three doc5 [0] p5 [txt5 ⟨#[104]⟩] [] [txt5 ⟨#[105]⟩] :=
  ⟨by kernel_rfl, by decide +kernel, by decide +kernel, by decide +kernel, by decide +kernel, by kernel_rfl⟩
theorem put5_eq : Three.put doc5 p5 [0] [txt5 ⟨#[104]⟩] [txt5 ⟨#[120]⟩] [txt5 ⟨#[105]⟩] = doc5' := by kernel_rfl
theorem facts5 : weigh doc5 ≤ 100000 ∧ weighAll [txt5 ⟨#[120]⟩] ≤ 100000 ∧ checkB doc5 = 0 ∧ rowB none [txt5 ⟨#[120]⟩] = true ∧ checkB doc5' = 0 ∧ 2 = startB doc5 [0] + totalB [txt5 ⟨#[104]⟩] ∧ 2 = startB doc5 [0] + totalB [txt5 ⟨#[104]⟩] + totalB [] := by decide +kernel

set_option maxHeartbeats 2000000 in
set_option maxRecDepth 100000 in
theorem shown5_any (w : World) (hT : Tabs w) : Calls Tryd.prog 10 #[] w fun e w' => e = .returned (.bool true) ∧ Below w.heap.size w w' := by
  have HT := Lib.hid hT
  clear hT
  generalize hW : ((w.alloc (.cells #[.string ⟨#[116, 101, 120, 116]⟩, .string ⟨#[104, 105]⟩, .slice none 0 0, .slice none 0 0, .slice none 0 0] 28)).alloc
    (.cells #[.string ⟨#[112]⟩, .string ⟨#[]⟩, .slice none 0 0, .slice none 0 0, .slice (some ⟨w.heap.size, 0, none⟩) 1 1] 28)).alloc (.cells #[.string ⟨#[100, 111, 99]⟩, .string ⟨#[]⟩, .slice none 0 0, .slice none 0 0, .slice (some ⟨w.heap.size + 1, 0, none⟩) 1 1] 28) = W
  have HB : Hid (Below w.heap.size w W) := Lib.hid (by subst hW; exact (((Below.refl _ _).alloc (Nat.le_refl _) _).alloc (by simp) _).alloc (by simp; omega) _)
  have HWN : Hid (W.heap[w.heap.size + 1 + 1]? = some (.cells #[.string ⟨#[100, 111, 99]⟩, .string ⟨#[]⟩, .slice none 0 0, .slice none 0 0, .slice (some ⟨w.heap.size + 1, 0, none⟩) 1 1] 28)) := Lib.hid (by subst hW; exact heap_new' _ _ (by simp))
  have hz : W.heap.size = w.heap.size + 3 := by subst hW; simp
  have k1 : Kids W (Under W.heap.size) (.slice (some ⟨w.heap.size, 0, none⟩) 1 1) [txt5 ⟨#[104, 105]⟩] := by
    rw [hz]; subst hW
    exact kids_row1 (by simp [go_sem, txt5, Tree.kind]) (by simp [go_sem, txt5, Tree.text]) (by simp [go_sem]) (by simp [go_sem]) (by simp [go_sem]) strs_none pairs_none kids_none (by unfold Under; omega)
  have k2 : Kids W (Under W.heap.size) (.slice (some ⟨w.heap.size + 1, 0, none⟩) 1 1) [p5] := by
    rw [hz] at k1 ⊢; subst hW
    exact kids_row1 (by simp [go_sem, p5, Tree.kind]) (by simp [go_sem, p5, Tree.text]) (by simp [go_sem]) (by simp [go_sem]) (by simp [go_sem]) strs_none pairs_none k1 (by unfold Under; omega)
  have HK : Hid (Node W (Under W.heap.size) (.agg #[.string ⟨#[100, 111, 99]⟩, .string ⟨#[]⟩, .slice none 0 0, .slice none 0 0, .slice (some ⟨w.heap.size + 1, 0, none⟩) 1 1]) doc5) := Lib.hid ⟨_, _, _, rfl, strs_none, pairs_none, k2⟩
  have HW := Lib.hid hW
  have HZ := Lib.hid hz
  clear hW k1 k2 hz
  go_enter Tryd.func10, Tryd.ntmps10
  go_upto_region 2 with fail
  rw [HW.out]
  clear HW
  obtain ⟨x0, x1, x2, x3, x4⟩ := cells5 HWN.out
  have hgz : w.heap.size + 3 = W.heap.size := HZ.out.symm
  obtain ⟨ha2, hg2, hl2⟩ := new_box W (.cells #[.string ⟨#[116, 101, 120, 116]⟩, .string ⟨#[120]⟩, .slice none 0 0, .slice none 0 0, .slice none 0 0] 28)
  have HA2 := Lib.hid ha2
  have HK2 : Hid (Kids (W.alloc (.cells #[.string ⟨#[116, 101, 120, 116]⟩, .string ⟨#[120]⟩, .slice none 0 0, .slice none 0 0, .slice none 0 0] 28)) (Under (W.alloc (.cells #[.string ⟨#[116, 101, 120, 116]⟩, .string ⟨#[120]⟩, .slice none 0 0, .slice none 0 0, .slice none 0 0] 28)).heap.size) (.slice (some ⟨W.heap.size, 0, none⟩) 1 1) [txt5 ⟨#[120]⟩]) := Lib.hid (by
    obtain ⟨y0, y1, y2, y3, y4⟩ := cells5 hg2
    exact kids_row1 y0 y1 y2 y3 y4 strs_none pairs_none kids_none hl2)
  clear ha2 hg2 hl2 hgz
  go_wp2_with fail
  generalize W.alloc (.cells #[.string ⟨#[116, 101, 120, 116]⟩, .string ⟨#[120]⟩, .slice none 0 0, .slice none 0 0, .slice none 0 0] 28) = W2 at *
  have HB2 := Lib.hid (belowNext HB.out HA2.out)
  refine (put_as (a := 2) (b := 2) (r := doc5') _ _ W2 ((HK.out.below HA2.out).more HA2.out.size) facts5.1 (HT.out.below HB2.out) HK2.out facts5.2.1 facts5.2.2.1 facts5.2.2.2.1 three5 facts5.2.2.2.2.1 facts5.2.2.2.2.2.1 facts5.2.2.2.2.2.2 put5_eq).mono ?_
  rintro e w3 ⟨C1, i1, e1, C2, i2, e2, C3, e3, rfl, hn, hb3⟩
  rw [show doc5'.kids.length = 1 from rfl] at hn ⊢
  have hkk := hn.kidsOf
  have hlen := hkk.len.2
  obtain ⟨b, o, D1, m1, f1, D2, m2, f2, D3, f3, rfl, hs, _, _, _, _, hc4, hnp⟩ := hkk.kid (i := 0) (x := p5') rfl
  rw [show p5'.kids.length = 1 from rfl] at hnp hc4
  have hlen2 := hnp.kidsOf.len.2
  obtain ⟨b', o', _, _, _, _, _, _, _, _, rfl, hs', _, hc5, _⟩ := hnp.kidsOf.kid (i := 0) (x := txt5 ⟨#[104, 120, 105]⟩) rfl
  have HB3 := Lib.hid (belowNext HB2.out hb3)
  rw [show doc5'.kids.length = 1 from rfl] at hlen
  rw [show p5'.kids.length = 1 from rfl] at hlen2
  generalize doc5'.kind = dk at *
  generalize doc5'.text = dt at *
  obtain ⟨ha4, hx4, hl4⟩ := new_box w3 (.cells #[.string dk, .string dt, .slice C1 i1 e1, .slice C2 i2 e2, .slice (some ⟨b, o, none⟩) 1 e3] 28)
  have HB4 := Lib.hid (belowNext HB3.out ha4)
  have HX4 := Lib.hid hx4
  have HC4 : Hid ((w3.alloc (.cells #[.string dk, .string dt, .slice C1 i1 e1, .slice C2 i2 e2, .slice (some ⟨b, o, none⟩) 1 e3] 28)).cell? ⟨b, o + 4, none⟩ = some (.slice (some ⟨b', o', none⟩) 1 f3)) := Lib.hid ((ha4.cell (p := ⟨b, o + 4, none⟩) hs.2).trans (by simpa using hc4))
  have HC5 : Hid ((w3.alloc (.cells #[.string dk, .string dt, .slice C1 i1 e1, .slice C2 i2 e2, .slice (some ⟨b, o, none⟩) 1 e3] 28)).cell? ⟨b', o' + 1, none⟩ = some (.string ⟨#[104, 120, 105]⟩)) := Lib.hid ((ha4.cell (p := ⟨b', o' + 1, none⟩) hs'.2).trans (by simpa [txt5, Tree.text] using hc5))
  clear ha4 hx4 hl4 hs hs' hc4 hc5 hnp hkk hn hb3 x0 x1 x2 x3 x4
  go_upto_region 3 with fail
  generalize w3.alloc (.cells #[.string dk, .string dt, .slice C1 i1 e1, .slice C2 i2 e2, .slice (some ⟨b, o, none⟩) 1 e3] 28) = w4 at *
  generalize w3.heap.size = g3 at *
  obtain ⟨x0, x1, x2, x3, x4⟩ := cells5 HX4.out
  have c4 := HC4.out
  have c5 := HC5.out
  go_wp2
  go_ret
  exact ⟨rfl, HB4.out⟩
end Go.Proofs.YtamoklceekeheaaDoor

namespace Go.Proofs.YtamoklceekeheaaDoor
open Go.RowKit Go.Sort Go.Maps

/-- Two positions, not the second ahead of the first, whose spots have one path. -/
def FlatPost (w : World) (t : Tree) (e : Ending) (w' : World) : Prop :=
  ∃ a b : Nat, ∃ p : List Int, ∃ j o j' o' : Nat, e = .returned (.tuple #[.int .i64 (a : Int), .int .i64 (b : Int)]) ∧ a ≤ b ∧ resolveB t (a : Int) = some (p, j, o) ∧ resolveB t (b : Int) = some (p, j', o') ∧ Below w.heap.size w w'
theorem resolve_some {t : Tree} (hp : isTxt t.kind = false) {k : Nat} (hk : k ≤ totalB t.kids) : ∃ p, ∃ j o : Nat, ∃ u, resolveB t (k : Int) = some (p, j, o) ∧ SpotOk t k (p, j, o) u := by
  have hl : k < (spotsB 0 t.kids).length := by rw [spotsB_len]; omega
  have hs : (spotsB 0 t.kids)[k]? = some (spotsB 0 t.kids)[k] := List.getElem?_eq_getElem hl
  obtain ⟨u, hu⟩ := spots_ok t hp k _ hs
  refine ⟨(spotsB 0 t.kids)[k].1, (spotsB 0 t.kids)[k].2.1, (spotsB 0 t.kids)[k].2.2, u, ?_, hu⟩
  rw [resolveB_nat hp]; exact hs

set_option maxHeartbeats 20000000 in
set_option maxRecDepth 100000 in
theorem flat_any (v : Value) (t : Tree) (c1 c2 : Int) (w : World) (h : Node w (Under w.heap.size) v t) (hw : weigh t ≤ 100000) (hp : isTxt t.kind = false) (b1 : -9223372036854775808 ≤ c1) (b2 : c1 ≤ 9223372036854775807) (b3 : -9223372036854775808 ≤ c2) (b4 : c2 ≤ 9223372036854775807) :
    Calls Tryd.prog 12 #[v, .int .i64 c1, .int .i64 c2] w (FlatPost w t) := by
  have HN := Lib.hid h
  obtain ⟨A1, n1, d1, A2, n2, d2, A3, d3, rfl⟩ := h.forms
  clear h
  have hku := kids_weigh t
  have htt := total_le_weigh t.kids
  obtain ⟨hb0, hx0, hl0⟩ := new_box w (.cells #[.string t.kind, .string t.text, .slice A1 n1 d1, .slice A2 n2 d2, .slice A3 t.kids.length d3] 28)
  have HB1 := Lib.hid hb0
  have HX1 := Lib.hid hx0
  have HL1 := Lib.hid hl0
  clear hb0 hx0 hl0
  go_enter Tryd.func12, Tryd.ntmps12
  go_upto_region 1 with fail
  generalize w.alloc (.cells #[.string t.kind, .string t.text, .slice A1 n1 d1, .slice A2 n2 d2, .slice A3 t.kids.length d3] 28) = w1 at *
  have HND : Hid (∀ W, Below w1.heap.size w1 W → Node W (Under W.heap.size) (.agg #[.string t.kind, .string t.text, .slice A1 n1 d1, .slice A2 n2 d2, .slice A3 t.kids.length d3]) t) := Lib.hid fun W hW => (HN.out.below (belowNext HB1.out hW)).more (belowNext HB1.out hW).size
  have HXD : Hid (∀ W, Below w1.heap.size w1 W → W.heap[w.heap.size]? = some (.cells #[.string t.kind, .string t.text, .slice A1 n1 d1, .slice A2 n2 d2, .slice A3 t.kids.length d3] 28)) := Lib.hid fun W hW => (hW.block _ HL1.out).trans HX1.out
  have HTT : Hid (∀ W, Below w1.heap.size w1 W → Calls Tryd.prog 15 #[.slice A3 t.kids.length d3] W fun e w' => e = .returned (.int .i64 (totalB t.kids)) ∧ Below W.heap.size W w') := Lib.hid fun W hW => total_any _ t.kids W ((HND.out W hW).kidsOf) (by omega)
  have HRS := Lib.hid (fun k hk => resolve_some hp (k := k) hk)
  generalize totalB t.kids = T at *
  have hp1 := pickN_lo c1 ((T : Int) + 1) (by omega)
  have hp2 := pickN_hi c1 ((T : Int) + 1) (by omega)
  have hp3 := pickN_lo c2 ((T : Int) + 1) (by omega)
  have hp4 := pickN_hi c2 ((T : Int) + 1) (by omega)
  obtain ⟨x0, x1, x2, x3, x4⟩ := cells5 HX1.out
  go_wp2_with fail
  refine (HTT.out w1 (Below.refl _ _)).mono ?_
  rintro e w2 ⟨rfl, hb2⟩
  have HB2 := Lib.hid hb2
  clear hb2 x0 x1 x2 x3 x4
  go_wp2_with fail
  refine (pick_any c1 ((T : Int) + 1) w2 (by omega) (by omega) b1 b2).mono ?_
  rintro e w2' ⟨rfl, rfl⟩
  obtain ⟨a, ha⟩ : ∃ a : Nat, pickN c1 ((T : Int) + 1) = (a : Int) := ⟨(pickN c1 ((T : Int) + 1)).toNat, by omega⟩
  rw [ha] at hp1 hp2 ⊢
  obtain ⟨x0, x1, x2, x3, x4⟩ := cells5 (HXD.out w2 HB2.out)
  go_wp2_with fail
  refine (HTT.out w2 HB2.out).mono ?_
  rintro e w3 ⟨rfl, hb3⟩
  have HB3 := Lib.hid (belowNext HB2.out hb3)
  clear hb3 x0 x1 x2 x3 x4
  go_wp2_with fail
  refine (pick_any c2 ((T : Int) + 1) w3 (by omega) (by omega) b3 b4).mono ?_
  rintro e w3' ⟨rfl, rfl⟩
  obtain ⟨b, hb⟩ : ∃ b : Nat, pickN c2 ((T : Int) + 1) = (b : Int) := ⟨(pickN c2 ((T : Int) + 1)).toNat, by omega⟩
  rw [hb] at hp3 hp4 ⊢
  obtain ⟨p, j, o, u, hra, hoka⟩ := HRS.out a (by omega)
  have HRA := Lib.hid hra
  obtain ⟨x0, x1, x2, x3, x4⟩ := cells5 (HXD.out w3 HB3.out)
  clear ha hb hra hoka
  go_wp2_with fail
  refine (resolve_any _ t (a : Int) w3 (HND.out w3 HB3.out) (by omega) (by omega) (by omega)).mono ?_
  rintro e w4 ⟨hb4, hr4⟩
  rw [HRA.out] at hr4
  rcases hr4 with ⟨hr4, _⟩ | ⟨p', j', o', P1, q1, hr4, rfl, hi4⟩
  · cases hr4
  simp only [Option.some.injEq, Prod.mk.injEq] at hr4
  obtain ⟨rfl, rfl, rfl⟩ := hr4
  obtain ⟨ha5, hs5, hl5⟩ := new_box w4 (.cells #[.slice P1 p.length q1, .int .i64 (j : Int), .int .i64 (o : Int)] 56)
  have HB5 := Lib.hid (belowNext (belowNext HB3.out hb4) ha5)
  have HS5 := Lib.hid hs5
  have HL5 := Lib.hid hl5
  have HI5 := Lib.hid (hi4.keep (S' := Under w4.heap.size) (w' := w4.alloc (.cells #[.slice P1 p.length q1, .int .i64 (j : Int), .int .i64 (o : Int)] 56)) (fun _ h => h.2) (fun b hb => ha5.block b hb.2))
  clear hb4 hi4 ha5 hs5 hl5 x0 x1 x2 x3 x4
  go_upto_region 4 with fail
  generalize w4.alloc (.cells #[.slice P1 p.length q1, .int .i64 (j : Int), .int .i64 (o : Int)] 56) = w5 at *
  generalize w4.heap.size = g4 at *
  go_loopw [9] (fun i wr => ∃ k : Nat, k ≤ T ∧ i = .int .i64 k ∧ Hid (Below w5.heap.size w5 wr)) (fun i _ => ((intOf i).toNat - a) + (a - (intOf i).toNat))
  case atStart => exact ⟨b, by omega, rfl, Lib.hid (Below.refl _ _)⟩
  case round =>
    obtain ⟨k, hk, rfl, hbr⟩ := hrel
    by_cases hka : k = a
    · subst hka
      go_wp2
      refine bodyPost_ret (v := .tuple #[.int .i64 (k : Int), .int .i64 (k : Int)]) (by simp [results, Tryd.results12, go_sem]) rfl ?_
      exact ⟨k, k, p, j, o, j, o, rfl, Nat.le_refl _, HRA.out, HRA.out, belowNext HB1.out (belowNext HB5.out hbr.out)⟩
    · obtain ⟨p', j', o', u', hrk, _⟩ := HRS.out k hk
      have HRK := Lib.hid hrk
      clear hrk
      have hne : ¬ (k : Int) = (a : Int) := by omega
      have HBR := Lib.hid (belowNext HB5.out hbr.out)
      obtain ⟨x0, x1, x2, x3, x4⟩ := cells5 (HXD.out wr HBR.out)
      go_wp2_with fail
      refine (resolve_any _ t (k : Int) wr (HND.out wr HBR.out) (by omega) (by omega) (by omega)).mono ?_
      rintro e w6 ⟨hb6, hr6⟩
      rw [HRK.out] at hr6
      rcases hr6 with ⟨hr6, _⟩ | ⟨p6, j6, o6, P2, q2, hr6, rfl, hi6⟩
      · cases hr6
      simp only [Option.some.injEq, Prod.mk.injEq] at hr6
      obtain ⟨rfl, rfl, rfl⟩ := hr6
      obtain ⟨ha7, hs7, hl7⟩ := new_box w6 (.cells #[.slice P2 p'.length q2, .int .i64 (j' : Int), .int .i64 (o' : Int)] 56)
      have HB7 := Lib.hid (belowNext hbr.out (belowNext hb6 ha7))
      have HS7 := Lib.hid hs7
      have HI7 := Lib.hid (hi6.keep (S' := Under (w6.alloc (.cells #[.slice P2 p'.length q2, .int .i64 (j' : Int), .int .i64 (o' : Int)] 56)).heap.size) (w' := w6.alloc (.cells #[.slice P2 p'.length q2, .int .i64 (j' : Int), .int .i64 (o' : Int)] 56)) (fun b hb => Nat.lt_of_lt_of_le hb.2 ha7.size) (fun b hb => ha7.block b hb.2))
      clear hb6 hi6 ha7 hs7 hl7 x0 x1 x2 x3 x4
      go_upto_region 6 with fail
      generalize w6.alloc (.cells #[.slice P2 p'.length q2, .int .i64 (j' : Int), .int .i64 (o' : Int)] 56) = w7 at *
      generalize w6.heap.size = g6 at *
      obtain ⟨s0, s1, s2⟩ := cells3 ((HB7.out.block g4 HL5.out).trans HS5.out)
      obtain ⟨r0, r1, r2⟩ := cells3 HS7.out
      have HI57 : Hid (Ints w7 (Under w7.heap.size) (.slice P1 p.length q1) p) := Lib.hid (HI5.out.keep (fun b hb => Nat.lt_of_lt_of_le (Nat.lt_trans hb HL5.out) HB7.out.size) (fun b hb => HB7.out.block b (Nat.lt_trans hb HL5.out)))
      go_wp2_with fail
      refine (sameS_any _ _ p p' 0 0 0 0 w7 HI57.out HI7.out).mono ?_
      rintro e w8 ⟨he, hb8⟩
      have HB8 := Lib.hid (belowNext HB7.out hb8)
      clear hb8 s0 s1 s2 r0 r1 r2
      by_cases hpp : p = p'
      · subst hpp
        have he' : e = .returned (.bool true) := by rw [he]; simp
        subst he'
        clear he
        go_wp2
        refine bodyPost_ret (v := .tuple #[.int .i64 (min (a : Int) (k : Int)), .int .i64 (max (a : Int) (k : Int))]) (by simp [results, Tryd.results12, go_sem]) rfl ?_
        rcases Nat.le_total a k with hle | hle
        · exact ⟨a, k, p, j, o, j', o', by rw [Int.min_eq_left (by omega), Int.max_eq_right (by omega)], hle, HRA.out, HRK.out, belowNext HB1.out (belowNext HB5.out HB8.out)⟩
        · exact ⟨k, a, p, j', o', j, o, by rw [Int.min_eq_right (by omega), Int.max_eq_left (by omega)], hle, HRK.out, HRA.out, belowNext HB1.out (belowNext HB5.out HB8.out)⟩
      · have he' : e = .returned (.bool false) := by rw [he]; simp [hpp]
        subst he'
        clear he hpp
        by_cases hlt : k < a
        · go_wp2
          exact ⟨⟨k + 1, by omega, by go_num, Lib.hid HB8.out⟩, by simp [intOf]; omega⟩
        · have hnl : ¬ (k : Int) < (a : Int) := by omega
          go_wp2
          exact ⟨⟨k - 1, by omega, by go_num, Lib.hid HB8.out⟩, by simp [intOf]; omega⟩
end Go.Proofs.YtamoklceekeheaaDoor

namespace Go.Proofs.YtamoklceekeheaaDoor
open Go.RowKit Go.Sort

def pairEq (p q : ByteArray × ByteArray) : Bool := p.1.toList == q.1.toList && p.2.toList == q.2.toList
def sameP (a b : List (ByteArray × ByteArray)) : Bool := decide (a.length = b.length) && (List.range a.length).all fun i => pairEq (pairAt a i) (pairAt b i)
mutual
def sameB : Tree → Tree → Bool
  | .mk k t m a l, b => k.toList == b.kind.toList && (t.toList == b.text.toList && (sameL m b.marks && (sameP a b.attrs && sameAllB l b.kids)))
def sameAllB : List Tree → List Tree → Bool
  | [], l => l.isEmpty
  | _ :: _, [] => false
  | x :: l, y :: l2 => sameB x y && sameAllB l l2
end
theorem sameP_lens {a b : List (ByteArray × ByteArray)} (h : a.length ≠ b.length) : sameP a b = false := by simp [sameP, h]
theorem sameP_at {a b : List (ByteArray × ByteArray)} (k : Nat) (hk : k < a.length) (h : pairEq (pairAt a k) (pairAt b k) = false) : sameP a b = false := by
  unfold sameP; rw [all_range_false k hk h, Bool.and_false]
theorem sameP_all {a b : List (ByteArray × ByteArray)} (h : a.length = b.length) (hp : ∀ i, i < a.length → pairEq (pairAt a i) (pairAt b i) = true) : sameP a b = true := by
  unfold sameP; rw [all_range_true hp, decide_eq_true h]; rfl

set_option maxHeartbeats 400000 in
theorem equalP_any (va vb : Value) (a b : List (ByteArray × ByteArray)) (S S' : Nat → Prop) (w : World) (ha : Pairs w S va a) (hb : Pairs w S' vb b) (hwa : weighP a ≤ 1000000) :
    Calls Tryd.prog 40 #[va, vb] w fun e w' => e = .returned (.bool (sameP a b)) ∧ ∃ n, w' = w.drewN n := by
  have hla := length_le_weighP a
  obtain ⟨A, c, rfl, hc⟩ := ha.form
  obtain ⟨A', c', rfl, hc'⟩ := hb.form
  have HA := Lib.hid ha
  have HB := Lib.hid hb
  clear ha hb
  by_cases hl : a.length = b.length
  · have HL := Lib.hid hl
    have hl' : ((a.length : Int) != (b.length : Int)) = false := by simp [hl]
    clear hl
    go_enter Tryd.func40, Tryd.ntmps40
    go_wp2
    go_loopw [13] (fun i wr => ∃ k n : Nat, k ≤ a.length ∧ i = .int .i64 k ∧ wr = w.drewN n ∧ Hid (∀ j, j < k → pairEq (pairAt a j) (pairAt b j) = true)) (fun i _ => a.length - (intOf i).toNat)
    case atStart => exact ⟨0, 0, by omega, rfl, rfl, fun j hj => absurd hj (by omega)⟩
    case round =>
      obtain ⟨k, n, hk, rfl, rfl, hall⟩ := hrel
      by_cases hlt : k < a.length
      · have hltb : k < b.length := by rw [← HL.out]; exact hlt
        obtain ⟨ba, oa, rfl, _, hca⟩ := HA.out.get hlt
        obtain ⟨bb, ob, rfl, _, hcb⟩ := HB.out.get hltb
        obtain ⟨h1, h2⟩ := hca k hlt
        obtain ⟨h3, h4⟩ := hcb k hltb
        have HS := Lib.hid (sameP_at (a := a) (b := b) k hlt)
        have HE : Hid (pairEq (pairAt a k) (pairAt b k) = ((pairAt a k).1.toList == (pairAt b k).1.toList && (pairAt a k).2.toList == (pairAt b k).2.toList)) := Lib.hid rfl
        clear hca hcb
        generalize hsa : (pairAt a k).1 = sa at *
        generalize hsb : (pairAt b k).1 = sb at *
        generalize hta : (pairAt a k).2 = ta at *
        generalize htb : (pairAt b k).2 = tb at *
        clear hsa hsb hta htb
        cases q1 : (sa.toList == sb.toList) with
        | false =>
          rw [q1] at HE
          go_wp2
          go_quiet (fail)
          go_wp2
          go_ret
          exact ⟨ret_bool (HS.out HE.out).symm, _, World.drewN_drewN _ _ _⟩
        | true =>
          cases q2 : (ta.toList == tb.toList) with
          | false =>
            rw [q1, q2] at HE
            go_wp2
            go_quiet (fail)
            go_wp2
            go_ret
            exact ⟨ret_bool (HS.out HE.out).symm, _, World.drewN_drewN _ _ _⟩
          | true =>
            rw [q1, q2] at HE
            go_wp2
            go_quiet (fail)
            go_wp2
            exact ⟨⟨k + 1, _, by omega, by go_num, rfl, step_all hall.out HE.out⟩, by simp [intOf]; omega⟩
      · go_wp2
        go_ret
        exact ⟨ret_bool (sameP_all HL.out fun i hi => hall.out i (by omega)).symm, n, rfl⟩
  · have hl' : ((a.length : Int) != (b.length : Int)) = true := by simp; omega
    have HN := Lib.hid (sameP_lens hl)
    clear hl
    go_enter Tryd.func40, Tryd.ntmps40
    go_wp2
    go_ret
    exact ⟨ret_bool HN.out.symm, 0, rfl⟩

theorem sameAll_lens : ∀ (l l2 : List Tree), l.length ≠ l2.length → sameAllB l l2 = false
  | [], [], h => absurd rfl h
  | [], _ :: _, _ => rfl
  | _ :: _, [], _ => rfl
  | x :: l, y :: l2, h => by
    rw [sameAllB, sameAll_lens l l2 (fun e => h (by simp [e])), Bool.and_false]
theorem sameAll_at : ∀ (l l2 : List Tree) (k : Nat) (x y : Tree), l[k]? = some x → l2[k]? = some y → sameB x y = false → sameAllB l l2 = false
  | [], _, k, _, _, h, _, _ => by simp at h
  | _ :: _, [], k, _, _, _, h, _ => by simp at h
  | x' :: l, y' :: l2, 0, x, y, h1, h2, h => by
    simp at h1 h2; subst h1; subst h2
    rw [sameAllB, h, Bool.false_and]
  | x' :: l, y' :: l2, k + 1, x, y, h1, h2, h => by
    rw [sameAllB, sameAll_at l l2 k x y (by simpa using h1) (by simpa using h2) h, Bool.and_false]
theorem sameAll_true : ∀ (l l2 : List Tree), l.length = l2.length → (∀ (i : Nat) (x y : Tree), l[i]? = some x → l2[i]? = some y → sameB x y = true) → sameAllB l l2 = true
  | [], [], _, _ => rfl
  | [], _ :: _, h, _ => by simp at h
  | _ :: _, [], h, _ => by simp at h
  | x :: l, y :: l2, h, hp => by
    rw [sameAllB, hp 0 x y rfl rfl, sameAll_true l l2 (by simpa using h) (fun i x' y' h1 h2 => hp (i + 1) x' y' (by simpa using h1) (by simpa using h2))]; rfl

def NSaid (a : Tree) : Prop := ∀ (b : Tree) (va vb : Value) (w : World) (p : Nat), weigh a ≤ 1000000 → weigh b ≤ 1000000 → Node w (Under w.heap.size) va a → Node w (Under w.heap.size) vb b → SelfAt w 38 p →
    Calls Tryd.prog 38 #[va, vb, .pointer (some ⟨p, 0, none⟩)] w fun e w' => e = .returned (.bool (sameB a b)) ∧ Below w.heap.size w w'

set_option maxHeartbeats 1000000 in
theorem equalFunc_of (l l2 : List Tree) (IH : Hid (∀ x ∈ l, NSaid x)) (va vb : Value) (w : World) (p : Nat) (ha : Kids w (Under w.heap.size) va l) (hb : Kids w (Under w.heap.size) vb l2) (hw : weighAll l ≤ 1000000) (hw2 : weighAll l2 ≤ 1000000) (hp : SelfAt w 38 p) :
    Calls Tryd.prog 41 #[va, vb, .func (.func 38) #[] #[.pointer (some ⟨p, 0, none⟩)]] w fun e w' => e = .returned (.bool (sameAllB l l2)) ∧ Below w.heap.size w w' := by
  have hla := length_le_weigh l
  obtain ⟨A, c, rfl, hc⟩ := ha.form
  obtain ⟨A', c', rfl, hc'⟩ := hb.form
  have HA := Lib.hid ha
  have HB := Lib.hid hb
  have HP := Lib.hid hp
  clear ha hb hp
  by_cases hl : l.length = l2.length
  · have HL := Lib.hid hl
    have hl' : ((l.length : Int) != (l2.length : Int)) = false := by simp [hl]
    have hl1 : l.length ≤ l2.length := by omega
    clear hl
    go_enter Tryd.func41, Tryd.ntmps41
    go_wp2
    go_loopw [17] (fun i wr => ∃ k : Nat, k ≤ l.length ∧ i = .int .i64 k ∧ Below w.heap.size w wr ∧ Hid (∀ j x y, j < k → l[j]? = some x → l2[j]? = some y → sameB x y = true)) (fun i _ => l.length - (intOf i).toNat)
    case atStart => exact ⟨0, by omega, rfl, Below.refl _ _, fun j _ _ hj => absurd hj (by omega)⟩
    case round =>
      obtain ⟨k, hk, rfl, hbr, hall⟩ := hrel
      by_cases hlt : k < l.length
      · have hltb : k < l2.length := by omega
        obtain ⟨ba, oa, rfl, _, hra⟩ := HA.out.get hlt
        obtain ⟨bb, ob, rfl, _, hrb⟩ := HB.out.get hltb
        have hlx : l[k]? = some l[k] := List.getElem?_eq_getElem hlt
        have hly : l2[k]? = some l2[k] := List.getElem?_eq_getElem hltb
        generalize hx : l[k] = x at *
        generalize hy : l2[k] = y at *
        have hwx := weigh_mem (List.mem_of_getElem? hlx)
        have hwy := weigh_mem (List.mem_of_getElem? hly)
        have HIH := Lib.hid (IH.out x (List.mem_of_getElem? hlx))
        obtain ⟨xm, xa, xk, e0, e1, e2, e3, e4, exm, exa, exk⟩ := hra.node hlx
        obtain ⟨ym, ya, yk, d0, d1, d2, d3, d4, dxm, dxa, dxk⟩ := hrb.node hly
        have HXN : Hid (Node wr (Under wr.heap.size) (.agg #[.string x.kind, .string x.text, xm, xa, xk]) x) := Lib.hid ((Node.below (B := w.heap.size) ⟨_, _, _, rfl, exm, exa, exk⟩ hbr).more hbr.size)
        have HYN : Hid (Node wr (Under wr.heap.size) (.agg #[.string y.kind, .string y.text, ym, ya, yk]) y) := Lib.hid ((Node.below (B := w.heap.size) ⟨_, _, _, rfl, dxm, dxa, dxk⟩ hbr).more hbr.size)
        have f0 := cell_kept e0 hbr
        have f1 := cell_kept e1 hbr
        have f2 := cell_kept e2 hbr
        have f3 := cell_kept e3 hbr
        have f4 := cell_kept e4 hbr
        have g0 := cell_kept d0 hbr
        have g1 := cell_kept d1 hbr
        have g2 := cell_kept d2 hbr
        have g3 := cell_kept d3 hbr
        have g4 := cell_kept d4 hbr
        obtain ⟨A1, c1, rfl, _⟩ := exm.form
        obtain ⟨A2, c2, rfl, _⟩ := exa.form
        obtain ⟨A3, c3, rfl, _⟩ := exk.form
        obtain ⟨A4, c4, rfl, _⟩ := dxm.form
        obtain ⟨A5, c5, rfl, _⟩ := dxa.form
        obtain ⟨A6, c6, rfl, _⟩ := dxk.form
        have hl3 := cell_lt f0
        have hl4 := cell_lt g0
        have HX := Lib.hid hlx
        have HY := Lib.hid hly
        have HPR := Lib.hid (cell_kept HP.out hbr)
        clear e0 e1 e2 e3 e4 d0 d1 d2 d3 d4 exm exa exk dxm dxa dxk hx hy hlx hly hra hrb
        go_wp2_with fail
        generalize hW2 : (wr.alloc _).alloc _ = W2
        have HB2 : Hid (Below wr.heap.size wr W2) := Lib.hid (by subst hW2; exact ((Below.refl _ _).alloc (Nat.le_refl _) _).alloc (by simp) _)
        clear hW2 f0 f1 f2 f3 f4 g0 g1 g2 g3 g4
        refine (HIH.out y _ _ W2 p (by omega) (by omega) ((HXN.out.below HB2.out).more HB2.out.size) ((HYN.out.below HB2.out).more HB2.out.size) (cell_kept HPR.out HB2.out)).mono ?_
        rintro e w3 ⟨rfl, hb3⟩
        have hB3 := belowNext hbr (belowNext HB2.out hb3)
        generalize hs : sameB x y = r at *
        have HSR := Lib.hid hs
        clear hs hb3
        cases r with
        | false =>
          go_wp2
          go_ret
          exact ⟨ret_bool (sameAll_at l l2 k x y HX.out HY.out HSR.out).symm, hB3⟩
        | true =>
          go_wp2
          refine ⟨⟨k + 1, by omega, by go_num, hB3, fun j x' y' hj h1 h2 => ?_⟩, by simp [intOf]; omega⟩
          by_cases e : j < k
          · exact hall.out j x' y' e h1 h2
          · obtain rfl : j = k := by omega
            have e1 := Option.some.inj (h1.symm.trans HX.out)
            have e2 := Option.some.inj (h2.symm.trans HY.out)
            rw [e1, e2]; exact HSR.out
      · go_wp2
        go_ret
        exact ⟨ret_bool (sameAll_true l l2 HL.out fun i x y h1 h2 => hall.out i x y (by have := (List.getElem?_eq_some_iff.1 h1).1; omega) h1 h2).symm, hbr⟩
  · have hl' : ((l.length : Int) != (l2.length : Int)) = true := by simp; omega
    have HN := Lib.hid (sameAll_lens l l2 hl)
    clear hl
    go_enter Tryd.func41, Tryd.ntmps41
    go_wp2
    go_ret
    exact ⟨ret_bool HN.out.symm, Below.refl _ _⟩

set_option maxHeartbeats 2000000 in
theorem same_walk : ∀ a, NSaid a := by
  intro a
  induction a using Tree.induct_one with
  | h k t m at' l ih =>
    have IH := Lib.hid ih
    clear ih
    intro b va vb w p hwa hwb hna hnb hp
    obtain ⟨am, aa, ak, rfl, ham, haa, hak⟩ := hna
    obtain ⟨bm, ba, bk, rfl, hbm, hba, hbk⟩ := hnb
    have hwt : weigh (.mk k t m at' l) = k.size + t.size + weighL m + weighP at' + weighAll l + 2 := by simp only [weigh]
    have hwb2 := kids_weigh b
    replace ham : Strs w (Under w.heap.size) am m := ham
    replace haa : Pairs w (Under w.heap.size) aa at' := haa
    replace hak : Kids w (Under w.heap.size) ak l := hak
    rw [show (Tree.mk k t m at' l).kind = k from rfl, show (Tree.mk k t m at' l).text = t from rfl]
    have HE : Hid (sameB (.mk k t m at' l) b = (k.toList == b.kind.toList && (t.toList == b.text.toList && (sameL m b.marks && (sameP at' b.attrs && sameAllB l b.kids))))) := Lib.hid (by rw [sameB])
    have HM := Lib.hid (And.intro ham hbm)
    have HA := Lib.hid (And.intro haa hba)
    have HK := Lib.hid (And.intro hak hbk)
    have HP := Lib.hid hp
    obtain ⟨A1, c1, rfl, _⟩ := ham.form
    obtain ⟨A2, c2, rfl, _⟩ := haa.form
    obtain ⟨A3, c3, rfl, _⟩ := hak.form
    obtain ⟨A4, c4, rfl, _⟩ := hbm.form
    obtain ⟨A5, c5, rfl, _⟩ := hba.form
    obtain ⟨A6, c6, rfl, _⟩ := hbk.form
    have hpl := cell_lt hp
    clear ham haa hak hbm hba hbk hp
    generalize sameB (.mk k t m at' l) b = res at *
    cases q1 : (k.toList == b.kind.toList) with
    | false =>
      rw [q1] at HE
      go_enter Tryd.func38, Tryd.ntmps38
      go_wp2
      go_ret
      exact ⟨ret_bool HE.out.symm, ((Below.refl _ _).alloc (Nat.le_refl _) _).alloc (by simp) _⟩
    | true =>
      rw [q1] at HE
      cases q2 : (t.toList == b.text.toList) with
      | false =>
        rw [q2] at HE
        go_enter Tryd.func38, Tryd.ntmps38
        go_wp2
        go_ret
        exact ⟨ret_bool HE.out.symm, ((Below.refl _ _).alloc (Nat.le_refl _) _).alloc (by simp) _⟩
      | true =>
        rw [q2] at HE
        go_enter Tryd.func38, Tryd.ntmps38
        go_wp2_with fail
        generalize hW2 : (w.alloc _).alloc _ = W2
        have HB2 : Hid (Below w.heap.size w W2) := Lib.hid (by subst hW2; exact ((Below.refl _ _).alloc (Nat.le_refl _) _).alloc (by simp) _)
        have z3 : W2.cell? ⟨w.heap.size, 3, none⟩ = some (.slice A2 at'.length c2) := by subst hW2; simp [go_sem]
        have z4 : W2.cell? ⟨w.heap.size, 4, none⟩ = some (.slice A3 l.length c3) := by subst hW2; simp [go_sem]
        have y3 : W2.cell? ⟨w.heap.size + 1, 3, none⟩ = some (.slice A5 b.attrs.length c5) := by subst hW2; simp [go_sem]
        have y4 : W2.cell? ⟨w.heap.size + 1, 4, none⟩ = some (.slice A6 b.kids.length c6) := by subst hW2; simp [go_sem]
        clear hW2 q1 q2
        refine (equal_any _ _ m b.marks _ _ W2 (HM.out.1.below HB2.out) (HM.out.2.below HB2.out) (by omega)).mono ?_
        rintro e w3 ⟨rfl, n3, rfl⟩
        have hb3 : Below W2.heap.size W2 (W2.drewN n3) := ⟨rfl, rfl, rfl, Nat.le_refl _, fun _ _ => rfl⟩
        replace z3 := cell_kept z3 hb3
        replace z4 := cell_kept z4 hb3
        replace y3 := cell_kept y3 hb3
        replace y4 := cell_kept y4 hb3
        have hB3 := belowNext HB2.out hb3
        generalize W2.drewN n3 = W3 at *
        generalize sameL m b.marks = r3 at *
        cases r3 with
        | false =>
          go_wp2
          go_ret
          exact ⟨ret_bool HE.out.symm, hB3⟩
        | true =>
          go_wp2_with fail
          refine (equalP_any _ _ at' b.attrs _ _ W3 (HA.out.1.below hB3) (HA.out.2.below hB3) (by omega)).mono ?_
          rintro e w4 ⟨rfl, n4, rfl⟩
          have hb4 : Below W3.heap.size W3 (W3.drewN n4) := ⟨rfl, rfl, rfl, Nat.le_refl _, fun _ _ => rfl⟩
          replace z4 := cell_kept z4 hb4
          replace y4 := cell_kept y4 hb4
          have hB4 := belowNext hB3 hb4
          generalize W3.drewN n4 = W4 at *
          generalize sameP at' b.attrs = r4 at *
          cases r4 with
          | false =>
            go_wp2
            go_ret
            exact ⟨ret_bool HE.out.symm, hB4⟩
          | true =>
            have hpp := cell_kept HP.out hB4
            have HP4 : Hid (SelfAt W4 38 p) := Lib.hid hpp
            go_wp2_with fail
            refine (equalFunc_of l b.kids IH _ _ W4 p ((HK.out.1.below hB4).more hB4.size) ((HK.out.2.below hB4).more hB4.size) (by omega) (by omega) HP4.out).mono ?_
            rintro e w5 ⟨rfl, hb5⟩
            have hB5 := belowNext hB4 hb5
            generalize sameAllB l b.kids = r5 at *
            clear hpp z4 y4
            go_wp2
            go_ret
            exact ⟨ret_bool HE.out.symm, hB5⟩

set_option maxHeartbeats 1000000 in
theorem nsame_any (va vb : Value) (a b : Tree) (w : World) (ha : Node w (Under w.heap.size) va a) (hb : Node w (Under w.heap.size) vb b) (hwa : weigh a ≤ 1000000) (hwb : weigh b ≤ 1000000) :
    Calls Tryd.prog 16 #[va, vb] w fun e w' => e = .returned (.bool (sameB a b)) ∧ Below w.heap.size w w' := by
  have hmf : ∀ (fn : Fn) (first cap : Array Value) (w : World), (Instr.makeFunc fn first cap).run Tryd.prog w = .ok (.func fn first cap) w := fun _ _ _ _ => rfl
  have HNA := Lib.hid ha
  have HNB := Lib.hid hb
  obtain ⟨vm, vt, vk, rfl, -, -, -⟩ := ha
  obtain ⟨um, ut, uk, rfl, -, -, -⟩ := hb
  generalize hW1 : ((w.alloc (.cells #[.string a.kind, .string a.text, vm, vt, vk] 28)).alloc (.cells #[.string b.kind, .string b.text, um, ut, uk] 28)).alloc (.cells #[.func (.func 38) #[] #[.pointer (some ⟨w.heap.size + 1 + 1, 0, none⟩)]] 38) = W1
  have HB : Hid (Below w.heap.size w W1) := Lib.hid (by subst hW1; exact (((Below.refl _ _).alloc (Nat.le_refl _) _).alloc (by simp) _).alloc (by simp; omega) _)
  have HS : Hid (SelfAt W1 38 (w.heap.size + 1 + 1)) := Lib.hid (by subst hW1; simp [SelfAt, go_sem])
  have HW1 := Lib.hid hW1
  clear hW1
  go_enter Tryd.func16, Tryd.ntmps16
  go_wp2_with fail
  rw [HW1.out]
  refine (same_walk a b _ _ W1 _ hwa hwb ((HNA.out.below HB.out).more HB.out.size) ((HNB.out.below HB.out).more HB.out.size) HS.out).mono ?_
  rintro e w2 ⟨rfl, hb2⟩
  have hB2 := belowNext HB.out hb2
  clear hb2
  generalize hr : sameB a b = r at *
  have HR := Lib.hid hr
  clear hr
  go_wp2
  go_ret
  exact ⟨ret_bool HR.out.symm, hB2⟩

end Go.Proofs.YtamoklceekeheaaDoor

namespace Go.Proofs.YtamoklceekeheaaDoor
open Go.RowKit Go.Sort

theorem bytes_eq {s t : ByteArray} (h : (s.toList == t.toList) = true) : s = t := by
  rw [beq_iff_eq, Lib.toList_data, Lib.toList_data] at h
  exact ByteArray.ext (Array.ext' h)
theorem bytes_refl (s : ByteArray) : (s.toList == s.toList) = true := by simp
theorem sameL_self (l : List ByteArray) : sameL l l = true := sameL_all rfl fun _ _ => bytes_refl _
theorem sameP_self (l : List (ByteArray × ByteArray)) : sameP l l = true := sameP_all rfl fun _ _ => by simp [pairEq]
theorem sameP_eq {a b : List (ByteArray × ByteArray)} (h : sameP a b = true) : a = b := by
  simp only [sameP, Bool.and_eq_true, decide_eq_true_eq, List.all_eq_true, List.mem_range] at h
  obtain ⟨hl, h⟩ := h
  apply List.ext_getElem hl
  intro i h1 h2
  have h3 := h i h1
  simp only [pairEq, pairAt, List.getD, List.getElem?_eq_getElem h1, List.getElem?_eq_getElem h2, Option.getD_some, Bool.and_eq_true] at h3
  exact Prod.ext (bytes_eq h3.1) (bytes_eq h3.2)
mutual
theorem sameB_self : ∀ t : Tree, sameB t t = true
  | .mk k t m a l => by rw [sameB]; simp only [Tree.kind, Tree.text, Tree.marks, Tree.attrs, Tree.kids, bytes_refl, sameL_self, sameP_self, sameAllB_self l]; rfl
theorem sameAllB_self : ∀ l : List Tree, sameAllB l l = true
  | [] => rfl
  | x :: l => by rw [sameAllB, sameB_self x, sameAllB_self l]; rfl
end
mutual
theorem sameB_eq : ∀ (a b : Tree), sameB a b = true → a = b
  | .mk k t m a l, .mk k' t' m' a' l', h => by
    rw [sameB] at h
    simp only [Tree.kind, Tree.text, Tree.marks, Tree.attrs, Tree.kids, Bool.and_eq_true] at h
    obtain ⟨h1, h2, h3, h4, h5⟩ := h
    rw [bytes_eq h1, bytes_eq h2, sameL_eq h3, sameP_eq h4, sameAllB_eq l l' h5]
theorem sameAllB_eq : ∀ (a b : List Tree), sameAllB a b = true → a = b
  | [], [], _ => rfl
  | [], _ :: _, h => by simp [sameAllB] at h
  | _ :: _, [], h => by simp [sameAllB] at h
  | x :: l, y :: l', h => by
    rw [sameAllB, Bool.and_eq_true] at h
    rw [sameB_eq x y h.1, sameAllB_eq l l' h.2]
end
theorem sameB_ne {a b : Tree} (h : a ≠ b) : sameB a b = false := by
  cases hs : sameB a b with
  | false => rfl
  | true => exact absurd (sameB_eq a b hs) h
end Go.Proofs.YtamoklceekeheaaDoor

namespace Go.Proofs.YtamoklceekeheaaDoor
open Go.RowKit Go.Sort Go.Maps

theorem docB_depth (l : List Cel) : depthB (docB l) ≤ 20 := by
  rw [depth_node (docB_plain l), docB_kids]
  have := madeB_deep l
  omega
theorem go_depth : ∀ (p : List Int) (t u : Tree), goB t p = some u → depthB u ≤ depthB t
  | [], t, u, h => by simp only [goB, Option.some.injEq] at h; subst h; exact Nat.le_refl _
  | i :: p, t, u, h => by
    rw [goB] at h
    cases hk : kidAt t i with
    | none => rw [hk] at h; cases h
    | some v =>
      rw [hk] at h
      obtain ⟨hT, h0, hv⟩ := kidAt_some hk
      have h1 := go_depth p v u h
      have h2 := deep_mem (List.mem_of_getElem? hv)
      have h3 := depth_node hT
      omega
theorem three_flat {t : Tree} {a b : Nat} {p : List Int} {j o j' o' : Nat} (hT : isTxt t.kind = false) (hf : formedB t = true) (ha : resolveB t (a : Int) = some (p, j, o)) (hb : resolveB t (b : Int) = some (p, j', o')) (hab : a ≤ b) :
    ∃ u A M C, Three t p u A M C ∧ a = startB t p + totalB A ∧ b = startB t p + totalB A + totalB M ∧ deepB M ≤ deepB u.kids := by
  have ha' := ha
  have hb' := hb
  rw [resolveB_nat hT] at ha' hb'
  obtain ⟨u, hu⟩ := spots_ok t hT a _ ha'
  obtain ⟨u', hu'⟩ := spots_ok t hT b _ hb'
  have : u' = u := by
    have h1 := hu.go
    have h2 := hu'.go
    simp only at h1 h2
    rw [h1] at h2; exact (Option.some.inj h2).symm
  subst this
  obtain ⟨A, M, C, h3, h4, h5, h6⟩ := three_of hf hu ha hu' hb hab
  exact ⟨_, A, M, C, h3, h4, h5, h6⟩
/-- How much there is of a document, and of what is cut out. -/
theorem three_bounds {l : List Cel} {u : Tree} {p : List Int} {A M C : List Tree} (h : Three (docB l) p u A M C) :
    weigh (docB l) ≤ 800 ∧ sizeB (docB l) ≤ 800 ∧ depthB (docB l) ≤ 20 ∧ deepB M ≤ 19 ∧ weighAll M ≤ 800 ∧ totalB M ≤ 800 ∧ weighAll A ≤ 800 ∧ weighAll C ≤ 800 ∧ deepB A ≤ 19 ∧ deepB C ≤ 19 ∧ totalB A ≤ 800 ∧ startB (docB l) p ≤ 800 := by
  have h1 := docB_weigh l
  have h2 := size_le_weigh (docB l)
  have h3 := docB_depth l
  obtain ⟨d1, d2, d3⟩ := h.deeps (checkIs (docB_right l)).1
  have h4 := go_depth p (docB l) u h.go
  rw [depth_node h.plain] at h4
  obtain ⟨w1, w2, w3⟩ := h.weighs
  have h5 := goB_weigh p (docB l) u h.go
  have h6 := kids_weigh u
  have h7 := total_le_weigh M
  have h8 := total_le_weigh A
  have h9 := startB_weigh p (docB l)
  omega
theorem put_same {t u : Tree} {p : List Int} {A M C : List Tree} (h : Three t p u A M C) : Three.put t u p A M C = t := by
  unfold Three.put
  rw [h.kids, withKids_self, with_same _ _ _ h.go]
theorem put_again {t u : Tree} {p : List Int} {A M C : List Tree} (h : Three t p u A M C) (k m : List Tree) : Three.put (Three.put t u p A k C) (withKids u (joinB (A ++ (k ++ C)))) p A m C = Three.put t u p A m C := by
  unfold Three.put
  rw [with_twice _ _ _ _ _ h.go, withKids_with]
/-- The end of the middle alone. -/
theorem three_end {t u : Tree} {p : List Int} {A M C : List Tree} (h : Three t p u A M C) : Three t p u (joinB (A ++ M)) [] C :=
  ⟨h.go, h.plain, row_join (formed_app h.ahead h.mid), by simp [rowB], h.behind, by rw [List.nil_append, joinB_left', List.append_assoc]; exact h.kids⟩
theorem three_end_total {t u : Tree} {p : List Int} {A M C : List Tree} (h : Three t p u A M C) : totalB (joinB (A ++ M)) = totalB A + totalB M := by
  rw [joinB_total _ (formed_app h.ahead h.mid), totalB_append]
end Go.Proofs.YtamoklceekeheaaDoor

namespace Go.Proofs.YtamoklceekeheaaDoor
open Go.RowKit Go.Sort

theorem sameL_refl (l : List ByteArray) : sameL l l = true := by
  simp [sameL]

def SameSaid (n : Nat) : Prop := ∀ (l : List Tree) (va vb : Value) (w : World), weighAll l ≤ n → weighAll l ≤ 1000000 → Kids w (Under w.heap.size) va l → Kids w (Under w.heap.size) vb l →
    Calls Tryd.prog 19 #[va, vb] w fun e w' => e = .returned (.bool true) ∧ Below w.heap.size w w'

set_option maxHeartbeats 2000000 in
theorem same_of (n : Nat) (IH : Hid (SameSaid n)) (t : Tree) (va vb : Value) (w : World) (hn : weighAll t.kids ≤ n) (hw : weigh t ≤ 1000000) (ha : Node w (Under w.heap.size) va t) (hb : Node w (Under w.heap.size) vb t) :
    Calls Tryd.prog 43 #[va, vb] w fun e w' => e = .returned (.bool true) ∧ Below w.heap.size w w' := by
  obtain ⟨am, aa, ak, rfl, ham, haa, hak⟩ := ha
  obtain ⟨bm, ba, bk, rfl, hbm, hba, hbk⟩ := hb
  obtain ⟨A1, c1, rfl, _⟩ := ham.form
  obtain ⟨A2, c2, rfl, _⟩ := haa.form
  obtain ⟨A3, c3, rfl, _⟩ := hak.form
  obtain ⟨B1, e1, rfl, _⟩ := hbm.form
  obtain ⟨B2, e2, rfl, _⟩ := hba.form
  obtain ⟨B3, e3, rfl, _⟩ := hbk.form
  have HM := Lib.hid (And.intro ham hbm)
  have HA := Lib.hid (And.intro haa hba)
  have HK := Lib.hid (And.intro hak hbk)
  clear ham haa hak hbm hba hbk
  generalize hW2 : (w.alloc (.cells #[.string t.kind, .string t.text, .slice A1 t.marks.length c1, .slice A2 t.attrs.length c2, .slice A3 t.kids.length c3] 28)).alloc (.cells #[.string t.kind, .string t.text, .slice B1 t.marks.length e1, .slice B2 t.attrs.length e2, .slice B3 t.kids.length e3] 28) = W2
  obtain ⟨z0, z1, z2, z3, z4, hz, hzz⟩ := box5 (w := w) (T := 28) (v0 := .string t.kind) (v1 := .string t.text) (v2 := .slice A1 t.marks.length c1) (v3 := .slice A2 t.attrs.length c2) (v4 := .slice A3 t.kids.length c3) (Below.refl _ _)
  obtain ⟨y0, y1, y2, y3, y4, hy, hyy⟩ := box5 (w := w.alloc (.cells #[.string t.kind, .string t.text, .slice A1 t.marks.length c1, .slice A2 t.attrs.length c2, .slice A3 t.kids.length c3] 28)) (T := 28) (v0 := .string t.kind) (v1 := .string t.text) (v2 := .slice B1 t.marks.length e1) (v3 := .slice B2 t.attrs.length e2) (v4 := .slice B3 t.kids.length e3) (Below.refl _ _)
  rw [hW2] at y0 y1 y2 y3 y4 hy hyy
  rw [show (w.alloc (.cells #[.string t.kind, .string t.text, .slice A1 t.marks.length c1, .slice A2 t.attrs.length c2, .slice A3 t.kids.length c3] 28)).heap.size = w.heap.size + 1 by simp] at y0 y1 y2 y3 y4 hyy
  replace z0 := cell_kept z0 hy
  replace z1 := cell_kept z1 hy
  replace z2 := cell_kept z2 hy
  replace z3 := cell_kept z3 hy
  replace z4 := cell_kept z4 hy
  have HB2 := Lib.hid (belowNext hz hy)
  have HC := Lib.hid (And.intro (And.intro z0 (And.intro z1 (And.intro z2 (And.intro z3 z4)))) (And.intro y0 (And.intro y1 (And.intro y2 (And.intro y3 y4)))))
  have HW2 := Lib.hid hW2
  clear hW2 z0 z1 z2 z3 z4 y0 y1 y2 y3 y4 hz hzz hy hyy
  have hwm : weighL t.marks + weighP t.attrs + weighAll t.kids ≤ weigh t := by obtain ⟨k, t, m, a, l⟩ := t; simp only [weigh, Tree.marks, Tree.attrs, Tree.kids]; omega
  have hal := length_le_weighP t.attrs
  go_enter Tryd.func43, Tryd.ntmps43
  go_wp2_with fail
  rw [HW2.out]
  refine (sameNames_any _ _ t.marks t.marks _ _ W2 (HM.out.1.below HB2.out) (HM.out.2.below HB2.out) (by omega)).mono ?_
  rintro e w1 ⟨rfl, n1, hn1⟩
  rw [sameL_refl]
  have hb1 : Below W2.heap.size W2 w1 := by subst hn1; exact ⟨rfl, rfl, rfl, Nat.le_refl _, fun _ _ => rfl⟩
  clear hn1
  obtain ⟨⟨z0, z1, z2, z3, z4⟩, y0, y1, y2, y3, y4⟩ := HC.out
  replace z0 := cell_kept z0 hb1
  replace z1 := cell_kept z1 hb1
  replace z2 := cell_kept z2 hb1
  replace z3 := cell_kept z3 hb1
  replace z4 := cell_kept z4 hb1
  replace y0 := cell_kept y0 hb1
  replace y1 := cell_kept y1 hb1
  replace y2 := cell_kept y2 hb1
  replace y3 := cell_kept y3 hb1
  replace y4 := cell_kept y4 hb1
  have hB1 := belowNext HB2.out hb1
  have hl1 := cell_lt z0
  have hl2 := cell_lt y0
  clear hb1
  go_wp2
  have HC1 := Lib.hid (And.intro z3 (And.intro z4 (And.intro y3 y4)))
  clear z0 z1 z2 z3 z4 y0 y1 y2 y3 y4
  go_loopw [5] (fun i wr => ∃ k n : Nat, k ≤ t.attrs.length ∧ i = .int .i64 k ∧ wr = w1.drewN n) (fun i _ => t.attrs.length - (intOf i).toNat)
  case atStart => exact ⟨0, 0, by omega, rfl, rfl⟩
  case round =>
    obtain ⟨i, n2, hi, rfl, rfl⟩ := hrel
    obtain ⟨z3, z4, y3, y4⟩ := HC1.out
    by_cases hlt : i < t.attrs.length
    · obtain ⟨b, o, rfl, hub, hcell⟩ := HA.out.1.get hlt
      obtain ⟨b', o', rfl, hub', hcell'⟩ := HA.out.2.get hlt
      have f0 := cell_kept (hcell i hlt).1 hB1
      have f1 := cell_kept (hcell i hlt).2 hB1
      have f2 := cell_kept (hcell' i hlt).1 hB1
      have f3 := cell_kept (hcell' i hlt).2 hB1
      have g1 := cell_lt f0
      have g2 := cell_lt f2
      generalize (pairAt t.attrs i) = pr at *
      clear hcell hcell' z4 y4
      go_wp2
      go_quiet (fail)
      go_wp2
      exact ⟨⟨i + 1, _, by omega, by go_num, rfl⟩, by simp [intOf]; omega⟩
    · go_wp2_with fail
      have HBD : Hid (Below w1.heap.size w1 (w1.drewN n2)) := Lib.hid ⟨rfl, rfl, rfl, Nat.le_refl _, fun _ _ => rfl⟩
      have hB2 := belowNext hB1 HBD.out
      refine (IH.out t.kids _ _ _ hn (by omega) ((HK.out.1.below hB2).more hB2.size) ((HK.out.2.below hB2).more hB2.size)).mono ?_
      rintro e w3 ⟨rfl, hb3⟩
      have hB3 := belowNext hB2 hb3
      clear z3 z4 y3 y4
      go_wp2
      go_ret
      exact ⟨rfl, hB3⟩

set_option maxHeartbeats 2000000 in
theorem sameAll_all : ∀ n, SameSaid n := by
  intro n
  induction n using Nat.strongRecOn with
  | ind n ih =>
    have IH := Lib.hid ih
    clear ih
    intro l va vb w hn hw ha hb
    have hlen : l.length ≤ 1000000 := by have := length_le_weigh l; omega
    have HA := Lib.hid ha
    have HB := Lib.hid hb
    obtain ⟨A, c, rfl, _⟩ := ha.form
    obtain ⟨B, d, rfl, _⟩ := hb.form
    clear ha hb
    go_enter Tryd.func19, Tryd.ntmps19
    go_wp2
    go_loopw [5] (fun i wr => ∃ k : Nat, k ≤ l.length ∧ i = .int .i64 k ∧ Below w.heap.size w wr) (fun i _ => l.length - (intOf i).toNat)
    case atStart => exact ⟨0, by omega, rfl, Below.refl _ _⟩
    case round =>
      obtain ⟨i, hi, rfl, hbr⟩ := hrel
      by_cases hlt : i < l.length
      · obtain ⟨b, o, rfl, hub, hrow⟩ := HA.out.get hlt
        obtain ⟨b', o', rfl, hub', hrow'⟩ := HB.out.get hlt
        have hlx : l[i]? = some l[i] := List.getElem?_eq_getElem hlt
        generalize hx : l[i] = x at *
        have hwx := weigh_mem (List.mem_of_getElem? hlx)
        have hkx := kids_weigh x
        obtain ⟨xm, xa, xk, e0, e1, e2, e3, e4, exm, exa, exk⟩ := hrow.node hlx
        obtain ⟨ym, ya, yk, d0, d1, d2, d3, d4, dxm, dxa, dxk⟩ := hrow'.node hlx
        have HXN : Hid (Node w (Under w.heap.size) (.agg #[.string x.kind, .string x.text, xm, xa, xk]) x) := Lib.hid ⟨_, _, _, rfl, exm, exa, exk⟩
        have HYN : Hid (Node w (Under w.heap.size) (.agg #[.string x.kind, .string x.text, ym, ya, yk]) x) := Lib.hid ⟨_, _, _, rfl, dxm, dxa, dxk⟩
        obtain ⟨A1, c1, rfl, _⟩ := exm.form
        obtain ⟨A2, c2, rfl, _⟩ := exa.form
        obtain ⟨A3, c3, rfl, _⟩ := exk.form
        obtain ⟨A4, c4, rfl, _⟩ := dxm.form
        obtain ⟨A5, c5, rfl, _⟩ := dxa.form
        obtain ⟨A6, c6, rfl, _⟩ := dxk.form
        have f0 := cell_kept e0 hbr
        have f1 := cell_kept e1 hbr
        have f2 := cell_kept e2 hbr
        have f3 := cell_kept e3 hbr
        have f4 := cell_kept e4 hbr
        have g0 := cell_kept d0 hbr
        have g1 := cell_kept d1 hbr
        have g2 := cell_kept d2 hbr
        have g3 := cell_kept d3 hbr
        have g4 := cell_kept d4 hbr
        have h1 := cell_lt f0
        have h2 := cell_lt g0
        clear e0 e1 e2 e3 e4 d0 d1 d2 d3 d4 exm exa exk dxm dxa dxk hx hlx hrow hrow'
        have HIH := Lib.hid (IH.out (weighAll x.kids) (by omega))
        have HS := Lib.hid (regrown_any (w := wr) fun W hW => same_of (weighAll x.kids) HIH x _ _ W (Nat.le_refl _) (by omega) ((HXN.out.below (hbr.trans (hW.mono hbr.size))).more (Nat.le_trans hbr.size hW.size)) ((HYN.out.below (hbr.trans (hW.mono hbr.size))).more (Nat.le_trans hbr.size hW.size)))
        have k0 := cell_regrown f0
        have k1 := cell_regrown f1
        have k2 := cell_regrown f2
        have k3 := cell_regrown f3
        have k4 := cell_regrown f4
        have m0 := cell_regrown g0
        have m1 := cell_regrown g1
        have m2 := cell_regrown g2
        have m3 := cell_regrown g3
        have m4 := cell_regrown g4
        go_wp2_with fail
        clear f0 f1 f2 f3 f4 g0 g1 g2 g3 g4
        refine wp_region_quiet_below (by kernel_rfl) (by kernel_rfl) ?_
        repeat (first | go_big_quiet_step (exact HS.out _ _) | quiet_step (exact HS.out _ _))
        refine wpQuiet_nil ?_
        intro _ hw'
        obtain ⟨⟨dq, osq⟩, hw''⟩ := hw'
        subst hw''
        have HQ := Lib.hid (below_regrown wr dq osq)
        clear k0 k1 k2 k3 k4 m0 m1 m2 m3 m4
        go_wp2
        exact ⟨⟨i + 1, by omega, by go_num, belowNext hbr HQ.out⟩, by simp [intOf]; omega⟩
      · go_wp2
        go_ret
        exact ⟨rfl, hbr⟩

theorem sameAll_any (va vb : Value) (l : List Tree) (w : World) (ha : Kids w (Under w.heap.size) va l) (hb : Kids w (Under w.heap.size) vb l) (hw : weighAll l ≤ 1000000) :
    Calls Tryd.prog 19 #[va, vb] w fun e w' => e = .returned (.bool true) ∧ Below w.heap.size w w' :=
  sameAll_all (weighAll l) l va vb w (Nat.le_refl _) hw ha hb
end Go.Proofs.YtamoklceekeheaaDoor
