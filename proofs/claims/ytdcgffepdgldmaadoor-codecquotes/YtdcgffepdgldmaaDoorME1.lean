/-
  Two nodes are the same just if they are equal trees: plain facts.
  Plain facts on one text, as a value and as a text; []rune and back, run.
  CodecQuotes: a text of any signs, as a value or as a text of a node, is read as it was written; walked.
-/
import Derived.Test.YtdcgffepdgldmaaDoorW28
import Derived.Test.YtdcgffepdgldmaaDoorRightA
import Derived.Test.YtdcgffepdgldmaaDoorD12
import Derived.Test.YtdcgffepdgldmaaDoorMRunes
import Derived.Test.YtdcgffepdgldmaaDoorD19
import Derived.Test.YtdcgffepdgldmaaDoorMC4
namespace Go.Proofs.YtdcgffepdgldmaaDoor
open Go.RowKit Go.Sort

theorem bytes_eq {s t : ByteArray} (h : (s.toList == t.toList) = true) : s = t := by
  rw [beq_iff_eq, Lib.toList_data, Lib.toList_data] at h
  exact ByteArray.ext (Array.ext' h)
theorem bytes_refl (s : ByteArray) : (s.toList == s.toList) = true := by simp
theorem sameL_self (l : List ByteArray) : sameL l l = true := sameL_all rfl fun _ _ => bytes_refl _
theorem sameP_self (l : List (ByteArray × ByteArray)) : sameP l l = true := sameP_all rfl fun _ _ => by simp [pairEq]
theorem sameP_eq {a b : List (ByteArray × ByteArray)} (h : sameP a b = true) : a = b := by
  simp only [sameP, Bool.and_eq_true, decide_eq_true_eq, List.all_eq_true, List.mem_range] at h
  obtain ⟨hl, h⟩ := h
  apply List.ext_getElem hl
  intro i h1 h2
  have h3 := h i h1
  simp only [pairEq, pairAt, List.getD, List.getElem?_eq_getElem h1, List.getElem?_eq_getElem h2, Option.getD_some, Bool.and_eq_true] at h3
  exact Prod.ext (bytes_eq h3.1) (bytes_eq h3.2)
mutual
theorem sameB_self : ∀ t : Tree, sameB t t = true
  | .mk k t m a l => by rw [sameB]; simp only [Tree.kind, Tree.text, Tree.marks, Tree.attrs, Tree.kids, bytes_refl, sameL_self, sameP_self, sameAllB_self l]; rfl
theorem sameAllB_self : ∀ l : List Tree, sameAllB l l = true
  | [] => rfl
  | x :: l => by rw [sameAllB, sameB_self x, sameAllB_self l]; rfl
end
mutual
theorem sameB_eq : ∀ (a b : Tree), sameB a b = true → a = b
  | .mk k t m a l, .mk k' t' m' a' l', h => by
    rw [sameB] at h
    simp only [Tree.kind, Tree.text, Tree.marks, Tree.attrs, Tree.kids, Bool.and_eq_true] at h
    obtain ⟨h1, h2, h3, h4, h5⟩ := h
    rw [bytes_eq h1, bytes_eq h2, sameL_eq h3, sameP_eq h4, sameAllB_eq l l' h5]
theorem sameAllB_eq : ∀ (a b : List Tree), sameAllB a b = true → a = b
  | [], [], _ => rfl
  | [], _ :: _, h => by simp [sameAllB] at h
  | _ :: _, [], h => by simp [sameAllB] at h
  | x :: l, y :: l', h => by
    rw [sameAllB, Bool.and_eq_true] at h
    rw [sameB_eq x y h.1, sameAllB_eq l l' h.2]
end
theorem sameB_ne {a b : Tree} (h : a ≠ b) : sameB a b = false := by
  cases hs : sameB a b with
  | false => rfl
  | true => exact absurd (sameB_eq a b hs) h
end Go.Proofs.YtdcgffepdgldmaaDoor

namespace Go.Proofs.YtdcgffepdgldmaaDoor
open Go.RowKit Go.Sort Go.Maps

def tA (s : ByteArray) : Tree := .mk ⟨#[112]⟩ ⟨#[]⟩ [] [(⟨#[97]⟩, s)] []
def tB (s : ByteArray) : Tree := .mk TEXT s [] [] []
theorem tA_formed (s : ByteArray) : formedB (tA s) = valueB s := by
  have h1 : isTxt ⟨#[112]⟩ = false := by decide +kernel
  have h2 : nameB ⟨#[112]⟩ = true := by decide +kernel
  have h3 : nameB ⟨#[97]⟩ = true := by decide +kernel
  have h4 : (⟨#[]⟩ : ByteArray).toList.isEmpty = true := by decide +kernel
  unfold tA
  rw [formedB, h1]
  simp only [headB, rowB, Tree.kind, Tree.text, Tree.marks, Tree.attrs, h2, h4, attrsB, List.length_cons, List.length_nil]
  simp [List.range, List.range.loop, attrOk, pairAt, h3]
theorem tA_check (s : ByteArray) : checkB (tA s) = if valueB s = true then 0 else 2 := by
  have h1 : isTxt ⟨#[112]⟩ = false := by decide +kernel
  unfold checkB
  rw [tA_formed]
  have hd : depthB (tA s) = 1 := by unfold tA; rw [depthB, h1]; simp [deepB]
  have hz : sizeB (tA s) = 2 := by unfold tA; rw [sizeB, h1]; simp [totalB]
  rw [hd, hz]
  split
  · rfl
  · rfl
def textOk (s : ByteArray) : Bool := !s.toList.isEmpty && Lib.validD s.data.toList
theorem tB_formed (s : ByteArray) : formedB (tB s) = textOk s := by
  have h1 : isTxt TEXT = true := by decide +kernel
  unfold tB textOk
  rw [formedB, h1, if_pos rfl]
  simp [textB, Tree.text, Tree.marks, Tree.attrs, Tree.kids, marksB]
theorem tB_check (s : ByteArray) (hs : s.size ≤ 4000) : checkB (tB s) = if textOk s = true then 0 else 2 := by
  have h1 : isTxt TEXT = true := by decide +kernel
  unfold checkB
  rw [tB_formed]
  have hd : depthB (tB s) = 0 := by unfold tB; rw [depthB, h1]; rfl
  have hz : sizeB (tB s) = Lib.runeCount s := by unfold tB; rw [sizeB, h1]; rfl
  have hr := runeCount_le s
  rw [hd, hz]
  split
  · rw [if_neg (by omega), if_neg (by omega)]
  · rfl
theorem escL_len : ∀ l : List UInt8, (escL l).length ≤ 2 * l.length
  | [] => by simp [escL]
  | c :: l => by
    have := escL_len l
    rw [escL]
    split <;> simp <;> omega
theorem quoteL_len (l : List UInt8) : (quoteL l).length ≤ 2 * l.length + 2 := by
  have := escL_len l
  simp only [quoteL, List.length_cons, List.length_append, List.length_nil]; omega
theorem tA_len (s : ByteArray) : (writeB (tA s)).length ≤ 2 * s.size + 20 := by
  have h1 : isTxt ⟨#[112]⟩ = false := by decide +kernel
  have hq := quoteL_len s.data.toList
  have hsl : s.data.toList.length = s.size := by rw [Lib.size_eq]
  unfold tA
  rw [writeB, h1]
  simp [attrsW, blankA, attrW, writeAllB]
  omega
theorem tB_len (s : ByteArray) : (writeB (tB s)).length ≤ 2 * s.size + 20 := by
  have h1 : isTxt TEXT = true := by decide +kernel
  have hq := quoteL_len s.data.toList
  have hsl : s.data.toList.length = s.size := by rw [Lib.size_eq]
  unfold tB
  rw [writeB, h1]
  simp [marksW]
  omega
theorem tA_weigh (s : ByteArray) : weigh (tA s) = s.size + 5 := by
  simp only [tA, weigh, weighL, weighP, weighAll, List.map_cons, List.map_nil, List.sum_cons, List.sum_nil]
  rw [show (⟨#[112]⟩ : ByteArray).size = 1 from rfl, show (⟨#[]⟩ : ByteArray).size = 0 from rfl, show (⟨#[97]⟩ : ByteArray).size = 1 from rfl]; omega
theorem tB_weigh (s : ByteArray) : weigh (tB s) = s.size + 6 := by
  simp only [tB, weigh, weighL, weighP, weighAll, List.map_nil, List.sum_nil]
  rw [show TEXT.size = 4 from rfl]; omega

theorem run_back (w : World) (g c : Nat) (ps : List Nat) (h : ∀ i (r : Nat), ps[i]? = some r → w.cell? ⟨g, i, none⟩ = some (.int .i32 (r : Int))) :
    (convert 49 9 (.slice (some ⟨g, 0, none⟩) ps.length c)).run Tryd.prog w = .ok (.string (runesBytes (ps.map fun r : Nat => (r : Int)))) w := by
  rw [run_convert_runes_string w 49 9 21 (some ⟨g, 0, none⟩) ps.length c Tryd.underlying49 Tryd.underlying21 Tryd.underlying9]
  refine run_runesToString w ⟨g, 0, none⟩ ps.length c _ ?_
  have hl := run_loadCells_list (P := Tryd.prog) (w := w) ⟨g, 0, none⟩ ((ps.map fun r : Nat => (r : Int)).map (Value.int .i32)) fun j v hj => by
    rw [add_cell, Nat.zero_add]
    rw [List.map_map, List.getElem?_map, Option.map_eq_some_iff] at hj
    obtain ⟨r, hr, rfl⟩ := hj
    exact h j r hr
  simpa using hl
theorem back_bytes (s : ByteArray) : ((runesBytes ((pts s.data.toList).map fun r : Nat => (r : Int))).toList == s.toList) = Lib.validD s.data.toList := by
  rw [Lib.toList_data, Lib.toList_data, runesBytes_data]
  exact back_same s.data.toList
end Go.Proofs.YtdcgffepdgldmaaDoor

namespace Go.Proofs.YtdcgffepdgldmaaDoor
open Go.RowKit Go.Sort Go.Maps

theorem printB_ok {t : Tree} (h : checkB t = 0) : printB t = writeB t := if_pos h
theorem parse_print {t : Tree} (h : checkB t = 0) : parseB (⟨(printB t).toArray⟩ : ByteArray).data.toList = (t, 0) := by
  rw [printB_ok h]; exact parse_back t h
theorem print_size (t : Tree) (n : Nat) (h : (writeB t).length ≤ n) : (⟨(printB t).toArray⟩ : ByteArray).size ≤ n := by
  rw [bytes_size]; unfold printB; split
  · exact h
  · exact Nat.zero_le _

set_option maxHeartbeats 8000000 in
set_option maxRecDepth 100000 in
theorem codecQuotes_walk (s : ByteArray) (w : World) (hs : s.size ≤ maxLen) (hT : Tabs w) :
    Calls Tryd.prog 6 #[.string s] w fun e w' => e = .returned (.bool true) ∧ Below w.heap.size w w' := by
  unfold maxLen at hs
  have HT := Lib.hid hT
  clear hT
  go_enter Tryd.func6, Tryd.ntmps6
  go_wp2_with fail
  refine (shown2_any _ HT.out).mono ?_
  rintro e w1 ⟨rfl, hb1⟩
  by_cases hl : s.size ≤ 300
  · have hl1 : ¬ (300 : Int) < (s.size : Int) := by omega
    have hl2 : ¬ (s.size : Int) > 300 := by omega
    obtain ⟨W4, hW4⟩ : ∃ W4, W4 = ((w1.alloc (.cells #[.string ⟨#[97]⟩, .string s] 48)).alloc (.cells #[.string ⟨#[112]⟩, .string ⟨#[]⟩, .slice none 0 0, .slice (some ⟨w1.heap.size, 0, none⟩) 1 1, .slice none 0 0] 27)).alloc (.cells #[.string ⟨#[116, 101, 120, 116]⟩, .string s, .slice none 0 0, .slice none 0 0, .slice none 0 0] 27) := ⟨_, rfl⟩
    have hB4 : Below w1.heap.size w1 W4 := by subst hW4; exact (((Below.refl _ _).alloc (Nat.le_refl _) _).alloc (by simp) _).alloc (by simp; omega) _
    have hz4 : W4.heap.size = w1.heap.size + 1 + 1 + 1 := by subst hW4; simp
    have g0 : W4.heap[w1.heap.size]? = some (.cells #[.string ⟨#[97]⟩, .string s] 48) := by subst hW4; exact heap_old _ _ _ (heap_old _ _ _ (heap_new _ _))
    have g1 : W4.heap[w1.heap.size + 1]? = some (.cells #[.string ⟨#[112]⟩, .string ⟨#[]⟩, .slice none 0 0, .slice (some ⟨w1.heap.size, 0, none⟩) 1 1, .slice none 0 0] 27) := by subst hW4; exact heap_old _ _ _ (heap_new' _ _ (by simp))
    have g2 : W4.heap[w1.heap.size + 1 + 1]? = some (.cells #[.string ⟨#[116, 101, 120, 116]⟩, .string s, .slice none 0 0, .slice none 0 0, .slice none 0 0] 27) := by subst hW4; exact heap_new' _ _ (by simp)
    have NA4 : Node W4 (Under W4.heap.size) (.agg #[.string ⟨#[112]⟩, .string ⟨#[]⟩, .slice none 0 0, .slice (some ⟨w1.heap.size, 0, none⟩) 1 1, .slice none 0 0]) (tA s) := ⟨_, _, _, rfl, strs_none, pairs_one (s := ⟨#[97]⟩) (t := s) (by simp only [World.cell?, g0]; rfl) (by simp only [World.cell?, g0]; rfl) rfl rfl (by unfold Under; omega), kids_none⟩
    have NB4 : Node W4 (Under W4.heap.size) (.agg #[.string ⟨#[116, 101, 120, 116]⟩, .string s, .slice none 0 0, .slice none 0 0, .slice none 0 0]) (tB s) := ⟨_, _, _, rfl, strs_none, pairs_none, kids_none⟩
    have HW4 := Lib.hid hW4
    have HG1 := Lib.hid g1
    have HG2 := Lib.hid g2
    have HNA4 := Lib.hid NA4
    have HNB4 := Lib.hid NB4
    have HB4 := Lib.hid (belowNext hb1 hB4)
    have HBW4 := Lib.hid hB4
    clear hB4 g0 g1 g2 NA4 NB4 hW4 hb1
    have hwa : weigh (tA s) ≤ 1000000 := by rw [tA_weigh]; omega
    have hwb : weigh (tB s) ≤ 1000000 := by rw [tB_weigh]; omega
    have HWA := Lib.hid hwa
    have HWB := Lib.hid hwb
    have HCA := Lib.hid (tA_check s)
    have HCB := Lib.hid (tB_check s (by omega))
    have HLA := Lib.hid (print_size (tA s) 1000 (by have := tA_len s; omega))
    have HLB := Lib.hid (print_size (tB s) 1000 (by have := tB_len s; omega))
    clear hwa hwb
    go_wp2_with fail
    rw [← HW4.out]
    refine (print_any _ (tA s) W4 HNA4.out HWA.out (HT.out.below HB4.out)).mono ?_
    rintro e w5 ⟨rfl, hb5⟩
    have HG15 := Lib.hid ((hb5.block _ (by omega)).trans HG1.out)
    have HG25 := Lib.hid ((hb5.block _ (by omega)).trans HG2.out)
    have HNA5 := Lib.hid ((HNA4.out.below hb5).more hb5.size)
    have HNB5 := Lib.hid ((HNB4.out.below hb5).more hb5.size)
    have HB5 := Lib.hid (belowNext HB4.out hb5)
    have hz5 := hb5.size
    clear hb5 HNA4 HNB4 HG1 HG2
    obtain ⟨a0, a1, a2, a3, a4⟩ := five_cells HG25.out
    go_wp2_with fail
    refine (print_any _ (tB s) w5 HNB5.out HWB.out (HT.out.below HB5.out)).mono ?_
    rintro e w6 ⟨rfl, hb6⟩
    have HG16 := Lib.hid ((hb6.block _ (by omega)).trans HG15.out)
    have HG26 := Lib.hid ((hb6.block _ (by omega)).trans HG25.out)
    have HNA6 := Lib.hid ((HNA5.out.below hb6).more hb6.size)
    have HNB6 := Lib.hid ((HNB5.out.below hb6).more hb6.size)
    have HB6 := Lib.hid (belowNext HB5.out hb6)
    have hz6 := hb6.size
    clear hb6 HNA5 HNB5 HG15 HG25 a0 a1 a2 a3 a4
    go_wp2_with fail
    refine (value_any s w6 (by omega) (HT.out.below HB6.out)).mono ?_
    rintro e w7 ⟨rfl, hb7⟩
    have HG17 := Lib.hid ((hb7.block _ (by omega)).trans HG16.out)
    have HG27 := Lib.hid ((hb7.block _ (by omega)).trans HG26.out)
    have HNA7 := Lib.hid ((HNA6.out.below hb7).more hb7.size)
    have HNB7 := Lib.hid ((HNB6.out.below hb7).more hb7.size)
    have HB7 := Lib.hid (belowNext HB6.out hb7)
    have hz7 := hb7.size
    clear hb7 HNA6 HNB6 HG16 HG26
    rw [HCA.out, HCB.out]
    obtain ⟨sa, hsa⟩ : ∃ sa : ByteArray, sa = ⟨(printB (tA s)).toArray⟩ := ⟨_, rfl⟩
    obtain ⟨sb, hsb⟩ : ∃ sb : ByteArray, sb = ⟨(printB (tB s)).toArray⟩ := ⟨_, rfl⟩
    rw [← hsa, ← hsb]
    have HSA := Lib.hid hsa
    have HSB := Lib.hid hsb
    clear hsa hsb
    cases hv : valueB s with
    | true =>
      cases hemp : s.toList.isEmpty with
      | true =>
        have htx : textOk s = false := by unfold textOk; rw [hemp]; rfl
        have HCA0 : Hid (checkB (tA s) = 0) := Lib.hid (by rw [HCA.out, if_pos hv])
        rw [if_pos (rfl : true = true)]
        have HPB : Hid (printB (tB s) = []) := Lib.hid (if_neg (by rw [HCB.out, htx]; decide))
        rw [htx, if_neg Bool.false_ne_true]
        have HG1_w7 := HG17
        have HG2_w7 := HG27
        have HNA_w7 := HNA7
        have HNB_w7 := HNB7
        have HB_w7 := HB7
        have hem : s.toList.isEmpty = true := hemp
        go_wp2_with fail
        refine (parse_any sa w7 (by rw [HSA.out]; have := HLA.out; omega) (HT.out.below HB_w7.out)).mono ?_
        rintro e wa ⟨v_wa, rfl, hn_wa, hb_wa⟩
        have hpp_wa : parseB sa.data.toList = (tA s, 0) := by rw [HSA.out]; exact parse_print HCA0.out
        rw [hpp_wa] at hn_wa ⊢
        obtain ⟨P2, m2, e2, P3, m3, e3, P4, m4, e4, rfl⟩ := node_form hn_wa
        have hx_wa : Below wa.heap.size wa (wa.alloc (.cells #[.string (tA s).kind, .string (tA s).text, .slice P2 m2 e2, .slice P3 m3 e3, .slice P4 m4 e4] 27)) := (Below.refl _ _).alloc (Nat.le_refl _) _
        have hzx_wa : (wa.alloc (.cells #[.string (tA s).kind, .string (tA s).text, .slice P2 m2 e2, .slice P3 m3 e3, .slice P4 m4 e4] 27)).heap.size = wa.heap.size + 1 := by simp
        have hz_wa := hb_wa.size
        have HX_wa := Lib.hid (hb_wa.trans (hx_wa.mono hz_wa))
        have HM_wa := Lib.hid (hn_wa.keep (S' := Under (wa.alloc (.cells #[.string (tA s).kind, .string (tA s).text, .slice P2 m2 e2, .slice P3 m3 e3, .slice P4 m4 e4] 27)).heap.size) (fun b hb => by have := hb.2; show b < _; omega) fun b hb => hx_wa.block b hb.2)
        have hs_wa := heap_alloc_new wa (.cells #[.string (tA s).kind, .string (tA s).text, .slice P2 m2 e2, .slice P3 m3 e3, .slice P4 m4 e4] 27)
        have HG1_wa := Lib.hid ((HX_wa.out.block _ (by omega)).trans HG1_w7.out)
        have HG2_wa := Lib.hid ((HX_wa.out.block _ (by omega)).trans HG2_w7.out)
        have HNA_wa := Lib.hid ((HNA_w7.out.below HX_wa.out).more HX_wa.out.size)
        have HNB_wa := Lib.hid ((HNB_w7.out.below HX_wa.out).more HX_wa.out.size)
        have HB_wa := Lib.hid (belowNext HB_w7.out HX_wa.out)
        have HS_wa := Lib.hid hs_wa
        clear hn_wa hb_wa hx_wa hs_wa hpp_wa
        obtain ⟨p0, p1, p2, p3, p4⟩ := five_cells HS_wa.out
        obtain ⟨r0, r1, r2, r3, r4⟩ := five_cells HG1_wa.out
        go_wp2_with fail
        generalize wa.alloc (.cells #[.string (tA s).kind, .string (tA s).text, .slice P2 m2 e2, .slice P3 m3 e3, .slice P4 m4 e4] 27) = W_wa at *
        refine (nsame_any _ _ (tA s) (tA s) W_wa HM_wa.out HNA_wa.out HWA.out HWA.out).mono ?_
        rintro e was ⟨rfl, hb_was⟩
        rw [sameB_self]
        have HG1_was := Lib.hid ((hb_was.block _ (by omega)).trans HG1_wa.out)
        have HG2_was := Lib.hid ((hb_was.block _ (by omega)).trans HG2_wa.out)
        have HNA_was := Lib.hid ((HNA_wa.out.below hb_was).more hb_was.size)
        have HNB_was := Lib.hid ((HNB_wa.out.below hb_was).more hb_was.size)
        have HB_was := Lib.hid (belowNext HB_wa.out hb_was)
        have hz_was := hb_was.size
        clear hb_was p0 p1 p2 p3 p4 r0 r1 r2 r3 r4
        have hsb0 : sb.toList.isEmpty = true := by rw [HSB.out, HPB.out]; decide +kernel
        go_wp2
        go_ret
        exact ⟨rfl, HB_was.out⟩
      | false =>
        cases hvalid : Lib.validD s.data.toList with
        | true =>
          have htx : textOk s = true := by unfold textOk; rw [hemp, hvalid]; rfl
          have HCA0 : Hid (checkB (tA s) = 0) := Lib.hid (by rw [HCA.out, if_pos hv])
          rw [if_pos (rfl : true = true)]
          have HCB0 : Hid (checkB (tB s) = 0) := Lib.hid (by rw [HCB.out, if_pos htx])
          rw [htx, if_pos rfl]
          obtain ⟨c8, obj8, hrun8, hc8, hcell8⟩ := run_runes w7 s (by omega)
          have hback8 := run_back (w7.drew.alloc obj8) w7.heap.size c8 (pts s.data.toList) hcell8
          have heq8 := back_bytes s
          rw [hvalid] at heq8
          have hx8 : Below w7.heap.size w7 (w7.drew.alloc obj8) := ((Below.refl _ _).drew).alloc (Nat.le_refl _) _
          have HX8 := Lib.hid hx8
          have HG1_W8 := Lib.hid ((hx8.block _ (by omega)).trans HG17.out)
          have HG2_W8 := Lib.hid ((hx8.block _ (by omega)).trans HG27.out)
          have HNA_W8 := Lib.hid ((HNA7.out.below hx8).more hx8.size)
          have HNB_W8 := Lib.hid ((HNB7.out.below hx8).more hx8.size)
          have HB_W8 := Lib.hid (belowNext HB7.out hx8)
          have hz8 := hx8.size
          clear hx8 hcell8 hc8 hvalid
          generalize runesBytes ((pts s.data.toList).map fun r : Nat => (r : Int)) = sr at *
          generalize (pts s.data.toList).length = np at *
          generalize hW8 : w7.drew.alloc obj8 = W8 at *
          clear hW8
          have hem : s.toList.isEmpty = false := hemp
          go_wp2_with fail
          refine (parse_any sa W8 (by rw [HSA.out]; have := HLA.out; omega) (HT.out.below HB_W8.out)).mono ?_
          rintro e wa ⟨v_wa, rfl, hn_wa, hb_wa⟩
          have hpp_wa : parseB sa.data.toList = (tA s, 0) := by rw [HSA.out]; exact parse_print HCA0.out
          rw [hpp_wa] at hn_wa ⊢
          obtain ⟨P2, m2, e2, P3, m3, e3, P4, m4, e4, rfl⟩ := node_form hn_wa
          have hx_wa : Below wa.heap.size wa (wa.alloc (.cells #[.string (tA s).kind, .string (tA s).text, .slice P2 m2 e2, .slice P3 m3 e3, .slice P4 m4 e4] 27)) := (Below.refl _ _).alloc (Nat.le_refl _) _
          have hzx_wa : (wa.alloc (.cells #[.string (tA s).kind, .string (tA s).text, .slice P2 m2 e2, .slice P3 m3 e3, .slice P4 m4 e4] 27)).heap.size = wa.heap.size + 1 := by simp
          have hz_wa := hb_wa.size
          have HX_wa := Lib.hid (hb_wa.trans (hx_wa.mono hz_wa))
          have HM_wa := Lib.hid (hn_wa.keep (S' := Under (wa.alloc (.cells #[.string (tA s).kind, .string (tA s).text, .slice P2 m2 e2, .slice P3 m3 e3, .slice P4 m4 e4] 27)).heap.size) (fun b hb => by have := hb.2; show b < _; omega) fun b hb => hx_wa.block b hb.2)
          have hs_wa := heap_alloc_new wa (.cells #[.string (tA s).kind, .string (tA s).text, .slice P2 m2 e2, .slice P3 m3 e3, .slice P4 m4 e4] 27)
          have HG1_wa := Lib.hid ((HX_wa.out.block _ (by omega)).trans HG1_W8.out)
          have HG2_wa := Lib.hid ((HX_wa.out.block _ (by omega)).trans HG2_W8.out)
          have HNA_wa := Lib.hid ((HNA_W8.out.below HX_wa.out).more HX_wa.out.size)
          have HNB_wa := Lib.hid ((HNB_W8.out.below HX_wa.out).more HX_wa.out.size)
          have HB_wa := Lib.hid (belowNext HB_W8.out HX_wa.out)
          have HS_wa := Lib.hid hs_wa
          clear hn_wa hb_wa hx_wa hs_wa hpp_wa
          obtain ⟨p0, p1, p2, p3, p4⟩ := five_cells HS_wa.out
          obtain ⟨r0, r1, r2, r3, r4⟩ := five_cells HG1_wa.out
          go_wp2_with fail
          generalize wa.alloc (.cells #[.string (tA s).kind, .string (tA s).text, .slice P2 m2 e2, .slice P3 m3 e3, .slice P4 m4 e4] 27) = W_wa at *
          refine (nsame_any _ _ (tA s) (tA s) W_wa HM_wa.out HNA_wa.out HWA.out HWA.out).mono ?_
          rintro e was ⟨rfl, hb_was⟩
          rw [sameB_self]
          have HG1_was := Lib.hid ((hb_was.block _ (by omega)).trans HG1_wa.out)
          have HG2_was := Lib.hid ((hb_was.block _ (by omega)).trans HG2_wa.out)
          have HNA_was := Lib.hid ((HNA_wa.out.below hb_was).more hb_was.size)
          have HNB_was := Lib.hid ((HNB_wa.out.below hb_was).more hb_was.size)
          have HB_was := Lib.hid (belowNext HB_wa.out hb_was)
          have hz_was := hb_was.size
          clear hb_was p0 p1 p2 p3 p4 r0 r1 r2 r3 r4
          go_wp2_with fail
          refine (parse_any sb was (by rw [HSB.out]; have := HLB.out; omega) (HT.out.below HB_was.out)).mono ?_
          rintro e wb ⟨v_wb, rfl, hn_wb, hb_wb⟩
          have hpp_wb : parseB sb.data.toList = (tB s, 0) := by rw [HSB.out]; exact parse_print HCB0.out
          rw [hpp_wb] at hn_wb ⊢
          obtain ⟨P2, m2, e2, P3, m3, e3, P4, m4, e4, rfl⟩ := node_form hn_wb
          have hx_wb : Below wb.heap.size wb (wb.alloc (.cells #[.string (tB s).kind, .string (tB s).text, .slice P2 m2 e2, .slice P3 m3 e3, .slice P4 m4 e4] 27)) := (Below.refl _ _).alloc (Nat.le_refl _) _
          have hzx_wb : (wb.alloc (.cells #[.string (tB s).kind, .string (tB s).text, .slice P2 m2 e2, .slice P3 m3 e3, .slice P4 m4 e4] 27)).heap.size = wb.heap.size + 1 := by simp
          have hz_wb := hb_wb.size
          have HX_wb := Lib.hid (hb_wb.trans (hx_wb.mono hz_wb))
          have HM_wb := Lib.hid (hn_wb.keep (S' := Under (wb.alloc (.cells #[.string (tB s).kind, .string (tB s).text, .slice P2 m2 e2, .slice P3 m3 e3, .slice P4 m4 e4] 27)).heap.size) (fun b hb => by have := hb.2; show b < _; omega) fun b hb => hx_wb.block b hb.2)
          have hs_wb := heap_alloc_new wb (.cells #[.string (tB s).kind, .string (tB s).text, .slice P2 m2 e2, .slice P3 m3 e3, .slice P4 m4 e4] 27)
          have HG1_wb := Lib.hid ((HX_wb.out.block _ (by omega)).trans HG1_was.out)
          have HG2_wb := Lib.hid ((HX_wb.out.block _ (by omega)).trans HG2_was.out)
          have HNA_wb := Lib.hid ((HNA_was.out.below HX_wb.out).more HX_wb.out.size)
          have HNB_wb := Lib.hid ((HNB_was.out.below HX_wb.out).more HX_wb.out.size)
          have HB_wb := Lib.hid (belowNext HB_was.out HX_wb.out)
          have HS_wb := Lib.hid hs_wb
          clear hn_wb hb_wb hx_wb hs_wb hpp_wb
          obtain ⟨p0, p1, p2, p3, p4⟩ := five_cells HS_wb.out
          obtain ⟨r0, r1, r2, r3, r4⟩ := five_cells HG2_wb.out
          go_wp2_with fail
          generalize wb.alloc (.cells #[.string (tB s).kind, .string (tB s).text, .slice P2 m2 e2, .slice P3 m3 e3, .slice P4 m4 e4] 27) = W_wb at *
          refine (nsame_any _ _ (tB s) (tB s) W_wb HM_wb.out HNB_wb.out HWB.out HWB.out).mono ?_
          rintro e wbs ⟨rfl, hb_wbs⟩
          rw [sameB_self]
          have HG1_wbs := Lib.hid ((hb_wbs.block _ (by omega)).trans HG1_wb.out)
          have HG2_wbs := Lib.hid ((hb_wbs.block _ (by omega)).trans HG2_wb.out)
          have HNA_wbs := Lib.hid ((HNA_wb.out.below hb_wbs).more hb_wbs.size)
          have HNB_wbs := Lib.hid ((HNB_wb.out.below hb_wbs).more hb_wbs.size)
          have HB_wbs := Lib.hid (belowNext HB_wb.out hb_wbs)
          have hz_wbs := hb_wbs.size
          clear hb_wbs p0 p1 p2 p3 p4 r0 r1 r2 r3 r4
          go_wp2
          go_ret
          exact ⟨rfl, HB_wbs.out⟩
        | false =>
          have htx : textOk s = false := by unfold textOk; rw [hemp, hvalid]; rfl
          have HCA0 : Hid (checkB (tA s) = 0) := Lib.hid (by rw [HCA.out, if_pos hv])
          rw [if_pos (rfl : true = true)]
          have HPB : Hid (printB (tB s) = []) := Lib.hid (if_neg (by rw [HCB.out, htx]; decide))
          rw [htx, if_neg Bool.false_ne_true]
          obtain ⟨c8, obj8, hrun8, hc8, hcell8⟩ := run_runes w7 s (by omega)
          have hback8 := run_back (w7.drew.alloc obj8) w7.heap.size c8 (pts s.data.toList) hcell8
          have heq8 := back_bytes s
          rw [hvalid] at heq8
          have hx8 : Below w7.heap.size w7 (w7.drew.alloc obj8) := ((Below.refl _ _).drew).alloc (Nat.le_refl _) _
          have HX8 := Lib.hid hx8
          have HG1_W8 := Lib.hid ((hx8.block _ (by omega)).trans HG17.out)
          have HG2_W8 := Lib.hid ((hx8.block _ (by omega)).trans HG27.out)
          have HNA_W8 := Lib.hid ((HNA7.out.below hx8).more hx8.size)
          have HNB_W8 := Lib.hid ((HNB7.out.below hx8).more hx8.size)
          have HB_W8 := Lib.hid (belowNext HB7.out hx8)
          have hz8 := hx8.size
          clear hx8 hcell8 hc8 hvalid
          generalize runesBytes ((pts s.data.toList).map fun r : Nat => (r : Int)) = sr at *
          generalize (pts s.data.toList).length = np at *
          generalize hW8 : w7.drew.alloc obj8 = W8 at *
          clear hW8
          have hem : s.toList.isEmpty = false := hemp
          go_wp2_with fail
          refine (parse_any sa W8 (by rw [HSA.out]; have := HLA.out; omega) (HT.out.below HB_W8.out)).mono ?_
          rintro e wa ⟨v_wa, rfl, hn_wa, hb_wa⟩
          have hpp_wa : parseB sa.data.toList = (tA s, 0) := by rw [HSA.out]; exact parse_print HCA0.out
          rw [hpp_wa] at hn_wa ⊢
          obtain ⟨P2, m2, e2, P3, m3, e3, P4, m4, e4, rfl⟩ := node_form hn_wa
          have hx_wa : Below wa.heap.size wa (wa.alloc (.cells #[.string (tA s).kind, .string (tA s).text, .slice P2 m2 e2, .slice P3 m3 e3, .slice P4 m4 e4] 27)) := (Below.refl _ _).alloc (Nat.le_refl _) _
          have hzx_wa : (wa.alloc (.cells #[.string (tA s).kind, .string (tA s).text, .slice P2 m2 e2, .slice P3 m3 e3, .slice P4 m4 e4] 27)).heap.size = wa.heap.size + 1 := by simp
          have hz_wa := hb_wa.size
          have HX_wa := Lib.hid (hb_wa.trans (hx_wa.mono hz_wa))
          have HM_wa := Lib.hid (hn_wa.keep (S' := Under (wa.alloc (.cells #[.string (tA s).kind, .string (tA s).text, .slice P2 m2 e2, .slice P3 m3 e3, .slice P4 m4 e4] 27)).heap.size) (fun b hb => by have := hb.2; show b < _; omega) fun b hb => hx_wa.block b hb.2)
          have hs_wa := heap_alloc_new wa (.cells #[.string (tA s).kind, .string (tA s).text, .slice P2 m2 e2, .slice P3 m3 e3, .slice P4 m4 e4] 27)
          have HG1_wa := Lib.hid ((HX_wa.out.block _ (by omega)).trans HG1_W8.out)
          have HG2_wa := Lib.hid ((HX_wa.out.block _ (by omega)).trans HG2_W8.out)
          have HNA_wa := Lib.hid ((HNA_W8.out.below HX_wa.out).more HX_wa.out.size)
          have HNB_wa := Lib.hid ((HNB_W8.out.below HX_wa.out).more HX_wa.out.size)
          have HB_wa := Lib.hid (belowNext HB_W8.out HX_wa.out)
          have HS_wa := Lib.hid hs_wa
          clear hn_wa hb_wa hx_wa hs_wa hpp_wa
          obtain ⟨p0, p1, p2, p3, p4⟩ := five_cells HS_wa.out
          obtain ⟨r0, r1, r2, r3, r4⟩ := five_cells HG1_wa.out
          go_wp2_with fail
          generalize wa.alloc (.cells #[.string (tA s).kind, .string (tA s).text, .slice P2 m2 e2, .slice P3 m3 e3, .slice P4 m4 e4] 27) = W_wa at *
          refine (nsame_any _ _ (tA s) (tA s) W_wa HM_wa.out HNA_wa.out HWA.out HWA.out).mono ?_
          rintro e was ⟨rfl, hb_was⟩
          rw [sameB_self]
          have HG1_was := Lib.hid ((hb_was.block _ (by omega)).trans HG1_wa.out)
          have HG2_was := Lib.hid ((hb_was.block _ (by omega)).trans HG2_wa.out)
          have HNA_was := Lib.hid ((HNA_wa.out.below hb_was).more hb_was.size)
          have HNB_was := Lib.hid ((HNB_wa.out.below hb_was).more hb_was.size)
          have HB_was := Lib.hid (belowNext HB_wa.out hb_was)
          have hz_was := hb_was.size
          clear hb_was p0 p1 p2 p3 p4 r0 r1 r2 r3 r4
          have hsb0 : sb.toList.isEmpty = true := by rw [HSB.out, HPB.out]; decide +kernel
          go_wp2
          go_ret
          exact ⟨rfl, HB_was.out⟩
    | false =>
      cases hemp : s.toList.isEmpty with
      | true =>
        have htx : textOk s = false := by unfold textOk; rw [hemp]; rfl
        rw [if_neg Bool.false_ne_true]
        have HPB : Hid (printB (tB s) = []) := Lib.hid (if_neg (by rw [HCB.out, htx]; decide))
        rw [htx, if_neg Bool.false_ne_true]
        have HG1_w7 := HG17
        have HG2_w7 := HG27
        have HNA_w7 := HNA7
        have HNB_w7 := HNB7
        have HB_w7 := HB7
        have hem : s.toList.isEmpty = true := hemp
        have hsb0 : sb.toList.isEmpty = true := by rw [HSB.out, HPB.out]; decide +kernel
        go_wp2
        go_ret
        exact ⟨rfl, HB_w7.out⟩
      | false =>
        cases hvalid : Lib.validD s.data.toList with
        | true =>
          have htx : textOk s = true := by unfold textOk; rw [hemp, hvalid]; rfl
          rw [if_neg Bool.false_ne_true]
          have HCB0 : Hid (checkB (tB s) = 0) := Lib.hid (by rw [HCB.out, if_pos htx])
          rw [htx, if_pos rfl]
          obtain ⟨c8, obj8, hrun8, hc8, hcell8⟩ := run_runes w7 s (by omega)
          have hback8 := run_back (w7.drew.alloc obj8) w7.heap.size c8 (pts s.data.toList) hcell8
          have heq8 := back_bytes s
          rw [hvalid] at heq8
          have hx8 : Below w7.heap.size w7 (w7.drew.alloc obj8) := ((Below.refl _ _).drew).alloc (Nat.le_refl _) _
          have HX8 := Lib.hid hx8
          have HG1_W8 := Lib.hid ((hx8.block _ (by omega)).trans HG17.out)
          have HG2_W8 := Lib.hid ((hx8.block _ (by omega)).trans HG27.out)
          have HNA_W8 := Lib.hid ((HNA7.out.below hx8).more hx8.size)
          have HNB_W8 := Lib.hid ((HNB7.out.below hx8).more hx8.size)
          have HB_W8 := Lib.hid (belowNext HB7.out hx8)
          have hz8 := hx8.size
          clear hx8 hcell8 hc8 hvalid
          generalize runesBytes ((pts s.data.toList).map fun r : Nat => (r : Int)) = sr at *
          generalize (pts s.data.toList).length = np at *
          generalize hW8 : w7.drew.alloc obj8 = W8 at *
          clear hW8
          have hem : s.toList.isEmpty = false := hemp
          go_wp2_with fail
          refine (parse_any sb W8 (by rw [HSB.out]; have := HLB.out; omega) (HT.out.below HB_W8.out)).mono ?_
          rintro e wb ⟨v_wb, rfl, hn_wb, hb_wb⟩
          have hpp_wb : parseB sb.data.toList = (tB s, 0) := by rw [HSB.out]; exact parse_print HCB0.out
          rw [hpp_wb] at hn_wb ⊢
          obtain ⟨P2, m2, e2, P3, m3, e3, P4, m4, e4, rfl⟩ := node_form hn_wb
          have hx_wb : Below wb.heap.size wb (wb.alloc (.cells #[.string (tB s).kind, .string (tB s).text, .slice P2 m2 e2, .slice P3 m3 e3, .slice P4 m4 e4] 27)) := (Below.refl _ _).alloc (Nat.le_refl _) _
          have hzx_wb : (wb.alloc (.cells #[.string (tB s).kind, .string (tB s).text, .slice P2 m2 e2, .slice P3 m3 e3, .slice P4 m4 e4] 27)).heap.size = wb.heap.size + 1 := by simp
          have hz_wb := hb_wb.size
          have HX_wb := Lib.hid (hb_wb.trans (hx_wb.mono hz_wb))
          have HM_wb := Lib.hid (hn_wb.keep (S' := Under (wb.alloc (.cells #[.string (tB s).kind, .string (tB s).text, .slice P2 m2 e2, .slice P3 m3 e3, .slice P4 m4 e4] 27)).heap.size) (fun b hb => by have := hb.2; show b < _; omega) fun b hb => hx_wb.block b hb.2)
          have hs_wb := heap_alloc_new wb (.cells #[.string (tB s).kind, .string (tB s).text, .slice P2 m2 e2, .slice P3 m3 e3, .slice P4 m4 e4] 27)
          have HG1_wb := Lib.hid ((HX_wb.out.block _ (by omega)).trans HG1_W8.out)
          have HG2_wb := Lib.hid ((HX_wb.out.block _ (by omega)).trans HG2_W8.out)
          have HNA_wb := Lib.hid ((HNA_W8.out.below HX_wb.out).more HX_wb.out.size)
          have HNB_wb := Lib.hid ((HNB_W8.out.below HX_wb.out).more HX_wb.out.size)
          have HB_wb := Lib.hid (belowNext HB_W8.out HX_wb.out)
          have HS_wb := Lib.hid hs_wb
          clear hn_wb hb_wb hx_wb hs_wb hpp_wb
          obtain ⟨p0, p1, p2, p3, p4⟩ := five_cells HS_wb.out
          obtain ⟨r0, r1, r2, r3, r4⟩ := five_cells HG2_wb.out
          go_wp2_with fail
          generalize wb.alloc (.cells #[.string (tB s).kind, .string (tB s).text, .slice P2 m2 e2, .slice P3 m3 e3, .slice P4 m4 e4] 27) = W_wb at *
          refine (nsame_any _ _ (tB s) (tB s) W_wb HM_wb.out HNB_wb.out HWB.out HWB.out).mono ?_
          rintro e wbs ⟨rfl, hb_wbs⟩
          rw [sameB_self]
          have HG1_wbs := Lib.hid ((hb_wbs.block _ (by omega)).trans HG1_wb.out)
          have HG2_wbs := Lib.hid ((hb_wbs.block _ (by omega)).trans HG2_wb.out)
          have HNA_wbs := Lib.hid ((HNA_wb.out.below hb_wbs).more hb_wbs.size)
          have HNB_wbs := Lib.hid ((HNB_wb.out.below hb_wbs).more hb_wbs.size)
          have HB_wbs := Lib.hid (belowNext HB_wb.out hb_wbs)
          have hz_wbs := hb_wbs.size
          clear hb_wbs p0 p1 p2 p3 p4 r0 r1 r2 r3 r4
          go_wp2
          go_ret
          exact ⟨rfl, HB_wbs.out⟩
        | false =>
          have htx : textOk s = false := by unfold textOk; rw [hemp, hvalid]; rfl
          rw [if_neg Bool.false_ne_true]
          have HPB : Hid (printB (tB s) = []) := Lib.hid (if_neg (by rw [HCB.out, htx]; decide))
          rw [htx, if_neg Bool.false_ne_true]
          obtain ⟨c8, obj8, hrun8, hc8, hcell8⟩ := run_runes w7 s (by omega)
          have hback8 := run_back (w7.drew.alloc obj8) w7.heap.size c8 (pts s.data.toList) hcell8
          have heq8 := back_bytes s
          rw [hvalid] at heq8
          have hx8 : Below w7.heap.size w7 (w7.drew.alloc obj8) := ((Below.refl _ _).drew).alloc (Nat.le_refl _) _
          have HX8 := Lib.hid hx8
          have HG1_W8 := Lib.hid ((hx8.block _ (by omega)).trans HG17.out)
          have HG2_W8 := Lib.hid ((hx8.block _ (by omega)).trans HG27.out)
          have HNA_W8 := Lib.hid ((HNA7.out.below hx8).more hx8.size)
          have HNB_W8 := Lib.hid ((HNB7.out.below hx8).more hx8.size)
          have HB_W8 := Lib.hid (belowNext HB7.out hx8)
          have hz8 := hx8.size
          clear hx8 hcell8 hc8 hvalid
          generalize runesBytes ((pts s.data.toList).map fun r : Nat => (r : Int)) = sr at *
          generalize (pts s.data.toList).length = np at *
          generalize hW8 : w7.drew.alloc obj8 = W8 at *
          clear hW8
          have hem : s.toList.isEmpty = false := hemp
          have hsb0 : sb.toList.isEmpty = true := by rw [HSB.out, HPB.out]; decide +kernel
          go_wp2
          go_ret
          exact ⟨rfl, HB_W8.out⟩
  · have hl1 : (300 : Int) < (s.size : Int) := by omega
    have hl2 : (s.size : Int) > 300 := by omega
    go_wp2
    go_ret
    exact ⟨rfl, hb1⟩
end Go.Proofs.YtdcgffepdgldmaaDoor
