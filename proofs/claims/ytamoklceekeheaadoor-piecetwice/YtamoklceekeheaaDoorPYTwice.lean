/-
  Two texts put in at two places: whichever first, the same tree (no program is named here but for the type of tokens).
  PieceTwice walked.
  PieceTwice: whatever raw numbers are handed in, the call answers true, and they read behind it as they read before. No condition is typed; the library's two tables of utf8 are as the program's text lays them (the card ties them).
-/
import Derived.Test.YtamoklceekeheaaDoorMC
import Derived.Test.YtamoklceekeheaaDoorMD
import Derived.Test.YtamoklceekeheaaDoorLaid
import Derived.Carry
import Derived.ChangeMaps5
namespace Go.Proofs.YtamoklceekeheaaDoor
open Go.RowKit Go.Sort Go.Maps

theorem put_root {t u : Tree} {p : List Int} {A l C : List Tree} (h : goB t p = some u) : (Three.put t u p A l C).kind = t.kind ∧ (Three.put t u p A l C).text = t.text ∧ (Three.put t u p A l C).marks = t.marks ∧ (Three.put t u p A l C).attrs = t.attrs := by
  cases p with
  | nil =>
    simp only [goB, Option.some.injEq] at h; subst h
    exact ⟨rfl, rfl, rfl, rfl⟩
  | cons i p =>
    rw [goB] at h
    cases hk : kidAt t i with
    | none => rw [hk] at h; cases h
    | some v =>
      have hv := (kidAt_some hk).2.2
      unfold Three.put
      simp only [withB, hv]
      exact ⟨rfl, rfl, rfl, rfl⟩
theorem tree_ext {x y : Tree} (h1 : x.kind = y.kind) (h2 : x.text = y.text) (h3 : x.marks = y.marks) (h4 : x.attrs = y.attrs) (h5 : x.kids = y.kids) : x = y := by
  obtain ⟨k, t, m, a, l⟩ := x
  obtain ⟨k', t', m', a', l'⟩ := y
  simp only [Tree.kind, Tree.text, Tree.marks, Tree.attrs, Tree.kids] at *
  rw [h1, h2, h3, h4, h5]
theorem puts_list {α : Type} (T x y : List α) (a b n : Nat) (hab : a ≤ b) (hb : b ≤ T.length) (hx : x.length = n) :
    (T.take a ++ (x ++ T.drop a)).take (b + n) ++ (y ++ (T.take a ++ (x ++ T.drop a)).drop (b + n)) = (T.take b ++ (y ++ T.drop b)).take a ++ (x ++ (T.take b ++ (y ++ T.drop b)).drop a) := by
  obtain ⟨P, Q, R, rfl, rfl, rfl⟩ : ∃ P Q R : List α, T = P ++ (Q ++ R) ∧ a = P.length ∧ b = P.length + Q.length := by
    refine ⟨T.take a, (T.drop a).take (b - a), (T.drop a).drop (b - a), ?_, ?_, ?_⟩
    · rw [List.take_append_drop, List.take_append_drop]
    · rw [List.length_take]; omega
    · rw [List.length_take, List.length_take, List.length_drop]; omega
  have e1 : (P ++ (Q ++ R)).take P.length = P := List.take_left' rfl
  have e2 : (P ++ (Q ++ R)).drop P.length = Q ++ R := List.drop_left' rfl
  have e3 : (P ++ (Q ++ R)).take (P.length + Q.length) = P ++ Q := by rw [← List.append_assoc]; exact List.take_left' (by rw [List.length_append])
  have e4 : (P ++ (Q ++ R)).drop (P.length + Q.length) = R := by rw [← List.append_assoc]; exact List.drop_left' (by rw [List.length_append])
  rw [e1, e2, e3, e4]
  have e5 : (P ++ (x ++ (Q ++ R))).take (P.length + Q.length + n) = P ++ (x ++ Q) := by
    rw [show P ++ (x ++ (Q ++ R)) = (P ++ (x ++ Q)) ++ R by simp [List.append_assoc]]
    exact List.take_left' (by rw [List.length_append, List.length_append]; omega)
  have e6 : (P ++ (x ++ (Q ++ R))).drop (P.length + Q.length + n) = R := by
    rw [show P ++ (x ++ (Q ++ R)) = (P ++ (x ++ Q)) ++ R by simp [List.append_assoc]]
    exact List.drop_left' (by rw [List.length_append, List.length_append]; omega)
  have e7 : (P ++ Q ++ (y ++ R)).take P.length = P := by rw [List.append_assoc]; exact List.take_left' rfl
  have e8 : (P ++ Q ++ (y ++ R)).drop P.length = Q ++ (y ++ R) := by rw [List.append_assoc]; exact List.drop_left' rfl
  rw [e5, e6, e7, e8]
  simp [List.append_assoc]
theorem toks_one {t u : Tree} {p : List Int} {A C l : List Tree} {a : Nat} (h : Three t p u A [] C) (hl : rowB none l = true) (ha : a = startB t p + totalB A) :
    toksB (Three.put t u p A l C).kids = (toksB t.kids).take a ++ (toksB l ++ (toksB t.kids).drop a) := by
  have := toks_put h hl
  rw [totalB, Nat.add_zero, ← ha] at this
  exact this
/-- Whichever first. -/
theorem twice_same {t u1 u2 u3 u4 : Tree} {p1 p2 p3 p4 : List Int} {A1 C1 A2 C2 A3 C3 A4 C4 X Y : List Tree} {a b n : Nat} (hab : a ≤ b) (hb : b ≤ totalB t.kids) (hX : rowB none X = true) (hY : rowB none Y = true) (hn : totalB X = n)
    (h1 : Three t p1 u1 A1 [] C1) (e1 : a = startB t p1 + totalB A1) (h2 : Three (Three.put t u1 p1 A1 X C1) p2 u2 A2 [] C2) (e2 : b + n = startB (Three.put t u1 p1 A1 X C1) p2 + totalB A2)
    (h3 : Three t p3 u3 A3 [] C3) (e3 : b = startB t p3 + totalB A3) (h4 : Three (Three.put t u3 p3 A3 Y C3) p4 u4 A4 [] C4) (e4 : a = startB (Three.put t u3 p3 A3 Y C3) p4 + totalB A4)
    (hc1 : checkB (Three.put (Three.put t u1 p1 A1 X C1) u2 p2 A2 Y C2) = 0) (hc2 : checkB (Three.put (Three.put t u3 p3 A3 Y C3) u4 p4 A4 X C4) = 0) (hp : isTxt t.kind = false) :
    Three.put (Three.put t u1 p1 A1 X C1) u2 p2 A2 Y C2 = Three.put (Three.put t u3 p3 A3 Y C3) u4 p4 A4 X C4 := by
  have r1 := put_root (A := A1) (l := X) (C := C1) h1.go
  have r2 := put_root (A := A2) (l := Y) (C := C2) h2.go
  have r3 := put_root (A := A3) (l := Y) (C := C3) h3.go
  have r4 := put_root (A := A4) (l := X) (C := C4) h4.go
  have k1 : isTxt (Three.put (Three.put t u1 p1 A1 X C1) u2 p2 A2 Y C2).kind = false := by rw [r2.1, r1.1]; exact hp
  have k2 : isTxt (Three.put (Three.put t u3 p3 A3 Y C3) u4 p4 A4 X C4).kind = false := by rw [r4.1, r3.1]; exact hp
  refine tree_ext (by rw [r2.1, r1.1, r4.1, r3.1]) (by rw [r2.2.1, r1.2.1, r4.2.1, r3.2.1]) (by rw [r2.2.2.1, r1.2.2.1, r4.2.2.1, r3.2.2.1]) (by rw [r2.2.2.2, r1.2.2.2, r4.2.2.2, r3.2.2.2]) ?_
  refine kids_inj (kids_row k1 (checkIs hc1).1) (kids_row k2 (checkIs hc2).1) ?_
  rw [toks_one h2 hY e2, toks_one h1 hX e1, toks_one h4 hX e4, toks_one h3 hY e3]
  exact puts_list _ _ _ _ _ _ hab (by rw [toksB_len]; exact hb) (by rw [toksB_len]; exact hn)
/-- A position of a right document parts the kids of its node in two. -/
theorem two_at {t : Tree} {a : Nat} (hp : isTxt t.kind = false) (hf : formedB t = true) (ha : a ≤ totalB t.kids) : ∃ p u A C, Three t p u A [] C ∧ a = startB t p + totalB A := by
  obtain ⟨p, j, o, u, hr, hok⟩ := resolve_some hp ha
  obtain ⟨A, C, h1, h2, _⟩ := two_of hf hok hr
  exact ⟨p, u, A, C, h1, h2⟩
def oneT : Tree := .mk ⟨#[116, 101, 120, 116]⟩ ⟨#[111, 110, 101]⟩ [⟨#[122]⟩] [] []
def twoT : Tree := .mk ⟨#[116, 101, 120, 116]⟩ ⟨#[116, 119, 111]⟩ [⟨#[121]⟩] [] []
theorem oneT_row : rowB none [oneT] = true ∧ totalB [oneT] = 3 ∧ weighAll [oneT] ≤ 100 ∧ deepB [oneT] = 0 := by decide +kernel
theorem twoT_row : rowB none [twoT] = true ∧ totalB [twoT] = 3 ∧ weighAll [twoT] ≤ 100 ∧ deepB [twoT] = 0 := by decide +kernel
/-- All of it: the trees, where each is put in, and that both ways lead to one. -/
theorem twos_of {t : Tree} {a b : Nat} (hp : isTxt t.kind = false) (hc : checkB t = 0) (hab : a ≤ b) (hb : b ≤ totalB t.kids) (hd : depthB t ≤ 40) (hs : sizeB t ≤ 3000) (hw : weigh t ≤ 800) :
    ∃ p1 u1 A1 C1 p2 u2 A2 C2 p3 u3 A3 C3 p4 u4 A4 C4 q r s, Three t p1 u1 A1 [] C1 ∧ a = startB t p1 + totalB A1 ∧ Three.put t u1 p1 A1 [oneT] C1 = q ∧ checkB q = 0 ∧ weigh q ≤ 3000 ∧
      Three q p2 u2 A2 [] C2 ∧ b + 3 = startB q p2 + totalB A2 ∧ Three.put q u2 p2 A2 [twoT] C2 = s ∧ checkB s = 0 ∧ weigh s ≤ 10000 ∧
      Three t p3 u3 A3 [] C3 ∧ b = startB t p3 + totalB A3 ∧ Three.put t u3 p3 A3 [twoT] C3 = r ∧ checkB r = 0 ∧ weigh r ≤ 3000 ∧
      Three r p4 u4 A4 [] C4 ∧ a = startB r p4 + totalB A4 ∧ Three.put r u4 p4 A4 [oneT] C4 = s := by
  obtain ⟨x1, x2, x3, x4⟩ := oneT_row
  obtain ⟨y1, y2, y3, y4⟩ := twoT_row
  have hf := (checkIs hc).1
  obtain ⟨p1, u1, A1, C1, h1, e1⟩ := two_at hp hf (Nat.le_trans hab hb)
  obtain ⟨c1, k1, d1, s1, w1, _⟩ := h1.right x1 hc (by omega) (by omega)
  rw [totalB] at s1
  have z1 := sizeB_node k1
  have z0 := sizeB_node hp
  obtain ⟨p2, u2, A2, C2, h2, e2⟩ := two_at (a := b + 3) k1 (checkIs c1).1 (by omega)
  obtain ⟨c2, k2, d2, s2, w2, _⟩ := h2.right y1 c1 (by omega) (by omega)
  obtain ⟨p3, u3, A3, C3, h3, e3⟩ := two_at hp hf hb
  obtain ⟨c3, k3, d3, s3, w3, _⟩ := h3.right y1 hc (by omega) (by omega)
  rw [totalB] at s3
  have z3 := sizeB_node k3
  obtain ⟨p4, u4, A4, C4, h4, e4⟩ := two_at (a := a) k3 (checkIs c3).1 (by omega)
  obtain ⟨c4, k4, d4, s4, w4, _⟩ := h4.right x1 c3 (by omega) (by omega)
  have hsame := twice_same hab hb x1 y1 x2 h1 e1 h2 e2 h3 e3 h4 e4 c2 c4 hp
  exact ⟨p1, u1, A1, C1, p2, u2, A2, C2, p3, u3, A3, C3, p4, u4, A4, C4, _, _, _, h1, e1, rfl, c1, by omega, h2, e2, rfl, c2, by omega, h3, e3, rfl, c3, by omega, h4, e4, hsame.symm⟩
end Go.Proofs.YtamoklceekeheaaDoor

namespace Go.Proofs.YtamoklceekeheaaDoor
open Go.RowKit Go.Sort Go.Maps

theorem strs_row1 {w : World} {S : Nat → Prop} {g : Nat} {s : ByteArray} (h : w.cell? ⟨g, 0, none⟩ = some (.string s)) (hS : S g) : Strs w S (.slice (some ⟨g, 0, none⟩) 1 1) [s] := by
  refine ⟨_, 1, rfl, Nat.le_refl _, by unfold maxLen; omega, .inr ⟨g, 0, rfl, hS, fun i t hi => ?_⟩⟩
  cases i with
  | zero => simp at hi; subst hi; simpa using h
  | succ i => simp at hi
set_option maxHeartbeats 20000000 in
set_option maxRecDepth 100000 in
theorem pieceTwice_walk (v : Value) (l : List Cel) (c1 c2 : Int) (w : World) (h : Cels w (Under w.heap.size) v l) (b1 : -9223372036854775808 ≤ c1) (b2 : c1 ≤ 9223372036854775807) (b3 : -9223372036854775808 ≤ c2) (b4 : c2 ≤ 9223372036854775807) (hT : Tabs w) :
    Calls Tryd.prog 7 #[v, .int .i64 c1, .int .i64 c2] w fun e w' => e = .returned (.bool true) ∧ Below w.heap.size w w' := by
  have HC := Lib.hid h
  have HT := Lib.hid hT
  clear h hT
  go_enter Tryd.func7, Tryd.ntmps7
  go_wp2_with fail
  refine (shown5_any _ HT.out).mono ?_
  rintro e w1 ⟨rfl, hb1⟩
  have HB1 := Lib.hid hb1
  clear hb1
  go_wp2_with fail
  refine (doc_any _ l w1 ((HC.out.below HB1.out).more HB1.out.size)).mono ?_
  rintro e w2 ⟨A0, c0, rfl, hk2, hb2⟩
  have HB2 := Lib.hid (belowNext HB1.out hb2)
  have hdw := docB_weigh l
  have hmw := madeB_weigh l
  have htw := total_le_weigh (madeB l)
  have hsz := size_le_weigh (docB l)
  have HDR := Lib.hid (docB_right l)
  have HDP := Lib.hid (docB_depth l)
  have HK2 := Lib.hid (hk2.keep (S' := Under w2.heap.size) (fun _ h => h.2) (fun _ _ => rfl))
  obtain ⟨ha3, hd3, hl3⟩ := new_box w2 (.cells (docCells A0 (madeB l).length c0) 28)
  have HA3 := Lib.hid ha3
  have HX3 := Lib.hid hd3
  have HL3 := Lib.hid hl3
  clear hk2 hb2 ha3 hd3 hl3
  go_upto_region 5 with fail
  generalize w2.alloc (.cells (docCells A0 (madeB l).length c0) 28) = w3 at *
  have HB3 := Lib.hid (belowNext HB2.out HA3.out)
  have HND : Hid (∀ W, Below w3.heap.size w3 W → Node W (Under W.heap.size) (.agg (docCells A0 (madeB l).length c0)) (docB l)) := Lib.hid fun W hW => doc_node ((HK2.out.below (belowNext HA3.out hW)).more (belowNext HA3.out hW).size)
  generalize w2.heap.size = g0 at *
  have HXD : Hid (∀ W, Below w3.heap.size w3 W → W.heap[g0]? = some (.cells (docCells A0 (madeB l).length c0) 28)) := Lib.hid fun W hW => (hW.block _ HL3.out).trans HX3.out
  have HTW : Hid (∀ W, Below w3.heap.size w3 W → Tabs W) := Lib.hid fun W hW => HT.out.under (belowNext HB3.out hW)
  have HEN : Hid (∀ W, Below w3.heap.size w3 W → Below w.heap.size w W) := Lib.hid fun W hW => belowNext HB3.out hW
  have HAn : Hid (Below w3.heap.size w3 w3) := Lib.hid (Below.refl _ _)
  clear HK2 HB1 HB2 HA3 HX3 HL3
  have htw2 : totalB (madeB l) ≤ 760 := by omega
  have hp1 := pickN_lo c1 ((totalB (madeB l) : Int) + 1) (by omega)
  have hp2 := pickN_hi c1 ((totalB (madeB l) : Int) + 1) (by omega)
  have hp3 := pickN_lo c2 ((totalB (madeB l) : Int) + 1) (by omega)
  have hp4 := pickN_hi c2 ((totalB (madeB l) : Int) + 1) (by omega)
  obtain ⟨a, ha⟩ : ∃ n : Nat, pickN c1 ((totalB (madeB l) : Int) + 1) = (n : Int) := ⟨(pickN c1 ((totalB (madeB l) : Int) + 1)).toNat, by omega⟩
  obtain ⟨b, hb⟩ : ∃ n : Nat, pickN c2 ((totalB (madeB l) : Int) + 1) = (n : Int) := ⟨(pickN c2 ((totalB (madeB l) : Int) + 1)).toNat, by omega⟩
  have HPA := Lib.hid ha
  have HPB := Lib.hid hb
  have HAT : Hid (a ≤ totalB (madeB l) ∧ b ≤ totalB (madeB l)) := Lib.hid (by omega)
  have hab1 : a ≤ 760 ∧ b ≤ 760 := by omega
  have HPN : Hid ((0 : Int) < (totalB (madeB l) : Int) + 1 ∧ (totalB (madeB l) : Int) + 1 ≤ 1000000) := Lib.hid ⟨by omega, by omega⟩
  have HTOT : Hid (∀ W, Below w3.heap.size w3 W → Calls Tryd.prog 15 #[.slice A0 (madeB l).length c0] W fun e w' => e = .returned (.int .i64 (totalB (madeB l))) ∧ Below W.heap.size W w') := Lib.hid fun W hW => total_any _ (madeB l) W ((HND.out W hW).kidsOf) (by omega)
  clear hp1 hp2 hp3 hp4 ha hb htw
  obtain ⟨T, hTT⟩ : ∃ T, totalB (madeB l) = T := ⟨_, rfl⟩
  rw [hTT] at HPA HPB HPN HTOT HAT htw2
  have HTT := Lib.hid hTT
  clear hTT
  obtain ⟨x0, x1, x2, x3, x4⟩ := cells5 (HXD.out w3 HAn.out)
  go_wp2_with fail
  refine (HTOT.out _ HAn.out).mono ?_
  rintro e w4 ⟨rfl, hb⟩
  have HAn := Lib.hid (belowNext HAn.out hb)
  clear hb
  clear x0 x1 x2 x3 x4
  go_wp2_with fail
  refine (pick_any c1 ((T : Int) + 1) w4 HPN.out.1 HPN.out.2 b1 b2).mono ?_
  rintro e wz ⟨rfl, rfl⟩
  rw [HPA.out]
  obtain ⟨x0, x1, x2, x3, x4⟩ := cells5 (HXD.out w4 HAn.out)
  go_wp2_with fail
  refine (HTOT.out _ HAn.out).mono ?_
  rintro e w5 ⟨rfl, hb⟩
  have HAn := Lib.hid (belowNext HAn.out hb)
  clear hb
  clear x0 x1 x2 x3 x4
  go_wp2_with fail
  refine (pick_any c2 ((T : Int) + 1) w5 HPN.out.1 HPN.out.2 b3 b4).mono ?_
  rintro e wz ⟨rfl, rfl⟩
  rw [HPB.out]
  by_cases hge : b ≤ a
  · have hge' : (b : Int) ≤ (a : Int) := by omega
    have HENQ := Lib.hid (HEN.out _ HAn.out)
    go_wp2
    go_ret
    exact ⟨rfl, HENQ.out⟩
  have hlt : a < b := by omega
  have hlt' : ¬ (b : Int) ≤ (a : Int) := by omega
  generalize hW : ((((w5.alloc (.cells #[.string ⟨#[122]⟩] 9)).alloc (.cells #[.string ⟨#[116, 101, 120, 116]⟩, .string ⟨#[111, 110, 101]⟩, .slice (some ⟨w5.heap.size, 0, none⟩) 1 1, .slice none 0 0, .slice none 0 0] 28)).alloc (.cells #[.string ⟨#[121]⟩] 9)).alloc (.cells #[.string ⟨#[116, 101, 120, 116]⟩, .string ⟨#[116, 119, 111]⟩, .slice (some ⟨w5.heap.size + 1 + 1, 0, none⟩) 1 1, .slice none 0 0, .slice none 0 0] 28)) = w6
  have hz : w6.heap.size = w5.heap.size + 4 := by subst hW; simp
  have hbb : Below w5.heap.size w5 w6 := by subst hW; exact ((((Below.refl _ _).alloc (Nat.le_refl _) _).alloc (by simp) _).alloc (by simp; omega) _).alloc (by simp; omega) _
  have q1 : w6.heap[w5.heap.size]? = some (.cells #[.string ⟨#[122]⟩] 9) := by subst hW; exact heap_old _ _ _ (heap_old _ _ _ (heap_old _ _ _ (heap_new _ _)))
  have q2 : w6.heap[w5.heap.size + 1]? = some (.cells #[.string ⟨#[116, 101, 120, 116]⟩, .string ⟨#[111, 110, 101]⟩, .slice (some ⟨w5.heap.size, 0, none⟩) 1 1, .slice none 0 0, .slice none 0 0] 28) := by subst hW; exact heap_old _ _ _ (heap_old _ _ _ (heap_new' _ _ (by simp)))
  have q3 : w6.heap[w5.heap.size + 1 + 1]? = some (.cells #[.string ⟨#[121]⟩] 9) := by subst hW; exact heap_old _ _ _ (heap_new' _ _ (by simp))
  have q4 : w6.heap[w5.heap.size + 1 + 1 + 1]? = some (.cells #[.string ⟨#[116, 101, 120, 116]⟩, .string ⟨#[116, 119, 111]⟩, .slice (some ⟨w5.heap.size + 1 + 1, 0, none⟩) 1 1, .slice none 0 0, .slice none 0 0] 28) := by subst hW; exact heap_new' _ _ (by simp)
  have HK1 : Hid (Kids w6 (Under w6.heap.size) (.slice (some ⟨w5.heap.size + 1, 0, none⟩) 1 1) [oneT]) := Lib.hid (by
    obtain ⟨y0, y1, y2, y3, y4⟩ := cells5 q2
    exact kids_row1 y0 y1 y2 y3 y4 (strs_row1 (by simp [World.cell?, q1]) (by unfold Under; omega)) pairs_none kids_none (by unfold Under; omega))
  have HK2 : Hid (Kids w6 (Under w6.heap.size) (.slice (some ⟨w5.heap.size + 1 + 1 + 1, 0, none⟩) 1 1) [twoT]) := Lib.hid (by
    obtain ⟨y0, y1, y2, y3, y4⟩ := cells5 q4
    exact kids_row1 y0 y1 y2 y3 y4 (strs_row1 (by simp [World.cell?, q3]) (by unfold Under; omega)) pairs_none kids_none (by unfold Under; omega))
  have HAn := Lib.hid (belowNext HAn.out hbb)
  have HKi : Hid (∀ W, Below w6.heap.size w6 W → Kids W (Under W.heap.size) (.slice (some ⟨w5.heap.size + 1, 0, none⟩) 1 1) [oneT]) := Lib.hid fun W hW => (HK1.out.below hW).more hW.size
  have HKj : Hid (∀ W, Below w6.heap.size w6 W → Kids W (Under W.heap.size) (.slice (some ⟨w5.heap.size + 1 + 1 + 1, 0, none⟩) 1 1) [twoT]) := Lib.hid fun W hW => (HK2.out.below hW).more hW.size
  have HAi : Hid (Below w6.heap.size w6 w6) := Lib.hid (Below.refl _ _)
  have HAj : Hid (Below w6.heap.size w6 w6) := Lib.hid (Below.refl _ _)
  have HW := Lib.hid hW
  clear hz hbb q1 q2 q3 q4 HK1 HK2 hW
  go_upto_region 11 with fail
  rw [HW.out]
  clear HW
  generalize w5.heap.size = gz at *
  obtain ⟨p1, u1, A1, C1, p2, u2, A2, C2, p3, u3, A3, C3, p4, u4, A4, C4, q, r, s, h1, e1, f1, k1, m1, h2, e2, f2, k2, m2, h3, e3, f3, k3, m3, h4, e4, f4⟩ := twos_of (docB_plain l) HDR.out (Nat.le_of_lt hlt) (by have := HAT.out; have := HTT.out; rw [docB_kids]; omega) (by have := HDP.out; omega) (by omega) hdw
  have H31 := Lib.hid h1
  have HE1 := Lib.hid e1
  have HF1 := Lib.hid f1
  have H32 := Lib.hid h2
  have HE2 := Lib.hid e2
  have HF2 := Lib.hid f2
  have H33 := Lib.hid h3
  have HE3 := Lib.hid e3
  have HF3 := Lib.hid f3
  have H34 := Lib.hid h4
  have HE4 := Lib.hid e4
  have HF4 := Lib.hid f4
  have HG1 := Lib.hid k1
  have HM1 := Lib.hid m1
  have HG2 := Lib.hid k2
  have HM2 := Lib.hid m2
  have HG3 := Lib.hid k3
  have HM3 := Lib.hid m3
  have HS1 : Hid ((b : Int) + 3 = ((b + 3 : Nat) : Int)) := Lib.hid (by omega)
  have HWT : Hid (weigh (docB l) ≤ 100000) := Lib.hid (by omega)
  clear h1 e1 f1 k1 m1 h2 e2 f2 k2 m2 h3 e3 f3 k3 m3 h4 e4 f4 hdw hmw hsz
  obtain ⟨x0, x1, x2, x3, x4⟩ := cells5 (HXD.out w6 HAn.out)
  go_wp2_with fail
  refine (put_as _ _ w6 (HND.out _ HAn.out) HWT.out (HTW.out _ HAn.out) (HKi.out _ HAi.out) (by have := oneT_row.2.2.1; omega) HDR.out oneT_row.1 H31.out HG1.out HE1.out (by have := HE1.out; simp only [totalB]; omega) HF1.out).mono ?_
  rintro e w7 ⟨qq1, qqn1, qqc1, qq2, qqn2, qqc2, qq3, qqc3, rfl, hn, hb⟩
  obtain ⟨ha, hx, hl⟩ := new_box w7 (.cells #[.string q.kind, .string q.text, .slice qq1 qqn1 qqc1, .slice qq2 qqn2 qqc2, .slice qq3 q.kids.length qqc3] 28)
  have hbb := belowNext hb ha
  have HAn := Lib.hid (belowNext HAn.out hbb)
  have HAi := Lib.hid (belowNext HAi.out hbb)
  have HAj := Lib.hid (belowNext HAj.out hbb)
  have HXqq := Lib.hid hx
  have HLqq := Lib.hid hl
  have HNqq : Hid (Node (w7.alloc (.cells #[.string q.kind, .string q.text, .slice qq1 qqn1 qqc1, .slice qq2 qqn2 qqc2, .slice qq3 q.kids.length qqc3] 28)) (Under (w7.alloc (.cells #[.string q.kind, .string q.text, .slice qq1 qqn1 qqc1, .slice qq2 qqn2 qqc2, .slice qq3 q.kids.length qqc3] 28)).heap.size) (.agg #[.string q.kind, .string q.text, .slice qq1 qqn1 qqc1, .slice qq2 qqn2 qqc2, .slice qq3 q.kids.length qqc3]) q) := Lib.hid (hn.keep (fun b hb => Nat.lt_of_lt_of_le hb.2 ha.size) (fun b hb => ha.block b hb.2))
  clear hn hb ha hx hl hbb
  clear x0 x1 x2 x3 x4
  go_upto_region 12 with fail
  generalize w7.alloc (.cells #[.string q.kind, .string q.text, .slice qq1 qqn1 qqc1, .slice qq2 qqn2 qqc2, .slice qq3 q.kids.length qqc3] 28) = w8 at *
  generalize w7.heap.size = gqq at *
  have HNWqq : Hid (∀ W, Below w8.heap.size w8 W → Node W (Under W.heap.size) (.agg #[.string q.kind, .string q.text, .slice qq1 qqn1 qqc1, .slice qq2 qqn2 qqc2, .slice qq3 q.kids.length qqc3]) q) := Lib.hid fun W hW => (HNqq.out.below hW).more hW.size
  have HXWqq : Hid (∀ W, Below w8.heap.size w8 W → W.heap[gqq]? = some (.cells #[.string q.kind, .string q.text, .slice qq1 qqn1 qqc1, .slice qq2 qqn2 qqc2, .slice qq3 q.kids.length qqc3] 28)) := Lib.hid fun W hW => (hW.block _ HLqq.out).trans HXqq.out
  have HAqq : Hid (Below w8.heap.size w8 w8) := Lib.hid (Below.refl _ _)
  clear HNqq HXqq HLqq
  obtain ⟨x0, x1, x2, x3, x4⟩ := cells5 (HXWqq.out w8 HAqq.out)
  go_wp2_with fail
  rw [HS1.out]
  refine (put_as _ _ w8 (HNWqq.out _ HAqq.out) (by have := HM1.out; omega) (HTW.out _ HAn.out) (HKj.out _ HAj.out) (by have := twoT_row.2.2.1; omega) HG1.out twoT_row.1 H32.out HG2.out HE2.out (by have := HE2.out; simp only [totalB]; omega) HF2.out).mono ?_
  rintro e w9 ⟨ss1, ssn1, ssc1, ss2, ssn2, ssc2, ss3, ssc3, rfl, hn, hb⟩
  obtain ⟨ha, hx, hl⟩ := new_box w9 (.cells #[.string s.kind, .string s.text, .slice ss1 ssn1 ssc1, .slice ss2 ssn2 ssc2, .slice ss3 s.kids.length ssc3] 28)
  have hbb := belowNext hb ha
  have HAn := Lib.hid (belowNext HAn.out hbb)
  have HAi := Lib.hid (belowNext HAi.out hbb)
  have HAj := Lib.hid (belowNext HAj.out hbb)
  have HAqq := Lib.hid (belowNext HAqq.out hbb)
  have HXss := Lib.hid hx
  have HLss := Lib.hid hl
  have HNss : Hid (Node (w9.alloc (.cells #[.string s.kind, .string s.text, .slice ss1 ssn1 ssc1, .slice ss2 ssn2 ssc2, .slice ss3 s.kids.length ssc3] 28)) (Under (w9.alloc (.cells #[.string s.kind, .string s.text, .slice ss1 ssn1 ssc1, .slice ss2 ssn2 ssc2, .slice ss3 s.kids.length ssc3] 28)).heap.size) (.agg #[.string s.kind, .string s.text, .slice ss1 ssn1 ssc1, .slice ss2 ssn2 ssc2, .slice ss3 s.kids.length ssc3]) s) := Lib.hid (hn.keep (fun b hb => Nat.lt_of_lt_of_le hb.2 ha.size) (fun b hb => ha.block b hb.2))
  clear hn hb ha hx hl hbb
  clear x0 x1 x2 x3 x4
  go_upto_region 13 with fail
  generalize w9.alloc (.cells #[.string s.kind, .string s.text, .slice ss1 ssn1 ssc1, .slice ss2 ssn2 ssc2, .slice ss3 s.kids.length ssc3] 28) = w10 at *
  generalize w9.heap.size = gss at *
  have HNWss : Hid (∀ W, Below w10.heap.size w10 W → Node W (Under W.heap.size) (.agg #[.string s.kind, .string s.text, .slice ss1 ssn1 ssc1, .slice ss2 ssn2 ssc2, .slice ss3 s.kids.length ssc3]) s) := Lib.hid fun W hW => (HNss.out.below hW).more hW.size
  have HXWss : Hid (∀ W, Below w10.heap.size w10 W → W.heap[gss]? = some (.cells #[.string s.kind, .string s.text, .slice ss1 ssn1 ssc1, .slice ss2 ssn2 ssc2, .slice ss3 s.kids.length ssc3] 28)) := Lib.hid fun W hW => (hW.block _ HLss.out).trans HXss.out
  have HAss : Hid (Below w10.heap.size w10 w10) := Lib.hid (Below.refl _ _)
  clear HNss HXss HLss
  obtain ⟨x0, x1, x2, x3, x4⟩ := cells5 (HXD.out w10 HAn.out)
  go_wp2_with fail
  refine (put_as _ _ w10 (HND.out _ HAn.out) HWT.out (HTW.out _ HAn.out) (HKj.out _ HAj.out) (by have := twoT_row.2.2.1; omega) HDR.out twoT_row.1 H33.out HG3.out HE3.out (by have := HE3.out; simp only [totalB]; omega) HF3.out).mono ?_
  rintro e w11 ⟨rr1, rrn1, rrc1, rr2, rrn2, rrc2, rr3, rrc3, rfl, hn, hb⟩
  obtain ⟨ha, hx, hl⟩ := new_box w11 (.cells #[.string r.kind, .string r.text, .slice rr1 rrn1 rrc1, .slice rr2 rrn2 rrc2, .slice rr3 r.kids.length rrc3] 28)
  have hbb := belowNext hb ha
  have HAn := Lib.hid (belowNext HAn.out hbb)
  have HAi := Lib.hid (belowNext HAi.out hbb)
  have HAj := Lib.hid (belowNext HAj.out hbb)
  have HAqq := Lib.hid (belowNext HAqq.out hbb)
  have HAss := Lib.hid (belowNext HAss.out hbb)
  have HXrr := Lib.hid hx
  have HLrr := Lib.hid hl
  have HNrr : Hid (Node (w11.alloc (.cells #[.string r.kind, .string r.text, .slice rr1 rrn1 rrc1, .slice rr2 rrn2 rrc2, .slice rr3 r.kids.length rrc3] 28)) (Under (w11.alloc (.cells #[.string r.kind, .string r.text, .slice rr1 rrn1 rrc1, .slice rr2 rrn2 rrc2, .slice rr3 r.kids.length rrc3] 28)).heap.size) (.agg #[.string r.kind, .string r.text, .slice rr1 rrn1 rrc1, .slice rr2 rrn2 rrc2, .slice rr3 r.kids.length rrc3]) r) := Lib.hid (hn.keep (fun b hb => Nat.lt_of_lt_of_le hb.2 ha.size) (fun b hb => ha.block b hb.2))
  clear hn hb ha hx hl hbb
  clear x0 x1 x2 x3 x4
  go_upto_region 14 with fail
  generalize w11.alloc (.cells #[.string r.kind, .string r.text, .slice rr1 rrn1 rrc1, .slice rr2 rrn2 rrc2, .slice rr3 r.kids.length rrc3] 28) = w12 at *
  generalize w11.heap.size = grr at *
  have HNWrr : Hid (∀ W, Below w12.heap.size w12 W → Node W (Under W.heap.size) (.agg #[.string r.kind, .string r.text, .slice rr1 rrn1 rrc1, .slice rr2 rrn2 rrc2, .slice rr3 r.kids.length rrc3]) r) := Lib.hid fun W hW => (HNrr.out.below hW).more hW.size
  have HXWrr : Hid (∀ W, Below w12.heap.size w12 W → W.heap[grr]? = some (.cells #[.string r.kind, .string r.text, .slice rr1 rrn1 rrc1, .slice rr2 rrn2 rrc2, .slice rr3 r.kids.length rrc3] 28)) := Lib.hid fun W hW => (hW.block _ HLrr.out).trans HXrr.out
  have HArr : Hid (Below w12.heap.size w12 w12) := Lib.hid (Below.refl _ _)
  clear HNrr HXrr HLrr
  obtain ⟨x0, x1, x2, x3, x4⟩ := cells5 (HXWrr.out w12 HArr.out)
  go_wp2_with fail
  refine (put_as _ _ w12 (HNWrr.out _ HArr.out) (by have := HM3.out; omega) (HTW.out _ HAn.out) (HKi.out _ HAi.out) (by have := oneT_row.2.2.1; omega) HG3.out oneT_row.1 H34.out HG2.out HE4.out (by have := HE4.out; simp only [totalB]; omega) HF4.out).mono ?_
  rintro e w13 ⟨tt1, ttn1, ttc1, tt2, ttn2, ttc2, tt3, ttc3, rfl, hn, hb⟩
  obtain ⟨ha, hx, hl⟩ := new_box w13 (.cells #[.string s.kind, .string s.text, .slice tt1 ttn1 ttc1, .slice tt2 ttn2 ttc2, .slice tt3 s.kids.length ttc3] 28)
  have hbb := belowNext hb ha
  have HAn := Lib.hid (belowNext HAn.out hbb)
  have HAi := Lib.hid (belowNext HAi.out hbb)
  have HAj := Lib.hid (belowNext HAj.out hbb)
  have HAqq := Lib.hid (belowNext HAqq.out hbb)
  have HAss := Lib.hid (belowNext HAss.out hbb)
  have HArr := Lib.hid (belowNext HArr.out hbb)
  have HXtt := Lib.hid hx
  have HLtt := Lib.hid hl
  have HNtt : Hid (Node (w13.alloc (.cells #[.string s.kind, .string s.text, .slice tt1 ttn1 ttc1, .slice tt2 ttn2 ttc2, .slice tt3 s.kids.length ttc3] 28)) (Under (w13.alloc (.cells #[.string s.kind, .string s.text, .slice tt1 ttn1 ttc1, .slice tt2 ttn2 ttc2, .slice tt3 s.kids.length ttc3] 28)).heap.size) (.agg #[.string s.kind, .string s.text, .slice tt1 ttn1 ttc1, .slice tt2 ttn2 ttc2, .slice tt3 s.kids.length ttc3]) s) := Lib.hid (hn.keep (fun b hb => Nat.lt_of_lt_of_le hb.2 ha.size) (fun b hb => ha.block b hb.2))
  clear hn hb ha hx hl hbb
  clear x0 x1 x2 x3 x4
  go_upto_region 15 with fail
  generalize w13.alloc (.cells #[.string s.kind, .string s.text, .slice tt1 ttn1 ttc1, .slice tt2 ttn2 ttc2, .slice tt3 s.kids.length ttc3] 28) = w14 at *
  generalize w13.heap.size = gtt at *
  have HNWtt : Hid (∀ W, Below w14.heap.size w14 W → Node W (Under W.heap.size) (.agg #[.string s.kind, .string s.text, .slice tt1 ttn1 ttc1, .slice tt2 ttn2 ttc2, .slice tt3 s.kids.length ttc3]) s) := Lib.hid fun W hW => (HNtt.out.below hW).more hW.size
  have HXWtt : Hid (∀ W, Below w14.heap.size w14 W → W.heap[gtt]? = some (.cells #[.string s.kind, .string s.text, .slice tt1 ttn1 ttc1, .slice tt2 ttn2 ttc2, .slice tt3 s.kids.length ttc3] 28)) := Lib.hid fun W hW => (hW.block _ HLtt.out).trans HXtt.out
  have HAtt : Hid (Below w14.heap.size w14 w14) := Lib.hid (Below.refl _ _)
  clear HNtt HXtt HLtt
  obtain ⟨x0, x1, x2, x3, x4⟩ := cells5 (HXWss.out w14 HAss.out)
  obtain ⟨y0, y1, y2, y3, y4⟩ := cells5 (HXWtt.out w14 HAtt.out)
  go_wp2_with fail
  refine (nsame_any _ _ s s w14 (HNWss.out _ HAss.out) (HNWtt.out _ HAtt.out) (by have := HM2.out; omega) (by have := HM2.out; omega)).mono ?_
  rintro e wf ⟨he, hb⟩
  rw [sameB_self] at he
  subst he
  have HAn := Lib.hid (belowNext HAn.out hb)
  have HAi := Lib.hid (belowNext HAi.out hb)
  have HAj := Lib.hid (belowNext HAj.out hb)
  have HAqq := Lib.hid (belowNext HAqq.out hb)
  have HAss := Lib.hid (belowNext HAss.out hb)
  have HArr := Lib.hid (belowNext HArr.out hb)
  have HAtt := Lib.hid (belowNext HAtt.out hb)
  have HENQ := Lib.hid (HEN.out _ HAn.out)
  clear hb
  clear x0 x1 x2 x3 x4
  clear y0 y1 y2 y3 y4
  go_wp2
  go_ret
  exact ⟨rfl, HENQ.out⟩
end Go.Proofs.YtamoklceekeheaaDoor

namespace Go.Proofs.YtamoklceekeheaaDoor
open Go.ChangeShapes Go.WideShapes Go.ChangeAt Go.RowKit Go.Lib Go.ChangeMaps

set_option maxRecDepth 100000 in
theorem pieceTwice_laid (os : Os) (args : Array Value) : laidMet Tryd.prog Rows.pieceTwiceRow.laid ((laidWorld os).forCall (fun _ _ => 0) ⟨#[], args, []⟩).memory :=
  (LaidIn.of_run (l := [("unicode/utf8.acceptRanges", Lib.acceptData), ("unicode/utf8.first", Lib.firstData)]) [1, 0] 8 (by kernel_rfl) (by kernel_rfl) (by kernel_rfl) (by kernel_rfl)).met

set_option maxRecDepth 100000 in
theorem pieceTwice_contract (H : Type) (enc : TypeId × Value → H) (W : World) (base : Nat) (args : Array Value) (ds gs : List (DataW H)) (before : List MemPlace)
    (hval : ∀ (j : Nat) t v, Tryd.f7.params[j]? = some t → args[j]? = some v → Value.okWide Tryd.prog W .any base t v)
    (hW : DataW.Whole enc Tryd.prog Tryd.f7.params.toList Rows.pieceTwiceSpec.vars false W args.toList ds gs before) (hL : Tabs W) :
    Calls Tryd.prog 7 args W fun e W' => ∃ v, e = .returned v ∧ Rows.pieceTwiceSpec.post enc Tryd.prog Tryd.f7 false true false false W args v W' := by
  have hW' := hW
  have hlt : ∀ p ∈ before, p.block < W.heap.size := fun p hp => hW.lt p hp
  obtain ⟨p, q, hA0, hV, rfl, hfz, hnd⟩ := hW
  have hA : DataW.TrodAll enc Tryd.prog W 0 (fun _ => true) true Tryd.f7.params.toList args.toList ds p := hA0
  rw [Tryd.params7] at hA hval
  obtain ⟨v0, v1, v2, d0, d1, d2, p0, p1, p2, hargs, rfl, rfl, h0, h1, h2⟩ := trodAll_three hA
  obtain rfl : args = #[v0, v1, v2] := by cases args; simp_all
  obtain ⟨rfl, rfl⟩ := trodVars_none hV
  obtain ⟨A0, len0, cap0, rfl⟩ := okWide_slice Tryd.underlying22 (hval 0 22 v0 rfl rfl)
  obtain ⟨n1, rfl, rfl, rfl, ww1⟩ := open_int Tryd.underlying3 (hval 1 3 v1 rfl rfl) h1
  obtain ⟨lo1, hi1⟩ := bounds_i64 ww1
  obtain ⟨n2, rfl, rfl, rfl, ww2⟩ := open_int Tryd.underlying3 (hval 2 3 v2 rfl rfl) h2
  obtain ⟨lo2, hi2⟩ := bounds_i64 ww2
  have h0' := h0
  obtain ⟨fuel0, hf0⟩ := h0
  obtain ⟨l0, hl0⟩ := cels_of (by simpa [Value.cells] using hf0)
  refine (pieceTwice_walk _ l0 n1 n2 W hl0 lo1 hi1 lo2 hi2 hL).mono fun e W' ⟨he, hb⟩ => ?_
  subst he
  have e1 : Rows.pieceTwiceSpec.fn H ([d0, .lit (.int .i64 n1), .lit (.int .i64 n2)] ++ []) = { results := [.lit (.bool true)], args := [d0, .lit (.int .i64 n1), .lit (.int .i64 n2)] } := rfl
  refine ⟨_, rfl, _, _, _, [], p0, [], hW', ?_, ?_, ?_, hb.frame _, fun h => by cases h⟩
  · rw [e1]; exact trodAll_mk1 (shut_bool Tryd.underlying4 _)
  · rw [e1]
    have t2 := trodAll_mk3 (Below.trod laidOut (by kernel_rfl) (of_decide_eq_true (by kernel_rfl)) h0' hb (fun x hx => hlt x (by simp [hx]))) (shut_int Tryd.underlying3 ww1) (shut_int Tryd.underlying3 ww2)
    simp only [List.append_nil] at t2
    exact t2
  · rw [e1]; rfl

theorem pieceTwice_reads (os : Os) {H : Type} (enc : TypeId × Value → H) : ∃ places, DataW.whole enc Tryd.prog ((laidWorld os).forCall (fun _ _ => 0) ⟨#[], #[.slice none 0 0, .int .i64 0, .int .i64 0], []⟩).memory Tryd.f7.params.toList Rows.pieceTwiceSpec.vars false #[Value.slice none 0 0, .int .i64 0, .int .i64 0].toList 8 = some ([.nil, .lit (.int .i64 0), .lit (.int .i64 0)], [], places) :=
  ⟨[], by kernel_rfl⟩

set_option maxRecDepth 100000 in
theorem pieceTwice_lifted (os : Os) (started : os.Started) (H : Type) (enc : TypeId × Value → H) (F : Stop.Interp) :
    ReturnsInHanded {} Tryd.checked os 7 .any ((OpenSpec.ofChange Rows.pieceTwiceSpec).preRow enc Tryd.prog Tryd.f7 Rows.pieceTwiceRow.domain false Rows.pieceTwiceRow.laid) (((OpenSpec.ofChange Rows.pieceTwiceSpec).at F).post enc Tryd.prog Tryd.f7 false true false false) := by
  obtain ⟨places, hx⟩ := pieceTwice_reads os enc
  refine returnsInHanded_of_row (C := Tryd.checked) (s := OpenSpec.ofChange Rows.pieceTwiceSpec) own started (by kernel_rfl) Tryd.func7
    (witness_row_at (enc := enc) (C := Tryd.checked) false (laidWorld os) #[.slice none 0 0, .int .i64 0, .int .i64 0] rfl (by kernel_rfl) (by kernel_rfl) (by kernel_rfl)
      (OpenSpec.preRow_of_cond 8 hx (by kernel_rfl) (fun k hk => by cases hk) (by kernel_rfl) (pieceTwice_laid os _))) ?_
  intro W base args ds gs before hval hW _ _ _ hL _ _
  exact pieceTwice_contract H enc W base args ds gs before hval hW (tabs_of (by rw [← first_is, ← accept_is]; exact hL))

theorem pieceTwice_said : Rows.PieceTwiceSaid :=
  OpenClaim.holds_of_cond 7 Tryd.f7 rfl rfl rfl rfl rfl rfl rfl ⟨rfl, rfl, rfl, rfl, rfl⟩ rfl rfl rfl rfl rfl (by kernel_rfl) Tryd.func7 (by kernel_rfl)
    (of_decide_eq_true (by kernel_rfl)) (by unfold Func.isWrapper; first | (rw [if_pos (by decide +kernel)]; kernel_rfl) | (rw [if_neg (by decide +kernel)]; exact ⟨rfl, rfl⟩))
    (fun os started H enc _ F => by rw [OpenClaim.pre_eq_preRow]; exact pieceTwice_lifted os started H enc F)

theorem pieceTwice_plain (f : FuncId) (fn : Func) (hf : Tryd.pinned.checked.prog.funcNamed "diptych/diptychlaw5.PieceTwice" = some f) (hfn : Tryd.pinned.checked.prog.funcs[f]? = some fn) :
    false = Tryd.pinned.checked.prog.looks [] ∧ ∀ (j : Nat) t, fn.params[j]? = some t → Tryd.pinned.checked.prog.wantsStandIn t = false := by
  obtain rfl : f = 7 := Option.some.inj ((show Tryd.prog.funcNamed "diptych/diptychlaw5.PieceTwice" = some 7 by kernel_rfl).symm.trans hf) |>.symm
  obtain rfl : fn = Tryd.f7 := (Option.some.inj (Tryd.func7.symm.trans hfn)).symm
  refine ⟨by kernel_rfl, fun j t ht => ?_⟩
  rw [Tryd.params7] at ht
  have h : t = 22 ∨ t = 3 := by simpa using Array.mem_of_getElem? ht
  rcases h with rfl | rfl
  · exact (show Tryd.prog.wantsStandIn 22 = false by kernel_rfl)
  · exact (show Tryd.prog.wantsStandIn 3 = false by kernel_rfl)

theorem pieceTwice_card : Rows.PieceTwiceCardSaid :=
  Claim7.holds_tied_plain_at .later [] _ _ _ _ pieceTwice_said (fun _ h => by cases h) (by kernel_rfl) (fun _ h => by cases h) pieceTwice_row_tie rfl ⟨rfl, rfl⟩ (by kernel_rfl) rfl pieceTwice_plain (by kernel_rfl)
end Go.Proofs.YtamoklceekeheaaDoor
