/-
  What Resolve answers.
-/
import Derived.Test.YtmmifednhleggaaPlG
namespace Go.Proofs.Ytmmifednhleggaa
open Go.RowKit Go.Sort Go.Maps

def ResRel (w : World) (want : Option Spt) (g : Nat) (s1 s6 s7 s8 s9 : Value) (wx : World) : Prop :=
  ∃ st K, ∃ i pos : Nat, pos ≤ g ∧ pos ≤ 9223372036854775807 ∧ s1 = .int .i64 (pos : Int) ∧ s9 = .int .i64 (i : Int) ∧ ResAt w want st K i pos s6 s7 s8 wx
def ResIn (w : World) (want : Option Spt) (st : List Frm) (K : List Tree) (v6 v7 v8 : Value) (gk g : Nat) (s1 s6 s7 s8 s9 : Value) (wx : World) : Prop :=
  ∃ i pos : Nat, K.length ≤ i + g ∧ pos ≤ gk ∧ pos ≤ 9223372036854775807 ∧ s1 = .int .i64 (pos : Int) ∧ s9 = .int .i64 (i : Int) ∧ s6 = v6 ∧ s7 = v7 ∧ s8 = v8 ∧ ResAt w want st K i pos v6 v7 v8 wx

theorem Kids.old {w : World} {B : Nat} {A : Option Addr} {n c : Nat} {l : List Tree} {W : World} {i : Nat} {x : Tree} (h : Kids w (Under B) (.slice A n c) l) (hb : Below B w W) (hx : l[i]? = some x) :
    ∃ b o A1 n1 c1 A2 n2 c2 A3 c3, A = some ⟨b, o, none⟩ ∧ b < B ∧ W.cell? ⟨b, o + i * 5, none⟩ = some (.string x.kind) ∧ W.cell? ⟨b, o + i * 5 + 1, none⟩ = some (.string x.text) ∧ W.cell? ⟨b, o + i * 5 + 2, none⟩ = some (.slice A1 n1 c1) ∧
      W.cell? ⟨b, o + i * 5 + 3, none⟩ = some (.slice A2 n2 c2) ∧ W.cell? ⟨b, o + i * 5 + 4, none⟩ = some (.slice A3 x.kids.length c3) ∧ Node w (Under B) (.agg #[.string x.kind, .string x.text, .slice A1 n1 c1, .slice A2 n2 c2, .slice A3 x.kids.length c3]) x := by
  obtain ⟨b, o, A1, n1, c1, A2, n2, c2, A3, c3, hA, hS, r0, r1, r2, r3, r4, hn⟩ := h.kid hx
  exact ⟨b, o, A1, n1, c1, A2, n2, c2, A3, c3, hA, hS, (hb.cell (p := ⟨b, o + i * 5, none⟩) hS).trans r0, (hb.cell (p := ⟨b, o + i * 5 + 1, none⟩) hS).trans r1, (hb.cell (p := ⟨b, o + i * 5 + 2, none⟩) hS).trans r2, (hb.cell (p := ⟨b, o + i * 5 + 3, none⟩) hS).trans r3, (hb.cell (p := ⟨b, o + i * 5 + 4, none⟩) hS).trans r4, hn⟩

/-- A block of another type than the row's is as it was behind an append. -/
theorem grown_other {w w' : World} {base : Nat} {e e' : TypeId} {size : Nat} {v : Value} {n : Nat} {xs : List Value} {L : Obj} (h : w.ownsRow base e size v n xs) (hg : (w.alloc L).grownBy w' v.ownBlock) {b : Nat} {cs : Array Value} (hb : w.heap[b]? = some (.cells cs e')) (hne : e ≠ e') : w'.heap[b]? = some (.cells cs e') :=
  (hg.block b (by have := (Array.getElem?_eq_some_iff.1 hb).1; simp; omega) (row_ne h hb hne)).trans (heap_old _ _ _ hb)
theorem ResAt.around_on {w wx w5 : World} {want : Option Spt} {st : List Frm} {K : List Tree} {i pos : Nat} {v6 v7 v8 : Value} {L1 : Obj} (h : ResAt w want st K i pos v6 v7 v8 wx) (hg : (wx.alloc L1).grownBy w5 v6.ownBlock) (L2 : Obj) :
    (w5.alloc L2).ownsRow w.heap.size 29 1 v7 st.length (st.reverse.map (·.v)) := by
  refine row_hold h.around fun g hgg => ?_
  obtain ⟨_, _, cur, hc⟩ := row_ty h.around hgg
  rw [hc]
  exact heap_old _ _ _ (grown_other h.path hg hc (by decide))
theorem ResAt.size_on {w wx w5 : World} {want : Option Spt} {st : List Frm} {K : List Tree} {i pos : Nat} {v6 v7 v8 : Value} {L1 : Obj} (h : ResAt w want st K i pos v6 v7 v8 wx) (hg : (wx.alloc L1).grownBy w5 v6.ownBlock) (L2 : Obj) : w.heap.size ≤ (w5.alloc L2).heap.size := by
  have h1 := h.below.size
  have h2 := hg.size
  simp at h2 ⊢
  omega
/-- A node's variable is as it was behind both appends. -/
theorem ResAt.kid_on {w wx w5 w7 : World} {want : Option Spt} {st : List Frm} {K : List Tree} {i pos : Nat} {v6 v7 v8 : Value} {L1 L2 : Obj} (h : ResAt w want st K i pos v6 v7 v8 wx) (hg : (wx.alloc L1).grownBy w5 v6.ownBlock) (hg7 : (w5.alloc L2).grownBy w7 v7.ownBlock)
    {b : Nat} {cs : Array Value} (hb : wx.heap[b]? = some (.cells cs 31)) : w7.heap[b]? = some (.cells cs 31) := by
  have h5 := grown_other h.path hg hb (by decide)
  refine (hg7.block b (by have := (Array.getElem?_eq_some_iff.1 h5).1; simp; omega) (row_ne h.around hb (by decide))).trans (heap_old _ _ _ h5)

theorem resolveB_nat {t : Tree} {n : Nat} (h : isTxt t.kind = false) : resolveB t (n : Int) = (spotsB 0 t.kids)[n]? := by
  unfold resolveB
  rw [if_neg (by rw [h]; decide), if_neg (by omega), Int.toNat_natCast]

set_option maxHeartbeats 20000000 in
set_option maxRecDepth 100000 in
theorem resolve_any (v : Value) (t : Tree) (pos0 : Int) (w : World) (h : Node w (Under w.heap.size) v t) (hw : weigh t ≤ 1000000) (h1 : -9223372036854775808 ≤ pos0) (h2 : pos0 ≤ 9223372036854775807) :
    Calls Try.prog 7 #[v, .int .i64 pos0] w (ResPost w (resolveB t pos0)) := by
  have HN := Lib.hid h
  obtain ⟨A1, n1, c1, A2, n2, c2, A3, c3, rfl⟩ := h.forms
  clear h
  go_enter Try.func7, Try.ntmps7
  go_wp2_with fail
  go_step3
  go_wp2_with fail
  generalize hW1 : (w.alloc (.cells #[.string t.kind, .string t.text, .slice A1 n1 c1, .slice A2 n2 c2, .slice A3 t.kids.length c3] 31)).alloc (.cells #[.slice none 0 0, .int .i64 0, .int .i64 0] 25) = W1
  have HB0 : Hid (Below w.heap.size w W1) := Lib.hid (by subst hW1; exact ((Below.refl _ _).alloc (Nat.le_refl _) _).alloc (by simp) _)
  have HC1 : Hid (W1.heap[w.heap.size]? = some (.cells #[.string t.kind, .string t.text, .slice A1 n1 c1, .slice A2 n2 c2, .slice A3 t.kids.length c3] 31) ∧ W1.heap[w.heap.size + 1]? = some noSpot ∧ W1.heap.size = w.heap.size + 2) := Lib.hid (by
    subst hW1; exact ⟨heap_old _ _ _ (heap_new _ _), heap_new' _ _ (by simp), by simp⟩)
  clear hW1
  refine (pText_any _ _ _ _ _ _).mono ?_
  rintro e w2 ⟨rfl, hb2⟩
  have hz1 := HC1.out.2.2
  have hz2 := hb2.size
  have hn2 := (hb2.block w.heap.size (by omega)).trans HC1.out.1
  have hs2 := (hb2.block (w.heap.size + 1) (by omega)).trans HC1.out.2.1
  have HB2 := Lib.hid (belowNext HB0.out hb2)
  have HS2 := Lib.hid hs2
  obtain ⟨y0, y1, y2⟩ := cells3 hs2
  have f0 := frozen_of_row _ _ 0 _ _ hs2
  have f1 := frozen_of_row _ _ 1 _ _ hs2
  have f2 := frozen_of_row _ _ 2 _ _ hs2
  obtain ⟨x0, x1, x2, x3, x4⟩ := cells5 hn2
  clear hb2 hn2 hs2 HC1 HB0
  cases hT : isTxt t.kind with
  | true =>
    have HE : Hid (resolveB t pos0 = none) := Lib.hid (by unfold resolveB; simp [hT])
    clear hT
    go_wp2
    obtain ⟨q0, q1, q2⟩ := cells3 (put3z_block (v0 := .slice none 0 0) (v1 := .int .i64 0) (v2 := .int .i64 0) HS2.out)
    have HBE := Lib.hid (put3z_below (v0 := .slice none 0 0) (v1 := .int .i64 0) (v2 := .int .i64 0) (Nat.le_succ w.heap.size) HB2.out)
    unfold put3z at q0 q1 q2
    try rw [Exit.noGoto_ret]
    refine bodyPost_ret (v := .tuple #[.agg #[.slice none 0 0, .int .i64 0, .int .i64 0], .int .i64 3]) (by simp [results, Try.results7, go_sem, q0, q1, q2]) rfl ?_
    exact ⟨HBE.out, .inl ⟨HE.out, rfl⟩⟩
  | false =>
    by_cases h0 : pos0 < 0
    · have HE : Hid (resolveB t pos0 = none) := Lib.hid (by unfold resolveB; simp [hT, h0])
      clear hT
      go_wp2
      obtain ⟨q0, q1, q2⟩ := cells3 (put3z_block (v0 := .slice none 0 0) (v1 := .int .i64 0) (v2 := .int .i64 0) HS2.out)
      have HBE := Lib.hid (put3z_below (v0 := .slice none 0 0) (v1 := .int .i64 0) (v2 := .int .i64 0) (Nat.le_succ w.heap.size) HB2.out)
      unfold put3z at q0 q1 q2
      try rw [Exit.noGoto_ret]
      refine bodyPost_ret (v := .tuple #[.agg #[.slice none 0 0, .int .i64 0, .int .i64 0], .int .i64 3]) (by simp [results, Try.results7, go_sem, q0, q1, q2]) rfl ?_
      exact ⟨HBE.out, .inl ⟨HE.out, rfl⟩⟩
    · obtain ⟨n0, rfl⟩ : ∃ n : Nat, pos0 = (n : Int) := ⟨pos0.toNat, by omega⟩
      have hwk := kids_weigh t
      have HRA : Hid (ResAt w (resolveB t (n0 : Int)) [] t.kids 0 n0 (.slice none 0 0) (.slice none 0 0) (.slice A3 t.kids.length c3) w2) := Lib.hid ⟨HN.out.kidsOf, Nat.zero_le _, by simp only [List.length_nil]; omega, trivial, World.ownsRow_nil _ _ _ _, World.ownsRow_nil _ _ _ _, by rw [rem_all, resolveB_nat hT], HB2.out, HS2.out⟩
      generalize resolveB t (n0 : Int) = want at *
      have hn9 : n0 ≤ 9223372036854775807 := by omega
      clear hT h1 h2 h0 f0 f1 f2 y0 y1 y2 hwk
      go_wp2_with fail
      go_step3
      go_wp2_with fail
      go_loopg [1, 6, 7, 8, 9] n0 (fun g s1 s6 s7 s8 s9 wx => ResRel w want g s1 s6 s7 s8 s9 wx)
      case atStart => exact ⟨[], t.kids, 0, n0, Nat.le_refl _, hn9, rfl, rfl, HRA.out⟩
      case round =>
        obtain ⟨st, K, i, pos, hpg, hp9, rfl, rfl, hat⟩ := hrel
        generalize hG : gk = G at *
        obtain ⟨A6, c6, rfl, hc6, ha6⟩ := row_form hat.path
        obtain ⟨A7, c7, rfl, hc7, ha7⟩ := row_form hat.around
        obtain ⟨A8, c8, rfl, hc8⟩ := hat.kids.form
        have hfew := hat.few
        have hkl := length_le_weigh K
        have HAT := Lib.hid hat
        clear hat HRA x0 x1 x2 x3 x4 HS2 HB2 hz1 hz2
        go_wp2_with fail
        go_loopg [1, 6, 7, 8, 9] K.length (fun g s1 s6 s7 s8 s9 wx => ResIn w want st K (.slice A6 st.length c6) (.slice A7 st.length c7) (.slice A8 K.length c8) G g s1 s6 s7 s8 s9 wx)
        case atStart => exact ⟨i, pos, by omega, hpg, hp9, rfl, rfl, rfl, rfl, rfl, HAT.out⟩
        case round =>
          clear HAT hpg hp9
          clear pos i
          obtain ⟨i, pos, hig, hpg, hp9, rfl, rfl, rfl, rfl, rfl, hat⟩ := hrel
          have HAT := Lib.hid hat
          by_cases hlt : i < K.length
          · have hx : K[i]? = some K[i] := List.getElem?_eq_getElem hlt
            generalize K[i] = x at *
            obtain ⟨b, o, E1, l1, e1, E2, l2, e2, E3, e3, rfl, hbo, r0, r1, r2, r3, r4, hnx⟩ := hat.kids.old hat.below hx
            have HX := Lib.hid hx
            have HNX := Lib.hid hnx
            have hwx := weigh_mem (List.mem_of_getElem? hx)
            clear hx hnx hat
            go_wp2_with fail
            refine (pText_any _ _ _ _ _ _).mono ?_
            rintro e w3 ⟨rfl, hb3⟩
            obtain ⟨k0, k1, k2, k3, k4, hB3, hz3⟩ := box5 hb3
            have HKB : Hid (w3.heap[wr.heap.size]? = some (.cells #[.string x.kind, .string x.text, .slice E1 l1 e1, .slice E2 l2 e2, .slice E3 x.kids.length e3] 31)) := Lib.hid ((hb3.block wr.heap.size (by simp)).trans (heap_new _ _))
            have HA3 := Lib.hid (HAT.out.later hB3)
            clear hb3 r0 r1 r2 r3 r4 HAT
            cases hT : isTxt x.kind with
            | true =>
              have HT := Lib.hid hT
              clear hT
              go_wp2_with fail
              refine (size_any _ x w3 (HNX.out.keep (fun b hb => Nat.lt_of_lt_of_le hb HA3.out.below.size) (fun b hb => HA3.out.below.block b hb)) (by omega)).mono ?_
              rintro e w4 ⟨rfl, hb4⟩
              have HA4 := Lib.hid (HA3.out.later hb4)
              have hsz := size_le_weigh x
              have HRS := Lib.hid (fun h => rem_text (st := st) (pos := pos) HX.out HT.out h)
              have HSK := Lib.hid (fun h => HA4.out.skip HX.out h)
              have hres := HA4.out.res
              obtain ⟨y0, y1, y2⟩ := cells3 hres
              have f0 := frozen_of_row _ _ 0 _ _ hres
              have f1 := frozen_of_row _ _ 1 _ _ hres
              have f2 := frozen_of_row _ _ 2 _ _ hres
              generalize sizeB x = sz at *
              clear hb4 hB3 hz3 k0 k1 k2 k3 k4 HA3 hres
              by_cases hp : pos < sz
              · have hp' : (pos : Int) < (sz : Int) := by omega
                go_wp2
                obtain ⟨q0, q1, q2⟩ := cells3 (put3z_block (v0 := .slice A6 st.length c6) (v1 := .int .i64 (i : Int)) (v2 := .int .i64 (pos : Int)) HA4.out.res)
                unfold put3z at q0 q1 q2
                try rw [Exit.noGoto_ret]
                refine bodyPost_ret (v := .tuple #[.agg #[.slice A6 st.length c6, .int .i64 (i : Int), .int .i64 (pos : Int)], .int .i64 0]) (by simp [results, Try.results7, go_sem, q0, q1, q2]) rfl ?_
                exact HA4.out.fin (HRS.out hp)
              · have hp' : ¬ (pos : Int) < (sz : Int) := by omega
                obtain ⟨g, rfl⟩ : ∃ g, gk = g + 1 := ⟨gk - 1, by omega⟩
                go_wp2
                go_roundg g
                case measure => omega
                case rel => exact ⟨i + 1, pos - sz, by omega, by omega, by omega, by go_num, by go_num, rfl, rfl, rfl, HSK.out (by omega)⟩
            | false =>
              have HT := Lib.hid hT
              have hres := HA3.out.res
              obtain ⟨y0, y1, y2⟩ := cells3 hres
              have f0 := frozen_of_row _ _ 0 _ _ hres
              have f1 := frozen_of_row _ _ 1 _ _ hres
              have f2 := frozen_of_row _ _ 2 _ _ hres
              clear hT hB3 hres
              by_cases hp : pos = 0
              · have HRN : Hid ((remOf st K i)[pos]? = some (pathOf st, i, pos)) := Lib.hid (by rw [hp]; exact rem_node HX.out HT.out)
                have hp1 : ((pos : Int) == 0) = true := by simp [hp]
                clear hp
                go_wp2
                obtain ⟨q0, q1, q2⟩ := cells3 (put3z_block (v0 := .slice A6 st.length c6) (v1 := .int .i64 (i : Int)) (v2 := .int .i64 (pos : Int)) HA3.out.res)
                unfold put3z at q0 q1 q2
                try rw [Exit.noGoto_ret]
                refine bodyPost_ret (v := .tuple #[.agg #[.slice A6 st.length c6, .int .i64 (i : Int), .int .i64 (pos : Int)], .int .i64 0]) (by simp [results, Try.results7, go_sem, q0, q1, q2]) rfl ?_
                exact HA3.out.fin HRN.out
              · obtain ⟨q, rfl⟩ : ∃ q, pos = q + 1 := ⟨pos - 1, by omega⟩
                have hp1 : (((q + 1 : Nat) : Int) == 0) = false := by rw [beq_eq_false_iff_ne]; omega
                obtain ⟨g, rfl⟩ : ∃ g, G = g + 1 := ⟨G - 1, by omega⟩
                have R6 : Hid ((w3.alloc (.cells #[.int .i64 (i : Int)] 3)).ownsRow w.heap.size 3 1 (.slice A6 st.length c6) st.length ((pathOf st).map (Value.int .i64))) := Lib.hid (row_below HA3.out.path ((Below.refl _ _).alloc (Nat.le_refl _) _))
                have N6 : Hid (∀ j u, [Value.int .i64 (i : Int)][j]? = some u → (w3.alloc (.cells #[.int .i64 (i : Int)] 3)).cell? ⟨w3.heap.size, j, none⟩ = some u) := Lib.hid fun j u hj => fresh_cell w3 _ _ j u (by simpa using hj)
                have O6 : Hid (∀ u ∈ [Value.int .i64 (i : Int)], u.oneCell' = true) := Lib.hid (by simp [Value.oneCell'])
                have O7 : Hid (∀ u ∈ [Value.slice (some ⟨b, o, none⟩) K.length c8], u.oneCell' = true) := Lib.hid (by simp [Value.oneCell'])
                have Z6 : Hid (w.heap.size ≤ (w3.alloc (.cells #[.int .i64 (i : Int)] 3)).heap.size) := Lib.hid (by have := HA3.out.below.size; simp; omega)
                have M6 : Hid (st.length + 1 ≤ 100000000) := Lib.hid (by omega)
                clear y0 y1 y2 f0 f1 f2
                go_wp2_with (first
                  | (at_builtin; refine wpList_append_gen Try.underlying23 int_info rfl (by decide) (by decide) rfl (.tmp 46) (.tmp 48) rfl w.heap.size (.slice A6 st.length c6) st.length ((pathOf st).map (Value.int .i64)) w3.heap.size 1 [.int .i64 (i : Int)] rfl rfl R6.out rfl N6.out O6.out M6.out Z6.out ?_; intro v5 w5 ho5 hg5; obtain ⟨A9, c9, rfl, _⟩ := row_form ho5; have HO5 := Lib.hid ho5; have HG5 := Lib.hid hg5; have R7 := Lib.hid (HA3.out.around_on hg5 (.cells #[.slice (some ⟨b, o, none⟩) K.length c8] 29)); have Z7 := Lib.hid (HA3.out.size_on hg5 (.cells #[.slice (some ⟨b, o, none⟩) K.length c8] 29)); have N7 : Hid (∀ j u, [Value.slice (some ⟨b, o, none⟩) K.length c8][j]? = some u → (w5.alloc (.cells #[.slice (some ⟨b, o, none⟩) K.length c8] 29)).cell? ⟨w5.heap.size, j, none⟩ = some u) := Lib.hid (fun j u hj => fresh_cell w5 _ _ j u (by simpa using hj)); clear ho5 hg5)
                  | (at_builtin; refine wpList_append_gen Try.underlying53 row_info rfl (by decide) (by decide) rfl (.tmp 50) (.tmp 52) rfl w.heap.size (.slice A7 st.length c7) st.length (st.reverse.map (·.v)) w5.heap.size 1 [.slice (some ⟨b, o, none⟩) K.length c8] rfl rfl R7.out rfl N7.out O7.out M6.out Z7.out ?_; intro v7 w7 ho7 hg7; obtain ⟨A0, c0, rfl, _⟩ := row_form ho7; obtain ⟨z0, z1, z2, z3, z4⟩ := cells5 (HA3.out.kid_on HG5.out hg7 HKB.out); have HP := Lib.hid (HA3.out.push HX.out HT.out HO5.out HG5.out ho7 hg7 HNX.out.kidsOf); clear ho7 hg7))
                go_roundg g
                case measure => omega
                case rel => exact ⟨_, _, 0, q, by omega, by omega, by go_num, rfl, HP.out⟩
          · have hik : i = K.length := by have := hat.le; omega
            have hi1 : ¬ (i : Int) < (K.length : Int) := by omega
            have hres := hat.res
            obtain ⟨y0, y1, y2⟩ := cells3 hres
            have f0 := frozen_of_row _ _ 0 _ _ hres
            have f1 := frozen_of_row _ _ 1 _ _ hres
            have f2 := frozen_of_row _ _ 2 _ _ hres
            by_cases hp : pos = 0
            · have HRN : Hid ((remOf st K i)[pos]? = some (pathOf st, i, pos)) := Lib.hid (by rw [hp, hik]; exact rem_end st K)
              have hp1 : ((pos : Int) == 0) = true := by simp [hp]
              clear hp hres hat hik
              go_wp2
              obtain ⟨q0, q1, q2⟩ := cells3 (put3z_block (v0 := .slice A6 st.length c6) (v1 := .int .i64 (i : Int)) (v2 := .int .i64 (pos : Int)) HAT.out.res)
              unfold put3z at q0 q1 q2
              try rw [Exit.noGoto_ret]
              refine bodyPost_ret (v := .tuple #[.agg #[.slice A6 st.length c6, .int .i64 (i : Int), .int .i64 (pos : Int)], .int .i64 0]) (by simp [results, Try.results7, go_sem, q0, q1, q2]) rfl ?_
              exact HAT.out.fin HRN.out
            · obtain ⟨q, rfl⟩ : ∃ q, pos = q + 1 := ⟨pos - 1, by omega⟩
              have hp1 : (((q + 1 : Nat) : Int) == 0) = false := by rw [beq_eq_false_iff_ne]; omega
              have HIK := Lib.hid hik
              clear hik
              cases st with
              | nil =>
                have HE : Hid (want = none) := Lib.hid (by have := HAT.out.rem; rw [HIK.out, rem_last] at this; exact this.symm)
                clear hres hat
                simp only [List.length_nil] at *
                go_wp2
                obtain ⟨q0, q1, q2⟩ := cells3 (put3z_block (v0 := .slice none 0 0) (v1 := .int .i64 0) (v2 := .int .i64 0) HAT.out.res)
                have HBE := Lib.hid (put3z_below (v0 := .slice none 0 0) (v1 := .int .i64 0) (v2 := .int .i64 0) (Nat.le_succ w.heap.size) HAT.out.below)
                unfold put3z at q0 q1 q2
                try rw [Exit.noGoto_ret]
                refine bodyPost_ret (v := .tuple #[.agg #[.slice none 0 0, .int .i64 0, .int .i64 0], .int .i64 3]) (by simp [results, Try.results7, go_sem, q0, q1, q2]) rfl ?_
                exact ⟨HBE.out, .inl ⟨HE.out, rfl⟩⟩
              | cons f st =>
                simp only [List.length_cons] at *
                obtain ⟨g6, rfl⟩ := ha6 (by omega)
                obtain ⟨g7, rfl⟩ := ha7 (by omega)
                obtain ⟨g, rfl⟩ : ∃ g, G = g + 1 := ⟨G - 1, by omega⟩
                have u6 := hat.lastI
                have u7 := hat.lastV
                obtain ⟨o1, o2, o3, o4⟩ := hat.ok
                obtain ⟨A9, c9, hv9, hc9⟩ := o1.form
                rw [hv9] at u7
                have HP : Hid (ResAt w want st f.K (f.i + 1) q (.slice (some ⟨g6, 0, none⟩) st.length c6) (.slice (some ⟨g7, 0, none⟩) st.length c7) (.slice A9 f.K.length c9) wr) := Lib.hid (by
                  have h := HAT.out
                  rw [HIK.out] at h
                  have := h.pop
                  rw [hv9] at this
                  exact this)
                have hfl : f.i ≤ 1000000 := by have := length_le_weigh f.K; omega
                have j1 : (0 : Int) ≤ (st.length : Int) := by omega
                have j2 : (st.length : Int) ≤ (c6 : Int) := by omega
                have j3 : (st.length : Int) ≤ (c7 : Int) := by omega
                have j4 : st.length ≤ c6 := by omega
                have j5 : st.length ≤ c7 := by omega
                have j6 : ¬ c6 = 0 := by omega
                have j7 : ¬ c7 = 0 := by omega
                have j8 : ((st.length + 1 : Nat) : Int) - 1 = (st.length : Int) := by omega
                have j9 : st.length < st.length + 1 := by omega
                clear hres hat y0 y1 y2 f0 f1 f2 o1 o2 o3 o4 hv9 HAT
                go_wp2
                go_quiet (fail)
                go_wp2
                go_quiet (fail)
                go_wp2
                go_roundg g
                case measure => omega
                case rel => exact ⟨_, _, f.i + 1, q, by omega, by omega, by go_num, by go_num, HP.out.later ⟨rfl, rfl, rfl, Nat.le_refl _, fun _ _ => rfl⟩⟩
end Go.Proofs.Ytmmifednhleggaa
