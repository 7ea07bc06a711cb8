/-
  CodecDeep walked: a node as deep as may be is read as it was written, one that is deeper is too deep, one that is wrong is wrong.
-/
import Derived.Test.YtdcgffepdgldmaaDoorD19
import Derived.Test.YtdcgffepdgldmaaDoorF1a
import Derived.Test.YtdcgffepdgldmaaDoorC4
import Derived.Test.YtdcgffepdgldmaaDoorSameP
namespace Go.Proofs.YtdcgffepdgldmaaDoor
open Go.RowKit Go.Sort Go.Maps

theorem printB_of {t : Tree} {r : Int} (h : checkB t = r) (hr : r ≠ 0) : printB t = [] := if_neg (by rw [h]; exact hr)

/-- The node in its block behind so many rounds. -/
def NestAt (w0 wx : World) (M : Nat) (b : Bool) (n : Nat) : Prop :=
  ∃ A m c, wx.heap[M]? = some (.cells #[.string (nestT b n).kind, .string (nestT b n).text, .slice none 0 0, .slice none 0 0, .slice A m c] 27) ∧
    Node wx (fun b => b < wx.heap.size ∧ b ≠ M) (.agg #[.string (nestT b n).kind, .string (nestT b n).text, .slice none 0 0, .slice none 0 0, .slice A m c]) (nestT b n) ∧ Below w0.heap.size w0 wx ∧ w0.heap.size ≤ M

/-- A round: the node is laid into a row of its own, and what holds it takes its place. -/
theorem nest_round {w0 wx : World} {M : Nat} {b : Bool} {n : Nat} {A : Option Addr} {m c : Nat}
    (hM : wx.heap[M]? = some (.cells #[.string (nestT b n).kind, .string (nestT b n).text, .slice none 0 0, .slice none 0 0, .slice A m c] 27))
    (hN : Node wx (fun b => b < wx.heap.size ∧ b ≠ M) (.agg #[.string (nestT b n).kind, .string (nestT b n).text, .slice none 0 0, .slice none 0 0, .slice A m c]) (nestT b n)) (hB : Below w0.heap.size w0 wx) (hw : w0.heap.size ≤ M) :
    NestAt w0 (put5 (wx.alloc (.cells #[.string (nestT b n).kind, .string (nestT b n).text, .slice none 0 0, .slice none 0 0, .slice A m c] 27)) M (.string ⟨#[112]⟩) (.string ⟨#[]⟩) (.slice none 0 0) (.slice none 0 0) (.slice (some ⟨wx.heap.size, 0, none⟩) 1 1)) M b (n + 1) := by
  have hMz : M < wx.heap.size := (Array.getElem?_eq_some_iff.1 hM).1
  have hb : Below wx.heap.size wx (wx.alloc (.cells #[.string (nestT b n).kind, .string (nestT b n).text, .slice none 0 0, .slice none 0 0, .slice A m c] 27)) := (Below.refl _ _).alloc (Nat.le_refl _) _
  have hz : (wx.alloc (.cells #[.string (nestT b n).kind, .string (nestT b n).text, .slice none 0 0, .slice none 0 0, .slice A m c] 27)).heap.size = wx.heap.size + 1 := by simp
  have hnew := heap_alloc_new wx (.cells #[.string (nestT b n).kind, .string (nestT b n).text, .slice none 0 0, .slice none 0 0, .slice A m c] 27)
  generalize wx.alloc (.cells #[.string (nestT b n).kind, .string (nestT b n).text, .slice none 0 0, .slice none 0 0, .slice A m c] 27) = W at *
  have hM1 := (hb.block M hMz).trans hM
  have hp := put5_at hM1 (.string ⟨#[112]⟩) (.string ⟨#[]⟩) (.slice none 0 0) (.slice none 0 0) (.slice (some ⟨wx.heap.size, 0, none⟩) 1 1)
  have ho := put5_only W M (.string ⟨#[112]⟩) (.string ⟨#[]⟩) (.slice none 0 0) (.slice none 0 0) (.slice (some ⟨wx.heap.size, 0, none⟩) 1 1)
  have hps := put5_size W M (.string ⟨#[112]⟩) (.string ⟨#[]⟩) (.slice none 0 0) (.slice none 0 0) (.slice (some ⟨wx.heap.size, 0, none⟩) 1 1)
  generalize put5 W M (.string ⟨#[112]⟩) (.string ⟨#[]⟩) (.slice none 0 0) (.slice none 0 0) (.slice (some ⟨wx.heap.size, 0, none⟩) 1 1) = V at *
  have hnewV := (ho.block wx.heap.size (by omega) (by omega)).trans hnew
  obtain ⟨c0, c1, c2, c3, c4⟩ := five_cells hnewV
  have hN2 : Node V (fun b => b < V.heap.size ∧ b ≠ M) (.agg #[.string (nestT b n).kind, .string (nestT b n).text, .slice none 0 0, .slice none 0 0, .slice A m c]) (nestT b n) :=
    hN.keep (fun x hx => ⟨by have := hx.1; omega, hx.2⟩) fun x hx => (ho.block x (by have := hx.1; omega) hx.2).trans (hb.block x hx.1)
  obtain ⟨vm, va, vk, he, hm, ha, hk⟩ := hN2
  injection he with he
  have he2 : Value.slice none 0 0 = vm ∧ Value.slice none 0 0 = va ∧ Value.slice A m c = vk := by simpa using he
  obtain ⟨rfl, rfl, rfl⟩ := he2
  refine ⟨_, _, _, hp, ⟨_, _, _, rfl, strs_none, pairs_none, ?_⟩, hB.trans ((hb.mono hB.size).trans (ho.below hw (by have := hB.size; omega))), hw⟩
  exact kids_one (t := nestT b n) rfl (Nat.le_refl _) (by unfold maxLen; omega) ⟨by omega, by omega⟩ ((nodeAt_iff _ _ _).2 ⟨_, _, _, c0, c1, c2, c3, c4, hm, ha, hk⟩)

theorem opens_bytes (n : Nat) : (⟨(opens n).toArray⟩ : ByteArray) ++ (⟨#[112, 91]⟩ : ByteArray) = ⟨(opens (n + 1)).toArray⟩ := by
  rw [opens_snoc]
  exact ByteArray.ext (by rw [ByteArray.data_append]; apply Array.ext'; simp)
theorem bytes_app (a b : List UInt8) : (⟨a.toArray⟩ : ByteArray) ++ (⟨b.toArray⟩ : ByteArray) = ⟨(a ++ b).toArray⟩ := ByteArray.ext (by rw [ByteArray.data_append]; apply Array.ext'; simp)
theorem app_data (a b : ByteArray) : (a ++ b).data.toList = a.data.toList ++ b.data.toList := by rw [ByteArray.data_append]; simp
theorem is_bytes {a : ByteArray} {l : List UInt8} (h : a.data.toList = l) : a = ⟨l.toArray⟩ := ByteArray.ext (Array.ext' (by rw [h]))
theorem NestAt.parts {w0 wx : World} {M : Nat} {b : Bool} {n : Nat} (h : NestAt w0 wx M b n) : ∃ A m c, wx.heap[M]? = some (.cells #[.string (nestT b n).kind, .string (nestT b n).text, .slice none 0 0, .slice none 0 0, .slice A m c] 27) ∧
    Node wx (fun b => b < wx.heap.size ∧ b ≠ M) (.agg #[.string (nestT b n).kind, .string (nestT b n).text, .slice none 0 0, .slice none 0 0, .slice A m c]) (nestT b n) ∧ Below w0.heap.size w0 wx ∧ w0.heap.size ≤ M := h
theorem nest_start (w1 : World) (M : Nat) (hM : w1.heap.size = M) (b : Bool) (W : World) (hb : Below w1.heap.size w1 W) (hW : W.heap[M]? = some (.cells #[.string (leafT b).kind, .string (leafT b).text, .slice none 0 0, .slice none 0 0, .slice none 0 0] 27)) : NestAt w1 W M b 0 :=
  ⟨none, 0, 0, hW, ⟨_, _, _, rfl, by cases b <;> exact strs_none, by cases b <;> exact pairs_none, by cases b <;> exact kids_none⟩, hb, by omega⟩

theorem put5_alloc {w : World} {g : Nat} {x : Obj} {v0 v1 v2 v3 v4 : Value} (h : g < w.heap.size) : put5 (w.alloc x) g v0 v1 v2 v3 v4 = (put5 w g v0 v1 v2 v3 v4).alloc x := by
  have hs : ∀ (W : World) (i : Nat) (v : Value), (W.setCell ⟨g, i, none⟩ v).heap.size = W.heap.size := fun W i v => by simp [World.setCell]
  unfold put5
  rw [World.setCell_alloc_past x g 0 v0 h, World.setCell_alloc_past x g 1 v1 (by rw [hs]; exact h), World.setCell_alloc_past x g 2 v2 (by rw [hs, hs]; exact h), World.setCell_alloc_past x g 3 v3 (by rw [hs, hs, hs]; exact h), World.setCell_alloc_past x g 4 v4 (by rw [hs, hs, hs, hs]; exact h)]
theorem size_list (a : ByteArray) : a.size = a.data.toList.length := by rw [Array.length_toList]; rfl

set_option maxHeartbeats 8000000 in
set_option maxRecDepth 100000 in
theorem codecDeep_walk (deep : Int) (wrong : Bool) (w : World) (h0 : -9223372036854775808 ≤ deep) (h1 : deep ≤ 9223372036854775807) (hT : Tabs w) :
    Calls Tryd.prog 7 #[.int .i64 deep, .bool wrong] w fun e w' => e = .returned (.bool true) ∧ Below w.heap.size w w' := by
  have HT := Lib.hid hT
  clear hT
  go_enter Tryd.func7, Tryd.ntmps7
  go_wp2_with fail
  refine (shown2_any _ HT.out).mono ?_
  rintro e w1 ⟨rfl, hb1⟩
  have HB1 := Lib.hid hb1
  clear hb1
  go_wp2_with fail
  refine (pick_any deep 60 w1 (by omega) (by omega) h0 h1).mono ?_
  rintro e w2 ⟨rfl, rfl⟩
  obtain ⟨n, hn, hn1, hn2⟩ : ∃ n : Nat, 1 + pickN deep 60 = (n : Int) ∧ 1 ≤ n ∧ n ≤ 60 := ⟨(1 + pickN deep 60).toNat, by have := pickN_lo deep 60 (by omega); omega, by have := pickN_lo deep 60 (by omega); omega, by have := pickN_hi deep 60 (by omega); omega⟩
  obtain ⟨pk, hpk⟩ : ∃ pk : Nat, pickN deep 60 = (pk : Int) := ⟨(pickN deep 60).toNat, by have := pickN_lo deep 60 (by omega); omega⟩
  rw [hpk] at hn ⊢
  obtain rfl : n = pk + 1 := by omega
  clear hn hpk h0 h1
  cases wrong with
  | true =>
    go_wp2
    have HN0 := Lib.hid (nest_start w1 w1.heap.size rfl true _ ((Below.refl _ _).alloc (Nat.le_refl _) (.cells #[.string ⟨#[80]⟩, .string ⟨#[120]⟩, .slice none 0 0, .slice none 0 0, .slice none 0 0] 27)) (heap_alloc_new w1 _))
    generalize w1.alloc (.cells #[.string ⟨#[80]⟩, .string ⟨#[120]⟩, .slice none 0 0, .slice none 0 0, .slice none 0 0] 27) = W0 at *
    go_loopw [7, 9] (fun s i wr => ∃ (k : Nat) (st : ByteArray), k ≤ pk + 1 ∧ i = .int .i64 k ∧ s = .string st ∧ Hid (st.data.toList = opens k) ∧ Hid (NestAt w1 wr w1.heap.size true k)) (fun _ i _ => pk + 1 - (intOf i).toNat)
    case atStart => exact ⟨0, _, by omega, rfl, rfl, Lib.hid rfl, HN0⟩
    case round =>
      obtain ⟨k, st, hk, rfl, rfl, hst, hna⟩ := hrel
      have hss : st.size = 2 * k := by rw [size_list, hst.out, opens_len]
      by_cases hlt : k < pk + 1
      · obtain ⟨A, m, c, hM, hN, hB, hw⟩ := hna.out
        obtain ⟨c0, c1, c2, c3, c4⟩ := five_cells hM
        have hol : ¬ 9223372036854775807 < st.size + 2 := by omega
        have hMz : w1.heap.size < wr.heap.size := (Array.getElem?_eq_some_iff.1 hM).1
        have f0 := frozen_of_row _ _ 0 _ _ hM
        have f1 := frozen_of_row _ _ 1 _ _ hM
        have f2 := frozen_of_row _ _ 2 _ _ hM
        have f3 := frozen_of_row _ _ 3 _ _ hM
        have f4 := frozen_of_row _ _ 4 _ _ hM
        have HNX := Lib.hid (nest_round hM hN hB hw)
        clear hM hN hB hss
        go_wp2
        refine ⟨⟨k + 1, _, by omega, by go_num, rfl, Lib.hid (by rw [app_data, hst.out, opens_snoc]), ?_⟩, by simp [intOf]; omega⟩
        rw [put5_alloc hMz] at HNX
        exact HNX
      · obtain rfl : k = pk + 1 := by omega
        have hol : ¬ 9223372036854775807 < st.size + 3 := by omega
        obtain ⟨st1, hst1⟩ : ∃ st1 : ByteArray, st ++ ⟨#[80, 91, 93]⟩ = st1 := ⟨_, rfl⟩
        have HST : Hid (st1.data.toList = opens (pk + 1) ++ leafS true) := Lib.hid (by rw [← hst1, app_data, hst.out]; rfl)
        clear hss
        go_wp2
        clear hst1
        go_loopw [7, 10] (fun s i wy => ∃ (j : Nat) (sy : ByteArray), j ≤ pk + 1 ∧ i = .int .i64 j ∧ s = .string sy ∧ Hid (sy.data.toList = opens (pk + 1) ++ leafS true ++ List.replicate j 93) ∧ wy = wr) (fun _ i _ => pk + 1 - (intOf i).toNat)
        case atStart => exact ⟨0, _, by omega, rfl, rfl, Lib.hid (by rw [HST.out, List.replicate_zero, List.append_nil]), rfl⟩
        case round =>
          obtain ⟨j, sy, hj, rfl, rfl, hsy, hwy⟩ := hrel
          have hsz : sy.size = 2 * (pk + 1) + 3 + j := by rw [size_list, hsy.out, List.length_append, List.length_append, opens_len, List.length_replicate]; rfl
          by_cases hlj : j < pk + 1
          · have hol2 : ¬ 9223372036854775807 < sy.size + 1 := by omega
            clear hsz
            go_wp2
            exact ⟨⟨j + 1, _, by omega, by go_num, rfl, Lib.hid (by rw [app_data, hsy.out, List.replicate_succ', ← List.append_assoc]), by first | exact hwy | trivial⟩, by simp [intOf]; omega⟩
          · obtain rfl : j = pk + 1 := by omega
            subst hwy
            have HSY : Hid (sy.data.toList = deepS true (pk + 1)) := Lib.hid hsy.out
            have hsl : sy.size ≤ 100000 := by omega
            obtain ⟨A, m, c, hM, hN, hB, hw⟩ := hna.out
            obtain ⟨c0, c1, c2, c3, c4⟩ := five_cells hM
            have HM := Lib.hid hM
            have HN := Lib.hid (hN.keep (S' := Under wr.heap.size) (fun x hx => hx.1) fun x _ => rfl)
            have HB := Lib.hid (belowNext HB1.out hB)
            clear hM hN hB hsz hsy hst HST hna
            go_wp2_with fail
            refine (print_any _ (nestT true (pk + 1)) wr HN.out (by have := nest_weigh true (pk + 1); omega) (HT.out.below HB.out)).mono ?_
            rintro e w2 ⟨rfl, hb2⟩
            have HB2 := Lib.hid (belowNext HB.out hb2)
            have HN2 := Lib.hid ((HN.out.below hb2).more hb2.size)
            have HM2 := Lib.hid ((hb2.block _ (Array.getElem?_eq_some_iff.1 HM.out).1).trans HM.out)
            have hz2 := hb2.size
            clear hb2 c0 c1 c2 c3 c4
            rw [nest_check_wrong, printB_of (nest_check_wrong (pk + 1)) (by decide)]
            go_wp2_with fail
            refine (parse_any sy w2 hsl (HT.out.below HB2.out)).mono ?_
            rintro e w3 ⟨v3, rfl, hn3, hb3⟩
            rw [HSY.out, parse_wrong] at hn3 ⊢
            obtain ⟨P2, m2, e2, P3, m3, e3, P4, m4, e4, rfl⟩ := node_form hn3
            have HB3 := Lib.hid (belowNext HB2.out hb3)
            clear hn3 hb3
            go_wp2
            go_ret
            exact ⟨ret_bool (by decide +kernel), belowNext HB3.out ((Below.refl _ _).alloc (Nat.le_refl _) _)⟩
  | false =>
    go_wp2
    have HN0 := Lib.hid (nest_start w1 w1.heap.size rfl false _ ((Below.refl _ _).alloc (Nat.le_refl _) (.cells #[.string ⟨#[116, 101, 120, 116]⟩, .string ⟨#[120]⟩, .slice none 0 0, .slice none 0 0, .slice none 0 0] 27)) (heap_alloc_new w1 _))
    generalize w1.alloc (.cells #[.string ⟨#[116, 101, 120, 116]⟩, .string ⟨#[120]⟩, .slice none 0 0, .slice none 0 0, .slice none 0 0] 27) = W0 at *
    go_loopw [7, 9] (fun s i wr => ∃ (k : Nat) (st : ByteArray), k ≤ pk + 1 ∧ i = .int .i64 k ∧ s = .string st ∧ Hid (st.data.toList = opens k) ∧ Hid (NestAt w1 wr w1.heap.size false k)) (fun _ i _ => pk + 1 - (intOf i).toNat)
    case atStart => exact ⟨0, _, by omega, rfl, rfl, Lib.hid rfl, HN0⟩
    case round =>
      obtain ⟨k, st, hk, rfl, rfl, hst, hna⟩ := hrel
      have hss : st.size = 2 * k := by rw [size_list, hst.out, opens_len]
      by_cases hlt : k < pk + 1
      · obtain ⟨A, m, c, hM, hN, hB, hw⟩ := hna.out
        obtain ⟨c0, c1, c2, c3, c4⟩ := five_cells hM
        have hol : ¬ 9223372036854775807 < st.size + 2 := by omega
        have hMz : w1.heap.size < wr.heap.size := (Array.getElem?_eq_some_iff.1 hM).1
        have f0 := frozen_of_row _ _ 0 _ _ hM
        have f1 := frozen_of_row _ _ 1 _ _ hM
        have f2 := frozen_of_row _ _ 2 _ _ hM
        have f3 := frozen_of_row _ _ 3 _ _ hM
        have f4 := frozen_of_row _ _ 4 _ _ hM
        have HNX := Lib.hid (nest_round hM hN hB hw)
        clear hM hN hB hss
        go_wp2
        refine ⟨⟨k + 1, _, by omega, by go_num, rfl, Lib.hid (by rw [app_data, hst.out, opens_snoc]), ?_⟩, by simp [intOf]; omega⟩
        rw [put5_alloc hMz] at HNX
        exact HNX
      · obtain rfl : k = pk + 1 := by omega
        have hol : ¬ 9223372036854775807 < st.size + 3 := by omega
        obtain ⟨st1, hst1⟩ : ∃ st1 : ByteArray, st ++ ⟨#[34, 120, 34]⟩ = st1 := ⟨_, rfl⟩
        have HST : Hid (st1.data.toList = opens (pk + 1) ++ leafS false) := Lib.hid (by rw [← hst1, app_data, hst.out]; rfl)
        clear hss
        go_wp2
        clear hst1
        go_loopw [7, 10] (fun s i wy => ∃ (j : Nat) (sy : ByteArray), j ≤ pk + 1 ∧ i = .int .i64 j ∧ s = .string sy ∧ Hid (sy.data.toList = opens (pk + 1) ++ leafS false ++ List.replicate j 93) ∧ wy = wr) (fun _ i _ => pk + 1 - (intOf i).toNat)
        case atStart => exact ⟨0, _, by omega, rfl, rfl, Lib.hid (by rw [HST.out, List.replicate_zero, List.append_nil]), rfl⟩
        case round =>
          obtain ⟨j, sy, hj, rfl, rfl, hsy, hwy⟩ := hrel
          have hsz : sy.size = 2 * (pk + 1) + 3 + j := by rw [size_list, hsy.out, List.length_append, List.length_append, opens_len, List.length_replicate]; rfl
          by_cases hlj : j < pk + 1
          · have hol2 : ¬ 9223372036854775807 < sy.size + 1 := by omega
            clear hsz
            go_wp2
            exact ⟨⟨j + 1, _, by omega, by go_num, rfl, Lib.hid (by rw [app_data, hsy.out, List.replicate_succ', ← List.append_assoc]), by first | exact hwy | trivial⟩, by simp [intOf]; omega⟩
          · obtain rfl : j = pk + 1 := by omega
            subst hwy
            have HSY : Hid (sy.data.toList = deepS false (pk + 1)) := Lib.hid hsy.out
            have hsl : sy.size ≤ 100000 := by omega
            obtain ⟨A, m, c, hM, hN, hB, hw⟩ := hna.out
            obtain ⟨c0, c1, c2, c3, c4⟩ := five_cells hM
            have HM := Lib.hid hM
            have HN := Lib.hid (hN.keep (S' := Under wr.heap.size) (fun x hx => hx.1) fun x _ => rfl)
            have HB := Lib.hid (belowNext HB1.out hB)
            clear hM hN hB hsz hsy hst HST hna
            go_wp2_with fail
            refine (print_any _ (nestT false (pk + 1)) wr HN.out (by have := nest_weigh false (pk + 1); omega) (HT.out.below HB.out)).mono ?_
            rintro e w2 ⟨rfl, hb2⟩
            have HB2 := Lib.hid (belowNext HB.out hb2)
            have HN2 := Lib.hid ((HN.out.below hb2).more hb2.size)
            have HM2 := Lib.hid ((hb2.block _ (Array.getElem?_eq_some_iff.1 HM.out).1).trans HM.out)
            have hz2 := hb2.size
            clear hb2 c0 c1 c2 c3 c4
            by_cases h40 : pk + 1 ≤ 40
            · rw [nest_check_ok _ h40, show printB (nestT false (pk + 1)) = deepS false (pk + 1) by rw [← nest_write]; exact if_pos (nest_check_ok _ h40)]
              obtain ⟨sp, hsp⟩ : ∃ sp : ByteArray, (⟨(deepS false (pk + 1)).toArray⟩ : ByteArray) = sp := ⟨_, rfl⟩
              rw [hsp]
              have hse : sp = sy := by rw [← hsp]; exact (is_bytes HSY.out).symm
              subst hse
              clear hsp
              go_wp2_with fail
              refine (parse_any sp w2 hsl (HT.out.below HB2.out)).mono ?_
              rintro e w3 ⟨v3, rfl, hn3, hb3⟩
              rw [HSY.out, parse_flat _ h40] at hn3 ⊢
              obtain ⟨P2, m2, e2, P3, m3, e3, P4, m4, e4, rfl⟩ := node_form hn3
              have hx3 : Below w3.heap.size w3 (w3.alloc (.cells #[.string (nestT false (pk + 1)).kind, .string (nestT false (pk + 1)).text, .slice P2 m2 e2, .slice P3 m3 e3, .slice P4 m4 e4] 27)) := (Below.refl _ _).alloc (Nat.le_refl _) _
              have hzx : (w3.alloc (.cells #[.string (nestT false (pk + 1)).kind, .string (nestT false (pk + 1)).text, .slice P2 m2 e2, .slice P3 m3 e3, .slice P4 m4 e4] 27)).heap.size = w3.heap.size + 1 := by simp
              have hz3 := hb3.size
              have HX := Lib.hid (hb3.trans (hx3.mono hz3))
              have HM3 := Lib.hid (hn3.keep (S' := Under (w3.alloc (.cells #[.string (nestT false (pk + 1)).kind, .string (nestT false (pk + 1)).text, .slice P2 m2 e2, .slice P3 m3 e3, .slice P4 m4 e4] 27)).heap.size) (fun b hb => by have := hb.2; show b < _; omega) fun b hb => hx3.block b hb.2)
              have hs3 := heap_alloc_new w3 (.cells #[.string (nestT false (pk + 1)).kind, .string (nestT false (pk + 1)).text, .slice P2 m2 e2, .slice P3 m3 e3, .slice P4 m4 e4] 27)
              have HMM := Lib.hid ((HX.out.block _ (Array.getElem?_eq_some_iff.1 HM2.out).1).trans HM2.out)
              have HNN := Lib.hid ((HN2.out.below HX.out).more HX.out.size)
              have HB3 := Lib.hid (belowNext HB2.out HX.out)
              have HS3 := Lib.hid hs3
              clear hn3 hb3 hx3 hs3
              obtain ⟨p0, p1, p2, p3, p4⟩ := five_cells HS3.out
              obtain ⟨r0, r1, r2, r3, r4⟩ := five_cells HMM.out
              have g40 : (1 : Int) + (pk : Int) ≤ 40 := by omega
              have g41 : ¬ (40 : Int) < 1 + (pk : Int) := by omega
              have HWN : Hid (weigh (nestT false (pk + 1)) ≤ 1000000) := Lib.hid (by have := nest_weigh false (pk + 1); omega)
              have HD : Hid (depthB (nestT false (pk + 1)) = pk + 1) := Lib.hid (nest_depth (pk + 1))
              go_wp2_with fail
              generalize w3.alloc (.cells #[.string (nestT false (pk + 1)).kind, .string (nestT false (pk + 1)).text, .slice P2 m2 e2, .slice P3 m3 e3, .slice P4 m4 e4] 27) = W3 at *
              refine (nsame_any _ _ (nestT false (pk + 1)) (nestT false (pk + 1)) W3 HM3.out HNN.out HWN.out HWN.out).mono ?_
              rintro e w4 ⟨rfl, hb4⟩
              rw [sameB_self]
              have HS4 := Lib.hid ((hb4.block _ (by omega)).trans HS3.out)
              have HM4 := Lib.hid ((HM3.out.below hb4).more hb4.size)
              have HB4 := Lib.hid (belowNext HB3.out hb4)
              clear hb4 p0 p1 p2 p3 p4 r0 r1 r2 r3 r4
              obtain ⟨p0, p1, p2, p3, p4⟩ := five_cells HS4.out
              go_wp2_with fail
              refine (depth_any _ (nestT false (pk + 1)) w4 HM4.out HWN.out).mono ?_
              rintro e w5 ⟨rfl, hb5⟩
              have HB5 := Lib.hid (belowNext HB4.out hb5)
              rw [HD.out]
              clear hb5 p0 p1 p2 p3 p4
              go_wp2
              go_ret
              exact ⟨ret_bool (by simp; omega), HB5.out⟩
            · rw [nest_check_deep _ (by omega), printB_of (nest_check_deep (pk + 1) (by omega)) (by decide)]
              go_wp2_with fail
              refine (parse_any sy w2 hsl (HT.out.below HB2.out)).mono ?_
              rintro e w3 ⟨v3, rfl, hn3, hb3⟩
              rw [HSY.out, parse_deep _ (by omega)] at hn3 ⊢
              obtain ⟨P2, m2, e2, P3, m3, e3, P4, m4, e4, rfl⟩ := node_form hn3
              have HB3 := Lib.hid (belowNext HB2.out hb3)
              clear hn3 hb3
              have g40 : ¬ (1 : Int) + (pk : Int) ≤ 40 := by omega
              have g41 : (40 : Int) < 1 + (pk : Int) := by omega
              go_wp2
              go_ret
              exact ⟨ret_bool (by decide +kernel), belowNext HB3.out ((Below.refl _ _).alloc (Nat.le_refl _) _)⟩
end Go.Proofs.YtdcgffepdgldmaaDoor
