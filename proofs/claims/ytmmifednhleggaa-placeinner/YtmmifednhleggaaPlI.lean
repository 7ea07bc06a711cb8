/-
  The chapter's example (at the head of the statements of chapter 4), and whether two spots are the same.
-/
import Derived.Test.YtmmifednhleggaaPlH
import Derived.Test.YtmmifednhleggaaW11a
import Derived.Test.YtmmifednhleggaaW13a
namespace Go.Proofs.Ytmmifednhleggaa
open Go.RowKit Go.Sort Go.Maps

def hi4 : Tree := .mk ⟨#[116, 101, 120, 116]⟩ ⟨#[104, 105]⟩ [] [] []
def p4 : Tree := .mk ⟨#[112]⟩ ⟨#[]⟩ [] [] [hi4]
def doc4 : Tree := .mk ⟨#[100, 111, 99]⟩ ⟨#[]⟩ [] [] [p4]
theorem doc4_weigh : weigh doc4 ≤ 1000000 := by decide +kernel
theorem doc4_res : resolveB doc4 2 = some ([0], 0, 1) := by decide +kernel

set_option maxHeartbeats 2000000 in
set_option maxRecDepth 100000 in
theorem shown4_any (w : World) : Calls Try.prog 5 #[] w fun e w' => e = .returned (.bool true) ∧ Below w.heap.size w w' := by
  generalize hW : ((w.alloc (.cells #[.string ⟨#[116, 101, 120, 116]⟩, .string ⟨#[104, 105]⟩, .slice none 0 0, .slice none 0 0, .slice none 0 0] 31)).alloc
    (.cells #[.string ⟨#[112]⟩, .string ⟨#[]⟩, .slice none 0 0, .slice none 0 0, .slice (some ⟨w.heap.size, 0, none⟩) 1 1] 31)).alloc (.cells #[.string ⟨#[100, 111, 99]⟩, .string ⟨#[]⟩, .slice none 0 0, .slice none 0 0, .slice (some ⟨w.heap.size + 1, 0, none⟩) 1 1] 31) = W
  have HB : Hid (Below w.heap.size w W) := Lib.hid (by subst hW; exact (((Below.refl _ _).alloc (Nat.le_refl _) _).alloc (by simp) _).alloc (by simp; omega) _)
  have hz : W.heap.size = w.heap.size + 3 := by subst hW; simp
  have k1 : Kids W (Under W.heap.size) (.slice (some ⟨w.heap.size, 0, none⟩) 1 1) [hi4] := by
    rw [hz]; subst hW
    exact kids_row1 (by simp [go_sem, hi4, Tree.kind]) (by simp [go_sem, hi4, Tree.text]) (by simp [go_sem]) (by simp [go_sem]) (by simp [go_sem]) strs_none pairs_none kids_none (by unfold Under; omega)
  have k2 : Kids W (Under W.heap.size) (.slice (some ⟨w.heap.size + 1, 0, none⟩) 1 1) [p4] := by
    rw [hz] at k1 ⊢; subst hW
    exact kids_row1 (by simp [go_sem, p4, Tree.kind]) (by simp [go_sem, p4, Tree.text]) (by simp [go_sem]) (by simp [go_sem]) (by simp [go_sem]) strs_none pairs_none k1 (by unfold Under; omega)
  have HK : Hid (Node W (Under W.heap.size) (.agg #[.string ⟨#[100, 111, 99]⟩, .string ⟨#[]⟩, .slice none 0 0, .slice none 0 0, .slice (some ⟨w.heap.size + 1, 0, none⟩) 1 1]) doc4) := Lib.hid ⟨_, _, _, rfl, strs_none, pairs_none, k2⟩
  have HW := Lib.hid hW
  clear hW k1 k2 hz
  go_enter Try.func5, Try.ntmps5
  go_wp2_with fail
  rw [HW.out]
  refine (resolve_any _ doc4 2 W HK.out doc4_weigh (by decide) (by decide)).mono ?_
  rintro e w1 ⟨hb1, h1⟩
  rw [doc4_res] at h1
  rcases h1 with ⟨h1, _⟩ | ⟨p, j, o, A, c, h1, rfl, hi⟩
  · cases h1
  · simp only [Option.some.injEq, Prod.mk.injEq] at h1
    obtain ⟨rfl, rfl, rfl⟩ := h1
    have HB1 := Lib.hid (belowNext HB.out hb1)
    obtain ⟨b, o, rfl, _, hc⟩ := hi.get (k := 0) rfl
    have hcl := cell_lt hc
    have hne : ¬ b = w1.heap.size := by omega
    have hc' : (w1.alloc (.cells #[.slice (some ⟨b, o, none⟩) 1 c, .int .i64 0, .int .i64 1] 25)).cell? ⟨b, o, none⟩ = some (.int .i64 0) := cell_kept hc ((Below.refl _ _).alloc (Nat.le_refl _) _)
    have hlen := hi.len
    simp only [List.length_cons, List.length_nil] at hlen
    clear hb1 hi hc hne hcl
    go_wp2
    go_ret
    exact ⟨rfl, HB1.out.alloc HB1.out.size _⟩

set_option maxHeartbeats 2000000 in
theorem as4_any (v0 : Value) (j o : Int) (A : Option Addr) (n c : Nat) (h0 : v0 = .slice A n c) (w : World) :
    Calls Try.prog 11 #[.agg #[v0, .int .i64 j, .int .i64 o]] w fun e w' => e = .returned (.agg #[v0, .int .i64 j, .int .i64 o]) ∧ Below w.heap.size w w' := by
  subst h0
  go_enter Try.func11, Try.ntmps11
  go_wp2
  refine bodyPost_ret (v := .agg #[.slice A n c, .int .i64 j, .int .i64 o]) (by simp [results, Try.results11, go_sem]) rfl ⟨rfl, ((Below.refl _ _).alloc (Nat.le_refl _) _).alloc (by simp) _⟩

theorem ints_eq {a b : List Int} (hl : a.length = b.length) (h : ∀ i, i < a.length → a[i]? = b[i]?) : a = b := by
  apply List.ext_getElem?
  intro i
  by_cases hi : i < a.length
  · exact h i hi
  · rw [List.getElem?_eq_none (by omega), List.getElem?_eq_none (by omega)]

set_option maxHeartbeats 2000000 in
theorem same4_any (va vb : Value) (a b : List Int) (S S' : Nat → Prop) (w : World) (ha : Ints w S va a) (hb : Ints w S' vb b) :
    Calls Try.prog 28 #[va, vb] w fun e w' => e = .returned (.bool (decide (a = b))) ∧ ∃ n, w' = w.drewN n := by
  obtain ⟨A, c, rfl, hc⟩ := ha.form
  obtain ⟨A', c', rfl, hc'⟩ := hb.form
  have h1 := ha.len.2.2
  have h2 := hb.len.2.2
  unfold maxLen at h1 h2
  have HA := Lib.hid ha
  have HB := Lib.hid hb
  clear ha hb
  by_cases hl : a.length = b.length
  · have HL := Lib.hid hl
    have hl' : ((a.length : Int) != (b.length : Int)) = false := by simp [hl]
    clear hl
    go_enter Try.func28, Try.ntmps28
    go_wp2
    go_loopw [5] (fun i wr => ∃ k n : Nat, k ≤ a.length ∧ i = .int .i64 k ∧ wr = w.drewN n ∧ Hid (∀ j, j < k → a[j]? = b[j]?)) (fun i _ => a.length - (intOf i).toNat)
    case atStart => exact ⟨0, 0, by omega, rfl, rfl, fun j hj => absurd hj (by omega)⟩
    case round =>
      obtain ⟨k, n, hk, rfl, rfl, hall⟩ := hrel
      by_cases hlt : k < a.length
      · have hltb : k < b.length := by rw [← HL.out]; exact hlt
        have hax : a[k]? = some a[k] := List.getElem?_eq_getElem hlt
        have hbx : b[k]? = some b[k] := List.getElem?_eq_getElem hltb
        have HNE : Hid (a[k] ≠ b[k] → decide (a = b) = false) := Lib.hid fun hne => decide_eq_false fun e => hne (by subst e; rfl)
        have HEQ : Hid (a[k] = b[k] → a[k]? = b[k]?) := Lib.hid fun he => by rw [hax, hbx, he]
        generalize a[k] = x at *
        generalize b[k] = y at *
        obtain ⟨ba, oa, rfl, _, ca⟩ := HA.out.get hax
        obtain ⟨bb, ob, rfl, _, cb⟩ := HB.out.get hbx
        clear hax hbx
        by_cases hxy : x = y
        · have HE2 := Lib.hid (HEQ.out hxy)
          clear HEQ HNE
          subst hxy
          go_wp2
          go_quiet (fail)
          go_wp2
          exact ⟨⟨k + 1, _, by omega, by go_num, rfl, Lib.hid fun j hj => by
            by_cases e : j < k
            · exact hall.out j e
            · obtain rfl : j = k := by omega
              exact HE2.out⟩, by simp [intOf]; omega⟩
        · have hne : (x != y) = true := by simp [hxy]
          have HF := Lib.hid (HNE.out hxy)
          go_wp2
          go_quiet (fail)
          go_wp2
          go_ret
          exact ⟨ret_bool HF.out.symm, _, World.drewN_drewN _ _ _⟩
      · go_wp2
        go_ret
        exact ⟨ret_bool (decide_eq_true (ints_eq HL.out fun i hi => hall.out i (by omega))).symm, n, rfl⟩
  · have hl' : ((a.length : Int) != (b.length : Int)) = true := by simp; omega
    have HN : Hid (decide (a = b) = false) := Lib.hid (decide_eq_false fun e => hl (by rw [e]))
    clear hl
    go_enter Try.func28, Try.ntmps28
    go_wp2
    go_ret
    exact ⟨ret_bool HN.out.symm, 0, rfl⟩

set_option maxHeartbeats 2000000 in
theorem sameS_any (va vb : Value) (a b : List Int) (j o j' o' : Int) (w : World) (ha : Ints w (Under w.heap.size) va a) (hb : Ints w (Under w.heap.size) vb b) :
    Calls Try.prog 12 #[.agg #[va, .int .i64 j, .int .i64 o], .agg #[vb, .int .i64 j', .int .i64 o']] w fun e w' => e = .returned (.bool (decide (a = b) && ((j == j') && (o == o')))) ∧ Below w.heap.size w w' := by
  obtain ⟨A, c, rfl, hc⟩ := ha.form
  obtain ⟨A', c', rfl, hc'⟩ := hb.form
  have HA := Lib.hid ha
  have HB := Lib.hid hb
  clear ha hb
  obtain ⟨res, hres⟩ : ∃ r, r = (decide (a = b) && ((j == j') && (o == o'))) := ⟨_, rfl⟩
  rw [← hres]
  have HE := Lib.hid hres
  clear hres
  go_enter Try.func12, Try.ntmps12
  go_wp2_with fail
  generalize hW1 : (w.alloc (.cells #[.slice A a.length c, .int .i64 j, .int .i64 o] 36)).alloc (.cells #[.slice A' b.length c', .int .i64 j', .int .i64 o'] 36) = W1
  have hb1 : Below w.heap.size w W1 := by subst hW1; exact ((Below.refl _ _).alloc (Nat.le_refl _) _).alloc (by simp) _
  obtain ⟨x0, x1, x2⟩ := cells3 (show W1.heap[w.heap.size]? = some (.cells #[.slice A a.length c, .int .i64 j, .int .i64 o] 36) by subst hW1; exact heap_old _ _ _ (heap_new _ _))
  obtain ⟨y0, y1, y2⟩ := cells3 (show W1.heap[w.heap.size + 1]? = some (.cells #[.slice A' b.length c', .int .i64 j', .int .i64 o'] 36) by subst hW1; exact heap_new' _ _ (by simp))
  have HB1 := Lib.hid hb1
  clear hW1 hb1
  refine (same4_any _ _ a b (Under w.heap.size) (Under w.heap.size) W1 (HA.out.keep (fun _ h => h) (fun b hb => HB1.out.block b hb)) (HB.out.keep (fun _ h => h) (fun b hb => HB1.out.block b hb))).mono ?_
  rintro e w2 ⟨rfl, n, rfl⟩
  have HB2 : Hid (Below w.heap.size w (W1.drewN n)) := Lib.hid (HB1.out.trans ⟨rfl, rfl, rfl, Nat.le_refl _, fun _ _ => rfl⟩)
  generalize hr0 : decide (a = b) = r at *
  cases r with
  | false =>
    have HF : Hid (res = false) := Lib.hid (by rw [HE.out]; rfl)
    clear hr0
    go_wp2
    go_ret
    exact ⟨ret_bool HF.out.symm, HB2.out⟩
  | true =>
    generalize hr : (j == j') = r at *
    cases r with
    | false =>
      have HF : Hid (res = false) := Lib.hid (by rw [HE.out]; rfl)
      clear hr0
      go_wp2
      go_ret
      exact ⟨ret_bool HF.out.symm, HB2.out⟩
    | true =>
      have HF : Hid (res = (o == o')) := Lib.hid (by rw [HE.out]; rfl)
      clear hr0
      go_wp2
      go_ret
      exact ⟨ret_bool HF.out.symm, HB2.out⟩
end Go.Proofs.Ytmmifednhleggaa
