/-
  What token's alike, partLength, reads, words and written answer.
  What token's words and written answer.
  What token's written answers.
  What token's written answers: the signs of a text.
  The chapter's example (at the head of the statements of chapter 3).
  What two rows begin and end with alike: plain facts; TokenEnds walked.
  TokenLens.
  append of tokens, however many, to a row of the call's own; TokenLens walked.
  TokenLens walked.
  What token.Build answers.
  The tokens of a document made of raw numbers are small (no program is named here but for the type of tokens).
-/
import Derived.Test.YtaepolgmojkglaaDoorMF
import Derived.Test.YtaepolgmojkglaaDoorMB
import Derived.Test.YtaepolgmojkglaaDoorME
namespace Go.Proofs.YtaepolgmojkglaaDoor
open Go.RowKit Go.Sort Go.Maps

theorem int_eq (a b : Nat) : ((a : Int) == (b : Int)) = decide (a = b) := by
  by_cases h : a = b
  · subst h; simp
  · rw [decide_eq_false h]; exact beq_eq_false_iff_ne.2 (by omega)
theorem bytes_eq (a b : ByteArray) : (a.toList == b.toList) = decide (a = b) := by
  by_cases h : a = b
  · subst h; simp
  · rw [decide_eq_false h, Bool.eq_false_iff]; exact fun e => h ((bytes_iff a b).1 e)
/-- A token that lies in a block of its own. -/
abbrev TokO (a : Tok) : Obj := .cells #[.int .u8 (a.kind : Int), .string a.text, .string a.head] 34
abbrev TokA (a : Tok) : Value := .agg #[.int .u8 (a.kind : Int), .string a.text, .string a.head]
theorem tokO_cells {w : World} {g : Nat} {a : Tok} (h : w.heap[g]? = some (TokO a)) : w.cell? ⟨g, 0, none⟩ = some (.int .u8 (a.kind : Int)) ∧ w.cell? ⟨g, 1, none⟩ = some (.string a.text) ∧ w.cell? ⟨g, 2, none⟩ = some (.string a.head) :=
  ⟨by simp [World.cell?, h], by simp [World.cell?, h], by simp [World.cell?, h]⟩

set_option maxHeartbeats 2000000 in
theorem talike_any (a b : Tok) (w : World) :
    Calls Tryd.prog 35 #[TokA a, TokA b] w fun e w' => e = .returned (.bool (likeT a b)) ∧ Below w.heap.size w w' := by
  have hlk : likeT a b = (((a.kind : Int) == (116 : Int)) && (((b.kind : Int) == (116 : Int)) && (a.head.toList == b.head.toList))) := by
    unfold likeT; rw [show (116 : Int) = ((116 : Nat) : Int) from rfl, int_eq, int_eq, bytes_eq]
  rw [hlk]
  clear hlk
  have HB : Hid (Below w.heap.size w ((w.alloc (TokO a)).alloc (TokO b))) := Lib.hid (((Below.refl _ _).alloc (Nat.le_refl _) _).alloc (by simp) _)
  obtain ⟨x0, x1, x2⟩ := tokO_cells (w := (w.alloc (TokO a)).alloc (TokO b)) (g := w.heap.size) (a := a) (heap_old _ _ _ (heap_new _ _))
  obtain ⟨y0, y1, y2⟩ := tokO_cells (w := (w.alloc (TokO a)).alloc (TokO b)) (g := w.heap.size + 1) (a := b) (heap_new' _ _ (by simp))
  cases q0 : ((a.kind : Int) == (116 : Int)) with
  | false =>
    go_enter Tryd.func35, Tryd.ntmps35
    go_wp2
    go_ret
    exact ⟨rfl, HB.out⟩
  | true =>
    cases q1 : ((b.kind : Int) == (116 : Int)) with
    | false =>
      go_enter Tryd.func35, Tryd.ntmps35
      go_wp2
      go_ret
      exact ⟨rfl, HB.out⟩
    | true =>
      go_enter Tryd.func35, Tryd.ntmps35
      go_wp2
      go_ret
      exact ⟨rfl, HB.out⟩

theorem partN_step {l : List Tok} {k : Nat} {x y : Tok} (hx : l[k]? = some x) (hy : l[k + 1]? = some y) : partN (l.drop k) = if likeT x y then partN (l.drop (k + 1)) + 1 else 1 := by
  have h1 := (List.getElem?_eq_some_iff.1 hx).1
  have h2 := (List.getElem?_eq_some_iff.1 hy).1
  have e1 := (List.getElem?_eq_some_iff.1 hx).2
  have e2 := (List.getElem?_eq_some_iff.1 hy).2
  rw [List.drop_eq_getElem_cons h1, List.drop_eq_getElem_cons h2, e1, e2, partN]
theorem partN_last {l : List Tok} {k : Nat} (h : k + 1 = l.length) : partN (l.drop k) = 1 := by
  rw [List.drop_eq_getElem_cons (by omega), List.drop_eq_nil_of_le (by omega)]; rfl

set_option maxHeartbeats 4000000 in
set_option maxRecDepth 100000 in
theorem partLength_any (v : Value) (l : List Tok) (w : World) (h : Toks w (Under w.heap.size) v l) (h0 : l ≠ []) (hl : l.length ≤ 1000000) :
    Calls Tryd.prog 21 #[v] w fun e w' => e = .returned (.int .i64 (partN l)) ∧ Below w.heap.size w w' := by
  have hpos : 0 < l.length := List.length_pos_iff.2 h0
  have HL := Lib.hid h
  obtain ⟨A, c, rfl, _⟩ := h.form
  clear h
  go_enter Tryd.func21, Tryd.ntmps21
  go_wp2
  go_loopw [3] (fun i wr => ∃ k : Nat, k < l.length ∧ i = .int .i64 ((k : Int) + 1) ∧ Hid (partN l = k + partN (l.drop k)) ∧ Below w.heap.size w wr) (fun i _ => l.length + 1 - (intOf i).toNat)
  case atStart => exact ⟨0, hpos, rfl, Lib.hid (by simp), Below.refl _ _⟩
  case round =>
    obtain ⟨k, hk, rfl, hrun, hbr⟩ := hrel
    by_cases hlt : k + 1 < l.length
    · have hlx : l[k]? = some l[k] := List.getElem?_eq_getElem hk
      have hly : l[k + 1]? = some l[k + 1] := List.getElem?_eq_getElem hlt
      generalize l[k] = x at *
      generalize l[k + 1] = y at *
      have HST := Lib.hid (partN_step hlx hly)
      obtain ⟨b, o, rfl, hub, e0, e1, e2⟩ := HL.out.get hlx
      obtain ⟨b', o', he, _, d0, d1, d2⟩ := HL.out.get hly
      injection he with he; injection he with he1 he2; subst he1; subst he2
      have k0 := cell_regrown (cell_kept e0 hbr)
      have k1 := cell_regrown (cell_kept e1 hbr)
      have k2 := cell_regrown (cell_kept e2 hbr)
      have m0 := cell_regrown (cell_kept d0 hbr)
      have m1 := cell_regrown (cell_kept d1 hbr)
      have m2 := cell_regrown (cell_kept d2 hbr)
      have g1 : ((k : Int) + 1 - 1).toNat = k := by omega
      have g2 : ((k : Int) + 1).toNat = k + 1 := by omega
      have g3 : decide ((k : Int) + 1 < (l.length : Int)) = true := by simp; omega
      have HAL := Lib.hid (regrown_any (w := wr) fun W hW => talike_any x y W)
      clear e0 e1 e2 d0 d1 d2 hlx hly
      cases hal : likeT x y with
      | true =>
        rw [hal] at HST HAL
        clear hal
        go_wp2_with fail
        refine wp_region_quiet_below (by kernel_rfl) (by kernel_rfl) ?_
        repeat (first | go_big_quiet_step (exact HAL.out _ _) | quiet_step (exact HAL.out _ _))
        refine wpQuiet_nil ?_
        intro _ hw'
        obtain ⟨⟨dq, osq⟩, hw''⟩ := hw'
        subst hw''
        have HQ := Lib.hid (below_regrown wr dq osq)
        go_wp2
        exact ⟨⟨k + 1, hlt, by go_num, Lib.hid (by rw [hrun.out, HST.out]; simp; omega), belowNext hbr HQ.out⟩, by simp [intOf]; omega⟩
      | false =>
        rw [hal] at HST HAL
        clear hal
        go_wp2_with fail
        refine wp_region_quiet_below (by kernel_rfl) (by kernel_rfl) ?_
        repeat (first | go_big_quiet_step (exact HAL.out _ _) | quiet_step (exact HAL.out _ _))
        refine wpQuiet_nil ?_
        intro _ hw'
        obtain ⟨⟨dq, osq⟩, hw''⟩ := hw'
        subst hw''
        have HQ := Lib.hid (below_regrown wr dq osq)
        go_wp2
        go_ret
        exact ⟨ret_num (by rw [hrun.out, HST.out]; simp), belowNext hbr HQ.out⟩
    · have HR : Hid (partN (l.drop k) = 1) := Lib.hid (partN_last (by omega))
      have g3 : decide ((k : Int) + 1 < (l.length : Int)) = false := by simp; omega
      go_wp2_with fail
      refine wp_region_quiet_below (by kernel_rfl) (by kernel_rfl) ?_
      repeat (first | go_big_quiet_step (fail) | quiet_step (fail))
      refine wpQuiet_nil ?_
      intro _ hw'
      obtain ⟨⟨dq, osq⟩, hw''⟩ := hw'
      subst hw''
      have HQ := Lib.hid (below_regrown wr dq osq)
      go_wp2
      go_ret
      exact ⟨ret_num (by rw [hrun.out, HR.out]; omega), belowNext hbr HQ.out⟩

set_option maxHeartbeats 2000000 in
theorem reads_any (s : ByteArray) (w : World) (hs : s.size ≤ 100000) (hT : Tabs w) :
    Calls Tryd.prog 36 #[.string s] w fun e w' => e = .returned (.bool (readsB s.data.toList)) ∧ Below w.heap.size w w' := by
  have HT := Lib.hid hT
  clear hT
  go_enter Tryd.func36, Tryd.ntmps36
  go_wp2_with fail
  refine (parse_any s w hs HT.out).mono ?_
  rintro e w1 ⟨v, rfl, hn, hb⟩
  have HRB : Hid (readsB s.data.toList = ((parseB s.data.toList).2 == 0)) := Lib.hid (by unfold readsB; by_cases h : (parseB s.data.toList).2 = 0 <;> simp [h])
  obtain ⟨A2, n2, c2, A3, n3, c3, A4, n4, c4, rfl⟩ := node_form hn
  have HB := Lib.hid hb
  clear hn hb
  generalize (parseB s.data.toList).1.kind = x at *
  generalize (parseB s.data.toList).1.text = y at *
  generalize (parseB s.data.toList).2 = r at *
  have HB2 : Hid (Below w.heap.size w (w1.alloc (.cells #[.string x, .string y, .slice A2 n2 c2, .slice A3 n3 c3, .slice A4 n4 c4] 47))) := Lib.hid (HB.out.alloc HB.out.size _)
  go_wp2
  go_ret
  exact ⟨ret_bool HRB.out.symm, HB2.out⟩
end Go.Proofs.YtaepolgmojkglaaDoor

namespace Go.Proofs.YtaepolgmojkglaaDoor
open Go.RowKit Go.Sort Go.Maps

theorem says_take (l : List Tok) {k : Nat} {x : Tok} (h : l.take (k + 1) = l.take k ++ [x]) : saysL (l.take (k + 1)) = saysL (l.take k) ++ x.text.data.toList := by
  rw [h]; unfold saysL; simp
theorem says_le : ∀ l : List Tok, (∀ t ∈ l, t.text.size ≤ 1000) → (saysL l).length ≤ 1000 * l.length
  | [], _ => by simp [saysL]
  | t :: l, h => by
    have h1 := says_le l fun x hx => h x (by simp [hx])
    have h2 := h t (by simp)
    have h3 : (saysL (t :: l)) = t.text.data.toList ++ saysL l := by unfold saysL; simp
    have h4 := Lib.size_eq t.text
    rw [h3, List.length_append, List.length_cons]; omega
/-- What words answers. -/
def wordsT (l : List Tok) : ByteArray × Bool := if l.all (fun x => oneCp x.text) then (⟨(saysL l).toArray⟩, true) else (⟨#[]⟩, false)
theorem ret_sb {s t : ByteArray} {a b : Bool} (h : s = t) (h2 : a = b) : Ending.returned (.tuple #[.string s, .bool a]) = .returned (.tuple #[.string t, .bool b]) := by rw [h, h2]

set_option maxHeartbeats 4000000 in
set_option maxRecDepth 100000 in
theorem twords_any (v : Value) (l : List Tok) (w : World) (h : Toks w (Under w.heap.size) v l) (hl : l.length ≤ 10000) (hx : ∀ t ∈ l, t.text.size ≤ 1000) (hT : Tabs w) :
    Calls Tryd.prog 37 #[v] w fun e w' => e = .returned (.tuple #[.string (wordsT l).1, .bool (wordsT l).2]) ∧ Below w.heap.size w w' := by
  have HL := Lib.hid h
  have HT := Lib.hid hT
  have HX := Lib.hid hx
  obtain ⟨A, c, rfl, _⟩ := h.form
  clear h hT hx
  go_enter Tryd.func37, Tryd.ntmps37
  go_wp2_with fail
  have HBU := Lib.hid (buil_new w)
  have HW : Hid (Below w.heap.size w (w.alloc (.cells #[.pointer none, .slice none 0 0] 57))) := Lib.hid ((Below.refl _ _).alloc (Nat.le_refl _) _)
  generalize w.alloc (.cells #[.pointer none, .slice none 0 0] 57) = W1 at *
  go_wp2
  go_loopw [9] (fun i wr => ∃ k : Nat, k ≤ l.length ∧ i = .int .i64 k ∧ Hid ((l.take k).all (fun x => oneCp x.text) = true) ∧ Hid (Buil wr w.heap.size w.heap.size (saysL (l.take k))) ∧ Below w.heap.size w wr) (fun i _ => l.length - (intOf i).toNat)
  case atStart => exact ⟨0, by omega, rfl, Lib.hid (by simp), Lib.hid (by simpa [saysL] using HBU.out), HW.out⟩
  case round =>
    obtain ⟨k, hk, rfl, hall, hbu, hbr⟩ := hrel
    have hws := hbr.size
    by_cases hlt : k < l.length
    · have hlx : l[k]? = some l[k] := List.getElem?_eq_getElem hlt
      have HTK : Hid (l.take (k + 1) = l.take k ++ [l[k]]) := Lib.hid (List.take_succ_eq_append_getElem hlt)
      generalize l[k] = x at *
      obtain ⟨b, o, rfl, hub, e0, e1, e2⟩ := HL.out.get hlx
      have hxs := HX.out x (List.mem_of_getElem? hlx)
      have HMEM := Lib.hid (List.mem_of_getElem? hlx)
      have k0 := cell_kept e0 hbr
      have k1 := cell_kept e1 hbr
      have k2 := cell_kept e2 hbr
      have HBA : Hid (Below wr.heap.size wr (wr.alloc (TokO x))) := Lib.hid ((Below.refl _ _).alloc (Nat.le_refl _) _)
      have HBX := Lib.hid (hbr.trans (HBA.out.mono hws))
      have HBU2 := Lib.hid (hbu.out.below HBA.out)
      have HO : Hid ((wr.alloc (TokO x)).heap[wr.heap.size]? = some (TokO x)) := Lib.hid (heap_new _ _)
      obtain ⟨x0, x1, x2⟩ := tokO_cells HO.out
      clear e0 e1 e2 hlx
      go_wp2_with fail
      generalize hW2 : wr.alloc (TokO x) = W2 at *
      clear hW2
      refine (valid_any x.text W2 (by omega) (HT.out.below HBX.out)).mono ?_
      rintro e w3 ⟨rfl, hb3⟩
      have HB3 := Lib.hid (belowNext HBX.out hb3)
      have HBU3 := Lib.hid (HBU2.out.below hb3)
      have hlt3 : wr.heap.size < W2.heap.size := cell_lt x0
      have HO3 := Lib.hid ((hb3.block wr.heap.size hlt3).trans HO.out)
      obtain ⟨y0, y1, y2⟩ := tokO_cells HO3.out
      clear hb3 x0 x1 x2 k0 k1 k2
      cases hv : Lib.validD x.text.data.toList with
      | false =>
        have HF : Hid (wordsT l = (⟨#[]⟩, false)) := Lib.hid (by
          unfold wordsT
          rw [if_neg]
          intro hh
          have := List.all_eq_true.1 hh x HMEM.out
          simp only [oneCp, hv, Bool.false_and] at this
          cases this)
        clear hv
        go_wp2
        go_ret2
        rw [HF.out]
        exact ⟨rfl, HB3.out⟩
      | true =>
        go_wp2_with fail
        refine (runes_any x.text w3 (by omega)).mono ?_
        rintro e w4 ⟨rfl, hb4⟩
        have HB4 := Lib.hid (belowNext HB3.out hb4)
        have HBU4 := Lib.hid (HBU3.out.below hb4)
        have HO4 := Lib.hid ((hb4.block wr.heap.size (cell_lt y0)).trans HO3.out)
        obtain ⟨z0, z1, z2⟩ := tokO_cells HO4.out
        clear hb4 y0 y1 y2
        by_cases hr : Lib.runeCount x.text = 1
        · have HO1 : Hid (oneCp x.text = true) := Lib.hid (by unfold oneCp; rw [hv]; simp; exact hr)
          have hr' : (((Lib.runeCount x.text : Nat) : Int) != 1) = false := by rw [hr]; rfl
          have hsl : (saysL (l.take k)).length ≤ 10000000 := by
            have := says_le (l.take k) fun t ht => HX.out t (List.mem_of_mem_take ht)
            rw [List.length_take] at this; omega
          clear hv hr
          generalize (Lib.runeCount x.text : Nat) = rc at *
          go_wp2_with fail
          refine (write_any w.heap.size w.heap.size (saysL (l.take k)) x.text w4 HBU4.out (by omega) HB4.out.size).mono ?_
          rintro e w5 ⟨rfl, hbu5, hb5, _⟩
          have HB5 := Lib.hid (HB4.out.trans hb5)
          have HBU5 := Lib.hid hbu5
          clear hbu5 hb5 z0 z1 z2
          go_wp2
          exact ⟨⟨k + 1, by omega, by go_num, Lib.hid (by rw [HTK.out, List.all_append, hall.out]; simp [HO1.out]), Lib.hid (by rw [says_take l HTK.out]; exact HBU5.out), HB5.out⟩, by simp [intOf]; omega⟩
        · have HF : Hid (wordsT l = (⟨#[]⟩, false)) := Lib.hid (by
            unfold wordsT
            rw [if_neg]
            intro hh
            have := List.all_eq_true.1 hh x HMEM.out
            simp only [oneCp, Bool.and_eq_true, decide_eq_true_eq] at this
            exact hr this.2)
          have hr' : (((Lib.runeCount x.text : Nat) : Int) != 1) = true := by simp; omega
          clear hv hr
          generalize (Lib.runeCount x.text : Nat) = rc at *
          go_wp2
          go_ret2
          rw [HF.out]
          exact ⟨rfl, HB4.out⟩
    · obtain rfl : k = l.length := by omega
      have HF : Hid (wordsT l = (⟨(saysL l).toArray⟩, true)) := Lib.hid (by
        unfold wordsT
        have := hall.out
        rw [List.take_length] at this
        rw [if_pos this])
      rw [List.take_length] at hbu
      go_wp2_with fail
      refine (string_any w.heap.size w.heap.size _ wr hbu.out hws).mono ?_
      rintro e w3 ⟨rfl, _, hb3, _⟩
      have HB3 := Lib.hid (hbr.trans hb3)
      clear hb3
      go_wp2
      go_ret2
      rw [HF.out]
      exact ⟨rfl, HB3.out⟩
end Go.Proofs.YtaepolgmojkglaaDoor

namespace Go.Proofs.YtaepolgmojkglaaDoor
open Go.RowKit Go.Sort Go.Maps

/-- How written ends. -/
def WrittenPost (w : World) (p : List Tok) (e : Ending) (w' : World) : Prop :=
  (∃ s ok, e = .returned (.tuple #[.string s, .bool ok]) ∧ (partB p = none → ok = false) ∧ ∀ l, partB p = some l → ok = true ∧ s.data.toList = l) ∧ Below w.heap.size w w'
theorem catB (a b : ByteArray) : (a ++ b).data.toList = a.data.toList ++ b.data.toList := by rw [ByteArray.data_append]; simp
theorem sizeB_of {a : ByteArray} {l : List UInt8} (h : a.data.toList = l) : a.size = l.length := by rw [← h, Array.length_toList]; rfl
theorem none_text {s : ByteArray} : s.toList = [] ↔ s = ⟨#[]⟩ := by
  rw [Lib.toList_data]
  exact ⟨fun h => ByteArray.ext (Array.ext' h), fun h => by rw [h]⟩
theorem part_is_close {tx hd : ByteArray} (p : List Tok) (h1 : tx.toList = []) (h2 : hd.toList = []) : partB (⟨99, tx, hd⟩ :: p) = some [93] := by
  rw [none_text.1 h1, none_text.1 h2]
  exact part_close p
theorem part_is_open {tx hd : ByteArray} (p : List Tok) (h1 : tx.toList = []) : partB (⟨111, tx, hd⟩ :: p) = if readsB (hd.data.toList ++ [91, 93]) then some (hd.data.toList ++ [91]) else none := by
  rw [none_text.1 h1]
  unfold partB
  simp only
  rw [if_neg (show (⟨111, ⟨#[]⟩, hd⟩ : Tok) ≠ closeT from open_ne_close hd), if_pos (show (⟨111, ⟨#[]⟩, hd⟩ : Tok) = openT hd from rfl)]
theorem part_is_sign {tx hd : ByteArray} (p : List Tok) : partB (⟨116, tx, hd⟩ :: p) = if (⟨116, tx, hd⟩ :: p).all (fun x => oneCp x.text) && readsB (quoteL tx.data.toList ++ hd.data.toList) then some (quoteL (saysL (⟨116, tx, hd⟩ :: p)) ++ hd.data.toList) else none := by
  unfold partB
  simp only
  rw [if_neg (fun e => by injection e with e; exact absurd e (by decide)), if_neg (fun e => by injection e with e; exact absurd e (by decide)), if_pos trivial]
theorem part_is_none {k : Nat} {tx hd : ByteArray} (p : List Tok) (h116 : k ≠ 116) (h111 : k = 111 → ¬ tx.toList = []) (h99 : k = 99 → tx.toList = [] → ¬ hd.toList = []) : partB (⟨k, tx, hd⟩ :: p) = none := by
  unfold partB
  simp only
  rw [if_neg (fun e => by
    injection e with e1 e2 e3
    exact h99 e1 (none_text.2 e2) (none_text.2 e3)), if_neg (fun e => by
    injection e with e1 e2
    exact h111 e1 (none_text.2 e2)), if_neg h116]

section
variable {p : List Tok} {tx hd : ByteArray} {w : World} {v : Value}
/-- What each walk of written begins with. -/
structure WrAt (w : World) (v : Value) (k : Nat) (tx hd : ByteArray) (p : List Tok) : Prop where
  row : Toks w (Under w.heap.size) v (⟨k, tx, hd⟩ :: p)
  len : (⟨k, tx, hd⟩ :: p : List Tok).length ≤ 9000
  texts : ∀ x ∈ (⟨k, tx, hd⟩ :: p : List Tok), x.text.size ≤ 1000
  head : hd.size ≤ 5000
  tabs : Tabs w
def WrSaid (w : World) (v : Value) (k : Nat) (tx hd : ByteArray) (p : List Tok) : Prop := Calls Tryd.prog 22 #[v] w (WrittenPost w (⟨k, tx, hd⟩ :: p))

set_option maxHeartbeats 4000000 in
set_option maxRecDepth 100000 in
theorem wr_none {k : Nat} (h : WrAt w v k tx hd p) (h116 : k ≠ 116) (h111 : k = 111 → ¬ tx.toList = []) (h99 : k = 99 → tx.toList = [] → ¬ hd.toList = []) : WrSaid w v k tx hd p := by
  have HP := Lib.hid (part_is_none p h116 h111 h99)
  obtain ⟨A, c, rfl, hlc⟩ := h.row.form
  obtain ⟨b, o, rfl, hub, e0, e1, e2⟩ := h.row.get (i := 0) rfl
  rw [Nat.zero_mul, Nat.add_zero] at e0 e1 e2
  have hpl : (0 : Int) < ((⟨k, tx, hd⟩ :: p : List Tok).length : Int) := by rw [List.length_cons]; omega
  have HBA : Hid (Below w.heap.size w (w.alloc (TokO ⟨k, tx, hd⟩))) := Lib.hid ((Below.refl _ _).alloc (Nat.le_refl _) _)
  obtain ⟨x0, x1, x2⟩ := tokO_cells (w := w.alloc (TokO ⟨k, tx, hd⟩)) (heap_new _ _)
  have d116 : ¬ (k : Int) = 116 := by omega
  simp only at e0 e1 e2 x0 x1 x2
  unfold WrSaid
  clear h
  by_cases k111 : k = 111
  · have t0 := h111 k111
    subst k111
    clear h111 h99 h116 d116
    go_enter Tryd.func22, Tryd.ntmps22
    go_wp2
    go_ret2
    exact ⟨⟨_, _, rfl, fun _ => rfl, fun l hl => by rw [HP.out] at hl; cases hl⟩, HBA.out⟩
  · have d111 : ¬ (k : Int) = 111 := by omega
    by_cases k99 : k = 99
    · by_cases t0 : tx.toList = []
      · have t1 := h99 k99 t0
        subst k99
        clear h111 h99 h116 k111 d111 d116
        go_enter Tryd.func22, Tryd.ntmps22
        go_wp2
        go_ret2
        exact ⟨⟨_, _, rfl, fun _ => rfl, fun l hl => by rw [HP.out] at hl; cases hl⟩, HBA.out⟩
      · subst k99
        clear h111 h99 h116 k111 d111 d116
        go_enter Tryd.func22, Tryd.ntmps22
        go_wp2
        go_ret2
        exact ⟨⟨_, _, rfl, fun _ => rfl, fun l hl => by rw [HP.out] at hl; cases hl⟩, HBA.out⟩
    · have d99 : ¬ (k : Int) = 99 := by omega
      clear h111 h99 h116 k111 k99
      go_enter Tryd.func22, Tryd.ntmps22
      go_wp2
      go_ret2
      exact ⟨⟨_, _, rfl, fun _ => rfl, fun l hl => by rw [HP.out] at hl; cases hl⟩, HBA.out⟩

set_option maxHeartbeats 4000000 in
set_option maxRecDepth 100000 in
theorem wr_close (h : WrAt w v 99 tx hd p) (t0 : tx.toList = []) (t1 : hd.toList = []) : WrSaid w v 99 tx hd p := by
  have HP := Lib.hid (part_is_close p t0 t1)
  obtain ⟨A, c, rfl, hlc⟩ := h.row.form
  obtain ⟨b, o, rfl, hub, e0, e1, e2⟩ := h.row.get (i := 0) rfl
  rw [Nat.zero_mul, Nat.add_zero] at e0 e1 e2
  have hpl : (0 : Int) < ((⟨99, tx, hd⟩ :: p : List Tok).length : Int) := by rw [List.length_cons]; omega
  have HBA : Hid (Below w.heap.size w (w.alloc (TokO ⟨99, tx, hd⟩))) := Lib.hid ((Below.refl _ _).alloc (Nat.le_refl _) _)
  obtain ⟨x0, x1, x2⟩ := tokO_cells (w := w.alloc (TokO ⟨99, tx, hd⟩)) (heap_new _ _)
  simp only at e0 e1 e2 x0 x1 x2
  unfold WrSaid
  clear h
  go_enter Tryd.func22, Tryd.ntmps22
  go_wp2
  go_ret2
  exact ⟨⟨_, _, rfl, fun h => (by rw [HP.out] at h; cases h), fun l hl => by rw [HP.out] at hl; injection hl with hl; exact ⟨rfl, by rw [← hl]⟩⟩, HBA.out⟩

set_option maxHeartbeats 4000000 in
set_option maxRecDepth 100000 in
theorem wr_open (h : WrAt w v 111 tx hd p) (t0 : tx.toList = []) : WrSaid w v 111 tx hd p := by
  have HP := Lib.hid (part_is_open (hd := hd) p t0)
  have HT := Lib.hid h.tabs
  have hh := h.head
  obtain ⟨A, c, rfl, hlc⟩ := h.row.form
  obtain ⟨b, o, rfl, hub, e0, e1, e2⟩ := h.row.get (i := 0) rfl
  rw [Nat.zero_mul, Nat.add_zero] at e0 e1 e2
  have hpl : (0 : Int) < ((⟨111, tx, hd⟩ :: p : List Tok).length : Int) := by rw [List.length_cons]; omega
  have HBA : Hid (Below w.heap.size w (w.alloc (TokO ⟨111, tx, hd⟩))) := Lib.hid ((Below.refl _ _).alloc (Nat.le_refl _) _)
  have HO : Hid ((w.alloc (TokO ⟨111, tx, hd⟩)).heap[w.heap.size]? = some (TokO ⟨111, tx, hd⟩)) := Lib.hid (heap_new _ _)
  obtain ⟨x0, x1, x2⟩ := tokO_cells HO.out
  have HRD := Lib.hid (regrown_any (w := w.alloc (TokO ⟨111, tx, hd⟩)) fun W hW => reads_any (hd ++ ⟨#[91, 93]⟩) W (by have h1 := sizeB_of (catB hd ⟨#[91, 93]⟩); have h2 := Lib.size_eq hd; rw [List.length_append] at h1; have h3 : (⟨#[91, 93]⟩ : ByteArray).data.toList.length = 2 := rfl; omega) (HT.out.below (belowNext HBA.out hW)))
  have hrb : (hd ++ ⟨#[91, 93]⟩ : ByteArray).data.toList = hd.data.toList ++ [91, 93] := catB _ _
  rw [hrb] at HRD
  simp only at e0 e1 e2 x0 x1 x2
  unfold WrSaid
  clear h hrb
  have k2 := cell_regrown x2
  have hol1 : ¬ 9223372036854775807 < hd.size + 1 := by omega
  have hol2 : ¬ 9223372036854775807 < hd.size + 2 := by omega
  go_enter Tryd.func22, Tryd.ntmps22
  go_wp2_with fail
  generalize w.alloc (TokO ⟨111, tx, hd⟩) = W1 at *
  refine wp_region_quiet_below (by kernel_rfl) (by kernel_rfl) ?_
  repeat (first | go_big_quiet_step (exact HRD.out _ _) | quiet_step (exact HRD.out _ _))
  refine wpQuiet_nil ?_
  intro _ hw'
  obtain ⟨⟨dq, osq⟩, hw''⟩ := hw'
  subst hw''
  have HQ := Lib.hid (belowNext HBA.out (below_regrown W1 dq osq))
  generalize grow (redrawn W1 dq) osq = wq at *
  go_wp2
  go_ret2
  refine ⟨⟨_, _, rfl, fun h => ?_, fun l hl => ?_⟩, HQ.out⟩
  · rw [HP.out] at h
    split at h
    · cases h
    · rename_i hn; simpa using hn
  · rw [HP.out] at hl
    split at hl
    · rename_i hn
      injection hl with hl
      exact ⟨hn, by rw [← hl]; exact catB _ _⟩
    · cases hl
end
end Go.Proofs.YtaepolgmojkglaaDoor

namespace Go.Proofs.YtaepolgmojkglaaDoor
open Go.RowKit Go.Sort Go.Maps

section
variable {p : List Tok} {tx hd : ByteArray} {w : World} {v : Value}
set_option maxHeartbeats 4000000 in
set_option maxRecDepth 100000 in
theorem wr_sign (h : WrAt w v 116 tx hd p) : WrSaid w v 116 tx hd p := by
  have HP := Lib.hid (part_is_sign (tx := tx) (hd := hd) p)
  have HT := Lib.hid h.tabs
  have hh := h.head
  have hx := h.texts ⟨116, tx, hd⟩ (by simp)
  simp only at hx
  have HX := Lib.hid h.texts
  have HROW := Lib.hid h.row
  have hlen := h.len
  obtain ⟨A, c, rfl, hlc⟩ := h.row.form
  obtain ⟨b, o, rfl, hub, e0, e1, e2⟩ := h.row.get (i := 0) rfl
  rw [Nat.zero_mul, Nat.add_zero] at e0 e1 e2
  have hpl : (0 : Int) < ((⟨116, tx, hd⟩ :: p : List Tok).length : Int) := by rw [List.length_cons]; omega
  have HBA : Hid (Below w.heap.size w (w.alloc (TokO ⟨116, tx, hd⟩))) := Lib.hid ((Below.refl _ _).alloc (Nat.le_refl _) _)
  have HO : Hid ((w.alloc (TokO ⟨116, tx, hd⟩)).heap[w.heap.size]? = some (TokO ⟨116, tx, hd⟩)) := Lib.hid (heap_new _ _)
  obtain ⟨x0, x1, x2⟩ := tokO_cells HO.out
  simp only at e0 e1 e2 x0 x1 x2
  unfold WrSaid
  clear h
  go_enter Tryd.func22, Tryd.ntmps22
  go_wp2_with fail
  generalize w.alloc (TokO ⟨116, tx, hd⟩) = W1 at *
  refine (twords_any _ (⟨116, tx, hd⟩ :: p) W1 (HROW.out.keep (fun b hb => Nat.lt_of_lt_of_le hb HBA.out.size) (fun b hb => HBA.out.block b hb)) (by omega) HX.out (HT.out.below HBA.out)).mono ?_
  rintro e w3 ⟨rfl, hb3⟩
  have HB3 := Lib.hid (belowNext HBA.out hb3)
  have HO3 := Lib.hid ((hb3.block w.heap.size (cell_lt x0)).trans HO.out)
  obtain ⟨y0, y1, y2⟩ := tokO_cells HO3.out
  simp only at y0 y1 y2
  have k1 := cell_regrown y1
  have k2 := cell_regrown y2
  clear hb3 x0 x1 x2 e0 e1 e2
  have HWT : Hid (∃ s ok, wordsT (⟨116, tx, hd⟩ :: p) = (s, ok) ∧ ok = (⟨116, tx, hd⟩ :: p : List Tok).all (fun x => oneCp x.text) ∧ (ok = true → s.data.toList = saysL (⟨116, tx, hd⟩ :: p)) ∧ s.size ≤ 9000000) := Lib.hid (by
    unfold wordsT
    have hl := says_le _ HX.out
    by_cases hc : (⟨116, tx, hd⟩ :: p : List Tok).all (fun x => oneCp x.text) = true
    · rw [if_pos hc]
      refine ⟨_, _, rfl, hc.symm, fun _ => by simp, ?_⟩
      have := sizeB_of (a := ⟨(saysL (⟨116, tx, hd⟩ :: p)).toArray⟩) (l := saysL (⟨116, tx, hd⟩ :: p)) (by simp)
      omega
    · rw [if_neg hc]
      exact ⟨_, _, rfl, (Bool.eq_false_iff.2 hc).symm, (fun h => absurd h (by decide)), (by show (0 : Nat) ≤ 9000000; omega)⟩)
  obtain ⟨s, ok, hs, hok, hsay, hsz⟩ := HWT.out
  have HOK := Lib.hid hok
  have HSAY := Lib.hid hsay
  rw [hs]
  clear hs hok hsay HWT
  obtain ⟨q1, hq1⟩ : ∃ q : ByteArray, (⟨(quoteL s.data.toList).toArray⟩ : ByteArray) = q := ⟨_, rfl⟩
  have HQ1 := Lib.hid (regrown_any (w := w3) (f := 38) (args := #[.string s]) (v := .string q1) fun W _ => by rw [← hq1]; exact quote_any s W (by omega))
  have hq1d : q1.data.toList = quoteL s.data.toList := by rw [← hq1]
  have hq1s : q1.size ≤ 20000000 := by have h1 := sizeB_of hq1d; have h2 := quoteL_le s.data.toList; have h3 := Lib.size_eq s; omega
  have HQD := Lib.hid hq1d
  have hol1 : ¬ 9223372036854775807 < q1.size + hd.size := by omega
  clear hq1 hq1d
  cases ok with
  | false =>
    have HN : Hid (partB (⟨116, tx, hd⟩ :: p) = none) := Lib.hid (by rw [HP.out, ← HOK.out]; rfl)
    go_wp2_with fail
    refine wp_region_quiet_below (by kernel_rfl) (by kernel_rfl) ?_
    repeat (first | go_big_quiet_step (exact HQ1.out _ _) | quiet_step (exact HQ1.out _ _))
    refine wpQuiet_nil ?_
    intro _ hw'
    obtain ⟨⟨dq, osq⟩, hw''⟩ := hw'
    subst hw''
    have HQ := Lib.hid (belowNext HB3.out (below_regrown w3 dq osq))
    generalize grow (redrawn w3 dq) osq = wq at *
    go_wp2
    go_ret2
    exact ⟨⟨_, _, rfl, fun _ => rfl, fun l hl => by rw [HN.out] at hl; cases hl⟩, HQ.out⟩
  | true =>
    obtain ⟨q2, hq2⟩ : ∃ q : ByteArray, (⟨(quoteL tx.data.toList).toArray⟩ : ByteArray) = q := ⟨_, rfl⟩
    have HQ2 := Lib.hid (regrown_any (w := w3) (f := 38) (args := #[.string tx]) (v := .string q2) fun W _ => by rw [← hq2]; exact quote_any tx W (by omega))
    have hq2d : q2.data.toList = quoteL tx.data.toList := by rw [← hq2]
    have hq2s : q2.size ≤ 2002 := by have h1 := sizeB_of hq2d; have h2 := quoteL_le tx.data.toList; have h3 := Lib.size_eq tx; omega
    have hol2 : ¬ 9223372036854775807 < q2.size + hd.size := by omega
    have HQH : Hid ((q2 ++ hd).data.toList = quoteL tx.data.toList ++ hd.data.toList) := Lib.hid (by rw [catB, hq2d])
    have HRD := Lib.hid (regrown_any (w := w3) (f := 36) (args := #[.string (q2 ++ hd)]) (v := .bool (readsB (quoteL tx.data.toList ++ hd.data.toList))) fun W hW => by
      rw [← HQH.out]
      exact reads_any (q2 ++ hd) W (by rw [ByteArray.size_append]; omega) (HT.out.below (belowNext HB3.out hW)))
    generalize hrb : readsB (quoteL tx.data.toList ++ hd.data.toList) = rb at *
    have HRB := Lib.hid hrb
    clear hq2 hq2d hrb
    go_wp2_with fail
    refine wp_region_quiet_below (by kernel_rfl) (by kernel_rfl) ?_
    repeat (first | go_big_quiet_step (first | exact HQ1.out _ _ | exact HQ2.out _ _ | exact HRD.out _ _) | quiet_step (first | exact HQ1.out _ _ | exact HQ2.out _ _ | exact HRD.out _ _))
    refine wpQuiet_nil ?_
    intro _ hw'
    obtain ⟨⟨dq, osq⟩, hw''⟩ := hw'
    subst hw''
    have HQ := Lib.hid (belowNext HB3.out (below_regrown w3 dq osq))
    generalize grow (redrawn w3 dq) osq = wq at *
    go_wp2
    go_ret2
    refine ⟨⟨_, _, rfl, fun h => ?_, fun l hl => ?_⟩, HQ.out⟩
    · rw [HP.out, ← HOK.out, Bool.true_and] at h
      cases rb with
      | false => rfl
      | true => rw [if_pos rfl] at h; cases h
    · rw [HP.out, ← HOK.out, Bool.true_and] at hl
      cases rb with
      | false => rw [if_neg (by decide)] at hl; cases hl
      | true =>
        rw [if_pos rfl] at hl
        injection hl with hl
        exact ⟨rfl, by rw [← hl, catB, HQD.out, HSAY.out (by trivial)]⟩
end
/-- What written answers. -/
theorem twritten_any (v : Value) (t : Tok) (p : List Tok) (w : World) (h : Toks w (Under w.heap.size) v (t :: p)) (hl : (t :: p).length ≤ 9000) (hx : ∀ x ∈ t :: p, x.text.size ≤ 1000) (hh : t.head.size ≤ 5000) (hT : Tabs w) :
    Calls Tryd.prog 22 #[v] w (WrittenPost w (t :: p)) := by
  obtain ⟨k, tx, hd⟩ := t
  have H : WrAt w v k tx hd p := ⟨h, hl, hx, hh, hT⟩
  by_cases h116 : k = 116
  · subst h116; exact wr_sign H
  · by_cases h111 : k = 111
    · subst h111
      by_cases t0 : tx.toList = []
      · exact wr_open H t0
      · exact wr_none H h116 (fun _ => t0) (fun e => absurd e (by decide))
    · by_cases h99 : k = 99
      · subst h99
        by_cases t0 : tx.toList = []
        · by_cases t1 : hd.toList = []
          · exact wr_close H t0 t1
          · exact wr_none H h116 (fun e => absurd e h111) (fun _ _ => t1)
        · exact wr_none H h116 (fun e => absurd e h111) (fun _ h => absurd h t0)
      · exact wr_none H h116 (fun e => absurd e h111) (fun e => absurd e h99)
end Go.Proofs.YtaepolgmojkglaaDoor

namespace Go.Proofs.YtaepolgmojkglaaDoor
open Go.RowKit Go.Sort Go.Maps

def hi3 : Tree := .mk ⟨#[116, 101, 120, 116]⟩ ⟨#[104, 105]⟩ [] [] []
def para3 : Tree := .mk ⟨#[112, 97, 114, 97]⟩ ⟨#[]⟩ [] [] [hi3]
theorem para3_weigh : weighAll [para3] ≤ 1000000 := by decide +kernel
theorem para3_toks : toksB [para3] = [⟨111, ⟨#[]⟩, ⟨#[112, 97, 114, 97]⟩⟩, ⟨116, ⟨#[104]⟩, ⟨#[]⟩⟩, ⟨116, ⟨#[105]⟩, ⟨#[]⟩⟩, ⟨99, ⟨#[]⟩, ⟨#[]⟩⟩] := by decide +kernel

set_option maxHeartbeats 2000000 in
set_option maxRecDepth 100000 in
theorem shown3_any (w : World) : Calls Tryd.prog 6 #[] w fun e w' => e = .returned (.bool true) ∧ Below w.heap.size w w' := by
  generalize hW : (w.alloc (.cells #[.string ⟨#[116, 101, 120, 116]⟩, .string ⟨#[104, 105]⟩, .slice none 0 0, .slice none 0 0, .slice none 0 0] 47)).alloc
    (.cells #[.string ⟨#[112, 97, 114, 97]⟩, .string ⟨#[]⟩, .slice none 0 0, .slice none 0 0, .slice (some ⟨w.heap.size, 0, none⟩) 1 1] 47) = W
  have HB : Hid (Below w.heap.size w W) := Lib.hid (by subst hW; exact ((Below.refl _ _).alloc (Nat.le_refl _) _).alloc (by simp) _)
  have hz : W.heap.size = w.heap.size + 2 := by subst hW; simp
  have k1 : Kids W (Under W.heap.size) (.slice (some ⟨w.heap.size, 0, none⟩) 1 1) [hi3] := by
    rw [hz]; subst hW
    exact kids_row1 (by simp [go_sem, hi3, Tree.kind]) (by simp [go_sem, hi3, Tree.text]) (by simp [go_sem]) (by simp [go_sem]) (by simp [go_sem]) strs_none pairs_none kids_none (by unfold Under; omega)
  have k2 : Kids W (Under W.heap.size) (.slice (some ⟨w.heap.size + 1, 0, none⟩) 1 1) [para3] := by
    rw [hz] at k1 ⊢; subst hW
    exact kids_row1 (by simp [go_sem, para3, Tree.kind]) (by simp [go_sem, para3, Tree.text]) (by simp [go_sem]) (by simp [go_sem]) (by simp [go_sem]) strs_none pairs_none k1 (by unfold Under; omega)
  have HW := Lib.hid hW
  have HK := Lib.hid k2
  clear hW k1 k2 hz
  go_enter Tryd.func6, Tryd.ntmps6
  go_wp2_with fail
  rw [HW.out]
  refine (of_any _ [para3] W HK.out para3_weigh).mono ?_
  rintro e w1 ⟨v1, rfl, ht1, hb1⟩
  have HB1 := Lib.hid (belowNext HB.out hb1)
  rw [para3_toks] at ht1
  have hk1 := ht1.toks
  obtain ⟨A1, c1, rfl, _⟩ := hk1.form
  obtain ⟨b, o, rfl, _, x0, x1, x2⟩ := hk1.get (i := 0) rfl
  obtain ⟨b', o', he, _, y0, y1, y2⟩ := hk1.get (i := 1) rfl
  injection he with he; injection he with he1 he2; subst he1; subst he2
  obtain ⟨b', o', he, _, z0, z1, z2⟩ := hk1.get (i := 3) rfl
  injection he with he; injection he with he1 he2; subst he1; subst he2
  clear hb1 ht1 hk1
  simp only [Nat.zero_mul, Nat.one_mul, Nat.add_zero, Nat.reduceMul] at x0 x1 x2 y0 y1 y2 z0 z1 z2
  go_wp2
  go_ret
  exact ⟨rfl, HB1.out⟩
end Go.Proofs.YtaepolgmojkglaaDoor

namespace Go.Proofs.YtaepolgmojkglaaDoor
open Go.RowKit Go.Sort Go.Maps

theorem same_at : ∀ (a b : List Tok) (i : Nat), i < sameN a b → a[i]? = b[i]?
  | [], b, i, h => by cases b <;> simp [sameN] at h
  | a :: x, [], i, h => by simp [sameN] at h
  | a :: x, b :: y, i, h => by
    rw [sameN] at h
    split at h
    · rename_i he
      cases i with
      | zero => simp [he]
      | succ i => simpa using same_at x y i (by omega)
    · omega
theorem same_stop : ∀ (a b : List Tok), sameN a b < a.length → sameN a b < b.length → a[sameN a b]? ≠ b[sameN a b]?
  | [], b, h, _ => by simp at h
  | a :: x, [], _, h => by simp at h
  | a :: x, b :: y, h, h' => by
    by_cases he : a = b
    · have e : sameN (a :: x) (b :: y) = sameN x y + 1 := by rw [sameN, if_pos he]
      rw [e] at h h' ⊢
      simp only [List.length_cons, Nat.add_lt_add_iff_right] at h h'
      simpa using same_stop x y h h'
    · have e : sameN (a :: x) (b :: y) = 0 := by rw [sameN, if_neg he]
      rw [e]
      simpa using he
theorem back_sum (a b : List Tok) : sameN a b + backN a b ≤ a.length ∧ sameN a b + backN a b ≤ b.length := by
  have := sameN_le a b; unfold backN; omega
theorem back_at (a b : List Tok) (i : Nat) (h : i < backN a b) : a[a.length - 1 - i]? = b[b.length - 1 - i]? := by
  have h1 := back_sum a b
  have h2 : backN a b ≤ sameN a.reverse b.reverse := Nat.min_le_left _ _
  rw [get_rev (by omega), get_rev (by omega)]
  exact same_at _ _ i (by omega)
theorem back_stop (a b : List Tok) (h : sameN a b + backN a b < min a.length b.length) : a[a.length - 1 - backN a b]? ≠ b[b.length - 1 - backN a b]? := by
  have he : backN a b = sameN a.reverse b.reverse := by unfold backN at h ⊢; omega
  rw [get_rev (by omega), get_rev (by omega), he]
  have h1 := sameN_le a b
  exact same_stop _ _ (by rw [List.length_reverse, ← he]; omega) (by rw [List.length_reverse, ← he]; omega)

theorem tok_ne {x y : Tok} (h : x ≠ y) : ((x.kind : Int) == (y.kind : Int)) = false ∨ (((x.kind : Int) == (y.kind : Int)) = true ∧ (x.text.toList == y.text.toList) = false) ∨ (((x.kind : Int) == (y.kind : Int)) = true ∧ (x.text.toList == y.text.toList) = true ∧ (x.head.toList == y.head.toList) = false) := by
  have := tok_eq x y
  cases q0 : ((x.kind : Int) == (y.kind : Int)) with
  | false => exact .inl rfl
  | true =>
    cases q1 : (x.text.toList == y.text.toList) with
    | false => exact .inr (.inl ⟨rfl, rfl⟩)
    | true =>
      cases q2 : (x.head.toList == y.head.toList) with
      | false => exact .inr (.inr ⟨rfl, rfl, rfl⟩)
      | true => exact absurd (this.2 ⟨q0, q1, q2⟩) h
theorem toks_len_made (l : List Cel) : (toksB (madeB l)).length ≤ 760 := by
  rw [toksB_len]; exact Nat.le_trans (total_le_weigh _) (madeB_weigh l)

end Go.Proofs.YtaepolgmojkglaaDoor

namespace Go.Proofs.YtaepolgmojkglaaDoor
open Go.RowKit Go.Sort Go.Maps
theorem rtok_info : (Tryd.prog.info? 70).map (fun i => (i.zero, i.size, i.bytes)) = some (some (.agg #[.int .u8 0, .string ⟨#[]⟩, .string ⟨#[]⟩]), 3, 40) := by kernel_rfl
theorem toks_of_own {w : World} {base : Nat} {e : TypeId} {v : Value} {l : List Tok} (h : w.ownsRow base e 3 v l.length (l.flatMap tokCells)) : Toks w (From base w.heap.size) v l := by
  rcases h.2 with ⟨rfl, hm⟩ | ⟨g, cap, cur, rfl, hb, hg, hnc, hcap, hsz, htk⟩
  · exact ⟨none, 0, by rw [hm], by omega, by unfold maxLen; omega, .inl (List.eq_nil_of_length_eq_zero hm)⟩
  · refine ⟨_, cap, rfl, hnc, hcap, .inr ⟨g, 0, rfl, ⟨hb, (Array.getElem?_eq_some_iff.1 hg).1⟩, fun i t hi => ?_⟩⟩
    have hlt : i < l.length := (List.getElem?_eq_some_iff.1 hi).1
    have each : ∀ j u, j < 3 → (tokCells t)[j]? = some u → w.cell? ⟨g, 0 + i * 3 + j, none⟩ = some u := fun j u hj hu => by
      have e := flat3 l i j t hi hj
      rw [hu, ← htk, List.getElem?_take, if_pos (by omega)] at e
      rw [Nat.zero_add]
      simpa [World.cell?, hg] using e
    exact ⟨by simpa using each 0 _ (by omega) rfl, each 1 _ (by omega) rfl, each 2 _ (by omega) rfl⟩

set_option maxHeartbeats 4000000 in
set_option maxRecDepth 100000 in
theorem as_any (va : Value) (a : List Tok) (w : World) (ha : Toks w (Under w.heap.size) va a) (hla : a.length ≤ 1000000) :
    Calls Tryd.prog 14 #[va] w fun e w' => ∃ v, e = .returned v ∧ Toks w' (From w.heap.size w'.heap.size) v a ∧ Below w.heap.size w w' := by
  obtain ⟨A1, c1, rfl, _⟩ := ha.form
  have HA := Lib.hid ha
  clear ha
  go_enter Tryd.func14, Tryd.ntmps14
  go_wp2
  go_loopw [3, 4] (fun v i wr => ∃ k : Nat, k ≤ a.length ∧ i = .int .i64 k ∧ wr.ownsRow w.heap.size 70 3 v k ((a.take k).flatMap tokCells) ∧ Below w.heap.size w wr) (fun _ i _ => a.length - (intOf i).toNat)
  case atStart => exact ⟨0, by omega, rfl, ⟨rfl, .inl ⟨rfl, rfl⟩⟩, Below.refl _ _⟩
  case round =>
    obtain ⟨k, hk, rfl, hown, hbr⟩ := hrel
    have hws := hbr.size
    by_cases hlt : k < a.length
    · have hax : a[k]? = some a[k] := List.getElem?_eq_getElem hlt
      have HTK : Hid (a.take (k + 1) = a.take k ++ [a[k]]) := Lib.hid (List.take_succ_eq_append_getElem hlt)
      generalize a[k] = x at *
      obtain ⟨g1, o1, rfl, hu1, x0, x1, x2⟩ := HA.out.get hax
      have k0 := cell_kept x0 hbr
      have k1 := cell_kept x1 hbr
      have k2 := cell_kept x2 hbr
      have HOWN := Lib.hid hown
      obtain ⟨B3, m3, d3, rfl⟩ := ownsRow_form hown
      clear x0 x1 x2 hax hown
      have hlen : (a.take k).length = k := by rw [List.length_take]; omega
      have HBA : Hid (Below wr.heap.size wr (wr.alloc (.cells #[.int .u8 (x.kind : Int), .string x.text, .string x.head] 70)).drew) := Lib.hid (((Below.refl _ _).alloc (Nat.le_refl _) _).drew)
      have HOW2 : Hid ((wr.alloc (.cells #[.int .u8 (x.kind : Int), .string x.text, .string x.head] 70)).drew.ownsRow w.heap.size 70 3 (.slice B3 m3 d3) k ((a.take k).flatMap tokCells)) := Lib.hid (ownsRow_keep HOWN.out fun g hg => HBA.out.block _ (HOWN.out.lt g hg).2)
      have HF : Hid (∀ j u, (tokCells x)[j]? = some u → (wr.alloc (.cells #[.int .u8 (x.kind : Int), .string x.text, .string x.head] 70)).drew.cell? ⟨wr.heap.size, j, none⟩ = some u) := Lib.hid (fun j u hj => fresh_cell wr _ _ j u (by simpa [tokCells] using hj))
      have hbz : w.heap.size ≤ (wr.alloc (.cells #[.int .u8 (x.kind : Int), .string x.text, .string x.head] 70)).drew.heap.size := Nat.le_trans hws HBA.out.size
      have hk8 : k + 1 ≤ 100000000 := by omega
      have HBZ := Lib.hid hbz
      clear hbz hlen
      go_wp2
      go_region_law (refine step_append_gen Tryd.underlying37 rtok_info rfl (by decide) (by decide) rfl (.tmp 11) (.tmp 28) rfl w.heap.size (.slice B3 m3 d3) k _ wr.heap.size 1 (tokCells x) rfl rfl HOW2.out rfl HF.out (tok_one _) hk8 HBZ.out ?_; intro v6 w6 hown6 hg6; obtain ⟨B6, m6, d6, rfl⟩ := ownsRow_form hown6; have HOW6 := Lib.hid hown6; have HB6 := Lib.hid (hbr.trans ((HBA.out.mono hws).trans ((Below.refl _ _).grown hg6 HBZ.out fun k hk => (HOW2.out.lt k hk).1))); clear hown6 hg6)
      all_goals
        go_wp2
        exact ⟨⟨k + 1, by omega, by go_num, by rw [HTK.out, List.flatMap_append]; simpa using HOW6.out, HB6.out⟩, by simp [intOf]; omega⟩
    · go_wp2
      go_ret
      obtain rfl : k = a.length := by omega
      refine ⟨_, rfl, ?_, hbr⟩
      rw [List.take_length] at hown
      exact toks_of_own hown
theorem take_ne {a b : List Tok} {k : Nat} {x y : Tok} (hx : a[k]? = some x) (hy : b[k]? = some y) (h : x ≠ y) : decide (a = b) = false := by
  rw [decide_eq_false_iff_not]; rintro rfl; exact h (Option.some.inj (hx.symm.trans hy))

set_option maxHeartbeats 4000000 in
set_option maxRecDepth 100000 in
theorem same3_any (va vb : Value) (a b : List Tok) (w : World) (ha : Toks w (Under w.heap.size) va a) (hb : Toks w (Under w.heap.size) vb b) (hla : a.length ≤ 1000000) (hlb : b.length ≤ 1000000) :
    Calls Tryd.prog 13 #[va, vb] w fun e w' => e = .returned (.bool (decide (a = b))) ∧ Below w.heap.size w w' := by
  obtain ⟨A1, c1, rfl, _⟩ := ha.form
  obtain ⟨A2, c2, rfl, _⟩ := hb.form
  have HA := Lib.hid ha
  have HB := Lib.hid hb
  clear ha hb
  by_cases hl : a.length = b.length
  · have hl' : ((a.length : Int) != (b.length : Int)) = false := by simp [hl]
    have HL := Lib.hid hl
    clear hl
    go_enter Tryd.func13, Tryd.ntmps13
    go_wp2
    go_loopw [5] (fun i wr => ∃ k : Nat, k ≤ a.length ∧ i = .int .i64 k ∧ Hid (a.take k = b.take k) ∧ Below w.heap.size w wr) (fun i _ => a.length - (intOf i).toNat)
    case atStart => exact ⟨0, by omega, rfl, Lib.hid rfl, Below.refl _ _⟩
    case round =>
      obtain ⟨k, hk, rfl, hst, hbr⟩ := hrel
      by_cases hlt : k < a.length
      · have hltb : k < b.length := by have := HL.out; omega
        have hax : a[k]? = some a[k] := List.getElem?_eq_getElem hlt
        have hby : b[k]? = some b[k] := List.getElem?_eq_getElem hltb
        have HTA : Hid (a.take (k + 1) = a.take k ++ [a[k]]) := Lib.hid (List.take_succ_eq_append_getElem hlt)
        have HTB : Hid (b.take (k + 1) = b.take k ++ [b[k]]) := Lib.hid (List.take_succ_eq_append_getElem hltb)
        generalize a[k] = x at *
        generalize b[k] = y at *
        have HNE := Lib.hid (take_ne hax hby)
        obtain ⟨g1, o1, rfl, hu1, x0, x1, x2⟩ := HA.out.get hax
        obtain ⟨g2, o2, rfl, hu2, y0, y1, y2⟩ := HB.out.get hby
        have k0 := cell_regrown (cell_kept x0 hbr)
        have k1 := cell_regrown (cell_kept x1 hbr)
        have k2 := cell_regrown (cell_kept x2 hbr)
        have m0 := cell_regrown (cell_kept y0 hbr)
        have m1 := cell_regrown (cell_kept y1 hbr)
        have m2 := cell_regrown (cell_kept y2 hbr)
        have lkb : (k : Int) < (b.length : Int) := by omega
        clear x0 x1 x2 y0 y1 y2 hax hby
        by_cases hxy : x = y
        · subst hxy
          go_wp2_with fail
          refine wp_region_quiet_below (by kernel_rfl) (by kernel_rfl) ?_
          repeat (first | go_big_quiet_step (fail) | quiet_step (fail))
          refine wpQuiet_nil ?_
          intro _ hw'
          obtain ⟨⟨dq, osq⟩, hw''⟩ := hw'
          subst hw''
          have HQ := Lib.hid (below_regrown wr dq osq)
          generalize grow (redrawn wr dq) osq = wq at *
          go_wp2
          exact ⟨⟨k + 1, by omega, by go_num, Lib.hid (by rw [HTA.out, HTB.out, hst.out]), belowNext hbr HQ.out⟩, by simp [intOf]; omega⟩
        · have HR := Lib.hid (HNE.out hxy)
          rcases tok_ne hxy with q0 | ⟨q0, q1⟩ | ⟨q0, q1, q2⟩
          · have p0 : ((x.kind : Int) != (y.kind : Int)) = true := by simp [bne, q0]
            clear q0
            go_wp2_with fail
            refine wp_region_quiet_below (by kernel_rfl) (by kernel_rfl) ?_
            repeat (first | go_big_quiet_step (fail) | quiet_step (fail))
            refine wpQuiet_nil ?_
            intro _ hw'
            obtain ⟨⟨dq, osq⟩, hw''⟩ := hw'
            subst hw''
            have HQ := Lib.hid (below_regrown wr dq osq)
            generalize grow (redrawn wr dq) osq = wq at *
            go_wp2
            go_ret
            exact ⟨ret_bool HR.out.symm, belowNext hbr HQ.out⟩
          · have p0 : ((x.kind : Int) != (y.kind : Int)) = false := by simp [bne, q0]
            have p1 : (x.text.toList != y.text.toList) = true := by simp [bne, q1]
            clear q0
            go_wp2_with fail
            refine wp_region_quiet_below (by kernel_rfl) (by kernel_rfl) ?_
            repeat (first | go_big_quiet_step (fail) | quiet_step (fail))
            refine wpQuiet_nil ?_
            intro _ hw'
            obtain ⟨⟨dq, osq⟩, hw''⟩ := hw'
            subst hw''
            have HQ := Lib.hid (below_regrown wr dq osq)
            generalize grow (redrawn wr dq) osq = wq at *
            go_wp2
            go_ret
            exact ⟨ret_bool HR.out.symm, belowNext hbr HQ.out⟩
          · have p0 : ((x.kind : Int) != (y.kind : Int)) = false := by simp [bne, q0]
            have p1 : (x.text.toList != y.text.toList) = false := by simp [bne, q1]
            have p2 : (x.head.toList != y.head.toList) = true := by simp [bne, q2]
            clear q0
            go_wp2_with fail
            refine wp_region_quiet_below (by kernel_rfl) (by kernel_rfl) ?_
            repeat (first | go_big_quiet_step (fail) | quiet_step (fail))
            refine wpQuiet_nil ?_
            intro _ hw'
            obtain ⟨⟨dq, osq⟩, hw''⟩ := hw'
            subst hw''
            have HQ := Lib.hid (below_regrown wr dq osq)
            generalize grow (redrawn wr dq) osq = wq at *
            go_wp2
            go_ret
            exact ⟨ret_bool HR.out.symm, belowNext hbr HQ.out⟩
      · go_wp2
        go_ret
        refine ⟨ret_bool ?_, hbr⟩
        have h := hst.out
        rw [List.take_of_length_le (by omega), List.take_of_length_le (by have := HL.out; omega)] at h
        exact (decide_eq_true h).symm
  · have hl' : ((a.length : Int) != (b.length : Int)) = true := by simp; omega
    have HN : Hid (decide (a = b) = false) := Lib.hid (by rw [decide_eq_false_iff_not]; rintro rfl; exact hl rfl)
    clear hl
    go_enter Tryd.func13, Tryd.ntmps13
    go_wp2
    go_ret
    exact ⟨ret_bool HN.out.symm, Below.refl _ _⟩
end Go.Proofs.YtaepolgmojkglaaDoor

namespace Go.Proofs.YtaepolgmojkglaaDoor
open Go.RowKit Go.Sort Go.Maps

theorem TRow.form {w : World} {base : Nat} {v : Value} {l : List Tok} (h : TRow w base v l) : (v = .slice none 0 0 ∧ l = []) ∨ ∃ g c, v = .slice (some ⟨g, 0, none⟩) l.length c ∧ l.length ≤ c := by
  rcases h.2 with ⟨rfl, hm⟩ | ⟨g, cap, cur, rfl, hb, hg, hnc, _⟩
  · exact .inl ⟨rfl, List.eq_nil_of_length_eq_zero hm⟩
  · exact .inr ⟨g, cap, rfl, hnc⟩
theorem flat_get : ∀ (l : List Tok) (j : Nat) (u : Value), (l.flatMap tokCells)[j]? = some u → ∃ i t k, j = i * 3 + k ∧ k < 3 ∧ l[i]? = some t ∧ (tokCells t)[k]? = some u
  | [], j, u, h => by simp at h
  | t :: l, j, u, h => by
    rw [List.flatMap_cons] at h
    by_cases hj : j < 3
    · rw [List.getElem?_append_left (by rw [tokCells_len]; exact hj)] at h
      exact ⟨0, t, j, by omega, hj, rfl, h⟩
    · rw [List.getElem?_append_right (by rw [tokCells_len]; omega), tokCells_len] at h
      obtain ⟨i, t', k, e, hk, hi, hu⟩ := flat_get l _ u h
      exact ⟨i + 1, t', k, by omega, hk, by simpa using hi, hu⟩
theorem flat_len (l : List Tok) : (l.flatMap tokCells).length = l.length * 3 := by
  induction l with
  | nil => rfl
  | cons t l ih => rw [List.flatMap_cons, List.length_append, ih, tokCells_len, List.length_cons]; omega
set_option maxRecDepth 100000 in
/-- append of tokens to a row of the call's own. -/
theorem run_append_toks {w : World} {base : Nat} {S : Nat → Prop} {v x : Value} {l l' : List Tok} (ty : TypeId) (hown : TRow w base v l) (hsrc : Toks w S x l')
    (hn : l.length + l'.length ≤ 1000000) (hbase : base ≤ w.heap.size) :
    ∃ v' w', (Builtin.append_ #[26, 26] ty #[v, x]).run Tryd.prog w = .ok v' w' ∧ TRow w' base v' (l ++ l') ∧ w.grownBy w' v.ownBlock := by
  obtain ⟨A, c, rfl, _, _, hsrc⟩ := hsrc
  obtain ⟨i, hi, hz0, hz1, hz2⟩ := info_parts tok_info
  cases A with
  | none =>
    have hl : l' = [] := by
      rcases hsrc with h | ⟨b, o, h, _⟩
      · exact h
      · cases h
    subst hl
    refine ⟨v, w, ?_, by simpa using hown, ⟨rfl, rfl, rfl, Nat.le_refl _, fun _ _ _ => rfl⟩⟩
    rcases hown.2 with ⟨rfl, h0⟩ | ⟨g, cap, cur, rfl, _, _, hnc, _⟩
    · simp [Builtin.append_, run_underlying Tryd.underlying26, sizeOf, typeInfo, hi, Builtin.lenOf, Builtin.firstCells]
    · simp [Builtin.append_, run_underlying Tryd.underlying26, sizeOf, typeInfo, hi, Builtin.lenOf, Builtin.firstCells, hnc, storeCells]
  | some a =>
    have ha : ∀ j u, (l'.flatMap tokCells)[j]? = some u → w.cell? (a.add j) = some u := by
      rcases hsrc with h | ⟨b, o, h, _, hx⟩
      · subst h; intro j u h; simp at h
      · injection h with h; subst h
        intro j u hj
        obtain ⟨q, t, k, rfl, hk, hq, hu⟩ := flat_get l' j u hj
        obtain ⟨x0, x1, x2⟩ := hx q t hq
        rw [add_cell]
        match k, hk, hu with
        | 0, _, hu => rw [← Nat.add_assoc]; injection hu with hu; rw [← hu]; exact x0
        | 1, _, hu => rw [← Nat.add_assoc]; injection hu with hu; rw [← hu]; exact x1
        | 2, _, hu => rw [← Nat.add_assoc]; injection hu with hu; rw [← hu]; exact x2
    have hone : ∀ u ∈ l'.flatMap tokCells, u.oneCell' = true := by
      intro u hu
      obtain ⟨t, _, ht⟩ := List.mem_flatMap.1 hu
      exact tok_one t u ht
    obtain ⟨v', w', hr, h1, h2, _, h4⟩ := run_append_own_at (P := Tryd.prog) w base 26 ty 34 i _ 3 40 Tryd.underlying26 hi hz0 hz1 hz2 rfl (by omega) v l.length _ hown a l'.length c _ (flat_len l') ha hone (by unfold maxLen; omega) (by omega) hbase
    exact ⟨v', w', hr, by unfold TRow; rw [List.length_append, List.flatMap_append]; exact h1, h2⟩

section
variable {w : World} {ops : Array Oper} {rest : List Oper} {o : Oper} {a : Act} {Q : Exit → Act → World → Prop}
theorem wp_append_toks {K : Act → World → Prop} (s x : Operand) (ho : o.op = .call { callee := .builtin .append, args := #[s, x], argTypes := #[26, 26] })
    (base : Nat) (S : Nat → Prop) (v u : Value) (l l' : List Tok) (hs : a.eval s = v) (hx : a.eval x = u) (hown : TRow w base v l) (hsrc : Toks w S u l')
    (hn : l.length + l'.length ≤ 1000000) (hbase : base ≤ w.heap.size)
    (h : ∀ v' w', TRow w' base v' (l ++ l') → w.grownBy w' v.ownBlock → K (a.put o.dst v') w') : o.wp Tryd.prog a w K Q := by
  obtain ⟨v', w', hr, h1, h2⟩ := run_append_toks o.type hown hsrc hn hbase
  unfold Oper.wp execOp
  simp only [ho, resolve, invoke, builtin, Sem.run_bind, Sem.run_pure, Result.andThen_ok, List.map_toArray, List.map_cons, List.map_nil, hs, hx, hr]
  exact h v' w' h1 h2
theorem wpList_append_toks (hgd : o.guard = none) (s x : Operand) (ho : o.op = .call { callee := .builtin .append, args := #[s, x], argTypes := #[26, 26] })
    (base : Nat) (S : Nat → Prop) (v u : Value) (l l' : List Tok) (hs : a.eval s = v) (hx : a.eval x = u) (hown : TRow w base v l) (hsrc : Toks w S u l')
    (hn : l.length + l'.length ≤ 1000000) (hbase : base ≤ w.heap.size)
    (h : ∀ v' w', TRow w' base v' (l ++ l') → w.grownBy w' v.ownBlock → wpList Tryd.prog ops Q rest (a.put o.dst v') w') : wpList Tryd.prog ops Q (o :: rest) a w :=
  wpList_plain hgd fun _ hK => wp_append_toks s x ho base S v u l l' hs hx hown hsrc hn hbase fun v' w' h1 h2 => hK _ _ (h v' w' h1 h2)
theorem step_append_toks {K : Act → World → Prop} {E : Prop} (hgd : o.guard = none) (s x : Operand) (ho : o.op = .call { callee := .builtin .append, args := #[s, x], argTypes := #[26, 26] })
    (base : Nat) (S : Nat → Prop) (v u : Value) (l l' : List Tok) (hs : a.eval s = v) (hx : a.eval x = u) (hown : TRow w base v l) (hsrc : Toks w S u l')
    (hn : l.length + l'.length ≤ 1000000) (hbase : base ≤ w.heap.size)
    (h : ∀ v' w', TRow w' base v' (l ++ l') → w.grownBy w' v.ownBlock → K (a.put o.dst v') w') :
    if Region.wanted o (yielded ops a.tmps) = true then Oper.wp Tryd.prog o a w K Q else E := by
  have hw : Region.wanted o (yielded ops a.tmps) = true := by simp [Region.wanted, hgd]
  rw [if_pos hw]
  exact wp_append_toks s x ho base S v u l l' hs hx hown hsrc hn hbase h
end

theorem same_symm : ∀ a b : List Tok, sameN a b = sameN b a
  | [], b => by cases b <;> rfl
  | a :: x, [] => rfl
  | a :: x, b :: y => by
    rw [sameN, sameN, same_symm x y]
    by_cases h : a = b
    · rw [if_pos h, if_pos h.symm]
    · rw [if_neg h, if_neg (Ne.symm h)]
theorem back_symm (a b : List Tok) : backN a b = backN b a := by
  unfold backN; rw [same_symm a b, same_symm a.reverse b.reverse, Nat.min_comm a.length]
theorem take_same (x y : List Tok) : x.take (sameN x y) = y.take (sameN x y) := by
  apply List.ext_getElem?
  intro i
  by_cases h : i < sameN x y
  · rw [List.getElem?_take_of_lt h, List.getElem?_take_of_lt h]; exact same_at x y i h
  · rw [List.getElem?_take_eq_none (by omega), List.getElem?_take_eq_none (by omega)]
theorem drop_same (x y : List Tok) : x.drop (x.length - backN x y) = y.drop (y.length - backN x y) := by
  have hs := back_sum x y
  apply List.ext_getElem?
  intro i
  rw [List.getElem?_drop, List.getElem?_drop]
  by_cases h : i < backN x y
  · have := back_at x y (backN x y - 1 - i) (by omega)
    rw [show x.length - 1 - (backN x y - 1 - i) = x.length - backN x y + i by omega, show y.length - 1 - (backN x y - 1 - i) = y.length - backN x y + i by omega] at this
    exact this
  · rw [List.getElem?_eq_none (by omega), List.getElem?_eq_none (by omega)]
/-- What both begin with, what is left between, and what both end with. -/
theorem lens_all (x y : List Tok) : [] ++ x.take (sameN x y) ++ (y.drop (sameN x y)).take (y.length - backN x y - sameN x y) ++ x.drop (x.length - backN x y) = y := by
  have hs := back_sum x y
  rw [List.nil_append, take_same, drop_same]
  have h1 : (y.drop (sameN x y)).drop (y.length - backN x y - sameN x y) = y.drop (y.length - backN x y) := by
    rw [List.drop_drop]; congr 1; omega
  rw [← h1, List.append_assoc, List.take_append_drop, List.take_append_drop]
end Go.Proofs.YtaepolgmojkglaaDoor

namespace Go.Proofs.YtaepolgmojkglaaDoor
open Go.RowKit Go.Sort Go.Maps

theorem TRow.some {w : World} {base : Nat} {v : Value} {l : List Tok} (h : TRow w base v l) (hn : v ≠ .slice none 0 0) : ∃ g c, v = .slice (some ⟨g, 0, none⟩) l.length c ∧ l.length ≤ c := by
  rcases h.form with ⟨e, _⟩ | h
  · exact absurd e hn
  · exact h
/-- A part of a row. -/
theorem Toks.part {w : World} {S : Nat → Prop} {A : Option Addr} {c : Nat} {l : List Tok} (h : Toks w S (.slice A l.length c) l) (i n : Nat) (hin : i + n ≤ l.length) {A' : Option Addr} {d : Nat} (hd : n ≤ d) (hdc : d ≤ c) (hA : n = 0 ∨ ∃ b o, A = some ⟨b, o, none⟩ ∧ A' = some ⟨b, o + i * 3, none⟩) : Toks w S (.slice A' n d) ((l.drop i).take n) := by
  obtain ⟨A0, c', hv, h1, h2, h3⟩ := h
  injection hv with hv1 hv2 hv3
  subst hv3
  have hl : ((l.drop i).take n).length = n := by rw [List.length_take, List.length_drop]; omega
  refine ⟨_, d, by rw [hl], by omega, by omega, ?_⟩
  rcases hA with rfl | ⟨b, o, rfl, rfl⟩
  · exact .inl (by simp)
  · by_cases h0 : (l.drop i).take n = []
    · exact .inl h0
    · rcases h3 with rfl | ⟨b', o', ha, hb, hc⟩
      · simp at h0
      · rw [← hv1] at ha
        injection ha with ha
        injection ha with ha1 ha2
        subst ha1; subst ha2
        refine .inr ⟨b, o + i * 3, rfl, hb, fun j t hj => ?_⟩
        have hjn : j < n := by have := (List.getElem?_eq_some_iff.1 hj).1; omega
        rw [List.getElem?_take_of_lt hjn, List.getElem?_drop] at hj
        have := hc (i + j) t hj
        rw [show o + (i + j) * 3 = o + i * 3 + j * 3 by omega] at this
        exact this

end Go.Proofs.YtaepolgmojkglaaDoor

namespace Go.Proofs.YtaepolgmojkglaaDoor
open Go.RowKit Go.Sort Go.Maps

/-- How much there is to write. -/
def tokW (l : List Tok) : Nat := (l.map fun t => 2 * t.text.size + t.head.size + 3).sum
theorem tokW_cons (t : Tok) (l : List Tok) : tokW (t :: l) = 2 * t.text.size + t.head.size + 3 + tokW l := by unfold tokW; rw [List.map_cons, List.sum_cons]
theorem tokW_app (a b : List Tok) : tokW (a ++ b) = tokW a + tokW b := by unfold tokW; rw [List.map_append, List.sum_append]
theorem says_tokW : ∀ l : List Tok, 2 * (saysL l).length + 3 * l.length ≤ tokW l
  | [] => by simp [saysL, tokW]
  | t :: l => by
    have h1 := says_tokW l
    have h3 : (saysL (t :: l)) = t.text.data.toList ++ saysL l := by unfold saysL; simp
    have h4 := Lib.size_eq t.text
    rw [h3, List.length_append, List.length_cons, tokW_cons]; omega
theorem part_tokW {t : Tok} {p : List Tok} {s : List UInt8} (h : partB (t :: p) = some s) : s.length ≤ tokW (t :: p) := by
  have hs := says_tokW (t :: p)
  have hc := tokW_cons t p
  have hh := Lib.size_eq t.head
  unfold partB at h
  simp only at h
  split at h
  · injection h with h; subst h; simp; omega
  · split at h
    · split at h
      · injection h with h; subst h; simp only [List.length_append, List.length_cons, List.length_nil]; omega
      · cases h
    · split at h
      · split at h
        · injection h with h; subst h
          have hq := quoteL_le (saysL (t :: p))
          have hq2 : 3 ≤ 3 * (t :: p).length := by simp only [List.length_cons]; omega
          have h5 : (saysL (t :: p)) = t.text.data.toList ++ saysL p := by unfold saysL; simp
          have h6 := says_tokW p
          have h7 := Lib.size_eq t.text
          rw [h5, List.length_append] at hq
          rw [h5, List.length_append, hc]; omega
        · cases h
      · cases h

def BuildPost (w : World) (q : List Tree × Int) (e : Ending) (w' : World) : Prop :=
  ∃ v, e = .returned (.tuple #[v, .int .i64 q.2]) ∧ Kids w' (From w.heap.size w'.heap.size) v q.1 ∧ Below w.heap.size w w'
def lenOf : Value → Nat
  | .slice _ n _ => n
  | _ => 0
/-- What stands ahead of a round. -/
def BuildAt (w : World) (l : List Tok) (s : Value) (wr : World) : Prop := ∃ (l' : List Tok) (acc : List UInt8), Toks w (Under w.heap.size) s l' ∧ Buil wr w.heap.size w.heap.size acc ∧
  buildW l = (buildW l').map (acc ++ ·) ∧ acc.length + tokW l' ≤ tokW l ∧ (∀ t ∈ l', t ∈ l) ∧ l'.length ≤ l.length ∧ Below w.heap.size w wr
theorem map_none {α β : Type} {o : Option α} {f : α → β} (h : o = none) : o.map f = none := by rw [h]; rfl

set_option maxHeartbeats 8000000 in
set_option maxRecDepth 100000 in
theorem tbuild_any (v : Value) (l : List Tok) (w : World) (h : Toks w (Under w.heap.size) v l) (hl : l.length ≤ 9000) (hx : ∀ t ∈ l, t.text.size ≤ 1000 ∧ t.head.size ≤ 5000) (hs : tokW l ≤ 90000) (hT : Tabs w) :
    Calls Tryd.prog 9 #[v] w (BuildPost w (buildB l)) := by
  have HL := Lib.hid h
  have HT := Lib.hid hT
  have HX := Lib.hid hx
  obtain ⟨A, c, rfl, hlc⟩ := h.form
  clear h hT hx
  go_enter Tryd.func9, Tryd.ntmps9
  go_wp2_with fail
  have HBU := Lib.hid (buil_new w)
  have HW : Hid (Below w.heap.size w (w.alloc (.cells #[.pointer none, .slice none 0 0] 57))) := Lib.hid ((Below.refl _ _).alloc (Nat.le_refl _) _)
  generalize w.alloc (.cells #[.pointer none, .slice none 0 0] 57) = W1 at *
  go_loopw [0] (fun s wr => Hid (BuildAt w l s wr)) (fun s _ => lenOf s)
  case atStart => exact Lib.hid ⟨l, [], HL.out, HBU.out, by cases buildW l <;> simp, by simp, fun _ h => h, Nat.le_refl _, HW.out⟩
  case round =>
    obtain ⟨l', acc, hT', hbu, hB, hacc, hmem, hle, hbr⟩ := hrel.out
    have HBU2 := Lib.hid hbu
    have HB := Lib.hid hB
    have HBR := Lib.hid hbr
    have HMEM := Lib.hid hmem
    have HTO := Lib.hid hT'
    have HACC := Lib.hid hacc
    have hws := hbr.size
    obtain ⟨A1, c1, rfl, hlc1⟩ := hT'.form
    clear hT' hbu hB hmem hbr hrel
    cases l' with
    | nil =>
      rw [buildW_nil] at HB
      have HBB : Hid (buildB l = parseAllB acc) := Lib.hid (buildB_some (by rw [HB.out]; simp))
      clear hacc
      go_wp2_with fail
      refine (string_any w.heap.size w.heap.size _ wr HBU2.out hws).mono ?_
      rintro e w3 ⟨rfl, _, hb3, _⟩
      have HB3 := Lib.hid (HBR.out.trans hb3)
      clear hb3
      go_wp2_with fail
      refine (parseAll_any _ w3 (by have h1 := HACC.out; have h2 := sizeB_of (a := ⟨acc.toArray⟩) (l := acc) (by simp); omega) (HT.out.below HB3.out)).mono ?_
      rintro e w4 ⟨v4, rfl, hk4, hb4⟩
      have hq : (⟨acc.toArray⟩ : ByteArray).data.toList = acc := by simp
      rw [hq, ← HBB.out] at hk4 ⊢
      obtain ⟨A4, c4, rfl, _⟩ := hk4.form
      have HK4 := Lib.hid (hk4.keep (S' := From w.heap.size w4.heap.size) (fun b hb => ⟨Nat.le_trans HB3.out.size hb.1, hb.2⟩) (fun _ _ => rfl))
      have HB4 := Lib.hid (belowNext HB3.out hb4)
      clear hk4 hb4 hq
      go_wp2
      go_ret2
      exact ⟨_, rfl, HK4.out, HB4.out⟩
    | cons t p =>
      have hpos := partN_pos t p
      have hple := partN_le (t :: p)
      have HTW : Hid (Toks wr (Under wr.heap.size) (.slice A1 (t :: p).length c1) (t :: p)) := Lib.hid (HTO.out.keep (fun b h => Nat.lt_of_lt_of_le h HBR.out.size) (fun b h => HBR.out.block b h))
      have hpl : (0 : Int) < ((t :: p).length : Int) := by rw [List.length_cons]; omega
      go_wp2_with fail
      refine (partLength_any _ (t :: p) wr HTW.out (by simp) (by omega)).mono ?_
      rintro e w3 ⟨rfl, hb3⟩
      have HB3 := Lib.hid (HBR.out.trans (hb3.mono hws))
      have HBU3 := Lib.hid (HBU2.out.below hb3)
      have HTW3 : Hid (Toks w3 (Under w3.heap.size) (.slice A1 (t :: p).length c1) (t :: p)) := Lib.hid (HTO.out.keep (fun b h => Nat.lt_of_lt_of_le h HB3.out.size) (fun b h => HB3.out.block b h))
      clear hb3 HTW
      have HPN : Hid (∃ n, partN (t :: p) = n ∧ 1 ≤ n ∧ n ≤ (t :: p).length) := Lib.hid ⟨_, rfl, hpos, hple⟩
      obtain ⟨n, hn, hn1, hn2⟩ := HPN.out
      rw [hn] at hpos hple ⊢
      have HN := Lib.hid hn
      clear hn HPN
      obtain ⟨b, o, rfl, hub, _⟩ := HTO.out.get (i := 0) rfl
      have HPT : Hid (Toks w3 (Under w3.heap.size) (.slice (some ⟨b, o, none⟩) n c1) (t :: p.take (n - 1))) := Lib.hid (by
        have h := HTW3.out.part 0 n (by omega) (A' := some ⟨b, o, none⟩) (d := c1) (by omega) (Nat.le_refl _) (.inr ⟨b, o, rfl, by simp⟩)
        obtain ⟨m, rfl⟩ : ∃ m, n = m + 1 := ⟨n - 1, by omega⟩
        simpa using h)
      have HTK : Hid (t :: p.take (n - 1) = (t :: p).take n) := Lib.hid (by obtain ⟨m, rfl⟩ : ∃ m, n = m + 1 := ⟨n - 1, by omega⟩; simp)
      have HSTEP : Hid (buildW (t :: p) = (partB (t :: p.take (n - 1))).bind fun s => (buildW ((t :: p).drop n)).map (s ++ ·)) := Lib.hid (by rw [buildW_step _ (by simp), HN.out, HTK.out])
      have hnc : n ≤ c1 := by omega
      have HMT : Hid (∀ x ∈ t :: p.take (n - 1), x ∈ l) := Lib.hid fun x hx => HMEM.out x (by rw [HTK.out] at hx; exact List.mem_of_mem_take hx)
      have hlp : (t :: p.take (n - 1)).length ≤ 9000 := by have := congrArg List.length HTK.out; rw [List.length_take] at this; omega
      have HLP := Lib.hid hlp
      have HTKW : Hid (tokW (t :: p) = tokW (t :: p.take (n - 1)) + tokW ((t :: p).drop n)) := Lib.hid (by rw [HTK.out, ← tokW_app, List.take_append_drop])
      clear hlp
      go_wp2_with fail
      refine (twritten_any _ t (p.take (n - 1)) w3 HPT.out HLP.out (fun x hx => (HX.out x (HMT.out x hx)).1) (HX.out t (HMT.out t (by simp))).2 (HT.out.below HB3.out)).mono ?_
      rintro e w4 ⟨⟨s, ok, rfl, h1, h2⟩, hb4⟩
      have HB4 := Lib.hid (HB3.out.trans (hb4.mono HB3.out.size))
      have HBU4 := Lib.hid (HBU3.out.below hb4)
      have H1 := Lib.hid h1
      have H2 := Lib.hid h2
      clear hb4 h1 h2
      cases ok with
      | false =>
        have HBB : Hid (buildB l = ([], 2)) := Lib.hid (by
          cases hq : partB (t :: p.take (n - 1)) with
          | none => exact buildB_none (by rw [HB.out, HSTEP.out, hq]; rfl)
          | some q => have := (H2.out q hq).1; cases this)
        go_wp2
        go_ret2
        rw [HBB.out]
        exact ⟨_, rfl, kids_none, HB4.out⟩
      | true =>
        have HQ : Hid (∃ q, partB (t :: p.take (n - 1)) = some q ∧ s.data.toList = q) := Lib.hid (by
          cases hq : partB (t :: p.take (n - 1)) with
          | none => have := H1.out hq; cases this
          | some q => exact ⟨q, rfl, (H2.out q hq).2⟩)
        obtain ⟨q, hq, hsq⟩ := HQ.out
        have hql := part_tokW hq
        have hsz := sizeB_of hsq
        have HNEW : Hid (buildW l = (buildW ((t :: p).drop n)).map ((acc ++ s.data.toList) ++ ·)) := Lib.hid (by
          rw [HB.out, HSTEP.out, hq, hsq]
          show ((buildW ((t :: p).drop n)).map (q ++ ·)).map (acc ++ ·) = _
          rw [Option.map_map]
          congr 1
          funext z
          simp)
        have HSUM : Hid ((acc ++ s.data.toList).length + tokW ((t :: p).drop n) ≤ tokW l) := Lib.hid (by
          have h1 := HTKW.out
          have h2 := HACC.out
          rw [List.length_append, hsq]; omega)
        have hac : acc.length + s.size ≤ 100000000 := by have h1 := HTKW.out; have h2 := HACC.out; omega
        clear hq hsq hql hsz HQ
        go_wp2_with fail
        refine (write_any w.heap.size w.heap.size acc s w4 HBU4.out hac HB4.out.size).mono ?_
        rintro e w5 ⟨rfl, hbu5, hb5, _⟩
        have HB5 := Lib.hid (HB4.out.trans hb5)
        have HBU5 := Lib.hid hbu5
        clear hbu5 hb5
        have HMD : Hid (∀ x ∈ (t :: p).drop n, x ∈ l) := Lib.hid fun x hx => HMEM.out x (List.mem_of_mem_drop hx)
        have hdl : ((t :: p).drop n).length = (t :: p).length - n := List.length_drop
        have HDL := Lib.hid hdl
        clear hdl
        have hbn : ¬ ((p.length : Int) + 1 < (n : Int)) := by simp only [List.length_cons] at hn2; omega
        by_cases u : n = c1
        · subst u
          have hn0 : p.length + 1 - n = 0 := by simp only [List.length_cons] at hlc1; omega
          have HTN : Hid (Toks w (Under w.heap.size) (.slice (some ⟨b, o, none⟩) (p.length + 1 - n) 0) ((t :: p).drop n)) := Lib.hid (by
            have h := HTO.out.part n 0 (by omega) (A' := some ⟨b, o, none⟩) (d := 0) (by omega) (by omega) (.inl rfl)
            have e : (t :: p).drop n = [] := List.drop_of_length_le (by omega)
            rw [e] at h ⊢
            rw [hn0]
            simpa using h)
          clear hn0
          go_wp2
          refine ⟨Lib.hid ⟨_, _, HTN.out, HBU5.out, HNEW.out, HSUM.out, HMD.out, by rw [HDL.out]; omega, HB5.out⟩, ?_⟩
          simp [lenOf]; omega
        · have u2 : ¬ c1 = n := fun e => u e.symm
          have HTN : Hid (Toks w (Under w.heap.size) (.slice (some ⟨b, o + n * 3, none⟩) ((t :: p).length - n) (c1 - n)) ((t :: p).drop n)) := Lib.hid (by
            have h := HTO.out.part n ((t :: p).length - n) (by omega) (A' := some ⟨b, o + n * 3, none⟩) (d := c1 - n) (by omega) (by omega) (.inr ⟨b, o, rfl, rfl⟩)
            rw [List.take_of_length_le (by rw [List.length_drop]; exact Nat.le_refl _)] at h
            exact h)
          go_wp2
          refine ⟨Lib.hid ⟨_, _, HTN.out, HBU5.out, HNEW.out, HSUM.out, HMD.out, by rw [HDL.out]; omega, HB5.out⟩, ?_⟩
          simp [lenOf]; omega
end Go.Proofs.YtaepolgmojkglaaDoor

namespace Go.Proofs.YtaepolgmojkglaaDoor
open Go.RowKit Go.Sort Go.Maps

def Slim (t : Tok) : Prop := t.text.size ≤ 4 ∧ t.head.size ≤ 80
theorem encB_size (r : Nat) : (encB r).size ≤ 4 := by
  have h1 := encL_le r
  have h2 := Lib.size_eq (encB r)
  rw [encB_data] at h2
  omega
theorem slim_close : Slim closeT := ⟨by show (0 : Nat) ≤ 4; omega, by show (0 : Nat) ≤ 80; omega⟩
theorem slim_open {h : ByteArray} (hh : h.size ≤ 80) : Slim (openT h) := ⟨by show (0 : Nat) ≤ 4; omega, hh⟩
theorem slim_sign {h : ByteArray} (hh : h.size ≤ 80) (r : Nat) : Slim (signT h r) := ⟨by rw [signT_text]; exact encB_size r, by rw [signT_head]; exact hh⟩
theorem marks_slim (c : Cel) : weighL (marksOf c) ≤ 6 := by
  unfold marksOf; split
  · decide +kernel
  · split <;> decide +kernel
theorem texts_size : ∀ i, i < 5 → (textsL.getD i ByteArray.empty).size ≤ 10 := by decide +kernel
theorem kinds_size : ∀ i, i < 4 → (kindsL.getD i ByteArray.empty).size ≤ 6 := by decide +kernel
theorem attrs_slim (c : Cel) : weighP (attrsOf c) ≤ 17 := by
  unfold attrsOf; split
  · have := texts_size _ (pick_nat (c.b.tdiv 3) 5 (by omega))
    have h2 : ALIGN.size = 5 := by decide +kernel
    simp only [weighP, List.map_cons, List.map_nil, List.sum_cons, List.sum_nil]
    omega
  · decide +kernel
theorem headT_size (x : Tree) : (headT x).size = (headW x).length := by rw [← headT_data, ← Lib.size_eq]
theorem head_text_slim (c : Cel) : (headT (.mk TEXT (textOf c) (marksOf c) [] [])).size ≤ 80 := by
  have h1 := marksW_le (marksOf c)
  have h2 := marks_slim c
  have h3 : headW (.mk TEXT (textOf c) (marksOf c) [] []) = marksW (marksOf c) := if_pos isTxt_TEXT
  rw [headT_size, h3]
  omega
theorem head_node_slim (c : Cel) (l : List Tree) : (headT (.mk (kindOf c) ByteArray.empty [] (attrsOf c) l)).size ≤ 80 := by
  have h1 := attrsW_le (attrsOf c)
  have h2 := attrs_slim c
  have h3 := kinds_size _ (pick_nat c.a 4 (by omega))
  have hk := (kinds_ok _ (pick_nat c.a 4 (by omega))).2
  have h4 := Lib.size_eq (kindOf c)
  have h6 : headW (.mk (kindOf c) ByteArray.empty [] (attrsOf c) l) = (kindOf c).data.toList ++ attrsW (attrsOf c) := if_neg (by show ¬ isTxt (kindOf c) = true; unfold kindOf; rw [hk]; decide)
  rw [headT_size, h6, List.length_append]
  have h5 : (kindOf c).size ≤ 6 := h3
  omega
theorem slim_text (c : Cel) : ∀ t ∈ tokB (.mk TEXT (textOf c) (marksOf c) [] []), Slim t := by
  intro t ht
  rw [tokB_text (.mk TEXT (textOf c) (marksOf c) [] []) isTxt_TEXT] at ht
  obtain ⟨r, _, rfl⟩ := List.mem_map.1 ht
  exact slim_sign (head_text_slim c) r
theorem slim_node (c : Cel) (l : List Tree) (h : ∀ t ∈ toksB l, Slim t) : ∀ t ∈ tokB (.mk (kindOf c) ByteArray.empty [] (attrsOf c) l), Slim t := by
  intro t ht
  have hk := (kinds_ok _ (pick_nat c.a 4 (by omega))).2
  rw [tokB_node (.mk (kindOf c) ByteArray.empty [] (attrsOf c) l) hk] at ht
  rcases List.mem_cons.1 ht with rfl | ht
  · exact slim_open (head_node_slim c l)
  · rcases List.mem_append.1 ht with ht | ht
    · exact h t ht
    · rw [List.mem_singleton.1 ht]; exact slim_close
theorem madeStep_slim (out : List Tree) (c : Cel) (hf : ∀ x ∈ out, formedB x = true) (h : ∀ t ∈ toksB out, Slim t) : ∀ t ∈ toksB (madeStep out c), Slim t := by
  have hdrop : ∀ k, ∀ t ∈ toksB (out.drop k), Slim t := fun k t ht => h t (by rw [← List.take_append_drop k out, toksB_append]; exact List.mem_append_right _ ht)
  have htake : ∀ k, ∀ t ∈ toksB (out.take k), Slim t := fun k t ht => h t (by rw [← List.take_append_drop k out, toksB_append]; exact List.mem_append_left _ ht)
  unfold madeStep
  intro t ht
  split at ht
  · rw [toksB_append, toksB_one] at ht
    rcases List.mem_append.1 ht with ht | ht
    · exact h t ht
    · exact slim_text c t ht
  · split at ht
    · rw [toksB_append, toksB_one] at ht
      rcases List.mem_append.1 ht with ht | ht
      · exact htake _ t ht
      · refine slim_node c _ ?_ t ht
        rw [toks_join _ fun y hy => hf y (List.mem_of_mem_drop hy)]
        exact hdrop _
    · rw [toksB_append, toksB_one] at ht
      rcases List.mem_append.1 ht with ht | ht
      · exact h t ht
      · exact slim_node c [] (by intro t ht; rw [toksB] at ht; cases ht) t ht
theorem madeFold_slim : ∀ (l : List Cel) (out : List Tree), (∀ x ∈ out, formedB x = true) → (∀ t ∈ toksB out, Slim t) → ∀ t ∈ toksB (l.foldl madeStep out), Slim t
  | [], _, _, h => h
  | c :: l, out, hf, h => madeFold_slim l _ (madeStep_ok out c hf) (madeStep_slim out c hf h)
theorem made_slim (l : List Cel) : ∀ t ∈ toksB (madeB l), Slim t := by
  unfold madeB
  rw [toks_join _ (madeTo_ok l 19)]
  exact madeFold_slim _ [] (by simp) (by intro t ht; rw [toksB] at ht; cases ht)
theorem texts_runes : ∀ i, i < 5 → Lib.runeCountL (textsL.getD i ByteArray.empty).data.toList ≤ 3 := by decide +kernel
theorem madeStep_count (out : List Tree) (c : Cel) (hf : ∀ x ∈ out, formedB x = true) : totalB (madeStep out c) ≤ totalB out + 3 := by
  unfold madeStep
  split
  · rw [totalB_append, totalB, totalB, sizeB, if_pos isTxt_TEXT]
    have : Lib.runeCount (textOf c) ≤ 3 := texts_runes _ (pick_nat c.a 5 (by omega))
    omega
  · have hk : ¬ isTxt (kindOf c) = true := by have := (kinds_ok _ (pick_nat c.a 4 (by omega))).2; unfold kindOf; rw [this]; decide
    split
    · have e : totalB (joinB (out.drop (out.length - manyOf c out.length))) = totalB (out.drop (out.length - manyOf c out.length)) := by
        rw [← toksB_len, toks_join _ fun y hy => hf y (List.mem_of_mem_drop hy), toksB_len]
      have e2 : totalB out = totalB (out.take (out.length - manyOf c out.length)) + totalB (out.drop (out.length - manyOf c out.length)) := by rw [← totalB_append, List.take_append_drop]
      rw [totalB_append, totalB, totalB, sizeB, if_neg hk, e]
      omega
    · rw [totalB_append, totalB, totalB, sizeB, if_neg hk, totalB]
      omega
theorem madeFold_count : ∀ (l : List Cel) (out : List Tree), (∀ x ∈ out, formedB x = true) → totalB (l.foldl madeStep out) ≤ totalB out + 3 * l.length
  | [], _, _ => by simp
  | c :: l, out, hf => by
    have h1 := madeFold_count l _ (madeStep_ok out c hf)
    have h2 := madeStep_count out c hf
    rw [List.foldl_cons, List.length_cons]; omega
theorem made_count (l : List Cel) : totalB (madeB l) ≤ 57 := by
  unfold madeB
  rw [← toksB_len, toks_join _ (madeTo_ok l 19), toksB_len]
  have h := madeFold_count (l.take 19) [] (by simp)
  have h2 : (l.take 19).length ≤ 19 := by rw [List.length_take]; omega
  simp only [totalB] at h
  unfold madeTo
  omega
theorem made_toks (l : List Cel) : (toksB (madeB l)).length ≤ 57 := by rw [toksB_len]; exact made_count l
end Go.Proofs.YtaepolgmojkglaaDoor
