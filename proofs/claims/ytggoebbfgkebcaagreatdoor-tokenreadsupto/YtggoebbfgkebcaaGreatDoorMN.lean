/-
  What token's words and written answer.
  What token's written answers.
  What token's written answers: the signs of a text.
  append of tokens, however many, to a row of the call's own; TokenLens walked.
  TokenLens walked.
  What token.Build answers.
-/
import Derived.Test.YtggoebbfgkebcaaGreatDoorMG
import Derived.Test.YtggoebbfgkebcaaGreatDoorMJ
namespace Go.Proofs.YtggoebbfgkebcaaGreatDoor
open Go.RowKit Go.Sort Go.Maps

theorem says_take (l : List Tok) {k : Nat} {x : Tok} (h : l.take (k + 1) = l.take k ++ [x]) : saysL (l.take (k + 1)) = saysL (l.take k) ++ x.text.data.toList := by
  rw [h]; unfold saysL; simp
theorem says_le : ∀ l : List Tok, (∀ t ∈ l, t.text.size ≤ 1000) → (saysL l).length ≤ 1000 * l.length
  | [], _ => by simp [saysL]
  | t :: l, h => by
    have h1 := says_le l fun x hx => h x (by simp [hx])
    have h2 := h t (by simp)
    have h3 : (saysL (t :: l)) = t.text.data.toList ++ saysL l := by unfold saysL; simp
    have h4 := Lib.size_eq t.text
    rw [h3, List.length_append, List.length_cons]; omega
/-- What words answers. -/
def wordsT (l : List Tok) : ByteArray × Bool := if l.all (fun x => oneCp x.text) then (⟨(saysL l).toArray⟩, true) else (⟨#[]⟩, false)
theorem ret_sb {s t : ByteArray} {a b : Bool} (h : s = t) (h2 : a = b) : Ending.returned (.tuple #[.string s, .bool a]) = .returned (.tuple #[.string t, .bool b]) := by rw [h, h2]

set_option maxHeartbeats 4000000 in
set_option maxRecDepth 100000 in
theorem twords_any (v : Value) (l : List Tok) (w : World) (h : Toks w (Under w.heap.size) v l) (hl : l.length ≤ 10000) (hx : ∀ t ∈ l, t.text.size ≤ 1000) (hT : Tabs w) :
    Calls Tryz.prog 32 #[v] w fun e w' => e = .returned (.tuple #[.string (wordsT l).1, .bool (wordsT l).2]) ∧ Below w.heap.size w w' := by
  have HL := Lib.hid h
  have HT := Lib.hid hT
  have HX := Lib.hid hx
  obtain ⟨A, c, rfl, _⟩ := h.form
  clear h hT hx
  go_enter Tryz.func32, Tryz.ntmps32
  go_wp2_with fail
  have HBU := Lib.hid (buil_new w)
  have HW : Hid (Below w.heap.size w (w.alloc (.cells #[.pointer none, .slice none 0 0] 45))) := Lib.hid ((Below.refl _ _).alloc (Nat.le_refl _) _)
  generalize w.alloc (.cells #[.pointer none, .slice none 0 0] 45) = W1 at *
  go_wp2
  go_loopw [9] (fun i wr => ∃ k : Nat, k ≤ l.length ∧ i = .int .i64 k ∧ Hid ((l.take k).all (fun x => oneCp x.text) = true) ∧ Hid (Buil wr w.heap.size w.heap.size (saysL (l.take k))) ∧ Below w.heap.size w wr) (fun i _ => l.length - (intOf i).toNat)
  case atStart => exact ⟨0, by omega, rfl, Lib.hid (by simp), Lib.hid (by simpa [saysL] using HBU.out), HW.out⟩
  case round =>
    obtain ⟨k, hk, rfl, hall, hbu, hbr⟩ := hrel
    have hws := hbr.size
    by_cases hlt : k < l.length
    · have hlx : l[k]? = some l[k] := List.getElem?_eq_getElem hlt
      have HTK : Hid (l.take (k + 1) = l.take k ++ [l[k]]) := Lib.hid (List.take_succ_eq_append_getElem hlt)
      generalize l[k] = x at *
      obtain ⟨b, o, rfl, hub, e0, e1, e2⟩ := HL.out.get hlx
      have hxs := HX.out x (List.mem_of_getElem? hlx)
      have HMEM := Lib.hid (List.mem_of_getElem? hlx)
      have k0 := cell_kept e0 hbr
      have k1 := cell_kept e1 hbr
      have k2 := cell_kept e2 hbr
      have HBA : Hid (Below wr.heap.size wr (wr.alloc (TokO x))) := Lib.hid ((Below.refl _ _).alloc (Nat.le_refl _) _)
      have HBX := Lib.hid (hbr.trans (HBA.out.mono hws))
      have HBU2 := Lib.hid (hbu.out.below HBA.out)
      have HO : Hid ((wr.alloc (TokO x)).heap[wr.heap.size]? = some (TokO x)) := Lib.hid (heap_new _ _)
      obtain ⟨x0, x1, x2⟩ := tokO_cells HO.out
      clear e0 e1 e2 hlx
      go_wp2_with fail
      generalize hW2 : wr.alloc (TokO x) = W2 at *
      clear hW2
      refine (valid_any x.text W2 (by omega) (HT.out.below HBX.out)).mono ?_
      rintro e w3 ⟨rfl, hb3⟩
      have HB3 := Lib.hid (belowNext HBX.out hb3)
      have HBU3 := Lib.hid (HBU2.out.below hb3)
      have hlt3 : wr.heap.size < W2.heap.size := cell_lt x0
      have HO3 := Lib.hid ((hb3.block wr.heap.size hlt3).trans HO.out)
      obtain ⟨y0, y1, y2⟩ := tokO_cells HO3.out
      clear hb3 x0 x1 x2 k0 k1 k2
      cases hv : Lib.validD x.text.data.toList with
      | false =>
        have HF : Hid (wordsT l = (⟨#[]⟩, false)) := Lib.hid (by
          unfold wordsT
          rw [if_neg]
          intro hh
          have := List.all_eq_true.1 hh x HMEM.out
          simp only [oneCp, hv, Bool.false_and] at this
          cases this)
        clear hv
        go_wp2
        go_ret2
        rw [HF.out]
        exact ⟨rfl, HB3.out⟩
      | true =>
        go_wp2_with fail
        refine (runes_any x.text w3 (by omega)).mono ?_
        rintro e w4 ⟨rfl, hb4⟩
        have HB4 := Lib.hid (belowNext HB3.out hb4)
        have HBU4 := Lib.hid (HBU3.out.below hb4)
        have HO4 := Lib.hid ((hb4.block wr.heap.size (cell_lt y0)).trans HO3.out)
        obtain ⟨z0, z1, z2⟩ := tokO_cells HO4.out
        clear hb4 y0 y1 y2
        by_cases hr : Lib.runeCount x.text = 1
        · have HO1 : Hid (oneCp x.text = true) := Lib.hid (by unfold oneCp; rw [hv]; simp; exact hr)
          have hr' : (((Lib.runeCount x.text : Nat) : Int) != 1) = false := by rw [hr]; rfl
          have hsl : (saysL (l.take k)).length ≤ 10000000 := by
            have := says_le (l.take k) fun t ht => HX.out t (List.mem_of_mem_take ht)
            rw [List.length_take] at this; omega
          clear hv hr
          generalize (Lib.runeCount x.text : Nat) = rc at *
          go_wp2_with fail
          refine (write_any w.heap.size w.heap.size (saysL (l.take k)) x.text w4 HBU4.out (by omega) HB4.out.size).mono ?_
          rintro e w5 ⟨rfl, hbu5, hb5, _⟩
          have HB5 := Lib.hid (HB4.out.trans hb5)
          have HBU5 := Lib.hid hbu5
          clear hbu5 hb5 z0 z1 z2
          go_wp2
          exact ⟨⟨k + 1, by omega, by go_num, Lib.hid (by rw [HTK.out, List.all_append, hall.out]; simp [HO1.out]), Lib.hid (by rw [says_take l HTK.out]; exact HBU5.out), HB5.out⟩, by simp [intOf]; omega⟩
        · have HF : Hid (wordsT l = (⟨#[]⟩, false)) := Lib.hid (by
            unfold wordsT
            rw [if_neg]
            intro hh
            have := List.all_eq_true.1 hh x HMEM.out
            simp only [oneCp, Bool.and_eq_true, decide_eq_true_eq] at this
            exact hr this.2)
          have hr' : (((Lib.runeCount x.text : Nat) : Int) != 1) = true := by simp; omega
          clear hv hr
          generalize (Lib.runeCount x.text : Nat) = rc at *
          go_wp2
          go_ret2
          rw [HF.out]
          exact ⟨rfl, HB4.out⟩
    · obtain rfl : k = l.length := by omega
      have HF : Hid (wordsT l = (⟨(saysL l).toArray⟩, true)) := Lib.hid (by
        unfold wordsT
        have := hall.out
        rw [List.take_length] at this
        rw [if_pos this])
      rw [List.take_length] at hbu
      go_wp2_with fail
      refine (string_any w.heap.size w.heap.size _ wr hbu.out hws).mono ?_
      rintro e w3 ⟨rfl, _, hb3, _⟩
      have HB3 := Lib.hid (hbr.trans hb3)
      clear hb3
      go_wp2
      go_ret2
      rw [HF.out]
      exact ⟨rfl, HB3.out⟩
end Go.Proofs.YtggoebbfgkebcaaGreatDoor

namespace Go.Proofs.YtggoebbfgkebcaaGreatDoor
open Go.RowKit Go.Sort Go.Maps

/-- How written ends. -/
def WrittenPost (w : World) (p : List Tok) (e : Ending) (w' : World) : Prop :=
  (∃ s ok, e = .returned (.tuple #[.string s, .bool ok]) ∧ (partB p = none → ok = false) ∧ ∀ l, partB p = some l → ok = true ∧ s.data.toList = l) ∧ Below w.heap.size w w'
theorem catB (a b : ByteArray) : (a ++ b).data.toList = a.data.toList ++ b.data.toList := by rw [ByteArray.data_append]; simp
theorem sizeB_of {a : ByteArray} {l : List UInt8} (h : a.data.toList = l) : a.size = l.length := by rw [← h, Array.length_toList]; rfl
theorem none_text {s : ByteArray} : s.toList = [] ↔ s = ⟨#[]⟩ := by
  rw [Lib.toList_data]
  exact ⟨fun h => ByteArray.ext (Array.ext' h), fun h => by rw [h]⟩
theorem part_is_close {tx hd : ByteArray} (p : List Tok) (h1 : tx.toList = []) (h2 : hd.toList = []) : partB (⟨99, tx, hd⟩ :: p) = some [93] := by
  rw [none_text.1 h1, none_text.1 h2]
  exact part_close p
theorem part_is_open {tx hd : ByteArray} (p : List Tok) (h1 : tx.toList = []) : partB (⟨111, tx, hd⟩ :: p) = if readsB (hd.data.toList ++ [91, 93]) then some (hd.data.toList ++ [91]) else none := by
  rw [none_text.1 h1]
  unfold partB
  simp only
  rw [if_neg (show (⟨111, ⟨#[]⟩, hd⟩ : Tok) ≠ closeT from open_ne_close hd), if_pos (show (⟨111, ⟨#[]⟩, hd⟩ : Tok) = openT hd from rfl)]
theorem part_is_sign {tx hd : ByteArray} (p : List Tok) : partB (⟨116, tx, hd⟩ :: p) = if (⟨116, tx, hd⟩ :: p).all (fun x => oneCp x.text) && readsB (quoteL tx.data.toList ++ hd.data.toList) then some (quoteL (saysL (⟨116, tx, hd⟩ :: p)) ++ hd.data.toList) else none := by
  unfold partB
  simp only
  rw [if_neg (fun e => by injection e with e; exact absurd e (by decide)), if_neg (fun e => by injection e with e; exact absurd e (by decide)), if_pos trivial]
theorem part_is_none {k : Nat} {tx hd : ByteArray} (p : List Tok) (h116 : k ≠ 116) (h111 : k = 111 → ¬ tx.toList = []) (h99 : k = 99 → tx.toList = [] → ¬ hd.toList = []) : partB (⟨k, tx, hd⟩ :: p) = none := by
  unfold partB
  simp only
  rw [if_neg (fun e => by
    injection e with e1 e2 e3
    exact h99 e1 (none_text.2 e2) (none_text.2 e3)), if_neg (fun e => by
    injection e with e1 e2
    exact h111 e1 (none_text.2 e2)), if_neg h116]

section
variable {p : List Tok} {tx hd : ByteArray} {w : World} {v : Value}
/-- What each walk of written begins with. -/
structure WrAt (w : World) (v : Value) (k : Nat) (tx hd : ByteArray) (p : List Tok) : Prop where
  row : Toks w (Under w.heap.size) v (⟨k, tx, hd⟩ :: p)
  len : (⟨k, tx, hd⟩ :: p : List Tok).length ≤ 9000
  texts : ∀ x ∈ (⟨k, tx, hd⟩ :: p : List Tok), x.text.size ≤ 1000
  head : hd.size ≤ 5000
  tabs : Tabs w
def WrSaid (w : World) (v : Value) (k : Nat) (tx hd : ByteArray) (p : List Tok) : Prop := Calls Tryz.prog 15 #[v] w (WrittenPost w (⟨k, tx, hd⟩ :: p))

set_option maxHeartbeats 4000000 in
set_option maxRecDepth 100000 in
theorem wr_none {k : Nat} (h : WrAt w v k tx hd p) (h116 : k ≠ 116) (h111 : k = 111 → ¬ tx.toList = []) (h99 : k = 99 → tx.toList = [] → ¬ hd.toList = []) : WrSaid w v k tx hd p := by
  have HP := Lib.hid (part_is_none p h116 h111 h99)
  obtain ⟨A, c, rfl, hlc⟩ := h.row.form
  obtain ⟨b, o, rfl, hub, e0, e1, e2⟩ := h.row.get (i := 0) rfl
  rw [Nat.zero_mul, Nat.add_zero] at e0 e1 e2
  have hpl : (0 : Int) < ((⟨k, tx, hd⟩ :: p : List Tok).length : Int) := by rw [List.length_cons]; omega
  have HBA : Hid (Below w.heap.size w (w.alloc (TokO ⟨k, tx, hd⟩))) := Lib.hid ((Below.refl _ _).alloc (Nat.le_refl _) _)
  obtain ⟨x0, x1, x2⟩ := tokO_cells (w := w.alloc (TokO ⟨k, tx, hd⟩)) (heap_new _ _)
  have d116 : ¬ (k : Int) = 116 := by omega
  simp only at e0 e1 e2 x0 x1 x2
  unfold WrSaid
  clear h
  by_cases k111 : k = 111
  · have t0 := h111 k111
    subst k111
    clear h111 h99 h116 d116
    go_enter Tryz.func15, Tryz.ntmps15
    go_wp2
    go_ret2
    exact ⟨⟨_, _, rfl, fun _ => rfl, fun l hl => by rw [HP.out] at hl; cases hl⟩, HBA.out⟩
  · have d111 : ¬ (k : Int) = 111 := by omega
    by_cases k99 : k = 99
    · by_cases t0 : tx.toList = []
      · have t1 := h99 k99 t0
        subst k99
        clear h111 h99 h116 k111 d111 d116
        go_enter Tryz.func15, Tryz.ntmps15
        go_wp2
        go_ret2
        exact ⟨⟨_, _, rfl, fun _ => rfl, fun l hl => by rw [HP.out] at hl; cases hl⟩, HBA.out⟩
      · subst k99
        clear h111 h99 h116 k111 d111 d116
        go_enter Tryz.func15, Tryz.ntmps15
        go_wp2
        go_ret2
        exact ⟨⟨_, _, rfl, fun _ => rfl, fun l hl => by rw [HP.out] at hl; cases hl⟩, HBA.out⟩
    · have d99 : ¬ (k : Int) = 99 := by omega
      clear h111 h99 h116 k111 k99
      go_enter Tryz.func15, Tryz.ntmps15
      go_wp2
      go_ret2
      exact ⟨⟨_, _, rfl, fun _ => rfl, fun l hl => by rw [HP.out] at hl; cases hl⟩, HBA.out⟩

set_option maxHeartbeats 4000000 in
set_option maxRecDepth 100000 in
theorem wr_close (h : WrAt w v 99 tx hd p) (t0 : tx.toList = []) (t1 : hd.toList = []) : WrSaid w v 99 tx hd p := by
  have HP := Lib.hid (part_is_close p t0 t1)
  obtain ⟨A, c, rfl, hlc⟩ := h.row.form
  obtain ⟨b, o, rfl, hub, e0, e1, e2⟩ := h.row.get (i := 0) rfl
  rw [Nat.zero_mul, Nat.add_zero] at e0 e1 e2
  have hpl : (0 : Int) < ((⟨99, tx, hd⟩ :: p : List Tok).length : Int) := by rw [List.length_cons]; omega
  have HBA : Hid (Below w.heap.size w (w.alloc (TokO ⟨99, tx, hd⟩))) := Lib.hid ((Below.refl _ _).alloc (Nat.le_refl _) _)
  obtain ⟨x0, x1, x2⟩ := tokO_cells (w := w.alloc (TokO ⟨99, tx, hd⟩)) (heap_new _ _)
  simp only at e0 e1 e2 x0 x1 x2
  unfold WrSaid
  clear h
  go_enter Tryz.func15, Tryz.ntmps15
  go_wp2
  go_ret2
  exact ⟨⟨_, _, rfl, fun h => (by rw [HP.out] at h; cases h), fun l hl => by rw [HP.out] at hl; injection hl with hl; exact ⟨rfl, by rw [← hl]⟩⟩, HBA.out⟩

set_option maxHeartbeats 4000000 in
set_option maxRecDepth 100000 in
theorem wr_open (h : WrAt w v 111 tx hd p) (t0 : tx.toList = []) : WrSaid w v 111 tx hd p := by
  have HP := Lib.hid (part_is_open (hd := hd) p t0)
  have HT := Lib.hid h.tabs
  have hh := h.head
  obtain ⟨A, c, rfl, hlc⟩ := h.row.form
  obtain ⟨b, o, rfl, hub, e0, e1, e2⟩ := h.row.get (i := 0) rfl
  rw [Nat.zero_mul, Nat.add_zero] at e0 e1 e2
  have hpl : (0 : Int) < ((⟨111, tx, hd⟩ :: p : List Tok).length : Int) := by rw [List.length_cons]; omega
  have HBA : Hid (Below w.heap.size w (w.alloc (TokO ⟨111, tx, hd⟩))) := Lib.hid ((Below.refl _ _).alloc (Nat.le_refl _) _)
  have HO : Hid ((w.alloc (TokO ⟨111, tx, hd⟩)).heap[w.heap.size]? = some (TokO ⟨111, tx, hd⟩)) := Lib.hid (heap_new _ _)
  obtain ⟨x0, x1, x2⟩ := tokO_cells HO.out
  have HRD := Lib.hid (regrown_any (w := w.alloc (TokO ⟨111, tx, hd⟩)) fun W hW => reads_any (hd ++ ⟨#[91, 93]⟩) W (by have h1 := sizeB_of (catB hd ⟨#[91, 93]⟩); have h2 := Lib.size_eq hd; rw [List.length_append] at h1; have h3 : (⟨#[91, 93]⟩ : ByteArray).data.toList.length = 2 := rfl; omega) (HT.out.below (belowNext HBA.out hW)))
  have hrb : (hd ++ ⟨#[91, 93]⟩ : ByteArray).data.toList = hd.data.toList ++ [91, 93] := catB _ _
  rw [hrb] at HRD
  simp only at e0 e1 e2 x0 x1 x2
  unfold WrSaid
  clear h hrb
  have k2 := cell_regrown x2
  have hol1 : ¬ 9223372036854775807 < hd.size + 1 := by omega
  have hol2 : ¬ 9223372036854775807 < hd.size + 2 := by omega
  go_enter Tryz.func15, Tryz.ntmps15
  go_wp2_with fail
  generalize w.alloc (TokO ⟨111, tx, hd⟩) = W1 at *
  refine wp_region_quiet_below (by kernel_rfl) (by kernel_rfl) ?_
  repeat (first | go_big_quiet_step (exact HRD.out _ _) | quiet_step (exact HRD.out _ _))
  refine wpQuiet_nil ?_
  intro _ hw'
  obtain ⟨⟨dq, osq⟩, hw''⟩ := hw'
  subst hw''
  have HQ := Lib.hid (belowNext HBA.out (below_regrown W1 dq osq))
  generalize grow (redrawn W1 dq) osq = wq at *
  go_wp2
  go_ret2
  refine ⟨⟨_, _, rfl, fun h => ?_, fun l hl => ?_⟩, HQ.out⟩
  · rw [HP.out] at h
    split at h
    · cases h
    · rename_i hn; simpa using hn
  · rw [HP.out] at hl
    split at hl
    · rename_i hn
      injection hl with hl
      exact ⟨hn, by rw [← hl]; exact catB _ _⟩
    · cases hl
end
end Go.Proofs.YtggoebbfgkebcaaGreatDoor

namespace Go.Proofs.YtggoebbfgkebcaaGreatDoor
open Go.RowKit Go.Sort Go.Maps

section
variable {p : List Tok} {tx hd : ByteArray} {w : World} {v : Value}
set_option maxHeartbeats 4000000 in
set_option maxRecDepth 100000 in
theorem wr_sign (h : WrAt w v 116 tx hd p) : WrSaid w v 116 tx hd p := by
  have HP := Lib.hid (part_is_sign (tx := tx) (hd := hd) p)
  have HT := Lib.hid h.tabs
  have hh := h.head
  have hx := h.texts ⟨116, tx, hd⟩ (by simp)
  simp only at hx
  have HX := Lib.hid h.texts
  have HROW := Lib.hid h.row
  have hlen := h.len
  obtain ⟨A, c, rfl, hlc⟩ := h.row.form
  obtain ⟨b, o, rfl, hub, e0, e1, e2⟩ := h.row.get (i := 0) rfl
  rw [Nat.zero_mul, Nat.add_zero] at e0 e1 e2
  have hpl : (0 : Int) < ((⟨116, tx, hd⟩ :: p : List Tok).length : Int) := by rw [List.length_cons]; omega
  have HBA : Hid (Below w.heap.size w (w.alloc (TokO ⟨116, tx, hd⟩))) := Lib.hid ((Below.refl _ _).alloc (Nat.le_refl _) _)
  have HO : Hid ((w.alloc (TokO ⟨116, tx, hd⟩)).heap[w.heap.size]? = some (TokO ⟨116, tx, hd⟩)) := Lib.hid (heap_new _ _)
  obtain ⟨x0, x1, x2⟩ := tokO_cells HO.out
  simp only at e0 e1 e2 x0 x1 x2
  unfold WrSaid
  clear h
  go_enter Tryz.func15, Tryz.ntmps15
  go_wp2_with fail
  generalize w.alloc (TokO ⟨116, tx, hd⟩) = W1 at *
  refine (twords_any _ (⟨116, tx, hd⟩ :: p) W1 (HROW.out.keep (fun b hb => Nat.lt_of_lt_of_le hb HBA.out.size) (fun b hb => HBA.out.block b hb)) (by omega) HX.out (HT.out.below HBA.out)).mono ?_
  rintro e w3 ⟨rfl, hb3⟩
  have HB3 := Lib.hid (belowNext HBA.out hb3)
  have HO3 := Lib.hid ((hb3.block w.heap.size (cell_lt x0)).trans HO.out)
  obtain ⟨y0, y1, y2⟩ := tokO_cells HO3.out
  simp only at y0 y1 y2
  have k1 := cell_regrown y1
  have k2 := cell_regrown y2
  clear hb3 x0 x1 x2 e0 e1 e2
  have HWT : Hid (∃ s ok, wordsT (⟨116, tx, hd⟩ :: p) = (s, ok) ∧ ok = (⟨116, tx, hd⟩ :: p : List Tok).all (fun x => oneCp x.text) ∧ (ok = true → s.data.toList = saysL (⟨116, tx, hd⟩ :: p)) ∧ s.size ≤ 9000000) := Lib.hid (by
    unfold wordsT
    have hl := says_le _ HX.out
    by_cases hc : (⟨116, tx, hd⟩ :: p : List Tok).all (fun x => oneCp x.text) = true
    · rw [if_pos hc]
      refine ⟨_, _, rfl, hc.symm, fun _ => by simp, ?_⟩
      have := sizeB_of (a := ⟨(saysL (⟨116, tx, hd⟩ :: p)).toArray⟩) (l := saysL (⟨116, tx, hd⟩ :: p)) (by simp)
      omega
    · rw [if_neg hc]
      exact ⟨_, _, rfl, (Bool.eq_false_iff.2 hc).symm, (fun h => absurd h (by decide)), (by show (0 : Nat) ≤ 9000000; omega)⟩)
  obtain ⟨s, ok, hs, hok, hsay, hsz⟩ := HWT.out
  have HOK := Lib.hid hok
  have HSAY := Lib.hid hsay
  rw [hs]
  clear hs hok hsay HWT
  obtain ⟨q1, hq1⟩ : ∃ q : ByteArray, (⟨(quoteL s.data.toList).toArray⟩ : ByteArray) = q := ⟨_, rfl⟩
  have HQ1 := Lib.hid (regrown_any (w := w3) (f := 33) (args := #[.string s]) (v := .string q1) fun W _ => by rw [← hq1]; exact quote_any s W (by omega))
  have hq1d : q1.data.toList = quoteL s.data.toList := by rw [← hq1]
  have hq1s : q1.size ≤ 20000000 := by have h1 := sizeB_of hq1d; have h2 := quoteL_le s.data.toList; have h3 := Lib.size_eq s; omega
  have HQD := Lib.hid hq1d
  have hol1 : ¬ 9223372036854775807 < q1.size + hd.size := by omega
  clear hq1 hq1d
  cases ok with
  | false =>
    have HN : Hid (partB (⟨116, tx, hd⟩ :: p) = none) := Lib.hid (by rw [HP.out, ← HOK.out]; rfl)
    go_wp2_with fail
    refine wp_region_quiet_below (by kernel_rfl) (by kernel_rfl) ?_
    repeat (first | go_big_quiet_step (exact HQ1.out _ _) | quiet_step (exact HQ1.out _ _))
    refine wpQuiet_nil ?_
    intro _ hw'
    obtain ⟨⟨dq, osq⟩, hw''⟩ := hw'
    subst hw''
    have HQ := Lib.hid (belowNext HB3.out (below_regrown w3 dq osq))
    generalize grow (redrawn w3 dq) osq = wq at *
    go_wp2
    go_ret2
    exact ⟨⟨_, _, rfl, fun _ => rfl, fun l hl => by rw [HN.out] at hl; cases hl⟩, HQ.out⟩
  | true =>
    obtain ⟨q2, hq2⟩ : ∃ q : ByteArray, (⟨(quoteL tx.data.toList).toArray⟩ : ByteArray) = q := ⟨_, rfl⟩
    have HQ2 := Lib.hid (regrown_any (w := w3) (f := 33) (args := #[.string tx]) (v := .string q2) fun W _ => by rw [← hq2]; exact quote_any tx W (by omega))
    have hq2d : q2.data.toList = quoteL tx.data.toList := by rw [← hq2]
    have hq2s : q2.size ≤ 2002 := by have h1 := sizeB_of hq2d; have h2 := quoteL_le tx.data.toList; have h3 := Lib.size_eq tx; omega
    have hol2 : ¬ 9223372036854775807 < q2.size + hd.size := by omega
    have HQH : Hid ((q2 ++ hd).data.toList = quoteL tx.data.toList ++ hd.data.toList) := Lib.hid (by rw [catB, hq2d])
    have HRD := Lib.hid (regrown_any (w := w3) (f := 31) (args := #[.string (q2 ++ hd)]) (v := .bool (readsB (quoteL tx.data.toList ++ hd.data.toList))) fun W hW => by
      rw [← HQH.out]
      exact reads_any (q2 ++ hd) W (by rw [ByteArray.size_append]; omega) (HT.out.below (belowNext HB3.out hW)))
    generalize hrb : readsB (quoteL tx.data.toList ++ hd.data.toList) = rb at *
    have HRB := Lib.hid hrb
    clear hq2 hq2d hrb
    go_wp2_with fail
    refine wp_region_quiet_below (by kernel_rfl) (by kernel_rfl) ?_
    repeat (first | go_big_quiet_step (first | exact HQ1.out _ _ | exact HQ2.out _ _ | exact HRD.out _ _) | quiet_step (first | exact HQ1.out _ _ | exact HQ2.out _ _ | exact HRD.out _ _))
    refine wpQuiet_nil ?_
    intro _ hw'
    obtain ⟨⟨dq, osq⟩, hw''⟩ := hw'
    subst hw''
    have HQ := Lib.hid (belowNext HB3.out (below_regrown w3 dq osq))
    generalize grow (redrawn w3 dq) osq = wq at *
    go_wp2
    go_ret2
    refine ⟨⟨_, _, rfl, fun h => ?_, fun l hl => ?_⟩, HQ.out⟩
    · rw [HP.out, ← HOK.out, Bool.true_and] at h
      cases rb with
      | false => rfl
      | true => rw [if_pos rfl] at h; cases h
    · rw [HP.out, ← HOK.out, Bool.true_and] at hl
      cases rb with
      | false => rw [if_neg (by decide)] at hl; cases hl
      | true =>
        rw [if_pos rfl] at hl
        injection hl with hl
        exact ⟨rfl, by rw [← hl, catB, HQD.out, HSAY.out (by trivial)]⟩
end
/-- What written answers. -/
theorem twritten_any (v : Value) (t : Tok) (p : List Tok) (w : World) (h : Toks w (Under w.heap.size) v (t :: p)) (hl : (t :: p).length ≤ 9000) (hx : ∀ x ∈ t :: p, x.text.size ≤ 1000) (hh : t.head.size ≤ 5000) (hT : Tabs w) :
    Calls Tryz.prog 15 #[v] w (WrittenPost w (t :: p)) := by
  obtain ⟨k, tx, hd⟩ := t
  have H : WrAt w v k tx hd p := ⟨h, hl, hx, hh, hT⟩
  by_cases h116 : k = 116
  · subst h116; exact wr_sign H
  · by_cases h111 : k = 111
    · subst h111
      by_cases t0 : tx.toList = []
      · exact wr_open H t0
      · exact wr_none H h116 (fun _ => t0) (fun e => absurd e (by decide))
    · by_cases h99 : k = 99
      · subst h99
        by_cases t0 : tx.toList = []
        · by_cases t1 : hd.toList = []
          · exact wr_close H t0 t1
          · exact wr_none H h116 (fun e => absurd e h111) (fun _ _ => t1)
        · exact wr_none H h116 (fun e => absurd e h111) (fun _ h => absurd h t0)
      · exact wr_none H h116 (fun e => absurd e h111) (fun e => absurd e h99)
end Go.Proofs.YtggoebbfgkebcaaGreatDoor

namespace Go.Proofs.YtggoebbfgkebcaaGreatDoor
open Go.RowKit Go.Sort Go.Maps

theorem TRow.form {w : World} {base : Nat} {v : Value} {l : List Tok} (h : TRow w base v l) : (v = .slice none 0 0 ∧ l = []) ∨ ∃ g c, v = .slice (some ⟨g, 0, none⟩) l.length c ∧ l.length ≤ c := by
  rcases h.2 with ⟨rfl, hm⟩ | ⟨g, cap, cur, rfl, hb, hg, hnc, _⟩
  · exact .inl ⟨rfl, List.eq_nil_of_length_eq_zero hm⟩
  · exact .inr ⟨g, cap, rfl, hnc⟩
theorem flat_get : ∀ (l : List Tok) (j : Nat) (u : Value), (l.flatMap tokCells)[j]? = some u → ∃ i t k, j = i * 3 + k ∧ k < 3 ∧ l[i]? = some t ∧ (tokCells t)[k]? = some u
  | [], j, u, h => by simp at h
  | t :: l, j, u, h => by
    rw [List.flatMap_cons] at h
    by_cases hj : j < 3
    · rw [List.getElem?_append_left (by rw [tokCells_len]; exact hj)] at h
      exact ⟨0, t, j, by omega, hj, rfl, h⟩
    · rw [List.getElem?_append_right (by rw [tokCells_len]; omega), tokCells_len] at h
      obtain ⟨i, t', k, e, hk, hi, hu⟩ := flat_get l _ u h
      exact ⟨i + 1, t', k, by omega, hk, by simpa using hi, hu⟩
theorem flat_len (l : List Tok) : (l.flatMap tokCells).length = l.length * 3 := by
  induction l with
  | nil => rfl
  | cons t l ih => rw [List.flatMap_cons, List.length_append, ih, tokCells_len, List.length_cons]; omega
set_option maxRecDepth 100000 in
/-- append of tokens to a row of the call's own. -/
theorem run_append_toks {w : World} {base : Nat} {S : Nat → Prop} {v x : Value} {l l' : List Tok} (ty : TypeId) (hown : TRow w base v l) (hsrc : Toks w S x l')
    (hn : l.length + l'.length ≤ 1000000) (hbase : base ≤ w.heap.size) :
    ∃ v' w', (Builtin.append_ #[22, 22] ty #[v, x]).run Tryz.prog w = .ok v' w' ∧ TRow w' base v' (l ++ l') ∧ w.grownBy w' v.ownBlock := by
  obtain ⟨A, c, rfl, _, _, hsrc⟩ := hsrc
  obtain ⟨i, hi, hz0, hz1, hz2⟩ := info_parts tok_info
  cases A with
  | none =>
    have hl : l' = [] := by
      rcases hsrc with h | ⟨b, o, h, _⟩
      · exact h
      · cases h
    subst hl
    refine ⟨v, w, ?_, by simpa using hown, ⟨rfl, rfl, rfl, Nat.le_refl _, fun _ _ _ => rfl⟩⟩
    rcases hown.2 with ⟨rfl, h0⟩ | ⟨g, cap, cur, rfl, _, _, hnc, _⟩
    · simp [Builtin.append_, run_underlying Tryz.underlying22, sizeOf, typeInfo, hi, Builtin.lenOf, Builtin.firstCells]
    · simp [Builtin.append_, run_underlying Tryz.underlying22, sizeOf, typeInfo, hi, Builtin.lenOf, Builtin.firstCells, hnc, storeCells]
  | some a =>
    have ha : ∀ j u, (l'.flatMap tokCells)[j]? = some u → w.cell? (a.add j) = some u := by
      rcases hsrc with h | ⟨b, o, h, _, hx⟩
      · subst h; intro j u h; simp at h
      · injection h with h; subst h
        intro j u hj
        obtain ⟨q, t, k, rfl, hk, hq, hu⟩ := flat_get l' j u hj
        obtain ⟨x0, x1, x2⟩ := hx q t hq
        rw [add_cell]
        match k, hk, hu with
        | 0, _, hu => rw [← Nat.add_assoc]; injection hu with hu; rw [← hu]; exact x0
        | 1, _, hu => rw [← Nat.add_assoc]; injection hu with hu; rw [← hu]; exact x1
        | 2, _, hu => rw [← Nat.add_assoc]; injection hu with hu; rw [← hu]; exact x2
    have hone : ∀ u ∈ l'.flatMap tokCells, u.oneCell' = true := by
      intro u hu
      obtain ⟨t, _, ht⟩ := List.mem_flatMap.1 hu
      exact tok_one t u ht
    obtain ⟨v', w', hr, h1, h2, _, h4⟩ := run_append_own_at (P := Tryz.prog) w base 22 ty 25 i _ 3 40 Tryz.underlying22 hi hz0 hz1 hz2 rfl (by omega) v l.length _ hown a l'.length c _ (flat_len l') ha hone (by unfold maxLen; omega) (by omega) hbase
    exact ⟨v', w', hr, by unfold TRow; rw [List.length_append, List.flatMap_append]; exact h1, h2⟩

section
variable {w : World} {ops : Array Oper} {rest : List Oper} {o : Oper} {a : Act} {Q : Exit → Act → World → Prop}
theorem wp_append_toks {K : Act → World → Prop} (s x : Operand) (ho : o.op = .call { callee := .builtin .append, args := #[s, x], argTypes := #[22, 22] })
    (base : Nat) (S : Nat → Prop) (v u : Value) (l l' : List Tok) (hs : a.eval s = v) (hx : a.eval x = u) (hown : TRow w base v l) (hsrc : Toks w S u l')
    (hn : l.length + l'.length ≤ 1000000) (hbase : base ≤ w.heap.size)
    (h : ∀ v' w', TRow w' base v' (l ++ l') → w.grownBy w' v.ownBlock → K (a.put o.dst v') w') : o.wp Tryz.prog a w K Q := by
  obtain ⟨v', w', hr, h1, h2⟩ := run_append_toks o.type hown hsrc hn hbase
  unfold Oper.wp execOp
  simp only [ho, resolve, invoke, builtin, Sem.run_bind, Sem.run_pure, Result.andThen_ok, List.map_toArray, List.map_cons, List.map_nil, hs, hx, hr]
  exact h v' w' h1 h2
theorem wpList_append_toks (hgd : o.guard = none) (s x : Operand) (ho : o.op = .call { callee := .builtin .append, args := #[s, x], argTypes := #[22, 22] })
    (base : Nat) (S : Nat → Prop) (v u : Value) (l l' : List Tok) (hs : a.eval s = v) (hx : a.eval x = u) (hown : TRow w base v l) (hsrc : Toks w S u l')
    (hn : l.length + l'.length ≤ 1000000) (hbase : base ≤ w.heap.size)
    (h : ∀ v' w', TRow w' base v' (l ++ l') → w.grownBy w' v.ownBlock → wpList Tryz.prog ops Q rest (a.put o.dst v') w') : wpList Tryz.prog ops Q (o :: rest) a w :=
  wpList_plain hgd fun _ hK => wp_append_toks s x ho base S v u l l' hs hx hown hsrc hn hbase fun v' w' h1 h2 => hK _ _ (h v' w' h1 h2)
theorem step_append_toks {K : Act → World → Prop} {E : Prop} (hgd : o.guard = none) (s x : Operand) (ho : o.op = .call { callee := .builtin .append, args := #[s, x], argTypes := #[22, 22] })
    (base : Nat) (S : Nat → Prop) (v u : Value) (l l' : List Tok) (hs : a.eval s = v) (hx : a.eval x = u) (hown : TRow w base v l) (hsrc : Toks w S u l')
    (hn : l.length + l'.length ≤ 1000000) (hbase : base ≤ w.heap.size)
    (h : ∀ v' w', TRow w' base v' (l ++ l') → w.grownBy w' v.ownBlock → K (a.put o.dst v') w') :
    if Region.wanted o (yielded ops a.tmps) = true then Oper.wp Tryz.prog o a w K Q else E := by
  have hw : Region.wanted o (yielded ops a.tmps) = true := by simp [Region.wanted, hgd]
  rw [if_pos hw]
  exact wp_append_toks s x ho base S v u l l' hs hx hown hsrc hn hbase h
end

theorem same_symm : ∀ a b : List Tok, sameN a b = sameN b a
  | [], b => by cases b <;> rfl
  | a :: x, [] => rfl
  | a :: x, b :: y => by
    rw [sameN, sameN, same_symm x y]
    by_cases h : a = b
    · rw [if_pos h, if_pos h.symm]
    · rw [if_neg h, if_neg (Ne.symm h)]
theorem back_symm (a b : List Tok) : backN a b = backN b a := by
  unfold backN; rw [same_symm a b, same_symm a.reverse b.reverse, Nat.min_comm a.length]
theorem take_same (x y : List Tok) : x.take (sameN x y) = y.take (sameN x y) := by
  apply List.ext_getElem?
  intro i
  by_cases h : i < sameN x y
  · rw [List.getElem?_take_of_lt h, List.getElem?_take_of_lt h]; exact same_at x y i h
  · rw [List.getElem?_take_eq_none (by omega), List.getElem?_take_eq_none (by omega)]
theorem drop_same (x y : List Tok) : x.drop (x.length - backN x y) = y.drop (y.length - backN x y) := by
  have hs := back_sum x y
  apply List.ext_getElem?
  intro i
  rw [List.getElem?_drop, List.getElem?_drop]
  by_cases h : i < backN x y
  · have := back_at x y (backN x y - 1 - i) (by omega)
    rw [show x.length - 1 - (backN x y - 1 - i) = x.length - backN x y + i by omega, show y.length - 1 - (backN x y - 1 - i) = y.length - backN x y + i by omega] at this
    exact this
  · rw [List.getElem?_eq_none (by omega), List.getElem?_eq_none (by omega)]
/-- What both begin with, what is left between, and what both end with. -/
theorem lens_all (x y : List Tok) : [] ++ x.take (sameN x y) ++ (y.drop (sameN x y)).take (y.length - backN x y - sameN x y) ++ x.drop (x.length - backN x y) = y := by
  have hs := back_sum x y
  rw [List.nil_append, take_same, drop_same]
  have h1 : (y.drop (sameN x y)).drop (y.length - backN x y - sameN x y) = y.drop (y.length - backN x y) := by
    rw [List.drop_drop]; congr 1; omega
  rw [← h1, List.append_assoc, List.take_append_drop, List.take_append_drop]
end Go.Proofs.YtggoebbfgkebcaaGreatDoor

namespace Go.Proofs.YtggoebbfgkebcaaGreatDoor
open Go.RowKit Go.Sort Go.Maps

theorem TRow.some {w : World} {base : Nat} {v : Value} {l : List Tok} (h : TRow w base v l) (hn : v ≠ .slice none 0 0) : ∃ g c, v = .slice (some ⟨g, 0, none⟩) l.length c ∧ l.length ≤ c := by
  rcases h.form with ⟨e, _⟩ | h
  · exact absurd e hn
  · exact h
/-- A part of a row. -/
theorem Toks.part {w : World} {S : Nat → Prop} {A : Option Addr} {c : Nat} {l : List Tok} (h : Toks w S (.slice A l.length c) l) (i n : Nat) (hin : i + n ≤ l.length) {A' : Option Addr} {d : Nat} (hd : n ≤ d) (hdc : d ≤ c) (hA : n = 0 ∨ ∃ b o, A = some ⟨b, o, none⟩ ∧ A' = some ⟨b, o + i * 3, none⟩) : Toks w S (.slice A' n d) ((l.drop i).take n) := by
  obtain ⟨A0, c', hv, h1, h2, h3⟩ := h
  injection hv with hv1 hv2 hv3
  subst hv3
  have hl : ((l.drop i).take n).length = n := by rw [List.length_take, List.length_drop]; omega
  refine ⟨_, d, by rw [hl], by omega, by omega, ?_⟩
  rcases hA with rfl | ⟨b, o, rfl, rfl⟩
  · exact .inl (by simp)
  · by_cases h0 : (l.drop i).take n = []
    · exact .inl h0
    · rcases h3 with rfl | ⟨b', o', ha, hb, hc⟩
      · simp at h0
      · rw [← hv1] at ha
        injection ha with ha
        injection ha with ha1 ha2
        subst ha1; subst ha2
        refine .inr ⟨b, o + i * 3, rfl, hb, fun j t hj => ?_⟩
        have hjn : j < n := by have := (List.getElem?_eq_some_iff.1 hj).1; omega
        rw [List.getElem?_take_of_lt hjn, List.getElem?_drop] at hj
        have := hc (i + j) t hj
        rw [show o + (i + j) * 3 = o + i * 3 + j * 3 by omega] at this
        exact this

end Go.Proofs.YtggoebbfgkebcaaGreatDoor

namespace Go.Proofs.YtggoebbfgkebcaaGreatDoor
open Go.RowKit Go.Sort Go.Maps

/-- How much there is to write. -/
def tokW (l : List Tok) : Nat := (l.map fun t => 2 * t.text.size + t.head.size + 3).sum
theorem tokW_cons (t : Tok) (l : List Tok) : tokW (t :: l) = 2 * t.text.size + t.head.size + 3 + tokW l := by unfold tokW; rw [List.map_cons, List.sum_cons]
theorem tokW_app (a b : List Tok) : tokW (a ++ b) = tokW a + tokW b := by unfold tokW; rw [List.map_append, List.sum_append]
theorem says_tokW : ∀ l : List Tok, 2 * (saysL l).length + 3 * l.length ≤ tokW l
  | [] => by simp [saysL, tokW]
  | t :: l => by
    have h1 := says_tokW l
    have h3 : (saysL (t :: l)) = t.text.data.toList ++ saysL l := by unfold saysL; simp
    have h4 := Lib.size_eq t.text
    rw [h3, List.length_append, List.length_cons, tokW_cons]; omega
theorem part_tokW {t : Tok} {p : List Tok} {s : List UInt8} (h : partB (t :: p) = some s) : s.length ≤ tokW (t :: p) := by
  have hs := says_tokW (t :: p)
  have hc := tokW_cons t p
  have hh := Lib.size_eq t.head
  unfold partB at h
  simp only at h
  split at h
  · injection h with h; subst h; simp; omega
  · split at h
    · split at h
      · injection h with h; subst h; simp only [List.length_append, List.length_cons, List.length_nil]; omega
      · cases h
    · split at h
      · split at h
        · injection h with h; subst h
          have hq := quoteL_le (saysL (t :: p))
          have hq2 : 3 ≤ 3 * (t :: p).length := by simp only [List.length_cons]; omega
          have h5 : (saysL (t :: p)) = t.text.data.toList ++ saysL p := by unfold saysL; simp
          have h6 := says_tokW p
          have h7 := Lib.size_eq t.text
          rw [h5, List.length_append] at hq
          rw [h5, List.length_append, hc]; omega
        · cases h
      · cases h

def BuildPost (w : World) (q : List Tree × Int) (e : Ending) (w' : World) : Prop :=
  ∃ v, e = .returned (.tuple #[v, .int .i64 q.2]) ∧ Kids w' (From w.heap.size w'.heap.size) v q.1 ∧ Below w.heap.size w w'
def lenOf : Value → Nat
  | .slice _ n _ => n
  | _ => 0
/-- What stands ahead of a round. -/
def BuildAt (w : World) (l : List Tok) (s : Value) (wr : World) : Prop := ∃ (l' : List Tok) (acc : List UInt8), Toks w (Under w.heap.size) s l' ∧ Buil wr w.heap.size w.heap.size acc ∧
  buildW l = (buildW l').map (acc ++ ·) ∧ acc.length + tokW l' ≤ tokW l ∧ (∀ t ∈ l', t ∈ l) ∧ l'.length ≤ l.length ∧ Below w.heap.size w wr
theorem map_none {α β : Type} {o : Option α} {f : α → β} (h : o = none) : o.map f = none := by rw [h]; rfl

set_option maxHeartbeats 8000000 in
set_option maxRecDepth 100000 in
theorem tbuild_any (v : Value) (l : List Tok) (w : World) (h : Toks w (Under w.heap.size) v l) (hl : l.length ≤ 9000) (hx : ∀ t ∈ l, t.text.size ≤ 1000 ∧ t.head.size ≤ 5000) (hs : tokW l ≤ 121000) (hT : Tabs w) :
    Calls Tryz.prog 5 #[v] w (BuildPost w (buildB l)) := by
  have HL := Lib.hid h
  have HT := Lib.hid hT
  have HX := Lib.hid hx
  obtain ⟨A, c, rfl, hlc⟩ := h.form
  clear h hT hx
  go_enter Tryz.func5, Tryz.ntmps5
  go_wp2_with fail
  have HBU := Lib.hid (buil_new w)
  have HW : Hid (Below w.heap.size w (w.alloc (.cells #[.pointer none, .slice none 0 0] 45))) := Lib.hid ((Below.refl _ _).alloc (Nat.le_refl _) _)
  generalize w.alloc (.cells #[.pointer none, .slice none 0 0] 45) = W1 at *
  go_loopw [0] (fun s wr => Hid (BuildAt w l s wr)) (fun s _ => lenOf s)
  case atStart => exact Lib.hid ⟨l, [], HL.out, HBU.out, by cases buildW l <;> simp, by simp, fun _ h => h, Nat.le_refl _, HW.out⟩
  case round =>
    obtain ⟨l', acc, hT', hbu, hB, hacc, hmem, hle, hbr⟩ := hrel.out
    have HBU2 := Lib.hid hbu
    have HB := Lib.hid hB
    have HBR := Lib.hid hbr
    have HMEM := Lib.hid hmem
    have HTO := Lib.hid hT'
    have HACC := Lib.hid hacc
    have hws := hbr.size
    obtain ⟨A1, c1, rfl, hlc1⟩ := hT'.form
    clear hT' hbu hB hmem hbr hrel
    cases l' with
    | nil =>
      rw [buildW_nil] at HB
      have HBB : Hid (buildB l = parseAllB acc) := Lib.hid (buildB_some (by rw [HB.out]; simp))
      clear hacc
      go_wp2_with fail
      refine (string_any w.heap.size w.heap.size _ wr HBU2.out hws).mono ?_
      rintro e w3 ⟨rfl, _, hb3, _⟩
      have HB3 := Lib.hid (HBR.out.trans hb3)
      clear hb3
      go_wp2_with fail
      refine (parseAll_any _ w3 (by have h1 := HACC.out; have h2 := sizeB_of (a := ⟨acc.toArray⟩) (l := acc) (by simp); omega) (HT.out.below HB3.out)).mono ?_
      rintro e w4 ⟨v4, rfl, hk4, hb4⟩
      have hq : (⟨acc.toArray⟩ : ByteArray).data.toList = acc := by simp
      rw [hq, ← HBB.out] at hk4 ⊢
      obtain ⟨A4, c4, rfl, _⟩ := hk4.form
      have HK4 := Lib.hid (hk4.keep (S' := From w.heap.size w4.heap.size) (fun b hb => ⟨Nat.le_trans HB3.out.size hb.1, hb.2⟩) (fun _ _ => rfl))
      have HB4 := Lib.hid (belowNext HB3.out hb4)
      clear hk4 hb4 hq
      go_wp2
      go_ret2
      exact ⟨_, rfl, HK4.out, HB4.out⟩
    | cons t p =>
      have hpos := partN_pos t p
      have hple := partN_le (t :: p)
      have HTW : Hid (Toks wr (Under wr.heap.size) (.slice A1 (t :: p).length c1) (t :: p)) := Lib.hid (HTO.out.keep (fun b h => Nat.lt_of_lt_of_le h HBR.out.size) (fun b h => HBR.out.block b h))
      have hpl : (0 : Int) < ((t :: p).length : Int) := by rw [List.length_cons]; omega
      go_wp2_with fail
      refine (partLength_any _ (t :: p) wr HTW.out (by simp) (by omega)).mono ?_
      rintro e w3 ⟨rfl, hb3⟩
      have HB3 := Lib.hid (HBR.out.trans (hb3.mono hws))
      have HBU3 := Lib.hid (HBU2.out.below hb3)
      have HTW3 : Hid (Toks w3 (Under w3.heap.size) (.slice A1 (t :: p).length c1) (t :: p)) := Lib.hid (HTO.out.keep (fun b h => Nat.lt_of_lt_of_le h HB3.out.size) (fun b h => HB3.out.block b h))
      clear hb3 HTW
      have HPN : Hid (∃ n, partN (t :: p) = n ∧ 1 ≤ n ∧ n ≤ (t :: p).length) := Lib.hid ⟨_, rfl, hpos, hple⟩
      obtain ⟨n, hn, hn1, hn2⟩ := HPN.out
      rw [hn] at hpos hple ⊢
      have HN := Lib.hid hn
      clear hn HPN
      obtain ⟨b, o, rfl, hub, _⟩ := HTO.out.get (i := 0) rfl
      have HPT : Hid (Toks w3 (Under w3.heap.size) (.slice (some ⟨b, o, none⟩) n c1) (t :: p.take (n - 1))) := Lib.hid (by
        have h := HTW3.out.part 0 n (by omega) (A' := some ⟨b, o, none⟩) (d := c1) (by omega) (Nat.le_refl _) (.inr ⟨b, o, rfl, by simp⟩)
        obtain ⟨m, rfl⟩ : ∃ m, n = m + 1 := ⟨n - 1, by omega⟩
        simpa using h)
      have HTK : Hid (t :: p.take (n - 1) = (t :: p).take n) := Lib.hid (by obtain ⟨m, rfl⟩ : ∃ m, n = m + 1 := ⟨n - 1, by omega⟩; simp)
      have HSTEP : Hid (buildW (t :: p) = (partB (t :: p.take (n - 1))).bind fun s => (buildW ((t :: p).drop n)).map (s ++ ·)) := Lib.hid (by rw [buildW_step _ (by simp), HN.out, HTK.out])
      have hnc : n ≤ c1 := by omega
      have HMT : Hid (∀ x ∈ t :: p.take (n - 1), x ∈ l) := Lib.hid fun x hx => HMEM.out x (by rw [HTK.out] at hx; exact List.mem_of_mem_take hx)
      have hlp : (t :: p.take (n - 1)).length ≤ 9000 := by have := congrArg List.length HTK.out; rw [List.length_take] at this; omega
      have HLP := Lib.hid hlp
      have HTKW : Hid (tokW (t :: p) = tokW (t :: p.take (n - 1)) + tokW ((t :: p).drop n)) := Lib.hid (by rw [HTK.out, ← tokW_app, List.take_append_drop])
      clear hlp
      go_wp2_with fail
      refine (twritten_any _ t (p.take (n - 1)) w3 HPT.out HLP.out (fun x hx => (HX.out x (HMT.out x hx)).1) (HX.out t (HMT.out t (by simp))).2 (HT.out.below HB3.out)).mono ?_
      rintro e w4 ⟨⟨s, ok, rfl, h1, h2⟩, hb4⟩
      have HB4 := Lib.hid (HB3.out.trans (hb4.mono HB3.out.size))
      have HBU4 := Lib.hid (HBU3.out.below hb4)
      have H1 := Lib.hid h1
      have H2 := Lib.hid h2
      clear hb4 h1 h2
      cases ok with
      | false =>
        have HBB : Hid (buildB l = ([], 2)) := Lib.hid (by
          cases hq : partB (t :: p.take (n - 1)) with
          | none => exact buildB_none (by rw [HB.out, HSTEP.out, hq]; rfl)
          | some q => have := (H2.out q hq).1; cases this)
        go_wp2
        go_ret2
        rw [HBB.out]
        exact ⟨_, rfl, kids_none, HB4.out⟩
      | true =>
        have HQ : Hid (∃ q, partB (t :: p.take (n - 1)) = some q ∧ s.data.toList = q) := Lib.hid (by
          cases hq : partB (t :: p.take (n - 1)) with
          | none => have := H1.out hq; cases this
          | some q => exact ⟨q, rfl, (H2.out q hq).2⟩)
        obtain ⟨q, hq, hsq⟩ := HQ.out
        have hql := part_tokW hq
        have hsz := sizeB_of hsq
        have HNEW : Hid (buildW l = (buildW ((t :: p).drop n)).map ((acc ++ s.data.toList) ++ ·)) := Lib.hid (by
          rw [HB.out, HSTEP.out, hq, hsq]
          show ((buildW ((t :: p).drop n)).map (q ++ ·)).map (acc ++ ·) = _
          rw [Option.map_map]
          congr 1
          funext z
          simp)
        have HSUM : Hid ((acc ++ s.data.toList).length + tokW ((t :: p).drop n) ≤ tokW l) := Lib.hid (by
          have h1 := HTKW.out
          have h2 := HACC.out
          rw [List.length_append, hsq]; omega)
        have hac : acc.length + s.size ≤ 100000000 := by have h1 := HTKW.out; have h2 := HACC.out; omega
        clear hq hsq hql hsz HQ
        go_wp2_with fail
        refine (write_any w.heap.size w.heap.size acc s w4 HBU4.out hac HB4.out.size).mono ?_
        rintro e w5 ⟨rfl, hbu5, hb5, _⟩
        have HB5 := Lib.hid (HB4.out.trans hb5)
        have HBU5 := Lib.hid hbu5
        clear hbu5 hb5
        have HMD : Hid (∀ x ∈ (t :: p).drop n, x ∈ l) := Lib.hid fun x hx => HMEM.out x (List.mem_of_mem_drop hx)
        have hdl : ((t :: p).drop n).length = (t :: p).length - n := List.length_drop
        have HDL := Lib.hid hdl
        clear hdl
        have hbn : ¬ ((p.length : Int) + 1 < (n : Int)) := by simp only [List.length_cons] at hn2; omega
        by_cases u : n = c1
        · subst u
          have hn0 : p.length + 1 - n = 0 := by simp only [List.length_cons] at hlc1; omega
          have HTN : Hid (Toks w (Under w.heap.size) (.slice (some ⟨b, o, none⟩) (p.length + 1 - n) 0) ((t :: p).drop n)) := Lib.hid (by
            have h := HTO.out.part n 0 (by omega) (A' := some ⟨b, o, none⟩) (d := 0) (by omega) (by omega) (.inl rfl)
            have e : (t :: p).drop n = [] := List.drop_of_length_le (by omega)
            rw [e] at h ⊢
            rw [hn0]
            simpa using h)
          clear hn0
          go_wp2
          refine ⟨Lib.hid ⟨_, _, HTN.out, HBU5.out, HNEW.out, HSUM.out, HMD.out, by rw [HDL.out]; omega, HB5.out⟩, ?_⟩
          simp [lenOf]; omega
        · have u2 : ¬ c1 = n := fun e => u e.symm
          have HTN : Hid (Toks w (Under w.heap.size) (.slice (some ⟨b, o + n * 3, none⟩) ((t :: p).length - n) (c1 - n)) ((t :: p).drop n)) := Lib.hid (by
            have h := HTO.out.part n ((t :: p).length - n) (by omega) (A' := some ⟨b, o + n * 3, none⟩) (d := c1 - n) (by omega) (by omega) (.inr ⟨b, o, rfl, rfl⟩)
            rw [List.take_of_length_le (by rw [List.length_drop]; exact Nat.le_refl _)] at h
            exact h)
          go_wp2
          refine ⟨Lib.hid ⟨_, _, HTN.out, HBU5.out, HNEW.out, HSUM.out, HMD.out, by rw [HDL.out]; omega, HB5.out⟩, ?_⟩
          simp [lenOf]; omega
end Go.Proofs.YtggoebbfgkebcaaGreatDoor
