/-
  What the document's runes, Size and Total answer.
-/
import Derived.Test.YtmmifednhleggaaW6
import Derived.Test.YtmmifednhleggaaRunes
namespace Go.Proofs.Ytmmifednhleggaa
open Go.RowKit Go.Sort

theorem rrun_back (w : World) (g c : Nat) (ps : List Nat) (h : ∀ i (r : Nat), ps[i]? = some r → w.cell? ⟨g, i, none⟩ = some (.int .i32 (r : Int))) :
    (convert 77 9 (.slice (some ⟨g, 0, none⟩) ps.length c)).run Try.prog w = .ok (.string (runesBytes (ps.map fun r : Nat => (r : Int)))) w := by
  rw [run_convert_runes_string w 77 9 21 (some ⟨g, 0, none⟩) ps.length c Try.underlying77 Try.underlying21 Try.underlying9]
  refine run_runesToString w ⟨g, 0, none⟩ ps.length c _ ?_
  have hl := run_loadCells_list (P := Try.prog) (w := w) ⟨g, 0, none⟩ ((ps.map fun r : Nat => (r : Int)).map (Value.int .i32)) fun j v hj => by
    rw [add_cell, Nat.zero_add]
    rw [List.map_map, List.getElem?_map, Option.map_eq_some_iff] at hj
    obtain ⟨r, hr, rfl⟩ := hj
    exact h j r hr
  simpa using hl

def RunesPost (s : ByteArray) (w : World) (e : Ending) (w' : World) : Prop :=
  ∃ A c b, e = .returned (.tuple #[.slice A (Lib.runeCount s) c, .bool b]) ∧ Below w.heap.size w w'

set_option maxHeartbeats 1000000 in
theorem rrunes_any (s : ByteArray) (w : World) (hs : s.size ≤ 1000000) :
    Calls Try.prog 43 #[.string s] w (RunesPost s w) := by
  obtain ⟨c, obj, hrun, hc, hcell⟩ := run_runes w s (by omega)
  have hback := rrun_back (w.drew.alloc obj) w.heap.size c (pts s.data.toList) hcell
  have hback2 := rrun_back (w.drew.alloc obj).drew w.heap.size c (pts s.data.toList) hcell
  have HX : Hid (∀ b, RunesPost s w (.returned (.tuple #[.slice (some ⟨w.heap.size, 0, none⟩) (pts s.data.toList).length c, .bool b])) (w.drew.alloc obj).drew) :=
    Lib.hid fun b => ⟨_, _, _, by rw [pts_count, Lib.runeCountL_eq], (((Below.refl _ _).drew).alloc (Nat.le_refl _) _).drew⟩
  clear hcell hc
  generalize runesBytes ((pts s.data.toList).map fun r : Nat => (r : Int)) = sr at *
  generalize (pts s.data.toList).length = np at *
  generalize w.heap.size = g at *
  generalize hW : w.drew.alloc obj = W at *
  go_enter Try.func43, Try.ntmps43
  go_wp2_with fail
  go_region
  all_goals
    go_wp2
    exact bodyPost_ret (v := .tuple #[.slice (some ⟨g, 0, none⟩) np c, .bool (sr.toList == s.toList)]) (by simp [results, Try.results43, go_sem]) rfl (HX.out _)

/-- What Size answers, of trees that weigh so much. -/
def RSize (n : Nat) : Prop := ∀ (t : Tree) (v : Value) (w : World), weigh t ≤ n → weigh t ≤ 1000000 → Node w (Under w.heap.size) v t →
  Calls Try.prog 35 #[v] w fun e w' => e = .returned (.int .i64 (sizeB t)) ∧ Below w.heap.size w w'

set_option maxHeartbeats 2000000 in
theorem rtotal_of (n : Nat) (ih : RSize n) (l : List Tree) (v : Value) (w : World) (hn : weighAll l ≤ n) (hw : weighAll l ≤ 1000000) (h : Kids w (Under w.heap.size) v l) :
    Calls Try.prog 30 #[v] w fun e w' => e = .returned (.int .i64 (totalB l)) ∧ Below w.heap.size w w' := by
  have IH := Lib.hid ih
  have HK := Lib.hid h
  have hlen : l.length ≤ 1000000 := by have := length_le_weigh l; omega
  obtain ⟨A, c, rfl, hlc⟩ := h.form
  clear ih h
  go_enter Try.func30, Try.ntmps30
  go_wp2
  go_loopw [3, 4] (fun m i wr => ∃ k : Nat, k ≤ l.length ∧ m = .int .i64 (totalB (l.take k)) ∧ i = .int .i64 k ∧ Below w.heap.size w wr) (fun _ i _ => l.length - (intOf i).toNat)
  case atStart => exact ⟨0, by omega, rfl, rfl, Below.refl _ _⟩
  case round =>
    obtain ⟨k, hk, rfl, rfl, hb⟩ := hrel
    have HB := Lib.hid hb
    by_cases hlt : k < l.length
    · obtain ⟨b, o, rfl, hub, hrow⟩ := HK.out.get hlt
      have hlx : l[k]? = some l[k] := List.getElem?_eq_getElem hlt
      have HTK : Hid (l.take (k + 1) = l.take k ++ [l[k]]) := Lib.hid (List.take_succ_eq_append_getElem hlt)
      generalize l[k] = x at *
      have hwx := weighAll_take_get l k x HTK.out
      have htl := total_le_weigh (l.take k)
      have hsx := size_le_weigh x
      obtain ⟨xm, xa, xk, e0, e1, e2, e3, e4, exm, exa, exk⟩ := hrow.node hlx
      have HXN : Hid (Node w (Under w.heap.size) (.agg #[.string x.kind, .string x.text, xm, xa, xk]) x) := Lib.hid ⟨_, _, _, rfl, exm, exa, exk⟩
      have f0 := (HB.out.cell (p := ⟨b, _, none⟩) hub).trans e0
      have f1 := (HB.out.cell (p := ⟨b, _, none⟩) hub).trans e1
      have f2 := (HB.out.cell (p := ⟨b, _, none⟩) hub).trans e2
      have f3 := (HB.out.cell (p := ⟨b, _, none⟩) hub).trans e3
      have f4 := (HB.out.cell (p := ⟨b, _, none⟩) hub).trans e4
      obtain ⟨A1, c1, rfl, _⟩ := exm.form
      obtain ⟨A2, c2, rfl, _⟩ := id exa
      obtain ⟨A3, c3, rfl, _⟩ := exk.form
      have HTT : Hid (totalB (l.take (k + 1)) = totalB (l.take k) + sizeB x) := Lib.hid (by rw [HTK.out, totalB_append]; simp [totalB])
      clear e0 e1 e2 e3 e4 exm exa exk hlx hrow hb
      go_wp2_with fail
      refine (IH.out x _ wr (by omega) (by omega) ((HXN.out.below HB.out).more HB.out.size)).mono ?_
      rintro e w1 ⟨rfl, hb1⟩
      have HB1 := Lib.hid (belowNext HB.out hb1)
      clear hb1
      generalize totalB (l.take k) = tt at *
      generalize sizeB x = sx at *
      go_wp2
      exact ⟨⟨k + 1, by omega, by rw [HTT.out]; go_num, by go_num, HB1.out⟩, by simp [intOf]; omega⟩
    · have HTK : Hid (totalB l = totalB (l.take k)) := Lib.hid (by rw [List.take_of_length_le (by omega)])
      generalize totalB (l.take k) = tt at *
      go_wp2
      go_ret
      exact ⟨by rw [HTK.out]; rfl, HB.out⟩

set_option maxHeartbeats 2000000 in
theorem rsize_all : ∀ n, RSize n := by
  intro n
  induction n using Nat.strongRecOn with
  | ind n ih =>
    have IH := Lib.hid ih
    clear ih
    intro t v w hn hw h
    have HN := Lib.hid h
    obtain ⟨vm, va, vk, rfl, hm, ha, hl⟩ := h
    have HL := Lib.hid hl
    have hkw := kids_weigh t
    have htl := total_le_weigh t.kids
    have htw : t.text.size ≤ weigh t := by obtain ⟨k, t, m, a, l⟩ := t; simp only [weigh, Tree.text]; omega
    obtain ⟨A1, c1, rfl, _⟩ := hm.form
    obtain ⟨A2, c2, rfl, _⟩ := id ha
    obtain ⟨A3, c3, rfl, _⟩ := hl.form
    clear hm ha hl
    generalize hW1 : w.alloc (.cells #[.string t.kind, .string t.text, .slice A1 t.marks.length c1, .slice A2 t.attrs.length c2, .slice A3 t.kids.length c3] 31) = W1
    have HB : Hid (Below w.heap.size w W1) := Lib.hid (by subst hW1; exact (Below.refl _ _).alloc (Nat.le_refl _) _)
    have hblk : W1.heap[w.heap.size]? = some (.cells #[.string t.kind, .string t.text, .slice A1 t.marks.length c1, .slice A2 t.attrs.length c2, .slice A3 t.kids.length c3] 31) := by
      subst hW1; show (w.heap.push _)[w.heap.size]? = _; simp
    obtain ⟨x0, x1, x2, x3, x4⟩ : W1.cell? ⟨w.heap.size, 0, none⟩ = some (.string t.kind) ∧ W1.cell? ⟨w.heap.size, 1, none⟩ = some (.string t.text) ∧ W1.cell? ⟨w.heap.size, 2, none⟩ = some (.slice A1 t.marks.length c1) ∧ W1.cell? ⟨w.heap.size, 3, none⟩ = some (.slice A2 t.attrs.length c2) ∧ W1.cell? ⟨w.heap.size, 4, none⟩ = some (.slice A3 t.kids.length c3) := by
      simp [World.cell?, hblk]
    have HW1 := Lib.hid hW1
    clear hblk hW1
    cases hk : isTxt t.kind with
    | true =>
      have HSX : Hid (sizeB t = Lib.runeCount t.text) := Lib.hid (by obtain ⟨k, t, m, a, l⟩ := t; simp only [Tree.kind, Tree.text] at *; simp [sizeB, hk])
      have hkk : (t.kind.toList == [116, 101, 120, 116]) = true := hk
      go_enter Try.func35, Try.ntmps35
      go_wp2_with fail
      rw [HW1.out]
      refine (rrunes_any t.text W1 (by omega)).mono ?_
      rintro e w2 ⟨Ar, cr, br, rfl, hb2⟩
      have HB2 := Lib.hid (belowNext HB.out hb2)
      clear hb2
      go_wp2
      go_ret
      exact ⟨by rw [HSX.out]; rfl, HB2.out⟩
    | false =>
      have HSX : Hid (sizeB t = 2 + totalB t.kids) := Lib.hid (by obtain ⟨k, t, m, a, l⟩ := t; simp only [Tree.kind, Tree.kids] at *; simp [sizeB, hk])
      have hkk : (t.kind.toList == [116, 101, 120, 116]) = false := hk
      go_enter Try.func35, Try.ntmps35
      go_wp2_with fail
      rw [HW1.out]
      refine (rtotal_of (weighAll t.kids) (IH.out _ (by omega)) t.kids _ W1 (Nat.le_refl _) (by omega) ((HL.out.below HB.out).more HB.out.size)).mono ?_
      rintro e w2 ⟨rfl, hb2⟩
      have HB2 := Lib.hid (belowNext HB.out hb2)
      clear hb2
      generalize totalB t.kids = tt at *
      go_wp2
      go_ret
      exact ⟨by rw [HSX.out]; exact ret_num (by omega), HB2.out⟩

theorem rtotal_any (v : Value) (l : List Tree) (w : World) (h : Kids w (Under w.heap.size) v l) (hw : weighAll l ≤ 1000000) :
    Calls Try.prog 30 #[v] w fun e w' => e = .returned (.int .i64 (totalB l)) ∧ Below w.heap.size w w' :=
  rtotal_of _ (rsize_all (weighAll l)) l v w (Nat.le_refl _) hw h
theorem rsize_any (v : Value) (t : Tree) (w : World) (h : Node w (Under w.heap.size) v t) (hw : weigh t ≤ 1000000) :
    Calls Try.prog 35 #[v] w fun e w' => e = .returned (.int .i64 (sizeB t)) ∧ Below w.heap.size w w' :=
  rsize_all _ t v w (Nat.le_refl _) hw h
end Go.Proofs.Ytmmifednhleggaa
