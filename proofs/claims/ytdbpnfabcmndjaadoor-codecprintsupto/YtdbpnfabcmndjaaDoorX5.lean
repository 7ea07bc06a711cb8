/-
  The document's Write, WriteAll, Print and PrintAll: what they answer.
-/
import Derived.Test.YtdbpnfabcmndjaaDoorX2
import Derived.Test.YtdbpnfabcmndjaaDoorX6
import Derived.Test.YtdbpnfabcmndjaaDoorNh
namespace Go.Proofs.YtdbpnfabcmndjaaDoor
open Go.RowKit Go.Sort Go.Maps

/-- A text of bytes. -/
def tB (l : List UInt8) : ByteArray := ⟨l.toArray⟩
theorem tB_data (l : List UInt8) : (tB l).data.toList = l := by simp [tB]
theorem tB_of {s : ByteArray} {l : List UInt8} (h : s.data.toList = l) : s = tB l := ByteArray.ext (Array.ext' (by rw [h, tB_data]))
theorem tB_size (l : List UInt8) : (tB l).size = l.length := by rw [Lib.size_eq, tB_data]
theorem tB_app (a b : List UInt8) : tB a ++ tB b = tB (a ++ b) := tB_of (by rw [wapp, tB_data, tB_data])
theorem writeAll_take1 {l : List Tree} {k : Nat} {x : Tree} (hx : l[k]? = some x) : writeAllB (l.take (k + 1)) = writeAllB (l.take k) ++ writeB x := by
  rw [List.take_add_one, hx, writeAllB_append]; simp [writeAllB]

theorem rhead_val (v : Value) (t : Tree) (w : World) (h : Node w (Under w.heap.size) v t) (hw : weigh t ≤ 1100000) :
    Calls Tryd.prog 31 #[v] w fun e w' => e = .returned (.string (tB (headW t))) ∧ Below w.heap.size w w' :=
  (rhead_any v t w h hw).mono fun e w' h => by
    obtain ⟨q, rfl, hq, hb⟩ := h
    exact ⟨by rw [tB_of hq], hb⟩

def RWrite (t : Tree) : Prop := ∀ (v : Value) (w : World), weigh t ≤ 1100000 → Node w (Under w.heap.size) v t →
  Calls Tryd.prog 45 #[v] w fun e w' => e = .returned (.string (tB (writeB t))) ∧ Below w.heap.size w w'

set_option maxHeartbeats 4000000 in
theorem rwriteAll_of (l : List Tree) (ih : ∀ x, x ∈ l → RWrite x) (A : Option Addr) (c : Nat) (w : World) (hw : weighAll l ≤ 1100000) (h : Kids w (Under w.heap.size) (.slice A l.length c) l) :
    Calls Tryd.prog 47 #[.slice A l.length c] w fun e w' => e = .returned (.string (tB (writeAllB l))) ∧ Below w.heap.size w w' := by
  have IH := Lib.hid ih
  have HK := Lib.hid h
  have hkl := length_le_weigh l
  clear ih h
  go_enter Tryd.func47, Tryd.ntmps47
  go_wp2
  go_loopg [3, 4] l.length (fun gh s3 s4 wx => ∃ (k : Nat) (st : ByteArray), k + gh = l.length ∧ s4 = .int .i64 (k : Int) ∧ s3 = .string st ∧ Hid (st = tB (writeAllB (l.take k))) ∧ Hid (Below w.heap.size w wx))
  case atStart => exact ⟨0, _, by omega, rfl, rfl, Lib.hid (by simp [writeAllB, tB]), Lib.hid (Below.refl _ _)⟩
  case round =>
    obtain ⟨k, st, hkg, rfl, rfl, hst, hb⟩ := hrel
    have hwt := weighAll_take l k
    have hsz : st.size ≤ 10000000 := by rw [hst.out, tB_size]; have := writeAllB_le (l.take k); omega
    by_cases hlt : k < l.length
    · have hx : l[k]? = some l[k] := List.getElem?_eq_getElem hlt
      have HIX := Lib.hid (IH.out l[k] (List.getElem_mem hlt))
      have hwx := weigh_mem (List.getElem_mem hlt)
      have HD := Lib.hid (writeAll_take1 hx)
      generalize l[k] = x at *
      obtain ⟨b, o, E1, l1, e1, E2, l2, e2, E3, e3, rfl, r0, r1, r2, r3, r4, hnx⟩ := HK.out.late hb.out hx
      have HNX := Lib.hid hnx
      have hxs : (tB (writeB x)).size ≤ 10000000 := by rw [tB_size]; have := writeB_le x; omega
      have HAD : Hid (st ++ tB (writeB x) = tB (writeAllB (l.take (k + 1)))) := Lib.hid (by rw [hst.out, tB_app, HD.out])
      clear hx hnx
      go_wp2_with fail
      refine (HIX.out _ wr (by omega) (HNX.out wr hb.out)).mono ?_
      rintro e w4 ⟨rfl, hb4⟩
      have HB4 := Lib.hid (belowNext hb.out hb4)
      clear hb4 r0 r1 r2 r3 r4
      generalize tB (writeB x) = sx at *
      have o1 : ¬ 9223372036854775807 < st.size + sx.size := by omega
      go_wp2
      go_roundg (l.length - (k + 1))
      case measure => omega
      case rel => exact ⟨k + 1, _, by omega, by go_num, rfl, HAD, HB4⟩
    · have HD : Hid (st = tB (writeAllB l)) := Lib.hid (by have := hst.out; rwa [List.take_of_length_le (by omega)] at this)
      go_wp2
      go_ret
      exact ⟨by rw [← HD.out]; rfl, hb.out⟩

set_option maxHeartbeats 4000000 in
theorem rwrite_of (t : Tree) (ih : ∀ x, x ∈ t.kids → RWrite x) : RWrite t := by
  intro v w hw h
  have IH := Lib.hid ih
  have HN := Lib.hid h
  obtain ⟨A1, c1, A2, c2, A3, c3, rfl⟩ := h.forms1
  have hkw := kids_weigh t
  have htx : t.text.size ≤ weigh t := by obtain ⟨k, x, m, a, l⟩ := t; simp only [weigh, Tree.text]; omega
  clear h ih
  generalize hW1 : w.alloc (.cells #[.string t.kind, .string t.text, .slice A1 t.marks.length c1, .slice A2 t.attrs.length c2, .slice A3 t.kids.length c3] 26) = W1
  have HB : Hid (Below w.heap.size w W1) := Lib.hid (by subst hW1; exact (Below.refl _ _).alloc (Nat.le_refl _) _)
  have HBL : Hid (W1.heap[w.heap.size]? = some (.cells #[.string t.kind, .string t.text, .slice A1 t.marks.length c1, .slice A2 t.attrs.length c2, .slice A3 t.kids.length c3] 26)) := Lib.hid (by
    subst hW1; show (w.heap.push _)[w.heap.size]? = _; simp)
  have HND : Hid (∀ W, Below W1.heap.size W1 W → Node W (Under W.heap.size) (.agg #[.string t.kind, .string t.text, .slice A1 t.marks.length c1, .slice A2 t.attrs.length c2, .slice A3 t.kids.length c3]) t) := Lib.hid fun W hW => node_late HN.out W (HB.out.trans (hW.mono HB.out.size))
  obtain ⟨x0, x1, x2, x3, x4⟩ := five_of HBL.out
  have HW1 := Lib.hid hW1
  clear hW1
  have HH := Lib.hid (regrown_any (w := W1) fun W hW => rhead_val _ t W (HND.out W hW) hw)
  have k0 := cell_regrown x0
  have k1 := cell_regrown x1
  have k2 := cell_regrown x2
  have k3 := cell_regrown x3
  have k4 := cell_regrown x4
  have hhz : (tB (headW t)).size ≤ 10000000 := by rw [tB_size]; have := headW_le t; omega
  cases hk : isTxt t.kind with
  | true =>
    have HQ := Lib.hid (regrown_any (w := W1) fun W _ => rquote_val t.text W (by omega))
    have hqz : (tB (quoteL t.text.data.toList)).size ≤ 10000000 := by rw [tB_size]; have := quote_le_weigh t; omega
    have HAD : Hid (tB (quoteL t.text.data.toList) ++ tB (headW t) = tB (writeB t)) := Lib.hid (by rw [tB_app, write_text hk])
    have hkk : (t.kind.toList == [116, 101, 120, 116]) = true := hk
    change Hid (∀ (d : Nat) (os : Array Obj), Calls _ _ _ _ fun e w'' => e = .returned (.string (tB (quoteL t.text.data.toList))) ∧ _) at HQ
    clear hk
    go_enter Tryd.func45, Tryd.ntmps45
    go_upto_region 2 with fail
    rw [HW1.out]
    generalize tB (quoteL t.text.data.toList) = sq at *
    generalize tB (headW t) = sh at *
    have o1 : ¬ 9223372036854775807 < sq.size + sh.size := by omega
    refine wp_region_quiet_below (by kernel_rfl) (by kernel_rfl) ?_
    repeat (first | go_big_quiet_step (first | exact HQ.out _ _ | exact HH.out _ _) | quiet_step (first | exact HQ.out _ _ | exact HH.out _ _))
    refine wpQuiet_nil ?_
    intro _ hw'
    obtain ⟨⟨dq, osq⟩, hw''⟩ := hw'
    subst hw''
    have HBN := Lib.hid (below_regrown W1 dq osq)
    clear k0 k1 k2 k3 k4 x0 x1 x2 x3 x4
    generalize grow (redrawn W1 dq) osq = wn at *
    go_wp2
    go_ret
    exact ⟨by rw [← HAD.out]; rfl, HB.out.trans (HBN.out.mono HB.out.size)⟩
  | false =>
    have HA := Lib.hid (regrown_any (w := W1) fun W hW => rwriteAll_of t.kids IH.out A3 c3 W (by omega) (HND.out W hW).kids1.2.2)
    have haz : (tB (writeAllB t.kids)).size ≤ 10000000 := by rw [tB_size]; have := writeAllB_le t.kids; omega
    have HAD : Hid (tB (headW t) ++ ⟨#[91]⟩ ++ tB (writeAllB t.kids) ++ ⟨#[93]⟩ = tB (writeB t)) := Lib.hid (tB_of (by rw [wapp, wapp, wapp, tB_data, tB_data, write_node hk]; simp))
    have hkk : (t.kind.toList == [116, 101, 120, 116]) = false := hk
    clear hk
    go_enter Tryd.func45, Tryd.ntmps45
    go_upto_region 3 with fail
    rw [HW1.out]
    generalize tB (writeAllB t.kids) = sa at *
    generalize tB (headW t) = sh at *
    have o1 : ¬ 9223372036854775807 < sh.size + 1 := by omega
    have o2 : ¬ 9223372036854775807 < sh.size + 1 + sa.size := by omega
    have o3 : ¬ 9223372036854775807 < sh.size + 1 + sa.size + 1 := by omega
    refine wp_region_quiet_below (by kernel_rfl) (by kernel_rfl) ?_
    repeat (first | go_big_quiet_step (first | exact HA.out _ _ | exact HH.out _ _) | quiet_step (first | exact HA.out _ _ | exact HH.out _ _))
    refine wpQuiet_nil ?_
    intro _ hw'
    obtain ⟨⟨dq, osq⟩, hw''⟩ := hw'
    subst hw''
    have HBN := Lib.hid (below_regrown W1 dq osq)
    clear k0 k1 k2 k3 k4 x0 x1 x2 x3 x4
    generalize grow (redrawn W1 dq) osq = wn at *
    go_wp2
    go_ret
    exact ⟨by rw [← HAD.out]; rfl, HB.out.trans (HBN.out.mono HB.out.size)⟩
theorem rwrite_any (t : Tree) : RWrite t := by
  induction t using Tree.induct_one with
  | h k t m a l ih => exact rwrite_of _ fun x hx => ih x hx
end Go.Proofs.YtdbpnfabcmndjaaDoor
