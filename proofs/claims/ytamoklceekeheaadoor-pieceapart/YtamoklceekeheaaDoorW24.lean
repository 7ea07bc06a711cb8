/-
  What node.withoutEmpty answers.
-/
import Derived.Test.YtamoklceekeheaaDoorJoinP
namespace Go.Proofs.YtamoklceekeheaaDoor
open Go.RowKit Go.Sort

set_option maxHeartbeats 2000000 in
theorem withoutEmpty_any (v : Value) (l : List Tree) (S : Nat → Prop) (w : World) (h : Kids w S v l) (hS : ∀ b, S b → b < w.heap.size) (hw : weighAll l ≤ 1000000) :
    Calls Tryd.prog 48 #[v] w (JoinPost w S (l.filter keepB)) := by
  have hlen : l.length ≤ 1000000 := by have := length_le_weigh l; omega
  obtain ⟨A, c, rfl, hlc⟩ := h.form
  have HL := Lib.hid h
  have HS := Lib.hid hS
  clear h hS
  go_enter Tryd.func48, Tryd.ntmps48
  go_wp2
  go_loopw [3, 8] (fun v i wr => ∃ k : Nat, k ≤ l.length ∧ i = .int .i64 k ∧ JoinRel w S ((l.take k).filter keepB) v wr) (fun _ i _ => l.length - (intOf i).toNat)
  case atStart => exact ⟨0, by omega, rfl, own_nil _ _ _, Below.refl _ _⟩
  case round =>
    obtain ⟨i, hi, rfl, hown, hbr⟩ := hrel
    by_cases hlt : i < l.length
    · obtain ⟨b, o, rfl, hub, hrow⟩ := HL.out.get hlt
      have hub := HS.out b hub
      have hlx : l[i]? = some l[i] := List.getElem?_eq_getElem hlt
      have HTK : Hid (l.take (i + 1) = l.take i ++ [l[i]]) := Lib.hid (List.take_succ_eq_append_getElem hlt)
      generalize hx : l[i] = x at *
      obtain ⟨xm, xa, xk, e0, e1, e2, e3, e4, exm, exa, exk⟩ := hrow.node hlx
      have f0 := (hbr.cell (p := ⟨b, o + i * 5, none⟩) hub).trans e0
      have f1 := (hbr.cell (p := ⟨b, o + i * 5 + 1, none⟩) hub).trans e1
      have f2 := (hbr.cell (p := ⟨b, o + i * 5 + 2, none⟩) hub).trans e2
      have f3 := (hbr.cell (p := ⟨b, o + i * 5 + 3, none⟩) hub).trans e3
      have f4 := (hbr.cell (p := ⟨b, o + i * 5 + 4, none⟩) hub).trans e4
      have HXP := Lib.hid (And.intro (exm.stay hbr HS.out) (And.intro (exa.stay hbr HS.out) (exk.stay hbr HS.out)))
      obtain ⟨A1, c1, rfl, _⟩ := exm.form
      obtain ⟨A2, c2, rfl, _⟩ := exa.form
      obtain ⟨A3, c3, rfl, _⟩ := exk.form
      have hjl : ((l.take i).filter keepB).length ≤ i := by have := List.length_filter_le keepB (l.take i); have := List.length_take_le i l; omega
      have HJ : Hid ((l.take (i + 1)).filter keepB = (l.take i).filter keepB ++ [x].filter keepB) := Lib.hid (by rw [HTK.out, List.filter_append])
      generalize (l.take i).filter keepB = out at *
      obtain ⟨Ao, co, rfl, hoc, hao⟩ := hown.form
      have HO := Lib.hid hown
      clear e0 e1 e2 e3 e4 exm exa exk hx hlx hrow hown hao
      have hbl := cell_lt f0
      have key : Hid (∀ W, Below wr.heap.size wr W → _) := Lib.hid fun W hb2 => own_push (W := W) HS.out HO.out hbr hb2 HXP.out.1 HXP.out.2.1 HXP.out.2.2
      go_wp2_with fail
      refine (isText_any _ _ _ _ _ _).mono ?_
      rintro e W2 ⟨rfl, hb2⟩
      obtain ⟨x0, x1, x2, x3, x4, hbw, hzw⟩ := box5 hb2
      clear hb2 f0 f1 f2 f3 f4
      have HLT := Lib.hid (key.out W2 hbw)
      cases hk : isTxt x.kind with
      | false =>
        have HST : Hid ([x].filter keepB = [x]) := Lib.hid (by simp [keepB, hk])
        clear hk
        go_wp2_with (at_builtin; refine wpList_append_nodes rfl (.tmp 20) (.tmp 22) rfl w.heap.size S _ _ out [x] rfl rfl HLT.out.1 HLT.out.2.1 HLT.out.2.2.1 (by simp only [List.length_cons, List.length_nil]; omega) HLT.out.2.2.2.1 ?_; intro v' w3 hown' hg hat; have hB3 := HLT.out.2.2.2.2 w3 hg; clear hg hat)
        exact ⟨⟨i + 1, by omega, by go_num, by rw [HJ.out, HST.out]; exact hown', hB3⟩, by simp [intOf]; omega⟩
      | true =>
        cases ht : x.text.toList.isEmpty with
        | true =>
          have HST : Hid ([x].filter keepB = []) := Lib.hid (by simp [keepB, hk, ht])
          clear hk
          go_wp2
          exact ⟨⟨i + 1, by omega, by go_num, by rw [HJ.out, HST.out, List.append_nil]; exact HO.out.later hbw (fun b hb' => Nat.lt_of_lt_of_le (HS.out b hb') hbr.size), belowNext hbr hbw⟩, by simp [intOf]; omega⟩
        | false =>
          have HST : Hid ([x].filter keepB = [x]) := Lib.hid (by simp [keepB, hk, ht])
          clear hk
          go_wp2_with (at_builtin; refine wpList_append_nodes rfl (.tmp 20) (.tmp 22) rfl w.heap.size S _ _ out [x] rfl rfl HLT.out.1 HLT.out.2.1 HLT.out.2.2.1 (by simp only [List.length_cons, List.length_nil]; omega) HLT.out.2.2.2.1 ?_; intro v' w3 hown' hg hat; have hB3 := HLT.out.2.2.2.2 w3 hg; clear hg hat)
          exact ⟨⟨i + 1, by omega, by go_num, by rw [HJ.out, HST.out]; exact hown', hB3⟩, by simp [intOf]; omega⟩
    · go_wp2
      go_ret
      refine ⟨_, rfl, ?_, hbr⟩
      rw [List.take_of_length_le (by omega)] at hown
      exact hown

theorem set5_os (w : World) (g : Nat) (v0 v1 v2 v3 v4 : Value) : (((((w.setCell ⟨g, 0, none⟩ v0).setCell ⟨g, 1, none⟩ v1).setCell ⟨g, 2, none⟩ v2).setCell ⟨g, 3, none⟩ v3).setCell ⟨g, 4, none⟩ v4).os = w.os ∧
    (((((w.setCell ⟨g, 0, none⟩ v0).setCell ⟨g, 1, none⟩ v1).setCell ⟨g, 2, none⟩ v2).setCell ⟨g, 3, none⟩ v3).setCell ⟨g, 4, none⟩ v4).tape = w.tape ∧
    (((((w.setCell ⟨g, 0, none⟩ v0).setCell ⟨g, 1, none⟩ v1).setCell ⟨g, 2, none⟩ v2).setCell ⟨g, 3, none⟩ v3).setCell ⟨g, 4, none⟩ v4).output = w.output := by
  have h (W : World) (i : Nat) (v : Value) : (W.setCell ⟨g, i, none⟩ v).os = W.os ∧ (W.setCell ⟨g, i, none⟩ v).tape = W.tape ∧ (W.setCell ⟨g, i, none⟩ v).output = W.output := ⟨rfl, rfl, rfl⟩
  refine ⟨?_, ?_, ?_⟩
  · rw [(h _ _ _).1, (h _ _ _).1, (h _ _ _).1, (h _ _ _).1, (h _ _ _).1]
  · rw [(h _ _ _).2.1, (h _ _ _).2.1, (h _ _ _).2.1, (h _ _ _).2.1, (h _ _ _).2.1]
  · rw [(h _ _ _).2.2, (h _ _ _).2.2, (h _ _ _).2.2, (h _ _ _).2.2, (h _ _ _).2.2]
end Go.Proofs.YtamoklceekeheaaDoor
