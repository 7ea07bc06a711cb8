/-
  What the calls on one node's parts answer: Value, attrsFormed, textFormed, headFormed, alike.
-/
import Derived.Test.YtggoebbfgkebcaaGreatDoorV
import Derived.Lib.QuietBelow
namespace Go.Proofs.YtggoebbfgkebcaaGreatDoor
open Go.RowKit Go.Sort

theorem Tabs.below {w w' : World} (h : Tabs w) (hb : Below w.heap.size w w') : Tabs w' := by
  have lt : ∀ {g o : Nat} {v : Value}, w.cell? ⟨g, o, none⟩ = some v → g < w.heap.size := fun {g o v} hc => by
    rcases Nat.lt_or_ge g w.heap.size with hlt | hge
    · exact hlt
    · simp [World.cell?, Array.getElem?_eq_none hge] at hc
  refine ⟨fun c hc => ?_, fun i hi => ⟨?_, ?_⟩⟩
  · rw [hb.cell (p := ⟨_, c, none⟩) (lt (h.1 c hc))]; exact h.1 c hc
  · rw [hb.cell (p := ⟨_, 2 * i, none⟩) (lt (h.2 i hi).1)]; exact (h.2 i hi).1
  · rw [hb.cell (p := ⟨_, 2 * i + 1, none⟩) (lt (h.2 i hi).2)]; exact (h.2 i hi).2

set_option maxHeartbeats 400000 in
theorem value_any (s : ByteArray) (w : World) (hs : s.size ≤ 1000000) (hT : Tabs w) :
    Calls Tryz.prog 99 #[.string s] w fun e w' => e = .returned (.bool (valueB s)) ∧ Below w.heap.size w w' := by
  have HT := Lib.hid hT
  clear hT
  by_cases h : s.size ≤ 40
  · have HV : Hid (valueB s = Lib.validD s.data.toList) := Lib.hid (by simp [valueB, h])
    have h' : decide (s.size ≤ 40) = true := by simp [h]
    go_enter Tryz.func99, Tryz.ntmps99
    go_wp2_with fail
    refine (valid_any s _ hs HT.out).mono ?_
    rintro e w' ⟨rfl, hb⟩
    generalize hv : Lib.validD s.data.toList = b at *
    have HB := Lib.hid hv
    clear hv
    cases b
    all_goals
      go_wp2
      go_ret
      exact ⟨ret_bool HV.out.symm, hb⟩
  · have HV : Hid (valueB s = false) := Lib.hid (by simp [valueB, h])
    have h' : decide ((s.size : Int) ≤ 40) = false := by simp; omega
    go_enter Tryz.func99, Tryz.ntmps99
    go_wp2
    go_ret
    exact ⟨ret_bool HV.out.symm, Below.refl _ _⟩

theorem name_no (s : ByteArray) (w : World) (hs : s.size ≤ maxLen) (h : nameB s = false) :
    Calls Tryz.prog 91 #[.string s] w fun e w' => e = .returned (.bool false) ∧ w' = w :=
  (name_any s w hs).mono fun _ _ ⟨he, hw⟩ => ⟨by rw [he, h], hw.symm⟩
theorem name_yes (s : ByteArray) (w : World) (hs : s.size ≤ maxLen) (h : nameB s = true) :
    Calls Tryz.prog 91 #[.string s] w fun e w' => e = .returned (.bool true) ∧ w' = w :=
  (name_any s w hs).mono fun _ _ ⟨he, hw⟩ => ⟨by rw [he, h], hw.symm⟩

theorem value_no (s : ByteArray) (w : World) (hs : s.size ≤ 1000000) (hT : Tabs w) (h : valueB s = false) :
    Calls Tryz.prog 99 #[.string s] w fun e w' => e = .returned (.bool false) ∧ Below w.heap.size w w' :=
  (value_any s w hs hT).mono fun _ _ ⟨he, hw⟩ => ⟨by rw [he, h], hw⟩
theorem value_yes (s : ByteArray) (w : World) (hs : s.size ≤ 1000000) (hT : Tabs w) (h : valueB s = true) :
    Calls Tryz.prog 99 #[.string s] w fun e w' => e = .returned (.bool true) ∧ Below w.heap.size w w' :=
  (value_any s w hs hT).mono fun _ _ ⟨he, hw⟩ => ⟨by rw [he, h], hw⟩

theorem cell_lt {w : World} {g o : Nat} {v : Value} (hc : w.cell? ⟨g, o, none⟩ = some v) : g < w.heap.size := by
  rcases Nat.lt_or_ge g w.heap.size with hlt | hge
  · exact hlt
  · simp [World.cell?, Array.getElem?_eq_none hge] at hc
theorem cell_kept {w w' : World} {g o : Nat} {v : Value} (hc : w.cell? ⟨g, o, none⟩ = some v) (hb : Below w.heap.size w w') : w'.cell? ⟨g, o, none⟩ = some v :=
  (hb.cell (p := ⟨g, o, none⟩) (cell_lt hc)).trans hc
theorem belowNext {w a b : World} (h : Below w.heap.size w a) (k : Below a.heap.size a b) : Below w.heap.size w b := h.trans (k.mono h.size)
theorem box5 {w w1 : World} {v0 v1 v2 v3 v4 : Value} {T : TypeId} (hb : Below (w.alloc (.cells #[v0, v1, v2, v3, v4] T)).heap.size (w.alloc (.cells #[v0, v1, v2, v3, v4] T)) w1) :
    w1.cell? ⟨w.heap.size, 0, none⟩ = some v0 ∧ w1.cell? ⟨w.heap.size, 1, none⟩ = some v1 ∧ w1.cell? ⟨w.heap.size, 2, none⟩ = some v2 ∧ w1.cell? ⟨w.heap.size, 3, none⟩ = some v3 ∧
      w1.cell? ⟨w.heap.size, 4, none⟩ = some v4 ∧ Below w.heap.size w w1 ∧ w.heap.size < w1.heap.size := by
  have hc : ∀ j, w1.cell? ⟨w.heap.size, j, none⟩ = #[v0, v1, v2, v3, v4][j]? := fun j => by
    rw [hb.cell (p := ⟨w.heap.size, j, none⟩) (by simp)]
    have hn : (w.alloc (.cells #[v0, v1, v2, v3, v4] T)).heap[w.heap.size]? = some (.cells #[v0, v1, v2, v3, v4] T) := by show (w.heap.push _)[w.heap.size]? = _; simp
    simp only [World.cell?, hn]; rfl
  refine ⟨hc 0, hc 1, hc 2, hc 3, hc 4, belowNext ((Below.refl _ _).alloc (Nat.le_refl _) _) hb, ?_⟩
  have := hb.size; simp at this; omega

theorem regrown_same {P : Program} {f : FuncId} {args : Array Value} {w : World} {v : Value} (h : ∀ W, Calls P f args W fun e w' => e = .returned v ∧ w' = W) :
    ∀ (d : Nat) (os : Array Obj), Calls P f args (grow (redrawn w d) os) fun e w'' => e = .returned v ∧ ∃ p : Regrown, w'' = grow (redrawn w p.d) p.os :=
  fun d os => (h _).mono fun _ _ ⟨he, hw⟩ => ⟨he, ⟨d, os⟩, hw⟩
theorem regrown_any {P : Program} {f : FuncId} {args : Array Value} {w : World} {v : Value} (h : ∀ W, Below w.heap.size w W → Calls P f args W fun e w' => e = .returned v ∧ Below W.heap.size W w') :
    ∀ (d : Nat) (os : Array Obj), Calls P f args (grow (redrawn w d) os) fun e w'' => e = .returned v ∧ ∃ p : Regrown, w'' = grow (redrawn w p.d) p.os :=
  fun d os => Calls.regrown_of (h _ (below_regrown w d os))

theorem weighP_get {l : List (ByteArray × ByteArray)} {i : Nat} {p : ByteArray × ByteArray} (h : l[i]? = some p) : p.1.size + p.2.size < weighP l := by
  unfold weighP
  have hm := List.mem_of_getElem? h
  clear h
  induction l with
  | nil => cases hm
  | cons x l ih =>
    simp only [List.map_cons, List.sum_cons]
    rcases List.mem_cons.1 hm with e | e
    · subst e; omega
    · have := ih e; omega
theorem length_le_weighP : ∀ l : List (ByteArray × ByteArray), l.length ≤ weighP l
  | [] => by simp [weighP]
  | s :: l => by have := length_le_weighP l; simp only [weighP, List.map_cons, List.sum_cons, List.length_cons] at this ⊢; omega

theorem Pairs.get {w : World} {S : Nat → Prop} {A : Option Addr} {n c : Nat} {l : List (ByteArray × ByteArray)} (h : Pairs w S (.slice A n c) l) {k : Nat} (hk : k < l.length) :
    ∃ b o, A = some ⟨b, o, none⟩ ∧ S b ∧ ∀ i, i < l.length → w.cell? ⟨b, o + i * 2, none⟩ = some (.string (pairAt l i).1) ∧ w.cell? ⟨b, o + i * 2 + 1, none⟩ = some (.string (pairAt l i).2) := by
  obtain ⟨A', c', hv, _, _, h⟩ := h
  injection hv with hA _ _
  subst hA
  rcases h with h | ⟨b, o, rfl, hb, h⟩
  · subst h; simp at hk
  · exact ⟨b, o, rfl, hb, fun i hi => h i _ (getD_some _ hi)⟩
theorem Pairs.form {w : World} {S : Nat → Prop} {v : Value} {l : List (ByteArray × ByteArray)} (h : Pairs w S v l) : ∃ A c, v = .slice A l.length c ∧ l.length ≤ c := by
  obtain ⟨A, c, rfl, hc, _⟩ := h; exact ⟨A, c, rfl, hc⟩

set_option maxHeartbeats 1000000 in
theorem attrsFormed_any (v : Value) (l : List (ByteArray × ByteArray)) (w : World) (h : Pairs w (Under w.heap.size) v l) (hw : weighP l ≤ 1000000) (hT : Tabs w) :
    Calls Tryz.prog 92 #[v] w fun e w' => e = .returned (.bool (attrsB l)) ∧ Below w.heap.size w w' := by
  have hlen := length_le_weighP l
  obtain ⟨A, c, rfl, hc⟩ := h.form
  have H := Lib.hid h
  have HT := Lib.hid hT
  clear h hT
  go_enter Tryz.func92, Tryz.ntmps92
  go_wp2
  go_loopw [7] (fun i wr => ∃ k : Nat, k ≤ l.length ∧ i = .int .i64 k ∧ Below w.heap.size w wr ∧ Hid (∀ j, j < k → attrOk l j = true)) (fun i _ => l.length - (intOf i).toNat)
  case atStart => exact ⟨0, by omega, rfl, Below.refl _ _, fun j hj => absurd hj (by omega)⟩
  case round =>
    obtain ⟨k, hk, rfl, hbr, hall⟩ := hrel
    by_cases hlt : k < l.length
    · obtain ⟨b, o, rfl, hub, hcell⟩ := H.out.get hlt
      unfold Under at hub
      have hsz := hbr.size
      obtain ⟨hn0, hv0⟩ := hcell k hlt
      have hn := (hbr.cell (p := ⟨b, o + k * 2, none⟩) hub).trans hn0
      have hv := (hbr.cell (p := ⟨b, o + k * 2 + 1, none⟩) hub).trans hv0
      have hs := weighP_get (getD_some (ByteArray.empty, ByteArray.empty) hlt)
      have HB := Lib.hid (all_range_false (p := attrOk l) k hlt)
      clear hn0 hv0
      change (pairAt l k).1.size + (pairAt l k).2.size < _ at hs
      generalize hsk : (pairAt l k).1 = sk at *
      generalize hvk : (pairAt l k).2 = vk at *
      have Hsk := Lib.hid hsk
      have Hvk := Lib.hid hvk
      clear hsk hvk
      have hB1 : Below w.heap.size w (wr.alloc (.cells #[.string sk, .string vk] 80)) := hbr.alloc hsz _
      have hx0 : (wr.alloc (.cells #[.string sk, .string vk] 80)).cell? ⟨wr.heap.size, 0, none⟩ = some (.string sk) := by simp [go_sem]
      have hx1 : (wr.alloc (.cells #[.string sk, .string vk] 80)).cell? ⟨wr.heap.size, 1, none⟩ = some (.string vk) := by simp [go_sem]
      have hpz : ∀ i, i < l.length → (wr.alloc (.cells #[.string sk, .string vk] 80)).cell? ⟨b, o + i * 2, none⟩ = some (.string (pairAt l i).1) := fun i hi => (hB1.cell (p := ⟨b, o + i * 2, none⟩) hub).trans (hcell i hi).1
      have hg : wr.heap.size < (wr.alloc (.cells #[.string sk, .string vk] 80)).heap.size := by simp
      have HP := Lib.hid hpz
      have HX := Lib.hid (And.intro hx0 hx1)
      have HG := Lib.hid hg
      clear hcell hpz hx0 hx1 hg
      go_wp2
      generalize hW1 : wr.alloc (.cells #[.string sk, .string vk] 80) = W1 at *
      obtain ⟨hx0, hx1⟩ := HX.out
      have hg := HG.out
      clear hW1 HX HG hn hv
      have k0 := cell_regrown hx0
      have k1 := cell_regrown hx1
      have HT1 := Lib.hid (HT.out.below hB1)
      clear hx0 hx1 hg
      cases hnm : nameB sk with
      | false =>
        have HN := Lib.hid (regrown_same (w := W1) fun W => name_no sk W (by unfold maxLen; omega) hnm)
        have HN' := Lib.hid hnm
        clear hnm
        refine wp_region_quiet_below (by kernel_rfl) (by kernel_rfl) ?_
        repeat (first | go_big_quiet_step (exact HN.out _ _) | quiet_step (exact HN.out _ _))
        refine wpQuiet_nil ?_
        intro _ hw'
        obtain ⟨⟨dq, osq⟩, hw''⟩ := hw'
        subst hw''
        go_wp2
        go_ret
        exact ⟨ret_bool (HB.out (by unfold attrOk; rw [Hsk.out, HN'.out]; rfl)).symm, belowNext hB1 (below_regrown W1 dq osq)⟩
      | true =>
        have HN := Lib.hid (regrown_same (w := W1) fun W => name_yes sk W (by unfold maxLen; omega) hnm)
        have HN' := Lib.hid hnm
        clear hnm
        cases hvv : valueB vk with
        | false =>
          have HV := Lib.hid (regrown_any (w := W1) fun W hW => value_no vk W (by omega) (HT1.out.below hW) hvv)
          have HV' := Lib.hid hvv
          clear hvv
          refine wp_region_quiet_below (by kernel_rfl) (by kernel_rfl) ?_
          repeat (first | go_big_quiet_step (first | exact HN.out _ _ | exact HV.out _ _) | quiet_step (first | exact HN.out _ _ | exact HV.out _ _))
          refine wpQuiet_nil ?_
          intro _ hw'
          obtain ⟨⟨dq, osq⟩, hw''⟩ := hw'
          subst hw''
          go_wp2
          go_ret
          exact ⟨ret_bool (HB.out (by unfold attrOk; rw [Hsk.out, HN'.out, Hvk.out, HV'.out]; rfl)).symm, belowNext hB1 (below_regrown W1 dq osq)⟩
        | true =>
          have HV := Lib.hid (regrown_any (w := W1) fun W hW => value_yes vk W (by omega) (HT1.out.below hW) hvv)
          have HV' := Lib.hid hvv
          clear hvv
          by_cases h0 : k = 0
          · have g0 : decide (0 < k) = false := by simp; omega
            have H0 := Lib.hid h0
            clear h0
            refine wp_region_quiet_below (by kernel_rfl) (by kernel_rfl) ?_
            repeat (first | go_big_quiet_step (first | exact HN.out _ _ | exact HV.out _ _) | quiet_step (first | exact HN.out _ _ | exact HV.out _ _))
            refine wpQuiet_nil ?_
            intro _ hw'
            obtain ⟨⟨dq, osq⟩, hw''⟩ := hw'
            subst hw''
            go_wp2
            exact ⟨⟨k + 1, by omega, by go_num, belowNext hB1 (below_regrown W1 dq osq), step_all hall.out (by unfold attrOk; rw [Hsk.out, HN'.out, Hvk.out, HV'.out, decide_eq_true H0.out]; rfl)⟩, by simp [intOf]; omega⟩
          · have g0 : decide (0 < k) = true := by simp; omega
            have g1 : ((k : Int) - 1).toNat = k - 1 := by omega
            have k2 := cell_regrown (HP.out (k - 1) (by omega))
            generalize hsp : (pairAt l (k - 1)).1 = sp at *
            have Hsp := Lib.hid hsp
            clear hsp
            refine wp_region_quiet_below (by kernel_rfl) (by kernel_rfl) ?_
            repeat (first | go_big_quiet_step (first | exact HN.out _ _ | exact HV.out _ _) | quiet_step (first | exact HN.out _ _ | exact HV.out _ _))
            refine wpQuiet_nil ?_
            intro _ hw'
            obtain ⟨⟨dq, osq⟩, hw''⟩ := hw'
            subst hw''
            go_wp2
            · go_ret
              have he : (!Op.bytesLess sp.toList sk.toList) = true := by assumption
              have he' : less sp sk = false := by unfold less; simpa using he
              exact ⟨ret_bool (HB.out (by unfold attrOk; rw [Hsk.out, HN'.out, Hvk.out, HV'.out, Hsp.out, he', decide_eq_false h0]; rfl)).symm, belowNext hB1 (below_regrown W1 dq osq)⟩
            · have he : (!Op.bytesLess sp.toList sk.toList) = false := by assumption
              have he' : less sp sk = true := by unfold less; simpa using he
              exact ⟨⟨k + 1, by omega, by go_num, belowNext hB1 (below_regrown W1 dq osq), step_all hall.out (by unfold attrOk; rw [Hsk.out, HN'.out, Hvk.out, HV'.out, Hsp.out, he']; simp)⟩, by simp [intOf]; omega⟩
    · go_wp2
      go_ret
      exact ⟨ret_bool (all_range_true fun i hi => hall.out i (by omega)).symm, hbr⟩

set_option maxHeartbeats 1000000 in
theorem textFormed_any (v : Value) (t : Tree) (w : World) (h : Node w (Under w.heap.size) v t) (hw : weigh t ≤ 1000000) (hT : Tabs w) :
    Calls Tryz.prog 83 #[v] w fun e w' => e = .returned (.bool (textB t)) ∧ Below w.heap.size w w' := by
  obtain ⟨k, t, m, a, l⟩ := t
  obtain ⟨vm, va, vk, rfl, hm, ha, hl⟩ := h
  simp only [Tree.kind, Tree.text, Tree.marks, Tree.attrs, Tree.kids] at *
  have hw1 : t.size ≤ 1000000 := by simp only [weigh] at hw; omega
  have hw2 : weighL m ≤ 1000000 := by simp only [weigh] at hw; omega
  have HE : Hid (textB (.mk k t m a l) = (!t.toList.isEmpty && (Lib.validD t.data.toList && (marksB m && (decide (a.length = 0) && decide (l.length = 0)))))) := Lib.hid rfl
  have HT := Lib.hid hT
  have HM := Lib.hid hm
  obtain ⟨A1, c1, rfl, _, _, _⟩ := ha
  obtain ⟨A2, c2, rfl, _, _, _⟩ := hl
  clear hT hm hw
  generalize textB (.mk k t m a l) = res at *
  cases he : t.toList.isEmpty with
  | true =>
    have HE' : Hid (res = false) := Lib.hid (by rw [HE.out, he]; rfl)
    clear HE HT HM
    go_enter Tryz.func83, Tryz.ntmps83
    go_wp2
    go_ret
    exact ⟨ret_bool HE'.out.symm, (Below.refl _ _).alloc (Nat.le_refl _) _⟩
  | false =>
    go_enter Tryz.func83, Tryz.ntmps83
    go_wp2_with fail
    refine (valid_any t _ hw1 (HT.out.below ((Below.refl _ _).alloc (Nat.le_refl _) _))).mono ?_
    rintro e w1 ⟨rfl, hb1⟩
    obtain ⟨c0, c1', c2', c3', c4', hB1, hz1⟩ := box5 hb1
    clear hb1
    generalize hv : Lib.validD t.data.toList = bv at *
    have HE1 : Hid (res = (bv && (marksB m && (decide (a.length = 0) && decide (l.length = 0))))) := Lib.hid (by rw [HE.out, he]; rfl)
    clear hv HE he
    cases bv with
    | false =>
      go_wp2
      go_ret
      exact ⟨ret_bool HE1.out.symm, hB1⟩
    | true =>
      go_wp2_with fail
      refine (marksFormed_any _ m _ _ (HM.out.below hB1) hw2).mono ?_
      rintro e w2 ⟨rfl, rfl⟩
      generalize hv : marksB m = bm at *
      have HE2 : Hid (res = (bm && (decide (a.length = 0) && decide (l.length = 0)))) := Lib.hid (by rw [HE1.out]; rfl)
      clear hv HE1
      cases bm with
      | false =>
        go_wp2
        go_ret
        exact ⟨ret_bool HE2.out.symm, hB1⟩
      | true =>
        by_cases ha0 : a.length = 0
        · have hai : ((a.length : Int) == 0) = true := beq_iff_eq.2 (by omega)
          by_cases hl0 : l.length = 0
          · have hli : ((l.length : Int) == 0) = true := beq_iff_eq.2 (by omega)
            have HE3 : Hid (res = true) := Lib.hid (by rw [HE2.out, decide_eq_true ha0, decide_eq_true hl0]; rfl)
            clear ha0 hl0
            go_wp2
            go_ret
            exact ⟨ret_bool HE3.out.symm, hB1⟩
          · have hli : ((l.length : Int) == 0) = false := beq_eq_false_iff_ne.2 (by omega)
            have HE3 : Hid (res = false) := Lib.hid (by rw [HE2.out, decide_eq_false hl0]; simp)
            clear ha0 hl0
            go_wp2
            go_ret
            exact ⟨ret_bool HE3.out.symm, hB1⟩
        · have hai : ((a.length : Int) == 0) = false := beq_eq_false_iff_ne.2 (by omega)
          have HE3 : Hid (res = false) := Lib.hid (by rw [HE2.out, decide_eq_false ha0]; rfl)
          clear ha0
          go_wp2
          go_ret
          exact ⟨ret_bool HE3.out.symm, hB1⟩

set_option maxHeartbeats 1000000 in
theorem headFormed_any (v : Value) (t : Tree) (w : World) (h : Node w (Under w.heap.size) v t) (hw : weigh t ≤ 1000000) (hT : Tabs w) :
    Calls Tryz.prog 84 #[v] w fun e w' => e = .returned (.bool (headB t)) ∧ Below w.heap.size w w' := by
  obtain ⟨k, t, m, a, l⟩ := t
  obtain ⟨vm, va, vk, rfl, hm, ha, hl⟩ := h
  simp only [Tree.kind, Tree.text, Tree.marks, Tree.attrs, Tree.kids] at *
  have hw1 : k.size ≤ 1000000 := by simp only [weigh] at hw; omega
  have hw2 : weighP a ≤ 1000000 := by simp only [weigh] at hw; omega
  have HE : Hid (headB (.mk k t m a l) = (nameB k && (t.toList.isEmpty && (decide (m.length = 0) && attrsB a)))) := Lib.hid rfl
  have HT := Lib.hid hT
  have HA := Lib.hid ha
  obtain ⟨A1, c1, rfl, _, _, _⟩ := hm
  clear hT ha hw hl
  generalize headB (.mk k t m a l) = res at *
  go_enter Tryz.func84, Tryz.ntmps84
  go_wp2_with fail
  refine (name_any k _ (by unfold maxLen; omega)).mono ?_
  rintro e w1 ⟨rfl, rfl⟩
  generalize hv : nameB k = bn at *
  clear hv
  cases bn with
  | false =>
    go_wp2
    go_ret
    exact ⟨ret_bool HE.out.symm, (Below.refl _ _).alloc (Nat.le_refl _) _⟩
  | true =>
    cases he : t.toList.isEmpty with
    | false =>
      have HE1 : Hid (res = false) := Lib.hid (by rw [HE.out, he]; rfl)
      clear HE
      go_wp2
      go_ret
      exact ⟨ret_bool HE1.out.symm, (Below.refl _ _).alloc (Nat.le_refl _) _⟩
    | true =>
      by_cases hm0 : m.length = 0
      · have hmi : ((m.length : Int) == 0) = true := beq_iff_eq.2 (by omega)
        have HE1 : Hid (res = attrsB a) := Lib.hid (by rw [HE.out, he, decide_eq_true hm0]; simp)
        clear HE hm0
        go_wp2_with fail
        refine (attrsFormed_any _ a _ ((HA.out.below ((Below.refl _ _).alloc (Nat.le_refl _) _)).more (by simp)) hw2 (HT.out.below ((Below.refl _ _).alloc (Nat.le_refl _) _))).mono ?_
        rintro e w1 ⟨rfl, hb1⟩
        generalize hv : attrsB a = ba at *
        clear hv
        cases ba
        all_goals
          go_wp2
          go_ret
          exact ⟨ret_bool HE1.out.symm, belowNext ((Below.refl _ _).alloc (Nat.le_refl _) _) hb1⟩
      · have hmi : ((m.length : Int) == 0) = false := beq_eq_false_iff_ne.2 (by omega)
        have HE1 : Hid (res = false) := Lib.hid (by rw [HE.out, decide_eq_false hm0]; simp)
        clear HE hm0
        go_wp2
        go_ret
        exact ⟨ret_bool HE1.out.symm, (Below.refl _ _).alloc (Nat.le_refl _) _⟩
end Go.Proofs.YtggoebbfgkebcaaGreatDoor
