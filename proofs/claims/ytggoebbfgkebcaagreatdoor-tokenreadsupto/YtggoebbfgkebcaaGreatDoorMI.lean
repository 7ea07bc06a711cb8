/-
  What the document's Formed answers: a node.
  What the law's light answers: a number no greater than what is handed in, and smaller by no more than the node weighs.
  The document's Words: what it answers.
  The chapter's example: shown.
  The document's Check, and Words as one text: what they answer; NodeChecks walked.
  The document's Write, WriteAll, Print and PrintAll: what they answer.
-/
import Derived.Test.YtggoebbfgkebcaaGreatDoorMH
import Derived.Deep.CutBlock
import Derived.Test.YtggoebbfgkebcaaGreatDoorMA
import Derived.Test.YtggoebbfgkebcaaGreatDoorMB
import Derived.Test.YtggoebbfgkebcaaGreatDoorMD
namespace Go.Proofs.YtggoebbfgkebcaaGreatDoor
open Go.RowKit Go.Sort Go.Maps

theorem formedN_is {t : Tree} (hk : isTxt t.kind = false) : formedB t = (headB t && rowB none t.kids) := by
  obtain ⟨k, x, m, a, l⟩ := t
  simp only [Tree.kind] at hk
  simp [formedB, hk, Tree.kids]
theorem head_is {t : Tree} (h1 : nameB t.kind = true) (h2 : t.text.toList = []) (h3 : t.marks.length = 0) (h4 : attrsB t.attrs = true) : headB t = true := by
  unfold headB; rw [h1, h2, h3, h4]; rfl
theorem own_str_keep {w w' : World} {base : Nat} {v : Value} {n : Nat} {xs : List Value} (h : w.ownsRow base 9 1 v n xs) (hb : Below w.heap.size w w') : w'.ownsRow base 9 1 v n xs := by
  refine ⟨h.1, ?_⟩
  rcases h.2 with hn | ⟨g, cap, cur, hv, hb', hg, rest⟩
  · exact .inl hn
  · exact .inr ⟨g, cap, cur, hv, hb', block_kept hg hb, rest⟩
theorem own_str_base {w : World} {base : Nat} {v : Value} {n : Nat} {xs : List Value} (h : w.ownsRow base 9 1 v n xs) : ∀ k, Value.ownBlock v = some k → base ≤ k := by
  intro k hk
  rcases h.2 with ⟨rfl, _⟩ | ⟨g, cap, cur, rfl, hb, _⟩
  · cases hk
  · injection hk with hk; subst hk; exact hb

set_option maxHeartbeats 8000000 in
set_option maxRecDepth 100000 in
theorem rformed_node (t : Tree) (hk : isTxt t.kind = false) (ih : ∀ x, x ∈ t.kids → RFormed x) : RFormed t := by
  intro v w hw h
  have IH := Lib.hid ih
  have HN := Lib.hid h
  obtain ⟨A1, c1, A2, c2, A3, c3, rfl⟩ := h.forms1
  have hkl := length_le_weigh t.kids
  have hkw := kids_weigh t
  have hml := length_le_weighL t.marks
  have hal := length_le_weighP t.attrs
  have hwe : t.kind.size ≤ weigh t ∧ weighP t.attrs ≤ weigh t ∧ weighL t.marks ≤ weigh t := by obtain ⟨k, x, m, a, l⟩ := t; simp only [weigh, Tree.kind, Tree.attrs, Tree.marks]; omega
  have HE := Lib.hid (formedN_is hk)
  clear h ih
  generalize hW1 : w.alloc (.cells #[.string t.kind, .string t.text, .slice A1 t.marks.length c1, .slice A2 t.attrs.length c2, .slice A3 t.kids.length c3] 41) = W1
  have HB : Hid (Below w.heap.size w W1) := Lib.hid (by subst hW1; exact (Below.refl _ _).alloc (Nat.le_refl _) _)
  have HBL : Hid (W1.heap[w.heap.size]? = some (.cells #[.string t.kind, .string t.text, .slice A1 t.marks.length c1, .slice A2 t.attrs.length c2, .slice A3 t.kids.length c3] 41)) := Lib.hid (by
    subst hW1; show (w.heap.push _)[w.heap.size]? = _; simp)
  have HA1 : Hid (Pairs W1 (Under W1.heap.size) (.slice A2 t.attrs.length c2) t.attrs) := Lib.hid ((HN.out.kids1.2.1.below HB.out).more HB.out.size)
  have HK1 : Hid (Kids W1 (Under W1.heap.size) (.slice A3 t.kids.length c3) t.kids) := Lib.hid ((HN.out.kids1.2.2.below HB.out).more HB.out.size)
  obtain ⟨x0, x1, x2, x3, x4⟩ := five_of HBL.out
  have hkk : (t.kind.toList == [116, 101, 120, 116]) = false := hk
  have HW1 := Lib.hid hW1
  clear hW1 hk
  go_enter Tryz.func22, Tryz.ntmps22
  go_upto_region 3 with fail
  rw [HW1.out]
  clear x0 x1 x2 x3 x4 hkk
  go_wp2
  -- the attributes
  go_loopg [3, 4] t.attrs.length (fun gh s3 s4 wx => ∃ (v3 : Value) (k : Nat), v3 = s3 ∧ k + gh = t.attrs.length ∧ s4 = .int .i64 (k : Int) ∧ Hid (Below W1.heap.size W1 wx) ∧ Hid (wx.ownsRow W1.heap.size 9 1 v3 k (((t.attrs.take k).map (·.1)).map Value.string)) ∧ Hid (∀ i, i < k → valueB (pairAt t.attrs i).2 = true))
  case atStart => exact ⟨_, 0, rfl, by omega, rfl, Lib.hid (Below.refl _ _), Lib.hid (World.ownsRow_nil _ _ _ _), Lib.hid fun i hi => absurd hi (by omega)⟩
  case round =>
    obtain ⟨v3, k, rfl, hkg, rfl, hb, hro, hall⟩ := hrel
    obtain ⟨x0, x1, x2, x3, x4⟩ := five_of (block_kept HBL.out hb.out)
    by_cases hlt : k < t.attrs.length
    · obtain ⟨b, o, rfl, hub, hcell⟩ := HA1.out.get hlt
      obtain ⟨r0', r1'⟩ := hcell k hlt
      have r0 := cell_kept r0' hb.out
      have HR1 := Lib.hid r1'
      have hgt := getD_some (ByteArray.empty, ByteArray.empty) hlt
      have hs := weighP_get hgt
      change (pairAt t.attrs k).1.size + (pairAt t.attrs k).2.size < _ at hs
      have HTK : Hid (((t.attrs.take (k + 1)).map (·.1)).map Value.string = ((t.attrs.take k).map (·.1)).map Value.string ++ [Value.string (pairAt t.attrs k).1]) := Lib.hid (by rw [List.take_add_one, hgt]; simp [pairAt])
      have HBD : Hid (valueB (pairAt t.attrs k).2 = false → attrsB t.attrs = false) := Lib.hid fun hf => Bool.eq_false_iff.2 fun ht => by rw [((attrs_split _).1 ht).1 k hlt] at hf; cases hf
      have HGD : Hid (valueB (pairAt t.attrs k).2 = true → ∀ i, i < k + 1 → valueB (pairAt t.attrs i).2 = true) := Lib.hid fun ht i hi => by
        rcases Nat.lt_or_ge i k with h | h
        · exact hall.out i h
        · obtain rfl : i = k := by omega
          exact ht
      generalize (pairAt t.attrs k).1 = nm at *
      generalize (pairAt t.attrs k).2 = vl at *
      have S5 : Hid ((wr.alloc (.cells #[.string nm] 9)).ownsRow W1.heap.size 9 1 v3 k (((t.attrs.take k).map (·.1)).map Value.string)) := Lib.hid (own_str_keep hro.out ((Below.refl _ _).alloc (Nat.le_refl _) _))
      have C5 : Hid (∀ j u, [Value.string nm][j]? = some u → (wr.alloc (.cells #[.string nm] 9)).cell? ⟨wr.heap.size, j, none⟩ = some u) := Lib.hid fun j u hj => fresh_cell wr #[.string nm] _ j u (by simpa using hj)
      have O5 : Hid (∀ u ∈ [Value.string nm], u.oneCell' = true) := Lib.hid (by intro u hu; simp only [List.mem_singleton] at hu; subst hu; rfl)
      have B5 : Hid (Below W1.heap.size W1 (wr.alloc (.cells #[.string nm] 9))) := Lib.hid (hb.out.alloc hb.out.size _)
      have N5 : Hid (k + 1 ≤ 100000000) := Lib.hid (by omega)
      clear hcell r0' r1' hgt
      go_upto_region 8 with (at_builtin; (refine wpList_append_gen Tryz.underlying38 str_info rfl (by decide) (by decide) rfl (.tmp 41) (.tmp 48) rfl W1.heap.size v3 k _ wr.heap.size 1 [.string nm] rfl rfl S5.out rfl C5.out O5.out N5.out B5.out.size ?_; intro v6 w6 ho6 hg6; have HB6 := Lib.hid (B5.out.trans ((Below.refl _ _).grown hg6 B5.out.size (own_str_base S5.out))); have HO6 : Hid (w6.ownsRow W1.heap.size 9 1 v6 (k + 1) (((t.attrs.take (k + 1)).map (·.1)).map Value.string)) := Lib.hid (by rw [HTK.out]; exact ho6); clear ho6 hg6))
      clear x0 x1 x2 x3 x4 r0 S5 C5 O5 B5 N5 HTK hro hall
      obtain ⟨x0, x1, x2, x3, x4⟩ := five_of (block_kept HBL.out HB6.out)
      have r1 := cell_kept HR1.out HB6.out
      go_wp2_with fail
      refine (rvalue_any vl w6 (by omega)).mono ?_
      rintro e w7 ⟨rfl, hb7⟩
      have HB7 := Lib.hid (belowNext HB6.out hb7)
      have HO7 := Lib.hid (own_str_keep HO6.out hb7)
      clear hb7 x0 x1 x2 x3 x4 r1 HO6
      cases hv : valueB vl with
      | false =>
        have HF : Hid (formedB t = false) := Lib.hid (by rw [HE.out]; unfold headB; rw [HBD.out hv]; simp)
        clear hv
        go_wp2
        go_ret
        exact ⟨by rw [HF.out]; rfl, HB.out.trans (HB7.out.mono HB.out.size)⟩
      | true =>
        have HG := Lib.hid (HGD.out hv)
        clear hv
        go_wp2
        go_roundg (t.attrs.length - (k + 1))
        case measure => omega
        case rel => exact ⟨_, k + 1, rfl, by omega, by go_num, HB7, HO7, HG⟩
    · have hke : k = t.attrs.length := by omega
      have HVA : Hid (∀ i, i < t.attrs.length → valueB (pairAt t.attrs i).2 = true) := Lib.hid (by rw [← hke]; exact hall.out)
      have HRO : Hid (wr.ownsRow W1.heap.size 9 1 v3 k ((t.attrs.map (·.1)).map Value.string)) := Lib.hid (by have := hro.out; rwa [List.take_of_length_le (Nat.le_of_eq hke.symm)] at this)
      have HB2 := Lib.hid hb.out
      obtain ⟨w2, rfl⟩ : ∃ W : World, W = wr := ⟨_, rfl⟩
      clear hall hro hke hb
      cases hn : nameB t.kind with
      | false =>
        have HF : Hid (formedB t = false) := Lib.hid (by rw [HE.out]; unfold headB; rw [hn]; simp)
        have HNM : Hid (Calls Tryz.prog 45 #[.string t.kind] w2 fun e w' => e = .returned (.bool false) ∧ w' = w2) := Lib.hid (by have := rname_any t.kind w2 (by unfold maxLen; omega); rwa [hn] at this)
        clear hn
        go_wp2_with fail
        refine HNM.out.mono ?_
        rintro e w3 ⟨rfl, rfl⟩
        go_wp2
        go_ret
        exact ⟨by rw [HF.out]; rfl, HB.out.trans (HB2.out.mono HB.out.size)⟩
      | true =>
        have HNK := Lib.hid hn
        have HNM : Hid (Calls Tryz.prog 45 #[.string t.kind] w2 fun e w' => e = .returned (.bool true) ∧ w' = w2) := Lib.hid (by have := rname_any t.kind w2 (by unfold maxLen; omega); rwa [hn] at this)
        clear hn
        go_wp2_with fail
        refine HNM.out.mono ?_
        rintro e w3 ⟨rfl, rfl⟩
        by_cases he : t.text.toList = []
        · have he1 : (t.text.toList == []) = true := by simpa using he
          generalize hnm : t.marks.length = nm at *
          have HNL := Lib.hid hnm
          clear hnm
          by_cases hm : nm = 0
          · have hm1 : ¬ (0 : Int) < (nm : Int) := by omega
            have hwn := names_weigh t.attrs
            have HDM : Hid (attrsB t.attrs = true → headB t = true) := Lib.hid fun ha => head_is HNK.out he (HNL.out.trans hm) ha
            clear hm
            go_wp2_with fail
            refine (rrise_any _ (t.attrs.map (·.1)) _ w3 (strs_own HRO.out) (fun b hb => hb) (by omega)).mono ?_
            rintro e w4 ⟨rfl, hb4⟩
            have HB4 := Lib.hid (belowNext HB2.out hb4)
            clear hb4 x0 x1 x2 x3 x4
            cases hr : marksB (t.attrs.map (·.1)) with
            | false =>
              have HF : Hid (formedB t = false) := Lib.hid (by
                have : attrsB t.attrs = false := Bool.eq_false_iff.2 fun ht => by rw [((attrs_split _).1 ht).2] at hr; cases hr
                rw [HE.out]; unfold headB; rw [this]; simp)
              clear hr
              go_wp2
              go_ret
              exact ⟨by rw [HF.out]; rfl, HB.out.trans (HB4.out.mono HB.out.size)⟩
            | true =>
              have HFE : Hid (formedB t = rowB none t.kids) := Lib.hid (by rw [HE.out, HDM.out ((attrs_split _).2 ⟨HVA.out, hr⟩)]; rfl)
              clear hr HVA HRO
              go_wp2
              go_loopg [5] t.kids.length (fun gh s5 wx => ∃ k : Nat, k + gh = t.kids.length ∧ s5 = .int .i64 (k : Int) ∧ Hid (Below W1.heap.size W1 wx) ∧ Hid (∀ (i : Nat) (x : Tree), i < k → t.kids[i]? = some x → formedB x = true ∧ alikeO (if i = 0 then none else t.kids[i - 1]?) x = false))
              case atStart => exact ⟨0, by omega, rfl, HB4, Lib.hid fun i x hi => absurd hi (by omega)⟩
              case round =>
                clear HB4 HB2
                obtain ⟨k, hkg, rfl, hb, hall⟩ := hrel
                obtain ⟨x0, x1, x2, x3, x4⟩ := five_of (block_kept HBL.out hb.out)
                by_cases hlt : k < t.kids.length
                · have hx : t.kids[k]? = some t.kids[k] := List.getElem?_eq_getElem hlt
                  have HIX := Lib.hid (IH.out t.kids[k] (List.getElem_mem hlt))
                  have hwx := weigh_mem (List.getElem_mem hlt)
                  generalize t.kids[k] = x at *
                  obtain ⟨b, o, E1, l1, e1, E2, l2, e2, E3, e3, rfl, r0, r1, r2, r3, r4, hnx⟩ := HK1.out.late hb.out hx
                  have HNX := Lib.hid hnx
                  have hwm : weighL x.marks ≤ weigh x := by obtain ⟨k, y, m, a, l⟩ := x; simp only [weigh, Tree.marks]; omega
                  have HBAD : Hid (formedB x = false → formedB t = false) := Lib.hid fun hf => by rw [HFE.out]; exact Bool.eq_false_iff.2 fun ht => by rw [((rowB_iff _ _).1 ht k x hx).1] at hf; cases hf
                  have HALI : Hid (alikeO (if k = 0 then none else t.kids[k - 1]?) x = true → formedB t = false) := Lib.hid fun hf => by rw [HFE.out]; exact Bool.eq_false_iff.2 fun ht => by rw [((rowB_iff _ _).1 ht k x hx).2] at hf; cases hf
                  have HNEXT : Hid (formedB x = true → alikeO (if k = 0 then none else t.kids[k - 1]?) x = false → ∀ (i : Nat) (y : Tree), i < k + 1 → t.kids[i]? = some y → formedB y = true ∧ alikeO (if i = 0 then none else t.kids[i - 1]?) y = false) := Lib.hid fun h1 h2 i y hi hy => by
                    rcases Nat.lt_or_ge i k with h | h
                    · exact hall.out i y h hy
                    · obtain rfl : i = k := by omega
                      rw [hx] at hy; injection hy with hy; subst hy; exact ⟨h1, h2⟩
                  have g4 := cell_regrown x4
                  have k0 := cell_regrown r0
                  have k1 := cell_regrown r1
                  have k2 := cell_regrown r2
                  have k3 := cell_regrown r3
                  have k4 := cell_regrown r4
                  have HQ1 : Hid (∀ b, formedB x = b → ∀ (d : Nat) (os : Array Obj), Calls Tryz.prog 22 #[.agg #[.string x.kind, .string x.text, .slice E1 l1 e1, .slice E2 l2 e2, .slice E3 x.kids.length e3]] (grow (redrawn wr d) os) fun e w'' => e = .returned (.bool b) ∧ ∃ p : Regrown, w'' = grow (redrawn wr p.d) p.os) := Lib.hid fun b hfb => regrown_any (w := wr) fun W hW => by have := HIX.out _ W (by omega) (HNX.out W (belowNext hb.out hW)); rwa [hfb] at this
                  have HBW : Hid (Below W1.heap.size W1 wr) := Lib.hid hb.out
                  have HMX : Hid (∀ W, Below wr.heap.size wr W → Strs W (Under W.heap.size) (.slice E1 l1 e1) x.marks) := Lib.hid fun W hW => (HNX.out W (belowNext hb.out hW)).kids1.1
                  obtain ⟨wo, rfl⟩ : ∃ W : World, W = wr := ⟨_, rfl⟩
                  cases hf : formedB x with
                  | false =>
                    have HF := Lib.hid (HBAD.out hf)
                    have HQ := Lib.hid (HQ1.out false hf)
                    clear hf
                    go_wp2_with fail
                    refine wp_region_quiet_below (by kernel_rfl) (by kernel_rfl) ?_
                    repeat (first | go_big_quiet_step (first | exact HQ.out _ _) | quiet_step (first | exact HQ.out _ _))
                    refine wpQuiet_nil ?_
                    intro _ hw'
                    obtain ⟨⟨dq, osq⟩, hw''⟩ := hw'
                    subst hw''
                    have HBN := Lib.hid (belowNext HBW.out (below_regrown wo dq osq))
                    clear k0 k1 k2 k3 k4 g4
                    generalize grow (redrawn wo dq) osq = wn at *
                    go_wp2
                    go_ret
                    exact ⟨by rw [HF.out]; rfl, HB.out.trans (HBN.out.mono HB.out.size)⟩
                  | true =>
                    have HQ := Lib.hid (HQ1.out true hf)
                    have HFX := Lib.hid hf
                    clear hf
                    by_cases h0 : k = 0
                    · have g0 : decide (0 < k) = false := by simp; omega
                      have HG := Lib.hid (HNEXT.out HFX.out (by rw [if_pos h0]; rfl))
                      clear h0
                      go_wp2_with fail
                      refine wp_region_quiet_below (by kernel_rfl) (by kernel_rfl) ?_
                      repeat (first | go_big_quiet_step (first | exact HQ.out _ _) | quiet_step (first | exact HQ.out _ _))
                      refine wpQuiet_nil ?_
                      intro _ hw'
                      obtain ⟨⟨dq, osq⟩, hw''⟩ := hw'
                      subst hw''
                      have HBN := Lib.hid (belowNext HBW.out (below_regrown wo dq osq))
                      clear k0 k1 k2 k3 k4 g4
                      generalize grow (redrawn wo dq) osq = wn at *
                      go_wp2
                      go_roundg (t.kids.length - (k + 1))
                      case measure => omega
                      case rel => exact ⟨k + 1, by omega, by go_num, HBN, HG⟩
                    · have g0 : decide (0 < k) = true := by simp; omega
                      have g1 : ((k : Int) - 1).toNat = k - 1 := by omega
                      have hy : t.kids[k - 1]? = some t.kids[k - 1] := List.getElem?_eq_getElem (by omega)
                      have HIF : Hid ((if k = 0 then none else t.kids[k - 1]?) = some t.kids[k - 1]) := Lib.hid (by rw [if_neg h0]; exact hy)
                      generalize t.kids[k - 1] = y at *
                      obtain ⟨b', o', D1, m1, d1, D2, m2, d2, D3, d3, hA, s0, s1, s2, s3, s4, hny⟩ := HK1.out.late HBW.out hy
                      injection hA with hA; injection hA with hA1 hA2
                      subst hA1; subst hA2
                      have HNY := Lib.hid hny
                      have j0 := cell_regrown s0
                      have j2 := cell_regrown s2
                      have HY := Lib.hid hy
                      clear hny s0 s1 s2 s3 s4 hy
                      have HQ2 : Hid (∀ b, sameL x.marks y.marks = b → ∀ (d : Nat) (os : Array Obj), Calls Tryz.prog 46 #[.slice E1 l1 e1, .slice D1 m1 d1] (grow (redrawn wo d) os) fun e w'' => e = .returned (.bool b) ∧ ∃ p : Regrown, w'' = grow (redrawn wo p.d) p.os) := Lib.hid fun b hfb => regrown_any (w := wo) fun W hW => (sameNames_any _ _ x.marks y.marks _ _ W (HMX.out W hW) (HNY.out W (belowNext HBW.out hW)).kids1.1 (by omega)).mono fun e w' h => by
                        obtain ⟨rfl, n, rfl⟩ := h
                        exact ⟨by rw [hfb], ⟨rfl, rfl, rfl, Nat.le_refl _, fun _ _ => rfl⟩⟩
                      cases hxt : isTxt x.kind with
                      | false =>
                        have hxk : (x.kind.toList == [116, 101, 120, 116]) = false := hxt
                        have HG := Lib.hid (HNEXT.out HFX.out (by rw [HIF.out]; simp [alikeO, alikeB, hxt]))
                        clear hxt
                        go_wp2_with fail
                        refine wp_region_quiet_below (by kernel_rfl) (by kernel_rfl) ?_
                        repeat (first | go_big_quiet_step (first | exact HQ.out _ _) | quiet_step (first | exact HQ.out _ _))
                        refine wpQuiet_nil ?_
                        intro _ hw'
                        obtain ⟨⟨dq, osq⟩, hw''⟩ := hw'
                        subst hw''
                        have HBN := Lib.hid (belowNext HBW.out (below_regrown wo dq osq))
                        clear k0 k1 k2 k3 k4 g4
                        generalize grow (redrawn wo dq) osq = wn at *
                        go_wp2
                        go_roundg (t.kids.length - (k + 1))
                        case measure => omega
                        case rel => exact ⟨k + 1, by omega, by go_num, HBN, HG⟩
                      | true =>
                        have hxk : (x.kind.toList == [116, 101, 120, 116]) = true := hxt
                        cases hyt : isTxt y.kind with
                        | false =>
                          have hyk : (y.kind.toList == [116, 101, 120, 116]) = false := hyt
                          have HG := Lib.hid (HNEXT.out HFX.out (by rw [HIF.out]; simp [alikeO, alikeB, hyt]))
                          clear hxt hyt
                          go_wp2_with fail
                          refine wp_region_quiet_below (by kernel_rfl) (by kernel_rfl) ?_
                          repeat (first | go_big_quiet_step (first | exact HQ.out _ _) | quiet_step (first | exact HQ.out _ _))
                          refine wpQuiet_nil ?_
                          intro _ hw'
                          obtain ⟨⟨dq, osq⟩, hw''⟩ := hw'
                          subst hw''
                          have HBN := Lib.hid (belowNext HBW.out (below_regrown wo dq osq))
                          clear k0 k1 k2 k3 k4 g4
                          generalize grow (redrawn wo dq) osq = wn at *
                          go_wp2
                          go_roundg (t.kids.length - (k + 1))
                          case measure => omega
                          case rel => exact ⟨k + 1, by omega, by go_num, HBN, HG⟩
                        | true =>
                          have hyk : (y.kind.toList == [116, 101, 120, 116]) = true := hyt
                          cases hsm : sameL x.marks y.marks with
                          | false =>
                            have HG := Lib.hid (HNEXT.out HFX.out (by rw [HIF.out]; simp [alikeO, alikeB, hxt, hyt, (sameL_flip y.marks x.marks).trans hsm]))
                            have HQS := Lib.hid (HQ2.out false hsm)
                            clear hxt hyt hsm
                            go_wp2_with fail
                            refine wp_region_quiet_below (by kernel_rfl) (by kernel_rfl) ?_
                            repeat (first | go_big_quiet_step (first | exact HQ.out _ _ | exact HQS.out _ _) | quiet_step (first | exact HQ.out _ _ | exact HQS.out _ _))
                            refine wpQuiet_nil ?_
                            intro _ hw'
                            obtain ⟨⟨dq, osq⟩, hw''⟩ := hw'
                            subst hw''
                            have HBN := Lib.hid (belowNext HBW.out (below_regrown wo dq osq))
                            clear k0 k1 k2 k3 k4 g4
                            generalize grow (redrawn wo dq) osq = wn at *
                            go_wp2
                            go_roundg (t.kids.length - (k + 1))
                            case measure => omega
                            case rel => exact ⟨k + 1, by omega, by go_num, HBN, HG⟩
                          | true =>
                            have HF := Lib.hid (HALI.out (by rw [HIF.out]; simp [alikeO, alikeB, hxt, hyt, (sameL_flip y.marks x.marks).trans hsm]))
                            have HQS := Lib.hid (HQ2.out true hsm)
                            clear hxt hyt hsm
                            go_wp2_with fail
                            refine wp_region_quiet_below (by kernel_rfl) (by kernel_rfl) ?_
                            repeat (first | go_big_quiet_step (first | exact HQ.out _ _ | exact HQS.out _ _) | quiet_step (first | exact HQ.out _ _ | exact HQS.out _ _))
                            refine wpQuiet_nil ?_
                            intro _ hw'
                            obtain ⟨⟨dq, osq⟩, hw''⟩ := hw'
                            subst hw''
                            have HBN := Lib.hid (belowNext HBW.out (below_regrown wo dq osq))
                            clear k0 k1 k2 k3 k4 g4
                            generalize grow (redrawn wo dq) osq = wn at *
                            go_wp2
                            go_ret
                            exact ⟨by rw [HF.out]; rfl, HB.out.trans (HBN.out.mono HB.out.size)⟩
                · have HF : Hid (formedB t = true) := Lib.hid (by rw [HFE.out]; exact (rowB_iff _ _).2 fun i x hx => hall.out i x (by have := (List.getElem?_eq_some_iff.1 hx).1; omega) hx)
                  go_wp2
                  go_ret
                  exact ⟨by rw [HF.out]; rfl, HB.out.trans (hb.out.mono HB.out.size)⟩
          · have hm1 : (0 : Int) < (nm : Int) := by omega
            have HF : Hid (formedB t = false) := Lib.hid (by rw [HE.out]; unfold headB; rw [HNL.out]; simp [hm])
            clear hm
            go_wp2
            go_ret
            exact ⟨by rw [HF.out]; rfl, HB.out.trans (HB2.out.mono HB.out.size)⟩
        · have he1 : (t.text.toList == []) = false := by simpa using he
          have HF : Hid (formedB t = false) := Lib.hid (by rw [HE.out]; unfold headB; simp [he])
          go_wp2
          go_ret
          exact ⟨by rw [HF.out]; rfl, HB.out.trans (HB2.out.mono HB.out.size)⟩
theorem rformed_all (t : Tree) : RFormed t := by
  induction t using Tree.induct_one with
  | h k t m a l ih =>
    cases hk : isTxt (Tree.mk k t m a l).kind with
    | true => exact rformed_text _ hk
    | false => exact rformed_node _ hk fun x hx => ih x hx
end Go.Proofs.YtggoebbfgkebcaaGreatDoor

namespace Go.Proofs.YtggoebbfgkebcaaGreatDoor
open Go.RowKit Go.Sort

theorem weighL_take1 {l : List ByteArray} {k : Nat} (hk : k < l.length) : weighL (l.take (k + 1)) = weighL (l.take k) + ((l.getD k ByteArray.empty).size + 1) := by
  unfold weighL
  rw [List.take_add_one, getD_some ByteArray.empty hk]; simp
theorem weighP_take1 {l : List (ByteArray × ByteArray)} {k : Nat} (hk : k < l.length) : weighP (l.take (k + 1)) = weighP (l.take k) + ((pairAt l k).1.size + (pairAt l k).2.size + 1) := by
  unfold weighP
  rw [List.take_add_one, getD_some (ByteArray.empty, ByteArray.empty) hk]; simp [pairAt]
theorem weighL_part (l : List ByteArray) (k : Nat) : weighL (l.take k) ≤ weighL l := by
  have : weighL l = weighL (l.take k) + weighL (l.drop k) := by
    unfold weighL; rw [← List.sum_append_nat, ← List.map_append, List.take_append_drop]
  omega
theorem weighP_part (l : List (ByteArray × ByteArray)) (k : Nat) : weighP (l.take k) ≤ weighP l := by
  have : weighP l = weighP (l.take k) + weighP (l.drop k) := by
    unfold weighP; rw [← List.sum_append_nat, ← List.map_append, List.take_append_drop]
  omega
theorem weighAll_take1 {l : List Tree} {k : Nat} {x : Tree} (hx : l[k]? = some x) : weighAll (l.take (k + 1)) = weighAll (l.take k) + weigh x := by
  rw [List.take_add_one, hx, weighAll_append]; simp [weighAll]
theorem weigh_eq (t : Tree) : weigh t = t.kind.size + t.text.size + weighL t.marks + weighP t.attrs + weighAll t.kids + 2 := by
  obtain ⟨k, x, m, a, l⟩ := t; simp only [weigh, Tree.kind, Tree.text, Tree.marks, Tree.attrs, Tree.kids]

end Go.Proofs.YtggoebbfgkebcaaGreatDoor

namespace Go.Proofs.YtggoebbfgkebcaaGreatDoor
open Go.RowKit Go.Sort

theorem wapp (a b : ByteArray) : (a ++ b).data.toList = a.data.toList ++ b.data.toList := by rw [ByteArray.data_append]; simp
theorem wsize {a : ByteArray} {l : List UInt8} (h : a.data.toList = l) : a.size = l.length := by rw [← h, Array.length_toList]; rfl
theorem wordsAll_take1 {l : List Tree} {k : Nat} {x : Tree} (hx : l[k]? = some x) : wordsAll (l.take (k + 1)) = wordsAll (l.take k) ++ wordsB x := by
  rw [List.take_add_one, hx, wordsAll_append]; simp [wordsAll]
end Go.Proofs.YtggoebbfgkebcaaGreatDoor

namespace Go.Proofs.YtggoebbfgkebcaaGreatDoor
open Go.RowKit Go.Sort

def hiT : Tree := .mk ⟨#[116, 101, 120, 116]⟩ ⟨#[104, 105]⟩ [] [] []
def paraT : Tree := .mk ⟨#[112, 97, 114, 97]⟩ ⟨#[]⟩ [] [] [hiT]
def docT : Tree := .mk ⟨#[100, 111, 99]⟩ ⟨#[]⟩ [] [] [paraT]

theorem docT_weigh : weigh docT ≤ 1000000 := by decide +kernel
theorem docT_size : sizeB docT = 6 := by decide +kernel
theorem docT_depth : depthB docT = 2 := by decide +kernel
theorem docT_check : checkB docT = 0 := by decide +kernel

end Go.Proofs.YtggoebbfgkebcaaGreatDoor

namespace Go.Proofs.YtggoebbfgkebcaaGreatDoor
open Go.RowKit Go.Sort Go.Maps

theorem node_late {w : World} {k t : ByteArray} {vm va vk : Value} {u : Tree} (h : Node w (Under w.heap.size) (.agg #[.string k, .string t, vm, va, vk]) u) : ∀ W, Below w.heap.size w W → Node W (Under W.heap.size) (.agg #[.string k, .string t, vm, va, vk]) u := fun _ hW => (h.below hW).more hW.size

set_option maxHeartbeats 2000000 in
theorem rcheck_any (t : Tree) (v : Value) (w : World) (hw : weigh t ≤ 1000000) (h : Node w (Under w.heap.size) v t) :
    Calls Tryz.prog 25 #[v] w fun e w' => e = .returned (.int .i64 (checkB t)) ∧ Below w.heap.size w w' := by
  have HN := Lib.hid h
  obtain ⟨A1, c1, A2, c2, A3, c3, rfl⟩ := h.forms1
  clear h
  generalize hW1 : w.alloc (.cells #[.string t.kind, .string t.text, .slice A1 t.marks.length c1, .slice A2 t.attrs.length c2, .slice A3 t.kids.length c3] 41) = W1
  have HB : Hid (Below w.heap.size w W1) := Lib.hid (by subst hW1; exact (Below.refl _ _).alloc (Nat.le_refl _) _)
  have HBL : Hid (W1.heap[w.heap.size]? = some (.cells #[.string t.kind, .string t.text, .slice A1 t.marks.length c1, .slice A2 t.attrs.length c2, .slice A3 t.kids.length c3] 41)) := Lib.hid (by
    subst hW1; show (w.heap.push _)[w.heap.size]? = _; simp)
  obtain ⟨x0, x1, x2, x3, x4⟩ := five_of HBL.out
  have HND : Hid (∀ W, Below W1.heap.size W1 W → Node W (Under W.heap.size) (.agg #[.string t.kind, .string t.text, .slice A1 t.marks.length c1, .slice A2 t.attrs.length c2, .slice A3 t.kids.length c3]) t) := Lib.hid fun W hW => node_late HN.out W (HB.out.trans (hW.mono HB.out.size))
  have HW1 := Lib.hid hW1
  have hds := depth_le_weigh t
  have hss := size_le_weigh t
  clear hW1
  go_enter Tryz.func25, Tryz.ntmps25
  go_upto_region 1 with fail
  rw [HW1.out]
  go_wp2_with fail
  refine (rformed_all t _ W1 hw (HND.out W1 (Below.refl _ _))).mono ?_
  rintro e w2 ⟨rfl, hb2⟩
  have HB2 := Lib.hid hb2
  obtain ⟨y0, y1, y2, y3, y4⟩ := five_of (block_kept HBL.out hb2)
  clear hb2 x0 x1 x2 x3 x4
  cases hf : formedB t with
  | false =>
    have HC : Hid (checkB t = 2) := Lib.hid (by unfold checkB; rw [hf]; rfl)
    clear hf
    go_wp2
    go_ret
    exact ⟨by rw [HC.out]; rfl, HB.out.trans (HB2.out.mono HB.out.size)⟩
  | true =>
    have HC : Hid (checkB t = if 40 < depthB t then 4 else if 4000 < sizeB t then 5 else 0) := Lib.hid (by unfold checkB; rw [hf]; rfl)
    clear hf
    go_wp2_with fail
    refine (rdepth_any t _ w2 hw (HND.out w2 HB2.out)).mono ?_
    rintro e w3 ⟨rfl, hb3⟩
    have HB3 := Lib.hid (belowNext HB2.out hb3)
    obtain ⟨z0, z1, z2, z3, z4⟩ := five_of (block_kept HBL.out HB3.out)
    clear hb3 y0 y1 y2 y3 y4
    generalize depthB t = d at *
    by_cases h4 : 40 < d
    · have HC4 : Hid (checkB t = 4) := Lib.hid (by rw [HC.out, if_pos h4])
      have h4' : (40 : Int) < (d : Int) := by omega
      go_wp2
      go_ret
      exact ⟨by rw [HC4.out]; rfl, HB.out.trans (HB3.out.mono HB.out.size)⟩
    · have h4' : ¬ (40 : Int) < (d : Int) := by omega
      have HC4 : Hid (checkB t = if 4000 < sizeB t then 5 else 0) := Lib.hid (by rw [HC.out, if_neg h4])
      go_wp2_with fail
      refine (rsize_any _ t w3 (HND.out w3 HB3.out) hw).mono ?_
      rintro e w4 ⟨rfl, hb4⟩
      have HB4 := Lib.hid (belowNext HB3.out hb4)
      clear hb4 z0 z1 z2 z3 z4
      generalize sizeB t = s at *
      by_cases h5 : 4000 < s
      · have HC5 : Hid (checkB t = 5) := Lib.hid (by rw [HC4.out, if_pos h5])
        have h5' : (4000 : Int) < (s : Int) := by omega
        go_wp2
        go_ret
        exact ⟨by rw [HC5.out]; rfl, HB.out.trans (HB4.out.mono HB.out.size)⟩
      · have HC5 : Hid (checkB t = 0) := Lib.hid (by rw [HC4.out, if_neg h5])
        have h5' : ¬ (4000 : Int) < (s : Int) := by omega
        go_wp2
        go_ret
        exact ⟨by rw [HC5.out]; rfl, HB.out.trans (HB4.out.mono HB.out.size)⟩

end Go.Proofs.YtggoebbfgkebcaaGreatDoor

namespace Go.Proofs.YtggoebbfgkebcaaGreatDoor
open Go.RowKit Go.Sort Go.Maps

/-- A text of bytes. -/
def tB (l : List UInt8) : ByteArray := ⟨l.toArray⟩
theorem tB_data (l : List UInt8) : (tB l).data.toList = l := by simp [tB]
theorem tB_of {s : ByteArray} {l : List UInt8} (h : s.data.toList = l) : s = tB l := ByteArray.ext (Array.ext' (by rw [h, tB_data]))
theorem tB_size (l : List UInt8) : (tB l).size = l.length := by rw [Lib.size_eq, tB_data]
theorem tB_app (a b : List UInt8) : tB a ++ tB b = tB (a ++ b) := tB_of (by rw [wapp, tB_data, tB_data])
theorem writeAll_take1 {l : List Tree} {k : Nat} {x : Tree} (hx : l[k]? = some x) : writeAllB (l.take (k + 1)) = writeAllB (l.take k) ++ writeB x := by
  rw [List.take_add_one, hx, writeAllB_append]; simp [writeAllB]

theorem rhead_val (v : Value) (t : Tree) (w : World) (h : Node w (Under w.heap.size) v t) (hw : weigh t ≤ 1000000) :
    Calls Tryz.prog 40 #[v] w fun e w' => e = .returned (.string (tB (headW t))) ∧ Below w.heap.size w w' :=
  (rhead_any v t w h hw).mono fun e w' h => by
    obtain ⟨q, rfl, hq, hb⟩ := h
    exact ⟨by rw [tB_of hq], hb⟩

def RWrite (t : Tree) : Prop := ∀ (v : Value) (w : World), weigh t ≤ 1000000 → Node w (Under w.heap.size) v t →
  Calls Tryz.prog 21 #[v] w fun e w' => e = .returned (.string (tB (writeB t))) ∧ Below w.heap.size w w'

set_option maxHeartbeats 4000000 in
theorem rwriteAll_of (l : List Tree) (ih : ∀ x, x ∈ l → RWrite x) (A : Option Addr) (c : Nat) (w : World) (hw : weighAll l ≤ 1000000) (h : Kids w (Under w.heap.size) (.slice A l.length c) l) :
    Calls Tryz.prog 41 #[.slice A l.length c] w fun e w' => e = .returned (.string (tB (writeAllB l))) ∧ Below w.heap.size w w' := by
  have IH := Lib.hid ih
  have HK := Lib.hid h
  have hkl := length_le_weigh l
  clear ih h
  go_enter Tryz.func41, Tryz.ntmps41
  go_wp2
  go_loopg [3, 4] l.length (fun gh s3 s4 wx => ∃ (k : Nat) (st : ByteArray), k + gh = l.length ∧ s4 = .int .i64 (k : Int) ∧ s3 = .string st ∧ Hid (st = tB (writeAllB (l.take k))) ∧ Hid (Below w.heap.size w wx))
  case atStart => exact ⟨0, _, by omega, rfl, rfl, Lib.hid (by simp [writeAllB, tB]), Lib.hid (Below.refl _ _)⟩
  case round =>
    obtain ⟨k, st, hkg, rfl, rfl, hst, hb⟩ := hrel
    have hwt := weighAll_take l k
    have hsz : st.size ≤ 10000000 := by rw [hst.out, tB_size]; have := writeAllB_le (l.take k); omega
    by_cases hlt : k < l.length
    · have hx : l[k]? = some l[k] := List.getElem?_eq_getElem hlt
      have HIX := Lib.hid (IH.out l[k] (List.getElem_mem hlt))
      have hwx := weigh_mem (List.getElem_mem hlt)
      have HD := Lib.hid (writeAll_take1 hx)
      generalize l[k] = x at *
      obtain ⟨b, o, E1, l1, e1, E2, l2, e2, E3, e3, rfl, r0, r1, r2, r3, r4, hnx⟩ := HK.out.late hb.out hx
      have HNX := Lib.hid hnx
      have hxs : (tB (writeB x)).size ≤ 10000000 := by rw [tB_size]; have := writeB_le x; omega
      have HAD : Hid (st ++ tB (writeB x) = tB (writeAllB (l.take (k + 1)))) := Lib.hid (by rw [hst.out, tB_app, HD.out])
      clear hx hnx
      go_wp2_with fail
      refine (HIX.out _ wr (by omega) (HNX.out wr hb.out)).mono ?_
      rintro e w4 ⟨rfl, hb4⟩
      have HB4 := Lib.hid (belowNext hb.out hb4)
      clear hb4 r0 r1 r2 r3 r4
      generalize tB (writeB x) = sx at *
      have o1 : ¬ 9223372036854775807 < st.size + sx.size := by omega
      go_wp2
      go_roundg (l.length - (k + 1))
      case measure => omega
      case rel => exact ⟨k + 1, _, by omega, by go_num, rfl, HAD, HB4⟩
    · have HD : Hid (st = tB (writeAllB l)) := Lib.hid (by have := hst.out; rwa [List.take_of_length_le (by omega)] at this)
      go_wp2
      go_ret
      exact ⟨by rw [← HD.out]; rfl, hb.out⟩

set_option maxHeartbeats 4000000 in
theorem rwrite_of (t : Tree) (ih : ∀ x, x ∈ t.kids → RWrite x) : RWrite t := by
  intro v w hw h
  have IH := Lib.hid ih
  have HN := Lib.hid h
  obtain ⟨A1, c1, A2, c2, A3, c3, rfl⟩ := h.forms1
  have hkw := kids_weigh t
  have htx : t.text.size ≤ weigh t := by obtain ⟨k, x, m, a, l⟩ := t; simp only [weigh, Tree.text]; omega
  clear h ih
  generalize hW1 : w.alloc (.cells #[.string t.kind, .string t.text, .slice A1 t.marks.length c1, .slice A2 t.attrs.length c2, .slice A3 t.kids.length c3] 41) = W1
  have HB : Hid (Below w.heap.size w W1) := Lib.hid (by subst hW1; exact (Below.refl _ _).alloc (Nat.le_refl _) _)
  have HBL : Hid (W1.heap[w.heap.size]? = some (.cells #[.string t.kind, .string t.text, .slice A1 t.marks.length c1, .slice A2 t.attrs.length c2, .slice A3 t.kids.length c3] 41)) := Lib.hid (by
    subst hW1; show (w.heap.push _)[w.heap.size]? = _; simp)
  have HND : Hid (∀ W, Below W1.heap.size W1 W → Node W (Under W.heap.size) (.agg #[.string t.kind, .string t.text, .slice A1 t.marks.length c1, .slice A2 t.attrs.length c2, .slice A3 t.kids.length c3]) t) := Lib.hid fun W hW => node_late HN.out W (HB.out.trans (hW.mono HB.out.size))
  obtain ⟨x0, x1, x2, x3, x4⟩ := five_of HBL.out
  have HW1 := Lib.hid hW1
  clear hW1
  have HH := Lib.hid (regrown_any (w := W1) fun W hW => rhead_val _ t W (HND.out W hW) hw)
  have k0 := cell_regrown x0
  have k1 := cell_regrown x1
  have k2 := cell_regrown x2
  have k3 := cell_regrown x3
  have k4 := cell_regrown x4
  have hhz : (tB (headW t)).size ≤ 10000000 := by rw [tB_size]; have := headW_le t; omega
  cases hk : isTxt t.kind with
  | true =>
    have HQ := Lib.hid (regrown_any (w := W1) fun W _ => rquote_val t.text W (by omega))
    have hqz : (tB (quoteL t.text.data.toList)).size ≤ 10000000 := by rw [tB_size]; have := quote_le_weigh t; omega
    have HAD : Hid (tB (quoteL t.text.data.toList) ++ tB (headW t) = tB (writeB t)) := Lib.hid (by rw [tB_app, write_text hk])
    have hkk : (t.kind.toList == [116, 101, 120, 116]) = true := hk
    change Hid (∀ (d : Nat) (os : Array Obj), Calls _ _ _ _ fun e w'' => e = .returned (.string (tB (quoteL t.text.data.toList))) ∧ _) at HQ
    clear hk
    go_enter Tryz.func21, Tryz.ntmps21
    go_upto_region 2 with fail
    rw [HW1.out]
    generalize tB (quoteL t.text.data.toList) = sq at *
    generalize tB (headW t) = sh at *
    have o1 : ¬ 9223372036854775807 < sq.size + sh.size := by omega
    refine wp_region_quiet_below (by kernel_rfl) (by kernel_rfl) ?_
    repeat (first | go_big_quiet_step (first | exact HQ.out _ _ | exact HH.out _ _) | quiet_step (first | exact HQ.out _ _ | exact HH.out _ _))
    refine wpQuiet_nil ?_
    intro _ hw'
    obtain ⟨⟨dq, osq⟩, hw''⟩ := hw'
    subst hw''
    have HBN := Lib.hid (below_regrown W1 dq osq)
    clear k0 k1 k2 k3 k4 x0 x1 x2 x3 x4
    generalize grow (redrawn W1 dq) osq = wn at *
    go_wp2
    go_ret
    exact ⟨by rw [← HAD.out]; rfl, HB.out.trans (HBN.out.mono HB.out.size)⟩
  | false =>
    have HA := Lib.hid (regrown_any (w := W1) fun W hW => rwriteAll_of t.kids IH.out A3 c3 W (by omega) (HND.out W hW).kids1.2.2)
    have haz : (tB (writeAllB t.kids)).size ≤ 10000000 := by rw [tB_size]; have := writeAllB_le t.kids; omega
    have HAD : Hid (tB (headW t) ++ ⟨#[91]⟩ ++ tB (writeAllB t.kids) ++ ⟨#[93]⟩ = tB (writeB t)) := Lib.hid (tB_of (by rw [wapp, wapp, wapp, tB_data, tB_data, write_node hk]; simp))
    have hkk : (t.kind.toList == [116, 101, 120, 116]) = false := hk
    clear hk
    go_enter Tryz.func21, Tryz.ntmps21
    go_upto_region 3 with fail
    rw [HW1.out]
    generalize tB (writeAllB t.kids) = sa at *
    generalize tB (headW t) = sh at *
    have o1 : ¬ 9223372036854775807 < sh.size + 1 := by omega
    have o2 : ¬ 9223372036854775807 < sh.size + 1 + sa.size := by omega
    have o3 : ¬ 9223372036854775807 < sh.size + 1 + sa.size + 1 := by omega
    refine wp_region_quiet_below (by kernel_rfl) (by kernel_rfl) ?_
    repeat (first | go_big_quiet_step (first | exact HA.out _ _ | exact HH.out _ _) | quiet_step (first | exact HA.out _ _ | exact HH.out _ _))
    refine wpQuiet_nil ?_
    intro _ hw'
    obtain ⟨⟨dq, osq⟩, hw''⟩ := hw'
    subst hw''
    have HBN := Lib.hid (below_regrown W1 dq osq)
    clear k0 k1 k2 k3 k4 x0 x1 x2 x3 x4
    generalize grow (redrawn W1 dq) osq = wn at *
    go_wp2
    go_ret
    exact ⟨by rw [← HAD.out]; rfl, HB.out.trans (HBN.out.mono HB.out.size)⟩
theorem rwrite_any (t : Tree) : RWrite t := by
  induction t using Tree.induct_one with
  | h k t m a l ih => exact rwrite_of _ fun x hx => ih x hx
end Go.Proofs.YtggoebbfgkebcaaGreatDoor
