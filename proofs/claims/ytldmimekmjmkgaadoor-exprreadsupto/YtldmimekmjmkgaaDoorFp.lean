/-
  inner, written, Print: walked.
-/
import Derived.Test.YtldmimekmjmkgaaDoorFo
namespace Go.Proofs.YtldmimekmjmkgaaDoor
open Go.RowKit Go.Sort Go.Maps Go.WideMaps

theorem len_sizeEs : ∀ l : List Ex, l.length ≤ sizeEs l
  | [] => Nat.zero_le _
  | x :: l => by have h1 := len_sizeEs l; have h2 : 1 ≤ sizeE x := by { obtain ⟨o, s, m⟩ := x; unfold sizeE; omega }; unfold sizeEs; rw [List.length_cons]; omega
def WSaid (e : Ex) : Prop := e.fits → allE okN e = true → sizeE e ≤ 24 → ∀ (A : Option Addr) (n c : Nat) (W : World), Exs W (Under W.heap.size) (.slice A n c) e.kids →
  Calls Tryd.prog 28 #[.agg #[.int .u8 e.op, .string e.name, .slice A n c]] W fun x w' => x = .returned (.string (writeE e)) ∧ Below W.heap.size W w'

set_option maxRecDepth 100000 in
set_option maxHeartbeats 2000000 in
theorem inner_of (e : Ex) (h : WSaid e) (he : e.fits) (ha : allE okN e = true) (hs : sizeE e ≤ 24) (A : Option Addr) (n c : Nat) (w : World) (hl : Exs w (Under w.heap.size) (.slice A n c) e.kids) :
    Calls Tryd.prog 43 #[.agg #[.int .u8 e.op, .string e.name, .slice A n c]] w fun x w' => x = .returned (.string (inE e (writeE e))) ∧ Below w.heap.size w w' := by
  have hn := hl.len
  subst hn
  have HA := Lib.hid hl
  have hwl := write_len e ha
  have HB : Hid (Below w.heap.size w (w.alloc (.cells #[.int .u8 e.op, .string e.name, .slice A e.kids.length c] 24))) := Lib.hid ((Below.refl _ _).alloc (Nat.le_refl _) _)
  have HWS := Lib.hid (h he ha hs A e.kids.length c _ ((HA.out.below HB.out).more HB.out.size))
  have HIN : Hid (inE e (writeE e) = if parE e then (⟨#[40]⟩ : ByteArray) ++ writeE e ++ ⟨#[41]⟩ else writeE e) := Lib.hid rfl
  have HPA : Hid (parE e = (e.op == 97 || (e.op == 115 && decide (0 < e.kids.length)))) := Lib.hid rfl
  clear hl ha h he
  generalize writeE e = s at *
  generalize inE e s = t at *
  generalize parE e = p at *
  generalize e.kids.length = nk at *
  generalize e.op = o at *
  generalize e.name = nm at *
  have hol : ¬ 9223372036854775807 < 1 + s.size := by omega
  have hol2 : ¬ 9223372036854775807 < 1 + s.size + 1 := by omega
  by_cases h1 : o = 97
  · subst h1
    have HP : Hid (t = (⟨#[40]⟩ : ByteArray) ++ s ++ ⟨#[41]⟩) := Lib.hid (by rw [HIN.out, HPA.out]; rfl)
    go_enter Tryd.func43, Tryd.ntmps43
    go_wp2_with fail
    refine HWS.out.mono ?_
    rintro x w2 ⟨rfl, hb2⟩
    have HB2 := Lib.hid (belowNext HB.out hb2)
    clear hb2
    go_wp2
    go_ret
    exact ⟨by rw [HP.out]; rfl, HB2.out⟩
  · have e1 : ((o : Int) == 97) = false := by simp; omega
    by_cases h2 : o = 115
    · subst h2
      by_cases h3 : 0 < nk
      · have HP : Hid (t = (⟨#[40]⟩ : ByteArray) ++ s ++ ⟨#[41]⟩) := Lib.hid (by rw [HIN.out, HPA.out, decide_eq_true h3]; rfl)
        have e3 : decide (0 < (nk : Int)) = true := by simp; omega
        have e4 : decide (0 < nk) = true := decide_eq_true h3
        clear h1 e1
        go_enter Tryd.func43, Tryd.ntmps43
        go_wp2_with fail
        refine HWS.out.mono ?_
        rintro x w2 ⟨rfl, hb2⟩
        have HB2 := Lib.hid (belowNext HB.out hb2)
        clear hb2
        go_wp2
        go_ret
        exact ⟨by rw [HP.out]; rfl, HB2.out⟩
      · have HP : Hid (t = s) := Lib.hid (by rw [HIN.out, HPA.out, decide_eq_false h3]; rfl)
        obtain rfl : nk = 0 := by omega
        clear h1 e1 h3
        go_enter Tryd.func43, Tryd.ntmps43
        go_wp2_with fail
        refine HWS.out.mono ?_
        rintro x w2 ⟨rfl, hb2⟩
        have HB2 := Lib.hid (belowNext HB.out hb2)
        clear hb2
        go_wp2
        go_ret
        exact ⟨by rw [HP.out]; rfl, HB2.out⟩
    · have e2 : ((o : Int) == 115) = false := by simp; omega
      have HP : Hid (t = s) := Lib.hid (by rw [HIN.out, HPA.out, beq_eq_false_iff_ne.2 h1, beq_eq_false_iff_ne.2 h2]; rfl)
      clear h1 h2
      go_enter Tryd.func43, Tryd.ntmps43
      go_wp2_with fail
      refine HWS.out.mono ?_
      rintro x w2 ⟨rfl, hb2⟩
      have HB2 := Lib.hid (belowNext HB.out hb2)
      clear hb2
      go_wp2
      go_ret
      exact ⟨by rw [HP.out]; rfl, HB2.out⟩

set_option maxRecDepth 100000 in
set_option maxHeartbeats 4000000 in
theorem written_walk : ∀ e, WSaid e := by
  intro e
  induction e using Ex.induct_one with
  | h o s l ih =>
    intro he ha hs A n c w hl
    have hwl := write_len _ ha
    simp only [Ex.op, Ex.name, Ex.kids] at *
    have hn := hl.len
    subst hn
    obtain ⟨A', c', hv, hc', hm, _⟩ := id hl
    injection hv with hA hn hcc
    subst hA hcc
    unfold maxLen at hm
    have HA := Lib.hid hl
    simp only [allE, Bool.and_eq_true] at ha
    simp only [sizeE] at hs
    have HSH := Lib.hid ha.1
    have HAL := Lib.hid ha.2
    have HFA := Lib.hid he.2.2
    have ho : o < 256 := he.1
    have IH := Lib.hid ih
    have hll : l.length ≤ sizeEs l := len_sizeEs l
    have HB : Hid (Below w.heap.size w (w.alloc (.cells #[.int .u8 o, .string s, .slice A l.length c] 24))) := Lib.hid ((Below.refl _ _).alloc (Nat.le_refl _) _)
    have HA1 := Lib.hid ((HA.out.below HB.out).more HB.out.size)
    have HWK : Hid (∀ x ∈ l, ∀ (A' : Option Addr) (n' c' : Nat) (W : World), Exs W (Under W.heap.size) (.slice A' n' c') x.kids → Calls Tryd.prog 28 #[.agg #[.int .u8 x.op, .string x.name, .slice A' n' c']] W fun e w' => e = .returned (.string (writeE x)) ∧ Below W.heap.size W w') :=
      Lib.hid fun x hx A' n' c' W hW => IH.out x hx (Ex.fits_mem HFA.out hx) (mem_allEs HAL.out x hx) (by have := size_mem hx; omega) A' n' c' W hW
    have HIK : Hid (∀ x ∈ l, ∀ (A' : Option Addr) (n' c' : Nat) (W : World), Exs W (Under W.heap.size) (.slice A' n' c') x.kids → Calls Tryd.prog 43 #[.agg #[.int .u8 x.op, .string x.name, .slice A' n' c']] W fun e w' => e = .returned (.string (inE x (writeE x))) ∧ Below W.heap.size W w') :=
      Lib.hid fun x hx A' n' c' W hW => inner_of x (IH.out x hx) (Ex.fits_mem HFA.out hx) (mem_allEs HAL.out x hx) (by have := size_mem hx; omega) A' n' c' W hW
    clear hl he ha ih
    by_cases h0 : o = 110
    · have HP : Hid (writeE (.mk o s l) = s) := Lib.hid (by rw [writeE, if_pos h0])
      subst h0
      clear hwl
      go_enter Tryd.func28, Tryd.ntmps28
      go_wp2
      go_ret
      exact ⟨by rw [HP.out]; rfl, HB.out⟩
    · have e0 : ((o : Int) == 110) = false := by simp; omega
      by_cases h1 : o = 97
      · have HP : Hid (writeE (.mk o s l) = joinE ⟨#[124]⟩ (l.map writeE)) := Lib.hid (by rw [writeE, if_neg h0, if_pos h1, writesE_map])
        subst h1
        rw [HP.out] at hwl
        clear h0 e0
        go_enter Tryd.func28, Tryd.ntmps28
        go_wp2_with fail
        refine (joined_w writeE l ⟨#[124]⟩ A _ c _ HA1.out (Lib.hid HWK.out) (by omega) (by have : sizeE (.mk 97 s l) = 1 + sizeEs l := by { unfold sizeE; rfl }; omega)).mono ?_
        rintro x w2 ⟨rfl, hb2⟩
        have HB2 := Lib.hid (belowNext HB.out hb2)
        clear hb2 hwl
        go_wp2
        go_ret
        exact ⟨by rw [HP.out]; rfl, HB2.out⟩
      · have e1 : ((o : Int) == 97) = false := by simp; omega
        by_cases h2 : o = 115
        · by_cases h3 : l.length = 0
          · have HP : Hid (writeE (.mk o s l) = ⟨#[40, 41]⟩) := Lib.hid (by rw [writeE, if_neg h0, if_neg h1, if_pos h2, if_pos h3])
            have e3 : ((l.length : Int) == 0) = true := by simp [h3]
            subst h2
            clear h0 e0 h1 e1 hwl h3
            go_enter Tryd.func28, Tryd.ntmps28
            go_wp2
            go_ret
            exact ⟨by rw [HP.out]; rfl, HB.out⟩
          · have HP : Hid (writeE (.mk o s l) = joinE ⟨#[32]⟩ (l.map fun x => inE x (writeE x))) := Lib.hid (by rw [writeE, if_neg h0, if_neg h1, if_pos h2, if_neg h3, innersE_map])
            have e3 : ((l.length : Int) == 0) = false := by rw [beq_eq_false_iff_ne]; omega
            subst h2
            rw [HP.out] at hwl
            clear h0 e0 h1 e1 h3
            go_enter Tryd.func28, Tryd.ntmps28
            go_wp2_with fail
            refine (joined_i (fun x => inE x (writeE x)) l ⟨#[32]⟩ A _ c _ HA1.out (Lib.hid HIK.out) (by omega) (by have : sizeE (.mk 115 s l) = 1 + sizeEs l := by { unfold sizeE; rfl }; omega)).mono ?_
            rintro x w2 ⟨rfl, hb2⟩
            have HB2 := Lib.hid (belowNext HB.out hb2)
            clear hb2 hwl
            go_wp2
            go_ret
            exact ⟨by rw [HP.out]; rfl, HB2.out⟩
        · have e2 : ((o : Int) == 115) = false := by simp; omega
          have HP : Hid (writeE (.mk o s l) = firstE l ++ ⟨#[UInt8.ofNat o]⟩) := Lib.hid (by rw [writeE, if_neg h0, if_neg h1, if_neg h2])
          obtain ⟨hrep, x, rfl⟩ := rep_inv h0 h2 h1 HSH.out
          clear h0 h1 h2
          obtain ⟨bk, off, rfl, _, hat⟩ := HA.out.get (k := 0) (x := x) rfl
          obtain ⟨vk, f0, f1, f2, exk⟩ := (exAt_iff x bk _).1 hat
          obtain ⟨A3, c3, rfl, _⟩ := id exk
          have hl3 := cell_lt f0
          simp only [Nat.zero_mul, Nat.add_zero] at f0 f1 f2
          have HEK := Lib.hid exk
          have hxs : (inE x (writeE x)).size ≤ 1000 := by
            have h1 := inE_size x (writeE x)
            have h2 := write_len x (mem_allEs HAL.out x (List.mem_cons_self ..))
            have h3 : sizeE x ≤ sizeEs [x] := size_mem (List.mem_cons_self ..)
            omega
          have HFI : Hid (firstE [x] = inE x (writeE x)) := Lib.hid (by unfold firstE; rfl)
          have hol : ¬ 9223372036854775807 < (inE x (writeE x)).size + 1 := by omega
          clear exk hat hwl
          rcases hrep with rfl | rfl | rfl
          · have HBL : Hid (∀ W, Below (w.alloc (.cells #[.int .u8 42, .string s, .slice (some ⟨bk, off, none⟩) 1 c] 24)).heap.size (w.alloc (.cells #[.int .u8 42, .string s, .slice (some ⟨bk, off, none⟩) 1 c] 24)) W → Exs W (Under W.heap.size) (.slice A3 x.kids.length c3) x.kids) := Lib.hid fun W hW => ((HEK.out.below HB.out).more HB.out.size).below hW |>.more hW.size
            have HC := Lib.hid (regrown_any (w := w.alloc (.cells #[.int .u8 42, .string s, .slice (some ⟨bk, off, none⟩) 1 c] 24)) fun W hW => HIK.out x (List.mem_cons_self ..) A3 _ c3 W (HBL.out W hW))
            generalize inE x (writeE x) = y at *
            have en : Utf8.encode 42 = ⟨#[42]⟩ := by kernel_rfl
            go_enter Tryd.func28, Tryd.ntmps28
            go_wp2
            have b0 := (three_cells (heap_new w (.cells #[.int .u8 42, .string s, .slice (some ⟨bk, off, none⟩) 1 c] 24))).1
            have b2 := (three_cells (heap_new w (.cells #[.int .u8 42, .string s, .slice (some ⟨bk, off, none⟩) 1 c] 24))).2.2
            have g0 := cell_kept f0 HB.out
            have g1 := cell_kept f1 HB.out
            have g2 := cell_kept f2 HB.out
            have HBB := Lib.hid HB.out
            have hz1 : w.heap.size < (w.alloc (.cells #[.int .u8 42, .string s, .slice (some ⟨bk, off, none⟩) 1 c] 24)).heap.size := by simp
            clear HB HA1 HBL f0 f1 f2
            generalize w.alloc (.cells #[.int .u8 42, .string s, .slice (some ⟨bk, off, none⟩) 1 c] 24) = W1 at *
            have k0 := cell_regrown b0
            have k2 := cell_regrown b2
            have j0 := cell_regrown g0
            have j1 := cell_regrown g1
            have j2 := cell_regrown g2
            refine wp_region_quiet_below (by kernel_rfl) (by kernel_rfl) ?_
            repeat (first | go_big_quiet_step (exact HC.out _ _) | quiet_step (exact HC.out _ _))
            refine wpQuiet_nil ?_
            intro _ hw'
            obtain ⟨⟨dq, osq⟩, hw''⟩ := hw'
            subst hw''
            have HBN := Lib.hid (belowNext HBB.out (below_regrown W1 dq osq))
            clear k0 k2 j0 j1 j2
            generalize grow (redrawn W1 dq) osq = wn at *
            go_wp2
            go_ret
            exact ⟨by rw [HP.out, HFI.out]; rfl, HBN.out⟩
          · have HBL : Hid (∀ W, Below (w.alloc (.cells #[.int .u8 43, .string s, .slice (some ⟨bk, off, none⟩) 1 c] 24)).heap.size (w.alloc (.cells #[.int .u8 43, .string s, .slice (some ⟨bk, off, none⟩) 1 c] 24)) W → Exs W (Under W.heap.size) (.slice A3 x.kids.length c3) x.kids) := Lib.hid fun W hW => ((HEK.out.below HB.out).more HB.out.size).below hW |>.more hW.size
            have HC := Lib.hid (regrown_any (w := w.alloc (.cells #[.int .u8 43, .string s, .slice (some ⟨bk, off, none⟩) 1 c] 24)) fun W hW => HIK.out x (List.mem_cons_self ..) A3 _ c3 W (HBL.out W hW))
            generalize inE x (writeE x) = y at *
            have en : Utf8.encode 43 = ⟨#[43]⟩ := by kernel_rfl
            go_enter Tryd.func28, Tryd.ntmps28
            go_wp2
            have b0 := (three_cells (heap_new w (.cells #[.int .u8 43, .string s, .slice (some ⟨bk, off, none⟩) 1 c] 24))).1
            have b2 := (three_cells (heap_new w (.cells #[.int .u8 43, .string s, .slice (some ⟨bk, off, none⟩) 1 c] 24))).2.2
            have g0 := cell_kept f0 HB.out
            have g1 := cell_kept f1 HB.out
            have g2 := cell_kept f2 HB.out
            have HBB := Lib.hid HB.out
            have hz1 : w.heap.size < (w.alloc (.cells #[.int .u8 43, .string s, .slice (some ⟨bk, off, none⟩) 1 c] 24)).heap.size := by simp
            clear HB HA1 HBL f0 f1 f2
            generalize w.alloc (.cells #[.int .u8 43, .string s, .slice (some ⟨bk, off, none⟩) 1 c] 24) = W1 at *
            have k0 := cell_regrown b0
            have k2 := cell_regrown b2
            have j0 := cell_regrown g0
            have j1 := cell_regrown g1
            have j2 := cell_regrown g2
            refine wp_region_quiet_below (by kernel_rfl) (by kernel_rfl) ?_
            repeat (first | go_big_quiet_step (exact HC.out _ _) | quiet_step (exact HC.out _ _))
            refine wpQuiet_nil ?_
            intro _ hw'
            obtain ⟨⟨dq, osq⟩, hw''⟩ := hw'
            subst hw''
            have HBN := Lib.hid (belowNext HBB.out (below_regrown W1 dq osq))
            clear k0 k2 j0 j1 j2
            generalize grow (redrawn W1 dq) osq = wn at *
            go_wp2
            go_ret
            exact ⟨by rw [HP.out, HFI.out]; rfl, HBN.out⟩
          · have HBL : Hid (∀ W, Below (w.alloc (.cells #[.int .u8 63, .string s, .slice (some ⟨bk, off, none⟩) 1 c] 24)).heap.size (w.alloc (.cells #[.int .u8 63, .string s, .slice (some ⟨bk, off, none⟩) 1 c] 24)) W → Exs W (Under W.heap.size) (.slice A3 x.kids.length c3) x.kids) := Lib.hid fun W hW => ((HEK.out.below HB.out).more HB.out.size).below hW |>.more hW.size
            have HC := Lib.hid (regrown_any (w := w.alloc (.cells #[.int .u8 63, .string s, .slice (some ⟨bk, off, none⟩) 1 c] 24)) fun W hW => HIK.out x (List.mem_cons_self ..) A3 _ c3 W (HBL.out W hW))
            generalize inE x (writeE x) = y at *
            have en : Utf8.encode 63 = ⟨#[63]⟩ := by kernel_rfl
            go_enter Tryd.func28, Tryd.ntmps28
            go_wp2
            have b0 := (three_cells (heap_new w (.cells #[.int .u8 63, .string s, .slice (some ⟨bk, off, none⟩) 1 c] 24))).1
            have b2 := (three_cells (heap_new w (.cells #[.int .u8 63, .string s, .slice (some ⟨bk, off, none⟩) 1 c] 24))).2.2
            have g0 := cell_kept f0 HB.out
            have g1 := cell_kept f1 HB.out
            have g2 := cell_kept f2 HB.out
            have HBB := Lib.hid HB.out
            have hz1 : w.heap.size < (w.alloc (.cells #[.int .u8 63, .string s, .slice (some ⟨bk, off, none⟩) 1 c] 24)).heap.size := by simp
            clear HB HA1 HBL f0 f1 f2
            generalize w.alloc (.cells #[.int .u8 63, .string s, .slice (some ⟨bk, off, none⟩) 1 c] 24) = W1 at *
            have k0 := cell_regrown b0
            have k2 := cell_regrown b2
            have j0 := cell_regrown g0
            have j1 := cell_regrown g1
            have j2 := cell_regrown g2
            refine wp_region_quiet_below (by kernel_rfl) (by kernel_rfl) ?_
            repeat (first | go_big_quiet_step (exact HC.out _ _) | quiet_step (exact HC.out _ _))
            refine wpQuiet_nil ?_
            intro _ hw'
            obtain ⟨⟨dq, osq⟩, hw''⟩ := hw'
            subst hw''
            have HBN := Lib.hid (belowNext HBB.out (below_regrown W1 dq osq))
            clear k0 k2 j0 j1 j2
            generalize grow (redrawn W1 dq) osq = wn at *
            go_wp2
            go_ret
            exact ⟨by rw [HP.out, HFI.out]; rfl, HBN.out⟩
end Go.Proofs.YtldmimekmjmkgaaDoor
