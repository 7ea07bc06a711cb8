/-
  What shaped answers.
-/
import Derived.Test.YtldmimekmjmkgaaDoorFc
namespace Go.Proofs.YtldmimekmjmkgaaDoor
open Go.RowKit Go.Sort

/-- What a name in an expression may be. -/
def okN (s : ByteArray) : Bool := nameB s || isTxt s

theorem shaped_name {o : Nat} {s : ByteArray} {l : List Ex} (h : o = 110) : shapedE okN (.mk o s l) = (l.length == 0 && okN s) := by unfold shapedE; rw [if_pos (show (Ex.mk o s l).op = 110 from h)]; rfl
theorem shaped_named {o : Nat} {s : ByteArray} {l : List Ex} (h : o ≠ 110) (hs : s ≠ ByteArray.empty) : shapedE okN (.mk o s l) = false := by
  unfold shapedE; rw [if_neg (show ¬ (Ex.mk o s l).op = 110 from h), if_pos (show (Ex.mk o s l).name ≠ ByteArray.empty from hs)]
theorem shaped_seq {o : Nat} {l : List Ex} (h : o = 115) : shapedE okN (.mk o ByteArray.empty l) = (l.length != 1 && !(l.any fun k => k.op == 115)) := by subst h; rfl
theorem shaped_alt {o : Nat} {l : List Ex} (h : o = 97) : shapedE okN (.mk o ByteArray.empty l) = (decide (2 ≤ l.length) && !(l.any fun k => k.op == 97)) := by subst h; rfl
theorem shaped_rep {o : Nat} {l : List Ex} (h0 : o ≠ 110) (h1 : o ≠ 115) (h2 : o ≠ 97) : shapedE okN (.mk o ByteArray.empty l) = (repE o && (match l with | [k] => !repE k.op | _ => false)) := by
  unfold shapedE
  rw [if_neg (show ¬ (Ex.mk o ByteArray.empty l).op = 110 from h0), if_neg (show ¬ (Ex.mk o ByteArray.empty l).name ≠ ByteArray.empty from fun h => h rfl), if_neg (show ¬ (Ex.mk o ByteArray.empty l).op = 115 from h1), if_neg (show ¬ (Ex.mk o ByteArray.empty l).op = 97 from h2)]
  rfl
theorem str_empty {s : ByteArray} (h : s.toList = []) : s = ByteArray.empty := by
  rw [Lib.toList_data] at h
  exact ByteArray.ext (Array.ext' h)

set_option maxHeartbeats 1000000 in
theorem shaped_any (e : Ex) (A : Option Addr) (n c : Nat) (w : World) (he : e.fits) (hl : Exs w (Under w.heap.size) (.slice A n c) e.kids) :
    Calls Tryd.prog 45 #[.agg #[.int .u8 e.op, .string e.name, .slice A n c]] w fun e' w' => e' = .returned (.bool (shapedE okN e)) ∧ Below w.heap.size w w' := by
  have hs := he.name
  obtain ⟨o, s, l⟩ := e
  simp only [Ex.op, Ex.name, Ex.kids] at *
  have hlen := hl.len
  obtain ⟨A', c', hv, hc, hm, _⟩ := id hl
  injection hv with hA hn hc'
  subst hA hn hc'
  unfold maxLen at hm hs
  have ho : o < 256 := he.1
  have HBY : Hid (∀ x ∈ l, x.op < 256) := Lib.hid fun x hx => (Ex.fits_mem he.2.2 hx).op
  have HA := Lib.hid hl
  have HB : Hid (Below w.heap.size w (w.alloc (.cells #[.int .u8 o, .string s, .slice A l.length c] 24))) := Lib.hid ((Below.refl _ _).alloc (Nat.le_refl _) _)
  have HA1 : Hid (Exs (w.alloc (.cells #[.int .u8 o, .string s, .slice A l.length c] 24)) (Under (w.alloc (.cells #[.int .u8 o, .string s, .slice A l.length c] 24)).heap.size) (.slice A l.length c) l) := Lib.hid ((HA.out.below HB.out).more HB.out.size)
  clear hl he
  by_cases h1 : o = 110
  · have HS := Lib.hid (shaped_name (s := s) (l := l) h1)
    subst h1
    by_cases h2 : l.length = 0
    · have HL := Lib.hid h2
      have e2 : ((l.length : Int) == 0) = true := by simp [h2]
      clear h2
      cases hn : nameB s with
      | true =>
        have HN := Lib.hid hn
        clear hn
        go_enter Tryd.func45, Tryd.ntmps45
        go_wp2_with (go_at_call 58; refine (name_any _ _ (by unfold maxLen; omega)).mono ?_; rintro e w' ⟨rfl, rfl⟩; rw [HN.out])
        go_ret
        exact ⟨ret_bool (by rw [HS.out, HL.out]; unfold okN; rw [HN.out]; rfl), HB.out⟩
      | false =>
        have HN := Lib.hid hn
        clear hn
        go_enter Tryd.func45, Tryd.ntmps45
        go_wp2_with (go_at_call 58; refine (name_any _ _ (by unfold maxLen; omega)).mono ?_; rintro e w' ⟨rfl, rfl⟩; rw [HN.out])
        go_ret
        exact ⟨ret_bool (by rw [HS.out, HL.out]; unfold okN; rw [HN.out]; rfl), HB.out⟩
    · have HL := Lib.hid h2
      have e2 : ((l.length : Int) == 0) = false := by rw [beq_eq_false_iff_ne]; omega
      clear h2
      go_enter Tryd.func45, Tryd.ntmps45
      go_wp2
      go_ret
      exact ⟨ret_bool (by rw [HS.out, show (l.length == 0) = false from by simp [HL.out]]; rfl), HB.out⟩
  · have e1 : ((o : Int) == 110) = false := by simp; omega
    cases hse : (s.toList == []) with
    | false =>
      have HS : Hid (shapedE okN (.mk o s l) = false) := Lib.hid (shaped_named h1 fun h => by rw [h] at hse; simp at hse)
      clear h1
      go_enter Tryd.func45, Tryd.ntmps45
      go_wp2
      go_ret
      exact ⟨ret_bool HS.out.symm, HB.out⟩
    | true =>
      obtain rfl : s = ByteArray.empty := str_empty (by simpa using hse)
      clear hse
      by_cases h2 : o = 115
      · have HS := Lib.hid (shaped_seq (l := l) h2)
        subst h2
        clear h1 e1
        by_cases h3 : l.length = 1
        · have e2 : ((l.length : Int) != 1) = false := by simp [h3]
          have HL := Lib.hid h3
          clear h3
          go_enter Tryd.func45, Tryd.ntmps45
          go_wp2
          go_ret
          exact ⟨ret_bool (by rw [HS.out, HL.out]; rfl), HB.out⟩
        · have e2 : ((l.length : Int) != 1) = true := by simp; omega
          have HL := Lib.hid h3
          clear h3
          go_enter Tryd.func45, Tryd.ntmps45
          go_wp2_with fail
          refine (anyOf_any l A _ c 115 _ HA1.out).mono ?_
          rintro e w1 ⟨rfl, hb⟩
          have HB1 := Lib.hid (belowNext HB.out hb)
          clear hb
          go_wp2
          go_ret
          exact ⟨ret_bool (by rw [HS.out, show (l.length != 1) = true from by simp [HL.out]]; rfl), HB1.out⟩
      · have e2 : ((o : Int) == 115) = false := by simp; omega
        by_cases h3 : o = 97
        · have HS := Lib.hid (shaped_alt (l := l) h3)
          subst h3
          clear h1 e1 h2 e2
          by_cases h4 : 2 ≤ l.length
          · have e4 : decide (2 ≤ (l.length : Int)) = true := by simp; omega
            have HL := Lib.hid h4
            clear h4
            go_enter Tryd.func45, Tryd.ntmps45
            go_wp2_with fail
            refine (anyOf_any l A _ c 97 _ HA1.out).mono ?_
            rintro e w1 ⟨rfl, hb⟩
            have HB1 := Lib.hid (belowNext HB.out hb)
            clear hb
            go_wp2
            go_ret
            exact ⟨ret_bool (by rw [HS.out, decide_eq_true HL.out]; rfl), HB1.out⟩
          · have e4 : decide (2 ≤ (l.length : Int)) = false := by simp; omega
            have HL := Lib.hid h4
            clear h4
            go_enter Tryd.func45, Tryd.ntmps45
            go_wp2
            go_ret
            exact ⟨ret_bool (by rw [HS.out, decide_eq_false HL.out]; rfl), HB.out⟩
        · have e3 : ((o : Int) == 97) = false := by simp; omega
          have HS := Lib.hid (shaped_rep (l := l) h1 h2 h3)
          clear h1 h2 h3
          cases hr : repE o with
          | false =>
            have HR := Lib.hid hr
            clear hr
            go_enter Tryd.func45, Tryd.ntmps45
            go_wp2_with (go_at_call 60; refine (repeats_any _ _ ho).mono ?_; rintro e w' ⟨rfl, rfl⟩; rw [HR.out])
            go_ret
            exact ⟨ret_bool (by rw [HS.out, HR.out]; rfl), HB.out⟩
          | true =>
            have HR := Lib.hid hr
            clear hr
            match l, hlen, hc, HA, HB, HA1, HS with
            | [], _, _, HA, HB, HA1, HS =>
              go_enter Tryd.func45, Tryd.ntmps45
              go_wp2_with (go_at_call 60; refine (repeats_any _ _ ho).mono ?_; rintro e w' ⟨rfl, rfl⟩; rw [HR.out])
              go_ret
              exact ⟨ret_bool (by rw [HS.out, HR.out]; rfl), HB.out⟩
            | x :: y :: l, _, hc, HA, HB, HA1, HS =>
              have e4 : (((x :: y :: l).length : Int) == 1) = false := by simp; omega
              generalize hL : (x :: y :: l) = L at *
              go_enter Tryd.func45, Tryd.ntmps45
              go_wp2_with (go_at_call 60; refine (repeats_any _ _ ho).mono ?_; rintro e w' ⟨rfl, rfl⟩; rw [HR.out])
              go_ret
              exact ⟨ret_bool (by rw [HS.out, HR.out, ← hL]; rfl), HB.out⟩
            | [x], _, hc, HA, HB, HA1, HS =>
              obtain ⟨b, off, rfl, _, hat⟩ := HA.out.get (k := 0) (x := x) rfl
              obtain ⟨vk, f0, _, _, _⟩ := (exAt_iff x b _).1 hat
              have hx8 := HBY.out x (List.mem_cons_self ..)
              have hb' := cell_lt f0
              simp only [Nat.zero_mul, Nat.add_zero] at f0
              clear hat
              have HE : Hid (shapedE okN (.mk o ByteArray.empty [x]) = !repE x.op) := Lib.hid (by rw [HS.out, HR.out]; rfl)
              generalize hrx : repE x.op = r at *
              have HX := Lib.hid hrx
              generalize x.op = ox at *
              clear hrx HS
              go_enter Tryd.func45, Tryd.ntmps45
              go_wp2_with fail
              refine (repeats_any o _ ho).mono ?_
              rintro e w' ⟨rfl, rfl⟩
              rw [HR.out]
              go_wp2_with fail
              refine (repeats_any ox _ hx8).mono ?_
              rintro e w' ⟨rfl, rfl⟩
              rw [HX.out]
              go_wp2
              go_ret
              exact ⟨ret_bool HE.out.symm, HB.out⟩
end Go.Proofs.YtldmimekmjmkgaaDoor
