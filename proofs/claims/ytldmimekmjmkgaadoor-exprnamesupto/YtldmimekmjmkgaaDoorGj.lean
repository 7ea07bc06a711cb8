/-
  ExprStars walked: whatever expression and rows are handed in, it answers true.
-/
import Derived.Test.YtldmimekmjmkgaaDoorGi
namespace Go.Proofs.YtldmimekmjmkgaaDoor
open Go.RowKit Go.Sort Go.Maps Go.WideMaps

theorem has_pack {w W : World} {es : List Slot} {ss : List (Value × List ByteArray)} (h : Pack w W es ss) {x : Slot} (hx : x ∈ es) (hf : x.e.fits) {y : Value × List ByteArray} (hv : y ∈ ss) (hs : ∀ s ∈ y.2, s.size ≤ maxLen) :
    Calls Tryd.prog 24 #[.agg #[.int .u8 (x.e.op : Int), .string x.e.name, .slice x.A x.k x.c], y.1] W (HasE W x.e y.2) :=
  hasE_any x.e x.A x.k x.c y.1 y.2 W hf (h.ex x hx).kids h.tab (h.strs y hv) hs
theorem right_pack {w W : World} {es : List Slot} {ss : List (Value × List ByteArray)} (h : Pack w W es ss) {x : Slot} (hx : x ∈ es) (hf : x.e.fits) :
    Calls Tryd.prog 16 #[.agg #[.int .u8 (x.e.op : Int), .string x.e.name, .slice x.A x.k x.c]] W fun e' w' => e' = .returned (.bool (rightE okN x.e)) ∧ Below W.heap.size W w' :=
  right_ok x.e x.A x.k x.c W hf (h.ex x hx).kids
theorem fits_one {o : Nat} (ho : o < 256) {e : Ex} (he : e.fits) : (Ex.mk o ByteArray.empty [e]).fits := ⟨ho, empty_len, he, trivial⟩
theorem sizes_app {a b : List ByteArray} (ha : ∀ s ∈ a, s.size ≤ maxLen) (hb : ∀ s ∈ b, s.size ≤ maxLen) : ∀ s ∈ a ++ b, s.size ≤ maxLen := fun s hs => (List.mem_append.1 hs).elim (ha s) (hb s)
theorem sizes_no : ∀ s ∈ ([] : List ByteArray), s.size ≤ maxLen := fun s hs => by cases hs
theorem right_star {e : Ex} (h : rightE okN (.mk 42 ByteArray.empty [e]) = true) : rightE okN e = true ∧ rightE okN (.mk 43 ByteArray.empty [e]) = true ∧ rightE okN (.mk 63 ByteArray.empty [e]) = true :=
  ⟨right_kid h (List.mem_cons_self ..), (right_rep (by rfl) (by rfl)).trans h, (right_rep (by rfl) (by rfl)).trans h⟩
/-- a, and b behind it, in a row of the call's own. -/
theorem Pack.both {w W W' : World} {es : List Slot} {ss : List (Value × List ByteArray)} (h : Pack w W es ss) (hb : Below W.heap.size W W') {base : Nat} {v : Value} {l : List ByteArray} (hr : SRowE W' base v l) : Pack w W' es ((v, l) :: ss) :=
  (h.next hb).row hr.strs

set_option maxRecDepth 100000 in
set_option maxHeartbeats 8000000 in
theorem exprStars_walk (e : Ex) (A : Option Addr) (k c : Nat) (va vb : Value) (a b : List ByteArray) (w : World) (he : e.fits) (hl : Exs w (Under w.heap.size) (.slice A k c) e.kids) (hT : TabB w) (ha : Strs w (Under w.heap.size) va a) (hb : Strs w (Under w.heap.size) vb b)
    (has : ∀ s ∈ a, s.size ≤ maxLen) (hbs : ∀ s ∈ b, s.size ≤ maxLen) (hal : a.length ≤ 8796093022208) (hbl : b.length ≤ 8796093022208) :
    Calls Tryd.prog 10 #[.agg #[.int .u8 e.op, .string e.name, .slice A k c], va, vb] w fun x w' => x = .returned (.bool true) ∧ Below w.heap.size w w' := by
  have HP0 : Hid (Pack w w [] [(va, a), (vb, b)]) := Lib.hid ⟨Below.refl _ _, hT, fun _ h => (nomatch h), fun y hy => by
    rcases List.mem_cons.1 hy with rfl | hy
    · exact ha
    · rcases List.mem_cons.1 hy with rfl | hy
      · exact hb
      · cases hy⟩
  have HP1 : Hid (Pack w (w.alloc (.cells #[.int .u8 e.op, .string e.name, .slice A k c] 24)) [⟨w.heap.size, e, A, k, c⟩] [(va, a), (vb, b)]) := Lib.hid ((HP0.out.alloc _).add (Lies.new (Below.refl _ _) hl fun _ h => h))
  obtain ⟨Aa, ca, rfl, hca, hcma, _⟩ := id ha
  obtain ⟨Ab, cb, rfl, hcb, hcmb, _⟩ := id hb
  generalize hNa : a.length = Na at *
  generalize hNb : b.length = Nb at *
  have HNa := Lib.hid hNa
  have HNb := Lib.hid hNb
  have HF := Lib.hid he
  have HAS := Lib.hid has
  have HBS := Lib.hid hbs
  clear hl hT ha hb he has hbs HP0 hNa hNb
  unfold maxLen at hcma hcmb
  go_enter Tryd.func10, Tryd.ntmps10
  go_wp2_with fail
  refine (shown6_any _ HP1.out.tab).mono ?_
  rintro x W1 ⟨rfl, hb1⟩
  have HP2 := Lib.hid (HP1.out.next hb1)
  clear hb1 HP1
  obtain ⟨d00, d01, d02⟩ := HP2.out.cells (.head _)
  go_wp2_with fail
  refine (light6_any e A k c 100 W1 HF.out (HP2.out.ex _ (.head _)).kids (by decide) (by decide)).mono ?_
  rintro x W2 ⟨⟨q, rfl, hq0, hq1⟩, hb2⟩
  have HP3 := Lib.hid (HP2.out.next hb2)
  clear d00 d01 d02 hb2 HP2
  obtain ⟨d00, d01, d02⟩ := HP3.out.cells (.head _)
  have l0 := cell_lt d00
  by_cases hq : q < 0
  · go_wp2
    go_ret
    exact ⟨rfl, HP3.out.below⟩
  by_cases hlen : 30 < (Na : Int) + (Nb : Int)
  · go_wp2
    go_ret
    exact ⟨rfl, HP3.out.below⟩
  have HP4 : Hid (Pack w ((((W2.alloc (.cells #[.int .u8 e.op, .string e.name, .slice A k c] 24)).alloc (.cells #[.int .u8 42, .string ⟨#[]⟩, .slice (some ⟨W2.heap.size, 0, none⟩) 1 1] 24)).alloc (.cells #[.int .u8 e.op, .string e.name, .slice A k c] 24)).alloc (.cells #[.int .u8 43, .string ⟨#[]⟩, .slice (some ⟨W2.heap.size + 1 + 1, 0, none⟩) 1 1] 24)) [⟨W2.heap.size + 1 + 1 + 1, .mk 43 ByteArray.empty [e], some ⟨W2.heap.size + 1 + 1, 0, none⟩, 1, 1⟩, ⟨W2.heap.size + 1, .mk 42 ByteArray.empty [e], some ⟨W2.heap.size, 0, none⟩, 1, 1⟩, ⟨w.heap.size, e, A, k, c⟩] [(.slice Aa Na ca, a), (.slice Ab Nb cb, b)]) := Lib.hid ((HP3.out.one (.head _) 42 rfl).one (g := W2.heap.size + 1 + 1) (.tail _ (.head _)) 43 (by simp))
  have HS3 : Hid (((((W2.alloc (.cells #[.int .u8 e.op, .string e.name, .slice A k c] 24)).alloc (.cells #[.int .u8 42, .string ⟨#[]⟩, .slice (some ⟨W2.heap.size, 0, none⟩) 1 1] 24)).alloc (.cells #[.int .u8 e.op, .string e.name, .slice A k c] 24)).alloc (.cells #[.int .u8 43, .string ⟨#[]⟩, .slice (some ⟨W2.heap.size + 1 + 1, 0, none⟩) 1 1] 24)).heap.size = W2.heap.size + 4) := Lib.hid (by simp)
  go_wp2_with fail
  generalize (((W2.alloc (.cells #[.int .u8 e.op, .string e.name, .slice A k c] 24)).alloc (.cells #[.int .u8 42, .string ⟨#[]⟩, .slice (some ⟨W2.heap.size, 0, none⟩) 1 1] 24)).alloc (.cells #[.int .u8 e.op, .string e.name, .slice A k c] 24)).alloc (.cells #[.int .u8 43, .string ⟨#[]⟩, .slice (some ⟨W2.heap.size + 1 + 1, 0, none⟩) 1 1] 24) = W3 at *
  have HF42 : Hid (Ex.mk 42 ByteArray.empty [e]).fits := Lib.hid (fits_one (by decide) HF.out)
  have HF43 : Hid (Ex.mk 43 ByteArray.empty [e]).fits := Lib.hid (fits_one (by decide) HF.out)
  clear d00 d01 d02 l0 HP3
  refine (right_pack HP4.out (.tail _ (.head _)) HF42.out).mono ?_
  rintro x W4 ⟨rfl, hb4⟩
  have HP5 := Lib.hid (HP4.out.next hb4)
  clear hb4 HP4
  simp only
  generalize hrs : rightE okN (.mk 42 ByteArray.empty [e]) = rs at *
  cases rs with
  | false =>
    go_wp2
    go_ret
    exact ⟨rfl, HP5.out.below⟩
  | true =>
    have HRS := Lib.hid hrs
    clear hrs HS3
    go_wp2_with (first
      | (at_builtin; refine wpList_append_strsE rfl (.tmp 37) (.tmp 38) rfl W4.heap.size (Under W4.heap.size) (.slice (some ⟨W4.heap.size, 0, none⟩) 0 0) (.slice Aa Na ca) [] a rfl rfl (SRowE.made W4 (Nat.le_refl _)) ((HP5.out.strs _ (.head _)).below ((Below.refl _ _).alloc (Nat.le_refl _) _)) (by rw [HNa.out]; simp; omega) (by simp) ?_; intro v5 W5 ho5 hg5 hb5
         have HB5 : Hid (Below W4.heap.size W4 W5) := Lib.hid (below_grown ((Below.refl _ _).alloc (Nat.le_refl _) _) hg5 (fun k hk => by rw [← Option.some.inj hk]; exact Nat.le_refl _) (by simp))
         have HO5 : Hid (SRowE W5 W4.heap.size v5 a) := Lib.hid ho5
         clear ho5 hg5 hb5)
      | (at_builtin; refine wpList_append_strsE rfl (.tmp 39) (.tmp 40) rfl W4.heap.size (Under W4.heap.size) v5 (.slice Ab Nb cb) a b rfl rfl HO5.out ((HP5.out.strs _ (.tail _ (.head _))).below HB5.out) (by rw [HNa.out, HNb.out]; omega) HB5.out.size ?_; intro v6 W6 ho6 hg6 hb6
         have HB6 : Hid (Below W4.heap.size W4 W6) := Lib.hid (below_grown HB5.out hg6 (fun k hk => (World.ownsRow.lt HO5.out k hk).1) HB5.out.size)
         have HP6 := Lib.hid (HP5.out.both HB6.out ho6)
         clear ho6 hg6 hb6 HB6 HB5 HO5 HP5
         obtain ⟨d00, d01, d02⟩ := HP6.out.cells (.tail _ (.tail _ (.head _)))
         have l0 := cell_lt d00
         obtain ⟨d10, d11, d12⟩ := HP6.out.cells (.tail _ (.head _))
         have l1 := cell_lt d10
         obtain ⟨d20, d21, d22⟩ := HP6.out.cells (.head _)
         have l2 := cell_lt d20)
      | fail)
    skip
    refine (has_pack HP6.out (.tail _ (.tail _ (.head _))) HF.out (.tail _ (.head _)) HAS.out).mono ?_
    rintro x W1 ⟨⟨r1, rfl, hr1⟩, hb1⟩
    have HR1 := Lib.hid hr1
    have HK1 := Lib.hid (HP6.out.next hb1)
    clear d00 d01 d02 l0 d10 d11 d12 l1 d20 d21 d22 l2
    clear hb1 hr1 HP6
    obtain ⟨d00, d01, d02⟩ := HK1.out.cells (.tail _ (.tail _ (.head _)))
    have l0 := cell_lt d00
    obtain ⟨d10, d11, d12⟩ := HK1.out.cells (.tail _ (.head _))
    have l1 := cell_lt d10
    obtain ⟨d20, d21, d22⟩ := HK1.out.cells (.head _)
    have l2 := cell_lt d20
    cases r1 with
    | true =>
      have HA1 := Lib.hid (HR1.out.1 rfl)
      go_wp2_with fail
      refine (has_pack HK1.out (.tail _ (.head _)) HF42.out (.tail _ (.tail _ (.head _))) HBS.out).mono ?_
      rintro x W2 ⟨⟨r2, rfl, hr2⟩, hb2⟩
      have HR2 := Lib.hid hr2
      have HK2 := Lib.hid (HK1.out.next hb2)
      clear d00 d01 d02 l0 d10 d11 d12 l1 d20 d21 d22 l2
      clear hb2 hr2 HK1
      obtain ⟨d00, d01, d02⟩ := HK2.out.cells (.tail _ (.tail _ (.head _)))
      have l0 := cell_lt d00
      obtain ⟨d10, d11, d12⟩ := HK2.out.cells (.tail _ (.head _))
      have l1 := cell_lt d10
      obtain ⟨d20, d21, d22⟩ := HK2.out.cells (.head _)
      have l2 := cell_lt d20
      cases r2 with
      | true =>
        have HA2 := Lib.hid (HR2.out.1 rfl)
        go_wp2_with fail
        refine (has_pack HK2.out (.tail _ (.head _)) HF42.out (.head _) (sizes_app HAS.out HBS.out)).mono ?_
        rintro x W3 ⟨⟨r3, rfl, hr3⟩, hb3⟩
        have HR3 := Lib.hid hr3
        have HK3 := Lib.hid (HK2.out.next hb3)
        clear d00 d01 d02 l0 d10 d11 d12 l1 d20 d21 d22 l2
        clear hb3 hr3 HK2
        obtain ⟨d00, d01, d02⟩ := HK3.out.cells (.tail _ (.tail _ (.head _)))
        have l0 := cell_lt d00
        obtain ⟨d10, d11, d12⟩ := HK3.out.cells (.tail _ (.head _))
        have l1 := cell_lt d10
        obtain ⟨d20, d21, d22⟩ := HK3.out.cells (.head _)
        have l2 := cell_lt d20
        obtain rfl : r3 = true := HR3.out.2 ⟨HRS.out, (lang_star _ _).2 (.app HA1.out.2 ((lang_star _ _).1 HA2.out.2))⟩
        go_wp2_with fail
        refine (has_pack HK3.out (.head _) HF43.out (.head _) (sizes_app HAS.out HBS.out)).mono ?_
        rintro x W4 ⟨⟨r4, rfl, hr4⟩, hb4⟩
        have HR4 := Lib.hid hr4
        have HK4 := Lib.hid (HK3.out.next hb4)
        clear d00 d01 d02 l0 d10 d11 d12 l1 d20 d21 d22 l2
        clear hb4 hr4 HK3
        obtain ⟨d00, d01, d02⟩ := HK4.out.cells (.tail _ (.tail _ (.head _)))
        have l0 := cell_lt d00
        obtain ⟨d10, d11, d12⟩ := HK4.out.cells (.tail _ (.head _))
        have l1 := cell_lt d10
        obtain ⟨d20, d21, d22⟩ := HK4.out.cells (.head _)
        have l2 := cell_lt d20
        obtain rfl : r4 = true := HR4.out.2 ⟨(right_star HRS.out).2.1, (lang_plus _ _).2 ⟨_, _, rfl, HA1.out.2, (lang_star _ _).1 HA2.out.2⟩⟩
        go_wp2_with fail
        refine (has_pack HK4.out (.tail _ (.head _)) HF42.out (.tail _ (.head _)) HAS.out).mono ?_
        rintro x W5 ⟨⟨r5, rfl, hr5⟩, hb5⟩
        have HR5 := Lib.hid hr5
        have HK5 := Lib.hid (HK4.out.next hb5)
        clear d00 d01 d02 l0 d10 d11 d12 l1 d20 d21 d22 l2
        clear hb5 hr5 HK4
        obtain ⟨d00, d01, d02⟩ := HK5.out.cells (.tail _ (.tail _ (.head _)))
        have l0 := cell_lt d00
        obtain ⟨d10, d11, d12⟩ := HK5.out.cells (.tail _ (.head _))
        have l1 := cell_lt d10
        obtain ⟨d20, d21, d22⟩ := HK5.out.cells (.head _)
        have l2 := cell_lt d20
        by_cases hn : Na = 0
        · subst hn
          have ha0 : a = [] := List.eq_nil_of_length_eq_zero HNa.out
          obtain rfl : r5 = true := HR5.out.2 ⟨HRS.out, (lang_star _ _).2 (by rw [ha0]; exact .nil)⟩
          clear ha0
          go_wp2_with fail
          refine (has_pack (y := (.slice none 0 0, [])) (HK5.out.row (strs_no _ _)) (.tail _ (.head _)) HF42.out (.head _) sizes_no).mono ?_
          rintro x W6 ⟨⟨r6, rfl, hr6⟩, hb6⟩
          have HR6 := Lib.hid hr6
          have HK6 := Lib.hid (HK5.out.next hb6)
          clear d00 d01 d02 l0 d10 d11 d12 l1 d20 d21 d22 l2
          clear hb6 hr6 HK5
          obtain ⟨d00, d01, d02⟩ := HK6.out.cells (.tail _ (.tail _ (.head _)))
          have l0 := cell_lt d00
          obtain ⟨d10, d11, d12⟩ := HK6.out.cells (.tail _ (.head _))
          have l1 := cell_lt d10
          obtain ⟨d20, d21, d22⟩ := HK6.out.cells (.head _)
          have l2 := cell_lt d20
          obtain rfl : r6 = true := HR6.out.2 ⟨HRS.out, (lang_star _ _).2 .nil⟩
          go_wp2
          go_ret
          exact ⟨rfl, HK6.out.below⟩
        · have hn' : ¬ (Na : Int) = 0 := by omega
          go_wp2_with fail
          refine (has_pack HK5.out (.head _) HF43.out (.tail _ (.head _)) HAS.out).mono ?_
          rintro x W6 ⟨⟨r6, rfl, hr6⟩, hb6⟩
          have HR6 := Lib.hid hr6
          have HK6 := Lib.hid (HK5.out.next hb6)
          clear d00 d01 d02 l0 d10 d11 d12 l1 d20 d21 d22 l2
          clear hb6 hr6 HK5
          obtain ⟨d00, d01, d02⟩ := HK6.out.cells (.tail _ (.tail _ (.head _)))
          have l0 := cell_lt d00
          obtain ⟨d10, d11, d12⟩ := HK6.out.cells (.tail _ (.head _))
          have l1 := cell_lt d10
          obtain ⟨d20, d21, d22⟩ := HK6.out.cells (.head _)
          have l2 := cell_lt d20
          have ha0 : a ≠ [] := fun h => hn (by rw [← HNa.out, h]; rfl)
          have hq56 : r5 = r6 := by
            rw [Bool.eq_iff_iff, HR5.out, HR6.out]
            refine ⟨fun h => ⟨(right_star HRS.out).2.1, (lang_plus _ _).2 ((lStar_or.1 ((lang_star _ _).1 h.2)).resolve_left ha0)⟩, fun h => ⟨HRS.out, (lang_star _ _).2 (lStar_or.2 (.inr ((lang_plus _ _).1 h.2)))⟩⟩
          subst hq56
          clear ha0
          go_wp2_with fail
          refine (has_pack (y := (.slice none 0 0, [])) (HK6.out.row (strs_no _ _)) (.tail _ (.head _)) HF42.out (.head _) sizes_no).mono ?_
          rintro x W7 ⟨⟨r7, rfl, hr7⟩, hb7⟩
          have HR7 := Lib.hid hr7
          have HK7 := Lib.hid (HK6.out.next hb7)
          clear d00 d01 d02 l0 d10 d11 d12 l1 d20 d21 d22 l2
          clear hb7 hr7 HK6
          obtain ⟨d00, d01, d02⟩ := HK7.out.cells (.tail _ (.tail _ (.head _)))
          have l0 := cell_lt d00
          obtain ⟨d10, d11, d12⟩ := HK7.out.cells (.tail _ (.head _))
          have l1 := cell_lt d10
          obtain ⟨d20, d21, d22⟩ := HK7.out.cells (.head _)
          have l2 := cell_lt d20
          obtain rfl : r7 = true := HR7.out.2 ⟨HRS.out, (lang_star _ _).2 .nil⟩
          go_wp2
          go_ret
          exact ⟨ret_bool (by simp [hn]), HK7.out.below⟩
      | false =>
        go_wp2_with fail
        refine (has_pack HK2.out (.tail _ (.head _)) HF42.out (.tail _ (.head _)) HAS.out).mono ?_
        rintro x W3 ⟨⟨r3, rfl, hr3⟩, hb3⟩
        have HR3 := Lib.hid hr3
        have HK3 := Lib.hid (HK2.out.next hb3)
        clear d00 d01 d02 l0 d10 d11 d12 l1 d20 d21 d22 l2
        clear hb3 hr3 HK2
        obtain ⟨d00, d01, d02⟩ := HK3.out.cells (.tail _ (.tail _ (.head _)))
        have l0 := cell_lt d00
        obtain ⟨d10, d11, d12⟩ := HK3.out.cells (.tail _ (.head _))
        have l1 := cell_lt d10
        obtain ⟨d20, d21, d22⟩ := HK3.out.cells (.head _)
        have l2 := cell_lt d20
        by_cases hn : Na = 0
        · subst hn
          have ha0 : a = [] := List.eq_nil_of_length_eq_zero HNa.out
          obtain rfl : r3 = true := HR3.out.2 ⟨HRS.out, (lang_star _ _).2 (by rw [ha0]; exact .nil)⟩
          clear ha0
          go_wp2_with fail
          refine (has_pack (y := (.slice none 0 0, [])) (HK3.out.row (strs_no _ _)) (.tail _ (.head _)) HF42.out (.head _) sizes_no).mono ?_
          rintro x W4 ⟨⟨r4, rfl, hr4⟩, hb4⟩
          have HR4 := Lib.hid hr4
          have HK4 := Lib.hid (HK3.out.next hb4)
          clear d00 d01 d02 l0 d10 d11 d12 l1 d20 d21 d22 l2
          clear hb4 hr4 HK3
          obtain ⟨d00, d01, d02⟩ := HK4.out.cells (.tail _ (.tail _ (.head _)))
          have l0 := cell_lt d00
          obtain ⟨d10, d11, d12⟩ := HK4.out.cells (.tail _ (.head _))
          have l1 := cell_lt d10
          obtain ⟨d20, d21, d22⟩ := HK4.out.cells (.head _)
          have l2 := cell_lt d20
          obtain rfl : r4 = true := HR4.out.2 ⟨HRS.out, (lang_star _ _).2 .nil⟩
          go_wp2
          go_ret
          exact ⟨rfl, HK4.out.below⟩
        · have hn' : ¬ (Na : Int) = 0 := by omega
          go_wp2_with fail
          refine (has_pack HK3.out (.head _) HF43.out (.tail _ (.head _)) HAS.out).mono ?_
          rintro x W4 ⟨⟨r4, rfl, hr4⟩, hb4⟩
          have HR4 := Lib.hid hr4
          have HK4 := Lib.hid (HK3.out.next hb4)
          clear d00 d01 d02 l0 d10 d11 d12 l1 d20 d21 d22 l2
          clear hb4 hr4 HK3
          obtain ⟨d00, d01, d02⟩ := HK4.out.cells (.tail _ (.tail _ (.head _)))
          have l0 := cell_lt d00
          obtain ⟨d10, d11, d12⟩ := HK4.out.cells (.tail _ (.head _))
          have l1 := cell_lt d10
          obtain ⟨d20, d21, d22⟩ := HK4.out.cells (.head _)
          have l2 := cell_lt d20
          have ha0 : a ≠ [] := fun h => hn (by rw [← HNa.out, h]; rfl)
          have hq56 : r3 = r4 := by
            rw [Bool.eq_iff_iff, HR3.out, HR4.out]
            refine ⟨fun h => ⟨(right_star HRS.out).2.1, (lang_plus _ _).2 ((lStar_or.1 ((lang_star _ _).1 h.2)).resolve_left ha0)⟩, fun h => ⟨HRS.out, (lang_star _ _).2 (lStar_or.2 (.inr ((lang_plus _ _).1 h.2)))⟩⟩
          subst hq56
          clear ha0
          go_wp2_with fail
          refine (has_pack (y := (.slice none 0 0, [])) (HK4.out.row (strs_no _ _)) (.tail _ (.head _)) HF42.out (.head _) sizes_no).mono ?_
          rintro x W5 ⟨⟨r5, rfl, hr5⟩, hb5⟩
          have HR5 := Lib.hid hr5
          have HK5 := Lib.hid (HK4.out.next hb5)
          clear d00 d01 d02 l0 d10 d11 d12 l1 d20 d21 d22 l2
          clear hb5 hr5 HK4
          obtain ⟨d00, d01, d02⟩ := HK5.out.cells (.tail _ (.tail _ (.head _)))
          have l0 := cell_lt d00
          obtain ⟨d10, d11, d12⟩ := HK5.out.cells (.tail _ (.head _))
          have l1 := cell_lt d10
          obtain ⟨d20, d21, d22⟩ := HK5.out.cells (.head _)
          have l2 := cell_lt d20
          obtain rfl : r5 = true := HR5.out.2 ⟨HRS.out, (lang_star _ _).2 .nil⟩
          go_wp2
          go_ret
          exact ⟨ret_bool (by simp [hn]), HK5.out.below⟩
    | false =>
      go_wp2_with fail
      refine (has_pack HK1.out (.tail _ (.head _)) HF42.out (.tail _ (.head _)) HAS.out).mono ?_
      rintro x W2 ⟨⟨r2, rfl, hr2⟩, hb2⟩
      have HR2 := Lib.hid hr2
      have HK2 := Lib.hid (HK1.out.next hb2)
      clear d00 d01 d02 l0 d10 d11 d12 l1 d20 d21 d22 l2
      clear hb2 hr2 HK1
      obtain ⟨d00, d01, d02⟩ := HK2.out.cells (.tail _ (.tail _ (.head _)))
      have l0 := cell_lt d00
      obtain ⟨d10, d11, d12⟩ := HK2.out.cells (.tail _ (.head _))
      have l1 := cell_lt d10
      obtain ⟨d20, d21, d22⟩ := HK2.out.cells (.head _)
      have l2 := cell_lt d20
      by_cases hn : Na = 0
      · subst hn
        have ha0 : a = [] := List.eq_nil_of_length_eq_zero HNa.out
        obtain rfl : r2 = true := HR2.out.2 ⟨HRS.out, (lang_star _ _).2 (by rw [ha0]; exact .nil)⟩
        clear ha0
        go_wp2_with fail
        refine (has_pack (y := (.slice none 0 0, [])) (HK2.out.row (strs_no _ _)) (.tail _ (.head _)) HF42.out (.head _) sizes_no).mono ?_
        rintro x W3 ⟨⟨r3, rfl, hr3⟩, hb3⟩
        have HR3 := Lib.hid hr3
        have HK3 := Lib.hid (HK2.out.next hb3)
        clear d00 d01 d02 l0 d10 d11 d12 l1 d20 d21 d22 l2
        clear hb3 hr3 HK2
        obtain ⟨d00, d01, d02⟩ := HK3.out.cells (.tail _ (.tail _ (.head _)))
        have l0 := cell_lt d00
        obtain ⟨d10, d11, d12⟩ := HK3.out.cells (.tail _ (.head _))
        have l1 := cell_lt d10
        obtain ⟨d20, d21, d22⟩ := HK3.out.cells (.head _)
        have l2 := cell_lt d20
        obtain rfl : r3 = true := HR3.out.2 ⟨HRS.out, (lang_star _ _).2 .nil⟩
        go_wp2
        go_ret
        exact ⟨rfl, HK3.out.below⟩
      · have hn' : ¬ (Na : Int) = 0 := by omega
        go_wp2_with fail
        refine (has_pack HK2.out (.head _) HF43.out (.tail _ (.head _)) HAS.out).mono ?_
        rintro x W3 ⟨⟨r3, rfl, hr3⟩, hb3⟩
        have HR3 := Lib.hid hr3
        have HK3 := Lib.hid (HK2.out.next hb3)
        clear d00 d01 d02 l0 d10 d11 d12 l1 d20 d21 d22 l2
        clear hb3 hr3 HK2
        obtain ⟨d00, d01, d02⟩ := HK3.out.cells (.tail _ (.tail _ (.head _)))
        have l0 := cell_lt d00
        obtain ⟨d10, d11, d12⟩ := HK3.out.cells (.tail _ (.head _))
        have l1 := cell_lt d10
        obtain ⟨d20, d21, d22⟩ := HK3.out.cells (.head _)
        have l2 := cell_lt d20
        have ha0 : a ≠ [] := fun h => hn (by rw [← HNa.out, h]; rfl)
        have hq56 : r2 = r3 := by
          rw [Bool.eq_iff_iff, HR2.out, HR3.out]
          refine ⟨fun h => ⟨(right_star HRS.out).2.1, (lang_plus _ _).2 ((lStar_or.1 ((lang_star _ _).1 h.2)).resolve_left ha0)⟩, fun h => ⟨HRS.out, (lang_star _ _).2 (lStar_or.2 (.inr ((lang_plus _ _).1 h.2)))⟩⟩
        subst hq56
        clear ha0
        go_wp2_with fail
        refine (has_pack (y := (.slice none 0 0, [])) (HK3.out.row (strs_no _ _)) (.tail _ (.head _)) HF42.out (.head _) sizes_no).mono ?_
        rintro x W4 ⟨⟨r4, rfl, hr4⟩, hb4⟩
        have HR4 := Lib.hid hr4
        have HK4 := Lib.hid (HK3.out.next hb4)
        clear d00 d01 d02 l0 d10 d11 d12 l1 d20 d21 d22 l2
        clear hb4 hr4 HK3
        obtain ⟨d00, d01, d02⟩ := HK4.out.cells (.tail _ (.tail _ (.head _)))
        have l0 := cell_lt d00
        obtain ⟨d10, d11, d12⟩ := HK4.out.cells (.tail _ (.head _))
        have l1 := cell_lt d10
        obtain ⟨d20, d21, d22⟩ := HK4.out.cells (.head _)
        have l2 := cell_lt d20
        obtain rfl : r4 = true := HR4.out.2 ⟨HRS.out, (lang_star _ _).2 .nil⟩
        go_wp2
        go_ret
        exact ⟨ret_bool (by simp [hn]), HK4.out.below⟩
end Go.Proofs.YtldmimekmjmkgaaDoor
