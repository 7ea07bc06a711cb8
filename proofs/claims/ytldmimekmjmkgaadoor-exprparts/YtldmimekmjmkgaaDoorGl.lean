/-
  ExprParts walked: whatever expressions and rows are handed in, it answers true.
-/
import Derived.Test.YtldmimekmjmkgaaDoorGk
namespace Go.Proofs.YtldmimekmjmkgaaDoor
open Go.RowKit Go.Sort Go.Maps Go.WideMaps

theorem SRowE.some {w : World} {base : Nat} {v : Value} {l : List ByteArray} (h : SRowE w base v l) (hb : v.ownBlock ≠ none) : ∃ g c, v = .slice (some ⟨g, 0, none⟩) l.length c ∧ base ≤ g ∧ g < w.heap.size ∧ l.length ≤ c ∧ c ≤ maxLen := by
  have hlt := World.ownsRow.lt h
  obtain ⟨_, ⟨hv, _⟩ | ⟨g, cap, cur, hv, _, _, hn, hcap, _⟩⟩ := h
  · subst hv; exact absurd rfl hb
  · subst hv
    exact ⟨g, cap, rfl, (hlt g rfl).1, (hlt g rfl).2, hn, hcap⟩
/-- A part of a row. -/
theorem strs_part {w : World} {S : Nat → Prop} {g c : Nat} {l : List ByteArray} (h : Strs w S (.slice (some ⟨g, 0, none⟩) l.length c) l) (i n : Nat) (hin : i + n ≤ l.length) {A' : Option Addr} {d : Nat} (hd : n ≤ d) (hdc : d ≤ c) (hA : n = 0 ∨ A' = some ⟨g, i, none⟩) : Strs w S (.slice A' n d) ((l.drop i).take n) := by
  obtain ⟨A, c', hv, h1, h2, h3⟩ := h
  injection hv with hA0 _ hc
  subst hA0 hc
  have hlen : ((l.drop i).take n).length = n := by rw [List.length_take, List.length_drop]; omega
  refine ⟨A', d, by rw [hlen], by omega, by omega, ?_⟩
  rcases hA with h0 | hA
  · subst h0; exact .inl (by simp)
  · rcases h3 with h3 | ⟨b, o, e, hb, hx⟩
    · subst h3; exact .inl (by simp)
    · injection e with e; injection e with e1 e2 _
      subst e1 e2 hA
      refine .inr ⟨g, i, rfl, hb, fun j s hj => ?_⟩
      have : l[i + j]? = Option.some s := by
        rw [List.getElem?_take] at hj
        split at hj
        · rwa [List.getElem?_drop] at hj
        · cases hj
      have h4 := hx (i + j) s this
      rwa [Nat.zero_add] at h4
/-- Two in a row, in a new box. -/
theorem Pack.two {w W : World} {es : List Slot} {ss : List (Value × List ByteArray)} (h : Pack w W es ss) {x y : Slot} (hx : x ∈ es) (hy : y ∈ es) (o : Nat) {g : Nat} (hg : W.heap.size = g) :
    Pack w ((W.alloc (.cells #[.int .u8 (x.e.op : Int), .string x.e.name, .slice x.A x.k x.c, .int .u8 (y.e.op : Int), .string y.e.name, .slice y.A y.k y.c] 24)).alloc (.cells #[.int .u8 (o : Int), .string ⟨#[]⟩, .slice (some ⟨g, 0, none⟩) 2 2] 24))
      (⟨g + 1, .mk o ByteArray.empty [x.e, y.e], some ⟨g, 0, none⟩, 2, 2⟩ :: es) ss := by
  subst hg
  obtain ⟨O, hO⟩ : ∃ O, O = Obj.cells #[.int .u8 (x.e.op : Int), .string x.e.name, .slice x.A x.k x.c, .int .u8 (y.e.op : Int), .string y.e.name, .slice y.A y.k y.c] 24 := ⟨_, rfl⟩
  have h1 := h.alloc O
  have hn : (W.alloc O).heap[W.heap.size]? = some O := heap_new _ _
  have hz : (W.alloc O).heap.size = W.heap.size + 1 := by simp
  have hk : Exs (W.alloc O) (Under (W.heap.size + 1)) (.slice (some ⟨W.heap.size, 0, none⟩) 2 2) [x.e, y.e] := by
    refine ⟨_, 2, rfl, Nat.le_refl _, by unfold maxLen; omega, .inr ⟨W.heap.size, 0, rfl, Nat.lt_succ_self _, (exAt_iff _ _ _).2 ⟨.slice x.A x.k x.c, ?_, ?_, ?_, (h1.ex x hx).kids.keep (fun b hb => by rw [← hz]; exact hb) fun _ _ => rfl⟩, (exAt_iff _ _ _).2 ⟨.slice y.A y.k y.c, ?_, ?_, ?_, (h1.ex y hy).kids.keep (fun b hb => by rw [← hz]; exact hb) fun _ _ => rfl⟩, trivial⟩⟩
    all_goals (simp only [World.cell?, hn]; rw [hO]; rfl)
  rw [← hO]
  have h2 := (h1.alloc (.cells #[.int .u8 (o : Int), .string ⟨#[]⟩, .slice (some ⟨W.heap.size, 0, none⟩) 2 2] 24)).add (x := ⟨(W.alloc O).heap.size, .mk o ByteArray.empty [x.e, y.e], some ⟨W.heap.size, 0, none⟩, 2, 2⟩) (Lies.new (e := .mk o ByteArray.empty [x.e, y.e]) h1.below hk fun b hb => by have : b < _ := hb; omega)
  rwa [hz] at h2
theorem fits_two {o : Nat} (ho : o < 256) {e f : Ex} (he : e.fits) (hf : f.fits) : (Ex.mk o ByteArray.empty [e, f]).fits := ⟨ho, empty_len, he, hf, trivial⟩
theorem lang_alt2 (e f : Ex) (w : List ByteArray) : lang (.mk 97 ByteArray.empty [e, f]) w ↔ lang e w ∨ lang f w := by
  rw [lang, if_neg (by decide), if_neg (by decide), if_pos rfl]; exact alt_two e f w
theorem lang_seq2 (e f : Ex) (w : List ByteArray) : lang (.mk 115 ByteArray.empty [e, f]) w ↔ ∃ i, i ≤ w.length ∧ lang e (w.take i) ∧ lang f (w.drop i) := by
  rw [lang, if_neg (by decide), if_pos rfl]; exact seq_two e f w
theorem sizes_take {a : List ByteArray} (h : ∀ s ∈ a, s.size ≤ maxLen) (i n : Nat) : ∀ s ∈ (a.drop i).take n, s.size ≤ maxLen := fun s hs => h s (List.mem_of_mem_drop (List.mem_of_mem_take hs))
/-- Where the law's loop stands. -/
def Met (e f : Ex) (l : List ByteArray) (i : Nat) (m : Bool) : Prop := m = true ↔ ∃ j, j < i ∧ lang e (l.take j) ∧ lang f (l.drop j)
theorem Met.next {e f : Ex} {l : List ByteArray} {i : Nat} {m r : Bool} (h : Met e f l i m) (hr : m = false → (r = true ↔ lang e (l.take i) ∧ lang f (l.drop i))) : Met e f l (i + 1) (m || r) := by
  unfold Met at *
  cases m with
  | true =>
    simp only [Bool.true_or, true_iff]
    obtain ⟨j, h1, h2⟩ := h.1 rfl
    exact ⟨j, by omega, h2⟩
  | false =>
    rw [Bool.false_or, hr rfl]
    constructor
    · exact fun h => ⟨i, by omega, h⟩
    · rintro ⟨j, h1, h2⟩
      by_cases hj : j < i
      · exact absurd (h.2 ⟨j, hj, h2⟩) (by decide)
      · obtain rfl : j = i := by omega
        exact h2

set_option maxRecDepth 100000 in
set_option maxHeartbeats 8000000 in
theorem exprParts_walk (e f : Ex) (A B : Option Addr) (k c k' c' : Nat) (va vb : Value) (a b : List ByteArray) (w : World) (he : e.fits) (hf : f.fits) (hl : Exs w (Under w.heap.size) (.slice A k c) e.kids) (hl' : Exs w (Under w.heap.size) (.slice B k' c') f.kids) (hT : TabB w) (ha : Strs w (Under w.heap.size) va a) (hb : Strs w (Under w.heap.size) vb b)
    (has : ∀ s ∈ a, s.size ≤ maxLen) (hbs : ∀ s ∈ b, s.size ≤ maxLen) (hal : a.length ≤ 8796093022208) (hbl : b.length ≤ 8796093022208) :
    Calls Tryd.prog 8 #[.agg #[.int .u8 e.op, .string e.name, .slice A k c], .agg #[.int .u8 f.op, .string f.name, .slice B k' c'], va, vb] w fun x w' => x = .returned (.bool true) ∧ Below w.heap.size w w' := by
  have HP0 : Hid (Pack w w [] [(va, a), (vb, b)]) := Lib.hid ⟨Below.refl _ _, hT, fun _ h => (nomatch h), fun y hy => by
    rcases List.mem_cons.1 hy with rfl | hy
    · exact ha
    · rcases List.mem_cons.1 hy with rfl | hy
      · exact hb
      · cases hy⟩
  have HP0b : Hid (Pack w (w.alloc (.cells #[.int .u8 e.op, .string e.name, .slice A k c] 24)) [⟨w.heap.size, e, A, k, c⟩] [(va, a), (vb, b)]) := Lib.hid ((HP0.out.alloc _).add (Lies.new (Below.refl _ _) hl fun _ h => h))
  have hz1 : (w.alloc (.cells #[.int .u8 e.op, .string e.name, .slice A k c] 24)).heap.size = w.heap.size + 1 := by simp
  have hly : Lies w ((w.alloc (.cells #[.int .u8 e.op, .string e.name, .slice A k c] 24)).alloc (.cells #[.int .u8 f.op, .string f.name, .slice B k' c'] 24)) (w.heap.size + 1) f B k' c' := by
    have h := Lies.new (e := f) HP0b.out.below (hl'.keep (S' := Under (w.alloc (.cells #[.int .u8 e.op, .string e.name, .slice A k c] 24)).heap.size) (fun b hb => (show b < _ by have : b < _ := hb; rw [hz1]; omega)) fun b hb => Below.heap_alloc _ _ _ hb) fun _ h => h
    rw [hz1] at h
    exact h
  have HP1 : Hid (Pack w ((w.alloc (.cells #[.int .u8 e.op, .string e.name, .slice A k c] 24)).alloc (.cells #[.int .u8 f.op, .string f.name, .slice B k' c'] 24)) [⟨w.heap.size + 1, f, B, k', c'⟩, ⟨w.heap.size, e, A, k, c⟩] [(va, a), (vb, b)]) := Lib.hid ((HP0b.out.alloc _).add hly)
  obtain ⟨Aa, ca, rfl, hca, hcma, _⟩ := id ha
  obtain ⟨Ab, cb, rfl, hcb, hcmb, _⟩ := id hb
  generalize hNa : a.length = Na at *
  generalize hNb : b.length = Nb at *
  have HNa := Lib.hid hNa
  have HNb := Lib.hid hNb
  have HF := Lib.hid he
  have HFf := Lib.hid hf
  have HAS := Lib.hid has
  have HBS := Lib.hid hbs
  clear hl hl' hT ha hb he hf has hbs HP0 HP0b hNa hNb hz1 hly
  unfold maxLen at hcma hcmb
  go_enter Tryd.func8, Tryd.ntmps8
  go_wp2_with fail
  refine (shown6_any _ HP1.out.tab).mono ?_
  rintro x W1 ⟨rfl, hb1⟩
  have HP2 := Lib.hid (HP1.out.next hb1)
  clear hb1 HP1
  obtain ⟨d00, d01, d02⟩ := HP2.out.cells (.tail _ (.head _))
  obtain ⟨d10, d11, d12⟩ := HP2.out.cells (.head _)
  go_wp2_with fail
  refine (light6_any e A k c 100 W1 HF.out (HP2.out.ex _ (.tail _ (.head _))).kids (by decide) (by decide)).mono ?_
  rintro x W2 ⟨⟨q, rfl, hq0, hq1⟩, hb2⟩
  have HP3 := Lib.hid (HP2.out.next hb2)
  clear d00 d01 d02 d10 d11 d12 hb2 HP2
  obtain ⟨d00, d01, d02⟩ := HP3.out.cells (.tail _ (.head _))
  have l0 := cell_lt d00
  obtain ⟨d10, d11, d12⟩ := HP3.out.cells (.head _)
  have l1 := cell_lt d10
  by_cases hq : q < 0
  · go_wp2
    go_ret
    exact ⟨rfl, HP3.out.below⟩
  go_wp2_with fail
  refine (light6_any f B k' c' 100 W2 HFf.out (HP3.out.ex _ (.head _)).kids (by decide) (by decide)).mono ?_
  rintro x W3 ⟨⟨qf, rfl, hqf0, hqf1⟩, hb3⟩
  have HP4 := Lib.hid (HP3.out.next hb3)
  clear d00 d01 d02 d10 d11 d12 l0 l1 hb3 HP3
  obtain ⟨d00, d01, d02⟩ := HP4.out.cells (.tail _ (.head _))
  have l0 := cell_lt d00
  obtain ⟨d10, d11, d12⟩ := HP4.out.cells (.head _)
  have l1 := cell_lt d10
  by_cases hqf : qf < 0
  · go_wp2
    go_ret
    exact ⟨rfl, HP4.out.below⟩
  by_cases hlen : 30 < (Na : Int) + (Nb : Int)
  · go_wp2
    go_ret
    exact ⟨rfl, HP4.out.below⟩
  have HP5 : Hid (Pack w ((W3.alloc (.cells #[.int .u8 e.op, .string e.name, .slice A k c, .int .u8 f.op, .string f.name, .slice B k' c'] 24)).alloc (.cells #[.int .u8 97, .string ⟨#[]⟩, .slice (some ⟨W3.heap.size, 0, none⟩) 2 2] 24)) [⟨W3.heap.size + 1, .mk 97 ByteArray.empty [e, f], some ⟨W3.heap.size, 0, none⟩, 2, 2⟩, ⟨w.heap.size + 1, f, B, k', c'⟩, ⟨w.heap.size, e, A, k, c⟩] [(.slice Aa Na ca, a), (.slice Ab Nb cb, b)]) := Lib.hid (HP4.out.two (.tail _ (.head _)) (.head _) 97 rfl)
  go_upto_region 5 with fail
  generalize (W3.alloc (.cells #[.int .u8 e.op, .string e.name, .slice A k c, .int .u8 f.op, .string f.name, .slice B k' c'] 24)).alloc (.cells #[.int .u8 97, .string ⟨#[]⟩, .slice (some ⟨W3.heap.size, 0, none⟩) 2 2] 24) = W4 at *
  clear d00 d01 d02 l0 d10 d11 d12 l1 HP4
  obtain ⟨d00, d01, d02⟩ := HP5.out.cells (.tail _ (.tail _ (.head _)))
  have l0 := cell_lt d00
  obtain ⟨d10, d11, d12⟩ := HP5.out.cells (.tail _ (.head _))
  have l1 := cell_lt d10
  have HP6 : Hid (Pack w ((W4.alloc (.cells #[.int .u8 e.op, .string e.name, .slice A k c, .int .u8 f.op, .string f.name, .slice B k' c'] 24)).alloc (.cells #[.int .u8 115, .string ⟨#[]⟩, .slice (some ⟨W4.heap.size, 0, none⟩) 2 2] 24)) [⟨W4.heap.size + 1, .mk 115 ByteArray.empty [e, f], some ⟨W4.heap.size, 0, none⟩, 2, 2⟩, ⟨W3.heap.size + 1, .mk 97 ByteArray.empty [e, f], some ⟨W3.heap.size, 0, none⟩, 2, 2⟩, ⟨w.heap.size + 1, f, B, k', c'⟩, ⟨w.heap.size, e, A, k, c⟩] [(.slice Aa Na ca, a), (.slice Ab Nb cb, b)]) := Lib.hid (HP5.out.two (.tail _ (.tail _ (.head _))) (.tail _ (.head _)) 115 rfl)
  go_upto_region 6 with fail
  generalize (W4.alloc (.cells #[.int .u8 e.op, .string e.name, .slice A k c, .int .u8 f.op, .string f.name, .slice B k' c'] 24)).alloc (.cells #[.int .u8 115, .string ⟨#[]⟩, .slice (some ⟨W4.heap.size, 0, none⟩) 2 2] 24) = W5 at *
  clear d00 d01 d02 l0 d10 d11 d12 l1 HP5
  obtain ⟨d00, d01, d02⟩ := HP6.out.cells (.tail _ (.tail _ (.tail _ (.head _))))
  have l0 := cell_lt d00
  obtain ⟨d10, d11, d12⟩ := HP6.out.cells (.tail _ (.tail _ (.head _)))
  have l1 := cell_lt d10
  clear d00 d01 d02 l0 d10 d11 d12 l1
  obtain ⟨d00, d01, d02⟩ := HP6.out.cells (.tail _ (.tail _ (.tail _ (.head _))))
  have l0 := cell_lt d00
  obtain ⟨d10, d11, d12⟩ := HP6.out.cells (.tail _ (.tail _ (.head _)))
  have l1 := cell_lt d10
  obtain ⟨d20, d21, d22⟩ := HP6.out.cells (.tail _ (.head _))
  have l2 := cell_lt d20
  obtain ⟨d30, d31, d32⟩ := HP6.out.cells (.head _)
  have l3 := cell_lt d30
  have HFA : Hid (Ex.mk 97 ByteArray.empty [e, f]).fits := Lib.hid (fits_two (by decide) HF.out HFf.out)
  have HFS : Hid (Ex.mk 115 ByteArray.empty [e, f]).fits := Lib.hid (fits_two (by decide) HF.out HFf.out)
  obtain ⟨rE, hE⟩ := bool_of (rightE okN e = true ∧ lang e a)
  obtain ⟨rF, hF⟩ := bool_of (rightE okN f = true ∧ lang f a)
  have HE := Lib.hid hE
  have HFF := Lib.hid hF
  clear hE hF
  generalize hra : rightE okN (.mk 97 ByteArray.empty [e, f]) = ra at *
  have HRA := Lib.hid hra
  clear hra
  have HC0 := Lib.hid (regrown_any (w := W5) fun W hW => by have h := right_pack (HP6.out.next hW) (.tail _ (.head _)) HFA.out; simp only [HRA.out] at h; exact h)
  cases ra with
  | false =>
    go_wp2
    have k00 := cell_regrown d00
    have k01 := cell_regrown d01
    have k02 := cell_regrown d02
    have k10 := cell_regrown d10
    have k11 := cell_regrown d11
    have k12 := cell_regrown d12
    have k20 := cell_regrown d20
    have k21 := cell_regrown d21
    have k22 := cell_regrown d22
    have k30 := cell_regrown d30
    have k31 := cell_regrown d31
    have k32 := cell_regrown d32
    refine wp_region_quiet_below (by kernel_rfl) (by kernel_rfl) ?_
    repeat (first | go_big_quiet_step (first | with_reducible exact HC0.out _ _) | quiet_step (first | with_reducible exact HC0.out _ _))
    refine wpQuiet_nil ?_
    intro _ hw'
    obtain ⟨⟨dq, osq⟩, hw''⟩ := hw'
    subst hw''
    have HP7 := Lib.hid (HP6.out.next (below_regrown _ dq osq))
    clear k00 k01 k02 k10 k11 k12 k20 k21 k22 k30 k31 k32
    clear d00 d01 d02 l0 d10 d11 d12 l1 d20 d21 d22 l2 d30 d31 d32 l3
    clear HP6
    generalize grow (redrawn _ dq) osq = W7 at *
    obtain ⟨d00, d01, d02⟩ := HP7.out.cells (.tail _ (.tail _ (.tail _ (.head _))))
    have l0 := cell_lt d00
    obtain ⟨d10, d11, d12⟩ := HP7.out.cells (.tail _ (.tail _ (.head _)))
    have l1 := cell_lt d10
    obtain ⟨d20, d21, d22⟩ := HP7.out.cells (.tail _ (.head _))
    have l2 := cell_lt d20
    obtain ⟨d30, d31, d32⟩ := HP7.out.cells (.head _)
    have l3 := cell_lt d30
    clear HC0 HRA HE HFF
    go_wp2_with fail
    refine (right_pack HP7.out (.head _) HFS.out).mono ?_
    rintro x W8 ⟨rfl, hb8⟩
    have HP8 := Lib.hid (HP7.out.next hb8)
    clear d00 d01 d02 l0 d10 d11 d12 l1 d20 d21 d22 l2 d30 d31 d32 l3
    clear hb8 HP7
    obtain ⟨d00, d01, d02⟩ := HP8.out.cells (.tail _ (.tail _ (.tail _ (.head _))))
    have l0 := cell_lt d00
    obtain ⟨d10, d11, d12⟩ := HP8.out.cells (.tail _ (.tail _ (.head _)))
    have l1 := cell_lt d10
    obtain ⟨d20, d21, d22⟩ := HP8.out.cells (.tail _ (.head _))
    have l2 := cell_lt d20
    obtain ⟨d30, d31, d32⟩ := HP8.out.cells (.head _)
    have l3 := cell_lt d30
    simp only
    generalize hrs : rightE okN (.mk 115 ByteArray.empty [e, f]) = rs at *
    cases rs with
    | false =>
      go_wp2
      go_ret
      exact ⟨rfl, HP8.out.below⟩
    | true =>
      have HRS := Lib.hid hrs
      clear hrs
      have HRE : Hid (rightE okN e = true) := Lib.hid (right_kid HRS.out (List.mem_cons_self ..))
      have HRF : Hid (rightE okN f = true) := Lib.hid (right_kid HRS.out (List.mem_cons_of_mem _ (List.mem_cons_self ..)))
      go_wp2_with (first
        | (at_builtin; refine wpList_append_strsE rfl (.tmp 64) (.tmp 65) rfl W8.heap.size (Under W8.heap.size) (.slice (some ⟨W8.heap.size, 0, none⟩) 0 0) (.slice Aa Na ca) [] a rfl rfl (SRowE.made W8 (Nat.le_refl _)) ((HP8.out.strs _ (.head _)).below ((Below.refl _ _).alloc (Nat.le_refl _) _)) (by rw [HNa.out]; simp; omega) (by simp) ?_; intro v9 W9 ho9 hg9 hb9
           have HB9 : Hid (Below W8.heap.size W8 W9) := Lib.hid (below_grown ((Below.refl _ _).alloc (Nat.le_refl _) _) hg9 (fun k hk => by rw [← Option.some.inj hk]; exact Nat.le_refl _) (by simp))
           have HO9 : Hid (SRowE W9 W8.heap.size v9 a) := Lib.hid ho9
           have HV9 : Hid (v9.ownBlock ≠ none) := Lib.hid (by rcases hb9 with h | h <;> (rw [h]; intro h2; cases h2))
           clear ho9 hg9 hb9)
        | (at_builtin; refine wpList_append_strsE rfl (.tmp 66) (.tmp 67) rfl W8.heap.size (Under W8.heap.size) v9 (.slice Ab Nb cb) a b rfl rfl HO9.out ((HP8.out.strs _ (.tail _ (.head _))).below HB9.out) (by rw [HNa.out, HNb.out]; omega) HB9.out.size ?_; intro v10 W10 ho10 hg10 hb10
           have HB10 : Hid (Below W8.heap.size W8 W10) := Lib.hid (below_grown HB9.out hg10 (fun k hk => (World.ownsRow.lt HO9.out k hk).1) HB9.out.size)
           have HV10 : Hid (v10.ownBlock ≠ none) := Lib.hid (by rcases hb10 with h | h; exact (by rw [h]; exact HV9.out); (rw [h]; intro h2; cases h2))
           obtain ⟨l, hl⟩ : ∃ l, l = a ++ b := ⟨_, rfl⟩
           rw [← hl] at ho10
           have HLL := Lib.hid hl
           obtain ⟨gR, cR, rfl, hgR, hgR2, hcR, hcm⟩ := ho10.some HV10.out
           have HP10 := Lib.hid (HP8.out.both HB10.out ho10)
           have HLN : Hid (l.length = Na + Nb) := Lib.hid (by rw [hl, List.length_append, HNa.out, HNb.out])
           clear hl
           generalize hNR : l.length = NR at *
           have HNR := Lib.hid hNR
           have hNR40 : NR ≤ 30 := by have := HLN.out; omega
           unfold maxLen at hcm
           clear ho10 hg10 hb10 HB10 HB9 HO9 HV9 HV10 HP8 hNR HLN)
        | fail)
      clear d00 d01 d02 l0 d10 d11 d12 l1 d20 d21 d22 l2 d30 d31 d32 l3
      go_loopg [13, 14] (NR + 1) (fun g u v wx => ∃ (i : Nat) (m : Bool), u = .bool m ∧ v = .int .i64 i ∧ i + g = NR + 1 ∧ Hid (Met e f l i m) ∧ Hid (Pack w wx [⟨W4.heap.size + 1, .mk 115 ByteArray.empty [e, f], some ⟨W4.heap.size, 0, none⟩, 2, 2⟩, ⟨W3.heap.size + 1, .mk 97 ByteArray.empty [e, f], some ⟨W3.heap.size, 0, none⟩, 2, 2⟩, ⟨w.heap.size + 1, f, B, k', c'⟩, ⟨w.heap.size, e, A, k, c⟩] ((.slice (some ⟨gR, 0, none⟩) NR cR, l) :: [(.slice Aa Na ca, a), (.slice Ab Nb cb, b)])))
      case atStart => exact ⟨0, false, rfl, rfl, by omega, Lib.hid ⟨fun h => (nomatch h), fun ⟨j, h, _⟩ => absurd h (by omega)⟩, HP10⟩
      case round =>
        clear HP10
        obtain ⟨i, m, rfl, rfl, hig, HM, HP11⟩ := hrel
        obtain ⟨d00, d01, d02⟩ := HP11.out.cells (.tail _ (.tail _ (.tail _ (.head _))))
        have l0 := cell_lt d00
        obtain ⟨d10, d11, d12⟩ := HP11.out.cells (.tail _ (.tail _ (.head _)))
        have l1 := cell_lt d10
        obtain ⟨d20, d21, d22⟩ := HP11.out.cells (.tail _ (.head _))
        have l2 := cell_lt d20
        obtain ⟨d30, d31, d32⟩ := HP11.out.cells (.head _)
        have l3 := cell_lt d30
        by_cases hi : i ≤ NR
        · obtain ⟨g, rfl⟩ : ∃ g, gk = g + 1 := ⟨gk - 1, by omega⟩
          cases m with
          | true =>
            go_wp2
            have k00 := cell_regrown d00
            have k01 := cell_regrown d01
            have k02 := cell_regrown d02
            have k10 := cell_regrown d10
            have k11 := cell_regrown d11
            have k12 := cell_regrown d12
            have k20 := cell_regrown d20
            have k21 := cell_regrown d21
            have k22 := cell_regrown d22
            have k30 := cell_regrown d30
            have k31 := cell_regrown d31
            have k32 := cell_regrown d32
            refine wp_region_quiet_below (by kernel_rfl) (by kernel_rfl) ?_
            repeat (first | go_big_quiet_step (first | fail) | quiet_step (first | fail))
            refine wpQuiet_nil ?_
            intro _ hw'
            obtain ⟨⟨dq, osq⟩, hw''⟩ := hw'
            subst hw''
            have HP12 := Lib.hid (HP11.out.next (below_regrown _ dq osq))
            clear k00 k01 k02 k10 k11 k12 k20 k21 k22 k30 k31 k32
            clear d00 d01 d02 l0 d10 d11 d12 l1 d20 d21 d22 l2 d30 d31 d32 l3
            clear HP11
            generalize grow (redrawn _ dq) osq = wn at *
            obtain ⟨d00, d01, d02⟩ := HP12.out.cells (.tail _ (.tail _ (.tail _ (.head _))))
            have l0 := cell_lt d00
            obtain ⟨d10, d11, d12⟩ := HP12.out.cells (.tail _ (.tail _ (.head _)))
            have l1 := cell_lt d10
            obtain ⟨d20, d21, d22⟩ := HP12.out.cells (.tail _ (.head _))
            have l2 := cell_lt d20
            obtain ⟨d30, d31, d32⟩ := HP12.out.cells (.head _)
            have l3 := cell_lt d30
            go_wp2
            go_roundg g
            case measure => omega
            case rel => exact ⟨i + 1, _, rfl, by go_num, by omega, Lib.hid (HM.out.next (r := true) (fun h => (nomatch h))), HP12⟩
          | false =>
            obtain ⟨r1, hr1⟩ := bool_of (lang e (l.take i))
            have HR1 := Lib.hid hr1
            clear hr1
            have hs1 : Strs wr (Under wr.heap.size) (.slice (some ⟨gR, 0, none⟩) i cR) (l.take i) := by
              have h := strs_part (l := l) (by rw [HNR.out]; exact HP11.out.strs _ (.head _)) 0 i (by rw [HNR.out]; omega) (A' := some ⟨gR, 0, none⟩) (d := cR) (by omega) (Nat.le_refl _) (.inr rfl)
              rwa [List.drop_zero] at h
            have HP11a := Lib.hid (HP11.out.row hs1)
            have HLS : Hid (∀ s ∈ l, s.size ≤ maxLen) := Lib.hid (by rw [HLL.out]; exact sizes_app HAS.out HBS.out)
            have HD1 := Lib.hid (regrown_any (w := wr) fun W hW => has_fix (r := r1) (HP11a.out.next hW) (.tail _ (.tail _ (.tail _ (.head _)))) HF.out (.head _) (by have h := sizes_take HLS.out 0 i; rwa [List.drop_zero] at h) (by rw [HR1.out]; simp only [HRE.out, true_and]))
            clear hs1
            cases r1 with
            | false =>
              go_wp2
              have k00 := cell_regrown d00
              have k01 := cell_regrown d01
              have k02 := cell_regrown d02
              have k10 := cell_regrown d10
              have k11 := cell_regrown d11
              have k12 := cell_regrown d12
              have k20 := cell_regrown d20
              have k21 := cell_regrown d21
              have k22 := cell_regrown d22
              have k30 := cell_regrown d30
              have k31 := cell_regrown d31
              have k32 := cell_regrown d32
              refine wp_region_quiet_below (by kernel_rfl) (by kernel_rfl) ?_
              repeat (first | go_big_quiet_step (first | with_reducible exact HD1.out _ _) | quiet_step (first | with_reducible exact HD1.out _ _))
              refine wpQuiet_nil ?_
              intro _ hw'
              obtain ⟨⟨dq, osq⟩, hw''⟩ := hw'
              subst hw''
              have HP12 := Lib.hid (HP11.out.next (below_regrown _ dq osq))
              clear k00 k01 k02 k10 k11 k12 k20 k21 k22 k30 k31 k32
              clear d00 d01 d02 l0 d10 d11 d12 l1 d20 d21 d22 l2 d30 d31 d32 l3
              clear HP11
              generalize grow (redrawn _ dq) osq = wn at *
              obtain ⟨d00, d01, d02⟩ := HP12.out.cells (.tail _ (.tail _ (.tail _ (.head _))))
              have l0 := cell_lt d00
              obtain ⟨d10, d11, d12⟩ := HP12.out.cells (.tail _ (.tail _ (.head _)))
              have l1 := cell_lt d10
              obtain ⟨d20, d21, d22⟩ := HP12.out.cells (.tail _ (.head _))
              have l2 := cell_lt d20
              obtain ⟨d30, d31, d32⟩ := HP12.out.cells (.head _)
              have l3 := cell_lt d30
              go_wp2
              go_roundg g
              case measure => omega
              case rel => exact ⟨i + 1, _, rfl, by go_num, by omega, Lib.hid (HM.out.next (r := false) (fun _ => ⟨fun h => (nomatch h), fun h => HR1.out.2 h.1⟩)), HP12⟩
            | true =>
              obtain ⟨r2, hr2⟩ := bool_of (lang f (l.drop i))
              have HR2 := Lib.hid hr2
              clear hr2
              by_cases hic : cR = i
              · subst hic
                have hs2 : Strs wr (Under wr.heap.size) (.slice (some ⟨gR, 0, none⟩) 0 0) (l.drop cR) := by
                  have h := strs_part (l := l) (by rw [HNR.out]; exact HP11.out.strs _ (.head _)) cR (NR - cR) (by rw [HNR.out]; omega) (A' := some ⟨gR, 0, none⟩) (d := 0) (by omega) (by omega) (.inl (by omega))
                  rw [List.take_of_length_le (by rw [List.length_drop, HNR.out]; omega)] at h
                  rwa [show NR - cR = 0 by omega] at h
                have HP11b := Lib.hid (HP11.out.row hs2)
                have HD2 := Lib.hid (regrown_any (w := wr) fun W hW => has_fix (r := r2) (HP11b.out.next hW) (.tail _ (.tail _ (.head _))) HFf.out (.head _) (fun s hs => HLS.out s (List.mem_of_mem_drop hs)) (by rw [HR2.out]; simp only [HRF.out, true_and]))
                clear hs2
                cases r2 with
                | false =>
                  go_wp2
                  have k00 := cell_regrown d00
                  have k01 := cell_regrown d01
                  have k02 := cell_regrown d02
                  have k10 := cell_regrown d10
                  have k11 := cell_regrown d11
                  have k12 := cell_regrown d12
                  have k20 := cell_regrown d20
                  have k21 := cell_regrown d21
                  have k22 := cell_regrown d22
                  have k30 := cell_regrown d30
                  have k31 := cell_regrown d31
                  have k32 := cell_regrown d32
                  refine wp_region_quiet_below (by kernel_rfl) (by kernel_rfl) ?_
                  repeat (first | go_big_quiet_step (first | with_reducible exact HD1.out _ _ | with_reducible exact HD2.out _ _) | quiet_step (first | with_reducible exact HD1.out _ _ | with_reducible exact HD2.out _ _))
                  refine wpQuiet_nil ?_
                  intro _ hw'
                  obtain ⟨⟨dq, osq⟩, hw''⟩ := hw'
                  subst hw''
                  have HP12 := Lib.hid (HP11.out.next (below_regrown _ dq osq))
                  clear k00 k01 k02 k10 k11 k12 k20 k21 k22 k30 k31 k32
                  clear d00 d01 d02 l0 d10 d11 d12 l1 d20 d21 d22 l2 d30 d31 d32 l3
                  clear HP11
                  generalize grow (redrawn _ dq) osq = wn at *
                  obtain ⟨d00, d01, d02⟩ := HP12.out.cells (.tail _ (.tail _ (.tail _ (.head _))))
                  have l0 := cell_lt d00
                  obtain ⟨d10, d11, d12⟩ := HP12.out.cells (.tail _ (.tail _ (.head _)))
                  have l1 := cell_lt d10
                  obtain ⟨d20, d21, d22⟩ := HP12.out.cells (.tail _ (.head _))
                  have l2 := cell_lt d20
                  obtain ⟨d30, d31, d32⟩ := HP12.out.cells (.head _)
                  have l3 := cell_lt d30
                  go_wp2
                  go_roundg g
                  case measure => omega
                  case rel => exact ⟨cR + 1, _, rfl, by go_num, by omega, Lib.hid (HM.out.next (r := false) (fun _ => ⟨fun h => (nomatch h), fun h => HR2.out.2 h.2⟩)), HP12⟩
                | true =>
                  go_wp2
                  have k00 := cell_regrown d00
                  have k01 := cell_regrown d01
                  have k02 := cell_regrown d02
                  have k10 := cell_regrown d10
                  have k11 := cell_regrown d11
                  have k12 := cell_regrown d12
                  have k20 := cell_regrown d20
                  have k21 := cell_regrown d21
                  have k22 := cell_regrown d22
                  have k30 := cell_regrown d30
                  have k31 := cell_regrown d31
                  have k32 := cell_regrown d32
                  refine wp_region_quiet_below (by kernel_rfl) (by kernel_rfl) ?_
                  repeat (first | go_big_quiet_step (first | with_reducible exact HD1.out _ _ | with_reducible exact HD2.out _ _) | quiet_step (first | with_reducible exact HD1.out _ _ | with_reducible exact HD2.out _ _))
                  refine wpQuiet_nil ?_
                  intro _ hw'
                  obtain ⟨⟨dq, osq⟩, hw''⟩ := hw'
                  subst hw''
                  have HP12 := Lib.hid (HP11.out.next (below_regrown _ dq osq))
                  clear k00 k01 k02 k10 k11 k12 k20 k21 k22 k30 k31 k32
                  clear d00 d01 d02 l0 d10 d11 d12 l1 d20 d21 d22 l2 d30 d31 d32 l3
                  clear HP11
                  generalize grow (redrawn _ dq) osq = wn at *
                  obtain ⟨d00, d01, d02⟩ := HP12.out.cells (.tail _ (.tail _ (.tail _ (.head _))))
                  have l0 := cell_lt d00
                  obtain ⟨d10, d11, d12⟩ := HP12.out.cells (.tail _ (.tail _ (.head _)))
                  have l1 := cell_lt d10
                  obtain ⟨d20, d21, d22⟩ := HP12.out.cells (.tail _ (.head _))
                  have l2 := cell_lt d20
                  obtain ⟨d30, d31, d32⟩ := HP12.out.cells (.head _)
                  have l3 := cell_lt d30
                  go_wp2
                  go_roundg g
                  case measure => omega
                  case rel => exact ⟨cR + 1, _, rfl, by go_num, by omega, Lib.hid (HM.out.next (r := true) (fun _ => ⟨fun _ => ⟨HR1.out.1 (by simp), HR2.out.1 (by simp)⟩, fun _ => rfl⟩)), HP12⟩
              · have hic' : ¬ (cR : Int) = (i : Int) := by omega
                have hs2 : Strs wr (Under wr.heap.size) (.slice (some ⟨gR, i, none⟩) (NR - i) (cR - i)) (l.drop i) := by
                  have h := strs_part (l := l) (by rw [HNR.out]; exact HP11.out.strs _ (.head _)) i (NR - i) (by rw [HNR.out]; omega) (A' := some ⟨gR, i, none⟩) (d := (cR - i)) (by omega) (by omega) (.inr rfl)
                  rw [List.take_of_length_le (by rw [List.length_drop, HNR.out]; omega)] at h
                  exact h
                have HP11b := Lib.hid (HP11.out.row hs2)
                have HD2 := Lib.hid (regrown_any (w := wr) fun W hW => has_fix (r := r2) (HP11b.out.next hW) (.tail _ (.tail _ (.head _))) HFf.out (.head _) (fun s hs => HLS.out s (List.mem_of_mem_drop hs)) (by rw [HR2.out]; simp only [HRF.out, true_and]))
                clear hs2
                cases r2 with
                | false =>
                  go_wp2
                  have k00 := cell_regrown d00
                  have k01 := cell_regrown d01
                  have k02 := cell_regrown d02
                  have k10 := cell_regrown d10
                  have k11 := cell_regrown d11
                  have k12 := cell_regrown d12
                  have k20 := cell_regrown d20
                  have k21 := cell_regrown d21
                  have k22 := cell_regrown d22
                  have k30 := cell_regrown d30
                  have k31 := cell_regrown d31
                  have k32 := cell_regrown d32
                  refine wp_region_quiet_below (by kernel_rfl) (by kernel_rfl) ?_
                  repeat (first | go_big_quiet_step (first | with_reducible exact HD1.out _ _ | with_reducible exact HD2.out _ _) | quiet_step (first | with_reducible exact HD1.out _ _ | with_reducible exact HD2.out _ _))
                  refine wpQuiet_nil ?_
                  intro _ hw'
                  obtain ⟨⟨dq, osq⟩, hw''⟩ := hw'
                  subst hw''
                  have HP12 := Lib.hid (HP11.out.next (below_regrown _ dq osq))
                  clear k00 k01 k02 k10 k11 k12 k20 k21 k22 k30 k31 k32
                  clear d00 d01 d02 l0 d10 d11 d12 l1 d20 d21 d22 l2 d30 d31 d32 l3
                  clear HP11
                  generalize grow (redrawn _ dq) osq = wn at *
                  obtain ⟨d00, d01, d02⟩ := HP12.out.cells (.tail _ (.tail _ (.tail _ (.head _))))
                  have l0 := cell_lt d00
                  obtain ⟨d10, d11, d12⟩ := HP12.out.cells (.tail _ (.tail _ (.head _)))
                  have l1 := cell_lt d10
                  obtain ⟨d20, d21, d22⟩ := HP12.out.cells (.tail _ (.head _))
                  have l2 := cell_lt d20
                  obtain ⟨d30, d31, d32⟩ := HP12.out.cells (.head _)
                  have l3 := cell_lt d30
                  go_wp2
                  go_roundg g
                  case measure => omega
                  case rel => exact ⟨i + 1, _, rfl, by go_num, by omega, Lib.hid (HM.out.next (r := false) (fun _ => ⟨fun h => (nomatch h), fun h => HR2.out.2 h.2⟩)), HP12⟩
                | true =>
                  go_wp2
                  have k00 := cell_regrown d00
                  have k01 := cell_regrown d01
                  have k02 := cell_regrown d02
                  have k10 := cell_regrown d10
                  have k11 := cell_regrown d11
                  have k12 := cell_regrown d12
                  have k20 := cell_regrown d20
                  have k21 := cell_regrown d21
                  have k22 := cell_regrown d22
                  have k30 := cell_regrown d30
                  have k31 := cell_regrown d31
                  have k32 := cell_regrown d32
                  refine wp_region_quiet_below (by kernel_rfl) (by kernel_rfl) ?_
                  repeat (first | go_big_quiet_step (first | with_reducible exact HD1.out _ _ | with_reducible exact HD2.out _ _) | quiet_step (first | with_reducible exact HD1.out _ _ | with_reducible exact HD2.out _ _))
                  refine wpQuiet_nil ?_
                  intro _ hw'
                  obtain ⟨⟨dq, osq⟩, hw''⟩ := hw'
                  subst hw''
                  have HP12 := Lib.hid (HP11.out.next (below_regrown _ dq osq))
                  clear k00 k01 k02 k10 k11 k12 k20 k21 k22 k30 k31 k32
                  clear d00 d01 d02 l0 d10 d11 d12 l1 d20 d21 d22 l2 d30 d31 d32 l3
                  clear HP11
                  generalize grow (redrawn _ dq) osq = wn at *
                  obtain ⟨d00, d01, d02⟩ := HP12.out.cells (.tail _ (.tail _ (.tail _ (.head _))))
                  have l0 := cell_lt d00
                  obtain ⟨d10, d11, d12⟩ := HP12.out.cells (.tail _ (.tail _ (.head _)))
                  have l1 := cell_lt d10
                  obtain ⟨d20, d21, d22⟩ := HP12.out.cells (.tail _ (.head _))
                  have l2 := cell_lt d20
                  obtain ⟨d30, d31, d32⟩ := HP12.out.cells (.head _)
                  have l3 := cell_lt d30
                  go_wp2
                  go_roundg g
                  case measure => omega
                  case rel => exact ⟨i + 1, _, rfl, by go_num, by omega, Lib.hid (HM.out.next (r := true) (fun _ => ⟨fun _ => ⟨HR1.out.1 (by simp), HR2.out.1 (by simp)⟩, fun _ => rfl⟩)), HP12⟩
        · have hii : i = NR + 1 := by omega
          subst hii
          have HMM : Hid (m = true ↔ rightE okN (.mk 115 ByteArray.empty [e, f]) = true ∧ lang (.mk 115 ByteArray.empty [e, f]) l) := Lib.hid (by
            have h := HM.out
            unfold Met at h
            rw [h]
            simp only [HRS.out, true_and, lang_seq2, HNR.out, Nat.lt_succ_iff])
          have HLS : Hid (∀ s ∈ l, s.size ≤ maxLen) := Lib.hid (by rw [HLL.out]; exact sizes_app HAS.out HBS.out)
          go_wp2_with fail
          refine (has_fix (r := m) HP11.out (.head _) HFS.out (.head _) HLS.out HMM.out).mono ?_
          rintro x W13 ⟨rfl, hb13⟩
          have HP13 := Lib.hid (HP11.out.next hb13)
          clear d00 d01 d02 l0 d10 d11 d12 l1 d20 d21 d22 l2 d30 d31 d32 l3 hb13
          go_wp2
          go_ret
          exact ⟨ret_bool (by simp), HP13.out.below⟩
  | true =>
    have HRE : Hid (rightE okN e = true) := Lib.hid (right_kid HRA.out (List.mem_cons_self ..))
    have HRF : Hid (rightE okN f = true) := Lib.hid (right_kid HRA.out (List.mem_cons_of_mem _ (List.mem_cons_self ..)))
    have HC1 := Lib.hid (regrown_any (w := W5) fun W hW => has_fix (r := rE || rF) (HP6.out.next hW) (.tail _ (.head _)) HFA.out (.head _) HAS.out (by
      rw [Bool.or_eq_true, HE.out, HFF.out]
      simp only [HRA.out, HRE.out, HRF.out, true_and, lang_alt2]))
    have HC2 := Lib.hid (regrown_any (w := W5) fun W hW => has_fix (r := rE) (HP6.out.next hW) (.tail _ (.tail _ (.tail _ (.head _)))) HF.out (.head _) HAS.out HE.out)
    have HC3 := Lib.hid (regrown_any (w := W5) fun W hW => has_fix (r := rF) (HP6.out.next hW) (.tail _ (.tail _ (.head _))) HFf.out (.head _) HAS.out HFF.out)
    cases rE with
    | true =>
      simp only [Bool.true_or] at HC1
      go_wp2
      have k00 := cell_regrown d00
      have k01 := cell_regrown d01
      have k02 := cell_regrown d02
      have k10 := cell_regrown d10
      have k11 := cell_regrown d11
      have k12 := cell_regrown d12
      have k20 := cell_regrown d20
      have k21 := cell_regrown d21
      have k22 := cell_regrown d22
      have k30 := cell_regrown d30
      have k31 := cell_regrown d31
      have k32 := cell_regrown d32
      refine wp_region_quiet_below (by kernel_rfl) (by kernel_rfl) ?_
      repeat (first | go_big_quiet_step (first | with_reducible exact HC0.out _ _ | with_reducible exact HC1.out _ _ | with_reducible exact HC2.out _ _) | quiet_step (first | with_reducible exact HC0.out _ _ | with_reducible exact HC1.out _ _ | with_reducible exact HC2.out _ _))
      refine wpQuiet_nil ?_
      intro _ hw'
      obtain ⟨⟨dq, osq⟩, hw''⟩ := hw'
      subst hw''
      have HP7 := Lib.hid (HP6.out.next (below_regrown _ dq osq))
      clear k00 k01 k02 k10 k11 k12 k20 k21 k22 k30 k31 k32
      clear d00 d01 d02 l0 d10 d11 d12 l1 d20 d21 d22 l2 d30 d31 d32 l3
      clear HP6
      generalize grow (redrawn _ dq) osq = W7 at *
      obtain ⟨d00, d01, d02⟩ := HP7.out.cells (.tail _ (.tail _ (.tail _ (.head _))))
      have l0 := cell_lt d00
      obtain ⟨d10, d11, d12⟩ := HP7.out.cells (.tail _ (.tail _ (.head _)))
      have l1 := cell_lt d10
      obtain ⟨d20, d21, d22⟩ := HP7.out.cells (.tail _ (.head _))
      have l2 := cell_lt d20
      obtain ⟨d30, d31, d32⟩ := HP7.out.cells (.head _)
      have l3 := cell_lt d30
      clear HC0 HC1 HC2 HC3 HRA HE HFF HRE HRF
      go_wp2_with fail
      refine (right_pack HP7.out (.head _) HFS.out).mono ?_
      rintro x W8 ⟨rfl, hb8⟩
      have HP8 := Lib.hid (HP7.out.next hb8)
      clear d00 d01 d02 l0 d10 d11 d12 l1 d20 d21 d22 l2 d30 d31 d32 l3
      clear hb8 HP7
      obtain ⟨d00, d01, d02⟩ := HP8.out.cells (.tail _ (.tail _ (.tail _ (.head _))))
      have l0 := cell_lt d00
      obtain ⟨d10, d11, d12⟩ := HP8.out.cells (.tail _ (.tail _ (.head _)))
      have l1 := cell_lt d10
      obtain ⟨d20, d21, d22⟩ := HP8.out.cells (.tail _ (.head _))
      have l2 := cell_lt d20
      obtain ⟨d30, d31, d32⟩ := HP8.out.cells (.head _)
      have l3 := cell_lt d30
      simp only
      generalize hrs : rightE okN (.mk 115 ByteArray.empty [e, f]) = rs at *
      cases rs with
      | false =>
        go_wp2
        go_ret
        exact ⟨rfl, HP8.out.below⟩
      | true =>
        have HRS := Lib.hid hrs
        clear hrs
        have HRE : Hid (rightE okN e = true) := Lib.hid (right_kid HRS.out (List.mem_cons_self ..))
        have HRF : Hid (rightE okN f = true) := Lib.hid (right_kid HRS.out (List.mem_cons_of_mem _ (List.mem_cons_self ..)))
        go_wp2_with (first
          | (at_builtin; refine wpList_append_strsE rfl (.tmp 64) (.tmp 65) rfl W8.heap.size (Under W8.heap.size) (.slice (some ⟨W8.heap.size, 0, none⟩) 0 0) (.slice Aa Na ca) [] a rfl rfl (SRowE.made W8 (Nat.le_refl _)) ((HP8.out.strs _ (.head _)).below ((Below.refl _ _).alloc (Nat.le_refl _) _)) (by rw [HNa.out]; simp; omega) (by simp) ?_; intro v9 W9 ho9 hg9 hb9
             have HB9 : Hid (Below W8.heap.size W8 W9) := Lib.hid (below_grown ((Below.refl _ _).alloc (Nat.le_refl _) _) hg9 (fun k hk => by rw [← Option.some.inj hk]; exact Nat.le_refl _) (by simp))
             have HO9 : Hid (SRowE W9 W8.heap.size v9 a) := Lib.hid ho9
             have HV9 : Hid (v9.ownBlock ≠ none) := Lib.hid (by rcases hb9 with h | h <;> (rw [h]; intro h2; cases h2))
             clear ho9 hg9 hb9)
          | (at_builtin; refine wpList_append_strsE rfl (.tmp 66) (.tmp 67) rfl W8.heap.size (Under W8.heap.size) v9 (.slice Ab Nb cb) a b rfl rfl HO9.out ((HP8.out.strs _ (.tail _ (.head _))).below HB9.out) (by rw [HNa.out, HNb.out]; omega) HB9.out.size ?_; intro v10 W10 ho10 hg10 hb10
             have HB10 : Hid (Below W8.heap.size W8 W10) := Lib.hid (below_grown HB9.out hg10 (fun k hk => (World.ownsRow.lt HO9.out k hk).1) HB9.out.size)
             have HV10 : Hid (v10.ownBlock ≠ none) := Lib.hid (by rcases hb10 with h | h; exact (by rw [h]; exact HV9.out); (rw [h]; intro h2; cases h2))
             obtain ⟨l, hl⟩ : ∃ l, l = a ++ b := ⟨_, rfl⟩
             rw [← hl] at ho10
             have HLL := Lib.hid hl
             obtain ⟨gR, cR, rfl, hgR, hgR2, hcR, hcm⟩ := ho10.some HV10.out
             have HP10 := Lib.hid (HP8.out.both HB10.out ho10)
             have HLN : Hid (l.length = Na + Nb) := Lib.hid (by rw [hl, List.length_append, HNa.out, HNb.out])
             clear hl
             generalize hNR : l.length = NR at *
             have HNR := Lib.hid hNR
             have hNR40 : NR ≤ 30 := by have := HLN.out; omega
             unfold maxLen at hcm
             clear ho10 hg10 hb10 HB10 HB9 HO9 HV9 HV10 HP8 hNR HLN)
          | fail)
        clear d00 d01 d02 l0 d10 d11 d12 l1 d20 d21 d22 l2 d30 d31 d32 l3
        go_loopg [13, 14] (NR + 1) (fun g u v wx => ∃ (i : Nat) (m : Bool), u = .bool m ∧ v = .int .i64 i ∧ i + g = NR + 1 ∧ Hid (Met e f l i m) ∧ Hid (Pack w wx [⟨W4.heap.size + 1, .mk 115 ByteArray.empty [e, f], some ⟨W4.heap.size, 0, none⟩, 2, 2⟩, ⟨W3.heap.size + 1, .mk 97 ByteArray.empty [e, f], some ⟨W3.heap.size, 0, none⟩, 2, 2⟩, ⟨w.heap.size + 1, f, B, k', c'⟩, ⟨w.heap.size, e, A, k, c⟩] ((.slice (some ⟨gR, 0, none⟩) NR cR, l) :: [(.slice Aa Na ca, a), (.slice Ab Nb cb, b)])))
        case atStart => exact ⟨0, false, rfl, rfl, by omega, Lib.hid ⟨fun h => (nomatch h), fun ⟨j, h, _⟩ => absurd h (by omega)⟩, HP10⟩
        case round =>
          clear HP10
          obtain ⟨i, m, rfl, rfl, hig, HM, HP11⟩ := hrel
          obtain ⟨d00, d01, d02⟩ := HP11.out.cells (.tail _ (.tail _ (.tail _ (.head _))))
          have l0 := cell_lt d00
          obtain ⟨d10, d11, d12⟩ := HP11.out.cells (.tail _ (.tail _ (.head _)))
          have l1 := cell_lt d10
          obtain ⟨d20, d21, d22⟩ := HP11.out.cells (.tail _ (.head _))
          have l2 := cell_lt d20
          obtain ⟨d30, d31, d32⟩ := HP11.out.cells (.head _)
          have l3 := cell_lt d30
          by_cases hi : i ≤ NR
          · obtain ⟨g, rfl⟩ : ∃ g, gk = g + 1 := ⟨gk - 1, by omega⟩
            cases m with
            | true =>
              go_wp2
              have k00 := cell_regrown d00
              have k01 := cell_regrown d01
              have k02 := cell_regrown d02
              have k10 := cell_regrown d10
              have k11 := cell_regrown d11
              have k12 := cell_regrown d12
              have k20 := cell_regrown d20
              have k21 := cell_regrown d21
              have k22 := cell_regrown d22
              have k30 := cell_regrown d30
              have k31 := cell_regrown d31
              have k32 := cell_regrown d32
              refine wp_region_quiet_below (by kernel_rfl) (by kernel_rfl) ?_
              repeat (first | go_big_quiet_step (first | fail) | quiet_step (first | fail))
              refine wpQuiet_nil ?_
              intro _ hw'
              obtain ⟨⟨dq, osq⟩, hw''⟩ := hw'
              subst hw''
              have HP12 := Lib.hid (HP11.out.next (below_regrown _ dq osq))
              clear k00 k01 k02 k10 k11 k12 k20 k21 k22 k30 k31 k32
              clear d00 d01 d02 l0 d10 d11 d12 l1 d20 d21 d22 l2 d30 d31 d32 l3
              clear HP11
              generalize grow (redrawn _ dq) osq = wn at *
              obtain ⟨d00, d01, d02⟩ := HP12.out.cells (.tail _ (.tail _ (.tail _ (.head _))))
              have l0 := cell_lt d00
              obtain ⟨d10, d11, d12⟩ := HP12.out.cells (.tail _ (.tail _ (.head _)))
              have l1 := cell_lt d10
              obtain ⟨d20, d21, d22⟩ := HP12.out.cells (.tail _ (.head _))
              have l2 := cell_lt d20
              obtain ⟨d30, d31, d32⟩ := HP12.out.cells (.head _)
              have l3 := cell_lt d30
              go_wp2
              go_roundg g
              case measure => omega
              case rel => exact ⟨i + 1, _, rfl, by go_num, by omega, Lib.hid (HM.out.next (r := true) (fun h => (nomatch h))), HP12⟩
            | false =>
              obtain ⟨r1, hr1⟩ := bool_of (lang e (l.take i))
              have HR1 := Lib.hid hr1
              clear hr1
              have hs1 : Strs wr (Under wr.heap.size) (.slice (some ⟨gR, 0, none⟩) i cR) (l.take i) := by
                have h := strs_part (l := l) (by rw [HNR.out]; exact HP11.out.strs _ (.head _)) 0 i (by rw [HNR.out]; omega) (A' := some ⟨gR, 0, none⟩) (d := cR) (by omega) (Nat.le_refl _) (.inr rfl)
                rwa [List.drop_zero] at h
              have HP11a := Lib.hid (HP11.out.row hs1)
              have HLS : Hid (∀ s ∈ l, s.size ≤ maxLen) := Lib.hid (by rw [HLL.out]; exact sizes_app HAS.out HBS.out)
              have HD1 := Lib.hid (regrown_any (w := wr) fun W hW => has_fix (r := r1) (HP11a.out.next hW) (.tail _ (.tail _ (.tail _ (.head _)))) HF.out (.head _) (by have h := sizes_take HLS.out 0 i; rwa [List.drop_zero] at h) (by rw [HR1.out]; simp only [HRE.out, true_and]))
              clear hs1
              cases r1 with
              | false =>
                go_wp2
                have k00 := cell_regrown d00
                have k01 := cell_regrown d01
                have k02 := cell_regrown d02
                have k10 := cell_regrown d10
                have k11 := cell_regrown d11
                have k12 := cell_regrown d12
                have k20 := cell_regrown d20
                have k21 := cell_regrown d21
                have k22 := cell_regrown d22
                have k30 := cell_regrown d30
                have k31 := cell_regrown d31
                have k32 := cell_regrown d32
                refine wp_region_quiet_below (by kernel_rfl) (by kernel_rfl) ?_
                repeat (first | go_big_quiet_step (first | with_reducible exact HD1.out _ _) | quiet_step (first | with_reducible exact HD1.out _ _))
                refine wpQuiet_nil ?_
                intro _ hw'
                obtain ⟨⟨dq, osq⟩, hw''⟩ := hw'
                subst hw''
                have HP12 := Lib.hid (HP11.out.next (below_regrown _ dq osq))
                clear k00 k01 k02 k10 k11 k12 k20 k21 k22 k30 k31 k32
                clear d00 d01 d02 l0 d10 d11 d12 l1 d20 d21 d22 l2 d30 d31 d32 l3
                clear HP11
                generalize grow (redrawn _ dq) osq = wn at *
                obtain ⟨d00, d01, d02⟩ := HP12.out.cells (.tail _ (.tail _ (.tail _ (.head _))))
                have l0 := cell_lt d00
                obtain ⟨d10, d11, d12⟩ := HP12.out.cells (.tail _ (.tail _ (.head _)))
                have l1 := cell_lt d10
                obtain ⟨d20, d21, d22⟩ := HP12.out.cells (.tail _ (.head _))
                have l2 := cell_lt d20
                obtain ⟨d30, d31, d32⟩ := HP12.out.cells (.head _)
                have l3 := cell_lt d30
                go_wp2
                go_roundg g
                case measure => omega
                case rel => exact ⟨i + 1, _, rfl, by go_num, by omega, Lib.hid (HM.out.next (r := false) (fun _ => ⟨fun h => (nomatch h), fun h => HR1.out.2 h.1⟩)), HP12⟩
              | true =>
                obtain ⟨r2, hr2⟩ := bool_of (lang f (l.drop i))
                have HR2 := Lib.hid hr2
                clear hr2
                by_cases hic : cR = i
                · subst hic
                  have hs2 : Strs wr (Under wr.heap.size) (.slice (some ⟨gR, 0, none⟩) 0 0) (l.drop cR) := by
                    have h := strs_part (l := l) (by rw [HNR.out]; exact HP11.out.strs _ (.head _)) cR (NR - cR) (by rw [HNR.out]; omega) (A' := some ⟨gR, 0, none⟩) (d := 0) (by omega) (by omega) (.inl (by omega))
                    rw [List.take_of_length_le (by rw [List.length_drop, HNR.out]; omega)] at h
                    rwa [show NR - cR = 0 by omega] at h
                  have HP11b := Lib.hid (HP11.out.row hs2)
                  have HD2 := Lib.hid (regrown_any (w := wr) fun W hW => has_fix (r := r2) (HP11b.out.next hW) (.tail _ (.tail _ (.head _))) HFf.out (.head _) (fun s hs => HLS.out s (List.mem_of_mem_drop hs)) (by rw [HR2.out]; simp only [HRF.out, true_and]))
                  clear hs2
                  cases r2 with
                  | false =>
                    go_wp2
                    have k00 := cell_regrown d00
                    have k01 := cell_regrown d01
                    have k02 := cell_regrown d02
                    have k10 := cell_regrown d10
                    have k11 := cell_regrown d11
                    have k12 := cell_regrown d12
                    have k20 := cell_regrown d20
                    have k21 := cell_regrown d21
                    have k22 := cell_regrown d22
                    have k30 := cell_regrown d30
                    have k31 := cell_regrown d31
                    have k32 := cell_regrown d32
                    refine wp_region_quiet_below (by kernel_rfl) (by kernel_rfl) ?_
                    repeat (first | go_big_quiet_step (first | with_reducible exact HD1.out _ _ | with_reducible exact HD2.out _ _) | quiet_step (first | with_reducible exact HD1.out _ _ | with_reducible exact HD2.out _ _))
                    refine wpQuiet_nil ?_
                    intro _ hw'
                    obtain ⟨⟨dq, osq⟩, hw''⟩ := hw'
                    subst hw''
                    have HP12 := Lib.hid (HP11.out.next (below_regrown _ dq osq))
                    clear k00 k01 k02 k10 k11 k12 k20 k21 k22 k30 k31 k32
                    clear d00 d01 d02 l0 d10 d11 d12 l1 d20 d21 d22 l2 d30 d31 d32 l3
                    clear HP11
                    generalize grow (redrawn _ dq) osq = wn at *
                    obtain ⟨d00, d01, d02⟩ := HP12.out.cells (.tail _ (.tail _ (.tail _ (.head _))))
                    have l0 := cell_lt d00
                    obtain ⟨d10, d11, d12⟩ := HP12.out.cells (.tail _ (.tail _ (.head _)))
                    have l1 := cell_lt d10
                    obtain ⟨d20, d21, d22⟩ := HP12.out.cells (.tail _ (.head _))
                    have l2 := cell_lt d20
                    obtain ⟨d30, d31, d32⟩ := HP12.out.cells (.head _)
                    have l3 := cell_lt d30
                    go_wp2
                    go_roundg g
                    case measure => omega
                    case rel => exact ⟨cR + 1, _, rfl, by go_num, by omega, Lib.hid (HM.out.next (r := false) (fun _ => ⟨fun h => (nomatch h), fun h => HR2.out.2 h.2⟩)), HP12⟩
                  | true =>
                    go_wp2
                    have k00 := cell_regrown d00
                    have k01 := cell_regrown d01
                    have k02 := cell_regrown d02
                    have k10 := cell_regrown d10
                    have k11 := cell_regrown d11
                    have k12 := cell_regrown d12
                    have k20 := cell_regrown d20
                    have k21 := cell_regrown d21
                    have k22 := cell_regrown d22
                    have k30 := cell_regrown d30
                    have k31 := cell_regrown d31
                    have k32 := cell_regrown d32
                    refine wp_region_quiet_below (by kernel_rfl) (by kernel_rfl) ?_
                    repeat (first | go_big_quiet_step (first | with_reducible exact HD1.out _ _ | with_reducible exact HD2.out _ _) | quiet_step (first | with_reducible exact HD1.out _ _ | with_reducible exact HD2.out _ _))
                    refine wpQuiet_nil ?_
                    intro _ hw'
                    obtain ⟨⟨dq, osq⟩, hw''⟩ := hw'
                    subst hw''
                    have HP12 := Lib.hid (HP11.out.next (below_regrown _ dq osq))
                    clear k00 k01 k02 k10 k11 k12 k20 k21 k22 k30 k31 k32
                    clear d00 d01 d02 l0 d10 d11 d12 l1 d20 d21 d22 l2 d30 d31 d32 l3
                    clear HP11
                    generalize grow (redrawn _ dq) osq = wn at *
                    obtain ⟨d00, d01, d02⟩ := HP12.out.cells (.tail _ (.tail _ (.tail _ (.head _))))
                    have l0 := cell_lt d00
                    obtain ⟨d10, d11, d12⟩ := HP12.out.cells (.tail _ (.tail _ (.head _)))
                    have l1 := cell_lt d10
                    obtain ⟨d20, d21, d22⟩ := HP12.out.cells (.tail _ (.head _))
                    have l2 := cell_lt d20
                    obtain ⟨d30, d31, d32⟩ := HP12.out.cells (.head _)
                    have l3 := cell_lt d30
                    go_wp2
                    go_roundg g
                    case measure => omega
                    case rel => exact ⟨cR + 1, _, rfl, by go_num, by omega, Lib.hid (HM.out.next (r := true) (fun _ => ⟨fun _ => ⟨HR1.out.1 (by simp), HR2.out.1 (by simp)⟩, fun _ => rfl⟩)), HP12⟩
                · have hic' : ¬ (cR : Int) = (i : Int) := by omega
                  have hs2 : Strs wr (Under wr.heap.size) (.slice (some ⟨gR, i, none⟩) (NR - i) (cR - i)) (l.drop i) := by
                    have h := strs_part (l := l) (by rw [HNR.out]; exact HP11.out.strs _ (.head _)) i (NR - i) (by rw [HNR.out]; omega) (A' := some ⟨gR, i, none⟩) (d := (cR - i)) (by omega) (by omega) (.inr rfl)
                    rw [List.take_of_length_le (by rw [List.length_drop, HNR.out]; omega)] at h
                    exact h
                  have HP11b := Lib.hid (HP11.out.row hs2)
                  have HD2 := Lib.hid (regrown_any (w := wr) fun W hW => has_fix (r := r2) (HP11b.out.next hW) (.tail _ (.tail _ (.head _))) HFf.out (.head _) (fun s hs => HLS.out s (List.mem_of_mem_drop hs)) (by rw [HR2.out]; simp only [HRF.out, true_and]))
                  clear hs2
                  cases r2 with
                  | false =>
                    go_wp2
                    have k00 := cell_regrown d00
                    have k01 := cell_regrown d01
                    have k02 := cell_regrown d02
                    have k10 := cell_regrown d10
                    have k11 := cell_regrown d11
                    have k12 := cell_regrown d12
                    have k20 := cell_regrown d20
                    have k21 := cell_regrown d21
                    have k22 := cell_regrown d22
                    have k30 := cell_regrown d30
                    have k31 := cell_regrown d31
                    have k32 := cell_regrown d32
                    refine wp_region_quiet_below (by kernel_rfl) (by kernel_rfl) ?_
                    repeat (first | go_big_quiet_step (first | with_reducible exact HD1.out _ _ | with_reducible exact HD2.out _ _) | quiet_step (first | with_reducible exact HD1.out _ _ | with_reducible exact HD2.out _ _))
                    refine wpQuiet_nil ?_
                    intro _ hw'
                    obtain ⟨⟨dq, osq⟩, hw''⟩ := hw'
                    subst hw''
                    have HP12 := Lib.hid (HP11.out.next (below_regrown _ dq osq))
                    clear k00 k01 k02 k10 k11 k12 k20 k21 k22 k30 k31 k32
                    clear d00 d01 d02 l0 d10 d11 d12 l1 d20 d21 d22 l2 d30 d31 d32 l3
                    clear HP11
                    generalize grow (redrawn _ dq) osq = wn at *
                    obtain ⟨d00, d01, d02⟩ := HP12.out.cells (.tail _ (.tail _ (.tail _ (.head _))))
                    have l0 := cell_lt d00
                    obtain ⟨d10, d11, d12⟩ := HP12.out.cells (.tail _ (.tail _ (.head _)))
                    have l1 := cell_lt d10
                    obtain ⟨d20, d21, d22⟩ := HP12.out.cells (.tail _ (.head _))
                    have l2 := cell_lt d20
                    obtain ⟨d30, d31, d32⟩ := HP12.out.cells (.head _)
                    have l3 := cell_lt d30
                    go_wp2
                    go_roundg g
                    case measure => omega
                    case rel => exact ⟨i + 1, _, rfl, by go_num, by omega, Lib.hid (HM.out.next (r := false) (fun _ => ⟨fun h => (nomatch h), fun h => HR2.out.2 h.2⟩)), HP12⟩
                  | true =>
                    go_wp2
                    have k00 := cell_regrown d00
                    have k01 := cell_regrown d01
                    have k02 := cell_regrown d02
                    have k10 := cell_regrown d10
                    have k11 := cell_regrown d11
                    have k12 := cell_regrown d12
                    have k20 := cell_regrown d20
                    have k21 := cell_regrown d21
                    have k22 := cell_regrown d22
                    have k30 := cell_regrown d30
                    have k31 := cell_regrown d31
                    have k32 := cell_regrown d32
                    refine wp_region_quiet_below (by kernel_rfl) (by kernel_rfl) ?_
                    repeat (first | go_big_quiet_step (first | with_reducible exact HD1.out _ _ | with_reducible exact HD2.out _ _) | quiet_step (first | with_reducible exact HD1.out _ _ | with_reducible exact HD2.out _ _))
                    refine wpQuiet_nil ?_
                    intro _ hw'
                    obtain ⟨⟨dq, osq⟩, hw''⟩ := hw'
                    subst hw''
                    have HP12 := Lib.hid (HP11.out.next (below_regrown _ dq osq))
                    clear k00 k01 k02 k10 k11 k12 k20 k21 k22 k30 k31 k32
                    clear d00 d01 d02 l0 d10 d11 d12 l1 d20 d21 d22 l2 d30 d31 d32 l3
                    clear HP11
                    generalize grow (redrawn _ dq) osq = wn at *
                    obtain ⟨d00, d01, d02⟩ := HP12.out.cells (.tail _ (.tail _ (.tail _ (.head _))))
                    have l0 := cell_lt d00
                    obtain ⟨d10, d11, d12⟩ := HP12.out.cells (.tail _ (.tail _ (.head _)))
                    have l1 := cell_lt d10
                    obtain ⟨d20, d21, d22⟩ := HP12.out.cells (.tail _ (.head _))
                    have l2 := cell_lt d20
                    obtain ⟨d30, d31, d32⟩ := HP12.out.cells (.head _)
                    have l3 := cell_lt d30
                    go_wp2
                    go_roundg g
                    case measure => omega
                    case rel => exact ⟨i + 1, _, rfl, by go_num, by omega, Lib.hid (HM.out.next (r := true) (fun _ => ⟨fun _ => ⟨HR1.out.1 (by simp), HR2.out.1 (by simp)⟩, fun _ => rfl⟩)), HP12⟩
          · have hii : i = NR + 1 := by omega
            subst hii
            have HMM : Hid (m = true ↔ rightE okN (.mk 115 ByteArray.empty [e, f]) = true ∧ lang (.mk 115 ByteArray.empty [e, f]) l) := Lib.hid (by
              have h := HM.out
              unfold Met at h
              rw [h]
              simp only [HRS.out, true_and, lang_seq2, HNR.out, Nat.lt_succ_iff])
            have HLS : Hid (∀ s ∈ l, s.size ≤ maxLen) := Lib.hid (by rw [HLL.out]; exact sizes_app HAS.out HBS.out)
            go_wp2_with fail
            refine (has_fix (r := m) HP11.out (.head _) HFS.out (.head _) HLS.out HMM.out).mono ?_
            rintro x W13 ⟨rfl, hb13⟩
            have HP13 := Lib.hid (HP11.out.next hb13)
            clear d00 d01 d02 l0 d10 d11 d12 l1 d20 d21 d22 l2 d30 d31 d32 l3 hb13
            go_wp2
            go_ret
            exact ⟨ret_bool (by simp), HP13.out.below⟩
    | false =>
      simp only [Bool.false_or] at HC1
      cases rF with
      | true =>
        go_wp2
        have k00 := cell_regrown d00
        have k01 := cell_regrown d01
        have k02 := cell_regrown d02
        have k10 := cell_regrown d10
        have k11 := cell_regrown d11
        have k12 := cell_regrown d12
        have k20 := cell_regrown d20
        have k21 := cell_regrown d21
        have k22 := cell_regrown d22
        have k30 := cell_regrown d30
        have k31 := cell_regrown d31
        have k32 := cell_regrown d32
        refine wp_region_quiet_below (by kernel_rfl) (by kernel_rfl) ?_
        repeat (first | go_big_quiet_step (first | with_reducible exact HC0.out _ _ | with_reducible exact HC1.out _ _ | with_reducible exact HC2.out _ _ | with_reducible exact HC3.out _ _) | quiet_step (first | with_reducible exact HC0.out _ _ | with_reducible exact HC1.out _ _ | with_reducible exact HC2.out _ _ | with_reducible exact HC3.out _ _))
        refine wpQuiet_nil ?_
        intro _ hw'
        obtain ⟨⟨dq, osq⟩, hw''⟩ := hw'
        subst hw''
        have HP7 := Lib.hid (HP6.out.next (below_regrown _ dq osq))
        clear k00 k01 k02 k10 k11 k12 k20 k21 k22 k30 k31 k32
        clear d00 d01 d02 l0 d10 d11 d12 l1 d20 d21 d22 l2 d30 d31 d32 l3
        clear HP6
        generalize grow (redrawn _ dq) osq = W7 at *
        obtain ⟨d00, d01, d02⟩ := HP7.out.cells (.tail _ (.tail _ (.tail _ (.head _))))
        have l0 := cell_lt d00
        obtain ⟨d10, d11, d12⟩ := HP7.out.cells (.tail _ (.tail _ (.head _)))
        have l1 := cell_lt d10
        obtain ⟨d20, d21, d22⟩ := HP7.out.cells (.tail _ (.head _))
        have l2 := cell_lt d20
        obtain ⟨d30, d31, d32⟩ := HP7.out.cells (.head _)
        have l3 := cell_lt d30
        clear HC0 HC1 HC2 HC3 HRA HE HFF HRE HRF
        go_wp2_with fail
        refine (right_pack HP7.out (.head _) HFS.out).mono ?_
        rintro x W8 ⟨rfl, hb8⟩
        have HP8 := Lib.hid (HP7.out.next hb8)
        clear d00 d01 d02 l0 d10 d11 d12 l1 d20 d21 d22 l2 d30 d31 d32 l3
        clear hb8 HP7
        obtain ⟨d00, d01, d02⟩ := HP8.out.cells (.tail _ (.tail _ (.tail _ (.head _))))
        have l0 := cell_lt d00
        obtain ⟨d10, d11, d12⟩ := HP8.out.cells (.tail _ (.tail _ (.head _)))
        have l1 := cell_lt d10
        obtain ⟨d20, d21, d22⟩ := HP8.out.cells (.tail _ (.head _))
        have l2 := cell_lt d20
        obtain ⟨d30, d31, d32⟩ := HP8.out.cells (.head _)
        have l3 := cell_lt d30
        simp only
        generalize hrs : rightE okN (.mk 115 ByteArray.empty [e, f]) = rs at *
        cases rs with
        | false =>
          go_wp2
          go_ret
          exact ⟨rfl, HP8.out.below⟩
        | true =>
          have HRS := Lib.hid hrs
          clear hrs
          have HRE : Hid (rightE okN e = true) := Lib.hid (right_kid HRS.out (List.mem_cons_self ..))
          have HRF : Hid (rightE okN f = true) := Lib.hid (right_kid HRS.out (List.mem_cons_of_mem _ (List.mem_cons_self ..)))
          go_wp2_with (first
            | (at_builtin; refine wpList_append_strsE rfl (.tmp 64) (.tmp 65) rfl W8.heap.size (Under W8.heap.size) (.slice (some ⟨W8.heap.size, 0, none⟩) 0 0) (.slice Aa Na ca) [] a rfl rfl (SRowE.made W8 (Nat.le_refl _)) ((HP8.out.strs _ (.head _)).below ((Below.refl _ _).alloc (Nat.le_refl _) _)) (by rw [HNa.out]; simp; omega) (by simp) ?_; intro v9 W9 ho9 hg9 hb9
               have HB9 : Hid (Below W8.heap.size W8 W9) := Lib.hid (below_grown ((Below.refl _ _).alloc (Nat.le_refl _) _) hg9 (fun k hk => by rw [← Option.some.inj hk]; exact Nat.le_refl _) (by simp))
               have HO9 : Hid (SRowE W9 W8.heap.size v9 a) := Lib.hid ho9
               have HV9 : Hid (v9.ownBlock ≠ none) := Lib.hid (by rcases hb9 with h | h <;> (rw [h]; intro h2; cases h2))
               clear ho9 hg9 hb9)
            | (at_builtin; refine wpList_append_strsE rfl (.tmp 66) (.tmp 67) rfl W8.heap.size (Under W8.heap.size) v9 (.slice Ab Nb cb) a b rfl rfl HO9.out ((HP8.out.strs _ (.tail _ (.head _))).below HB9.out) (by rw [HNa.out, HNb.out]; omega) HB9.out.size ?_; intro v10 W10 ho10 hg10 hb10
               have HB10 : Hid (Below W8.heap.size W8 W10) := Lib.hid (below_grown HB9.out hg10 (fun k hk => (World.ownsRow.lt HO9.out k hk).1) HB9.out.size)
               have HV10 : Hid (v10.ownBlock ≠ none) := Lib.hid (by rcases hb10 with h | h; exact (by rw [h]; exact HV9.out); (rw [h]; intro h2; cases h2))
               obtain ⟨l, hl⟩ : ∃ l, l = a ++ b := ⟨_, rfl⟩
               rw [← hl] at ho10
               have HLL := Lib.hid hl
               obtain ⟨gR, cR, rfl, hgR, hgR2, hcR, hcm⟩ := ho10.some HV10.out
               have HP10 := Lib.hid (HP8.out.both HB10.out ho10)
               have HLN : Hid (l.length = Na + Nb) := Lib.hid (by rw [hl, List.length_append, HNa.out, HNb.out])
               clear hl
               generalize hNR : l.length = NR at *
               have HNR := Lib.hid hNR
               have hNR40 : NR ≤ 30 := by have := HLN.out; omega
               unfold maxLen at hcm
               clear ho10 hg10 hb10 HB10 HB9 HO9 HV9 HV10 HP8 hNR HLN)
            | fail)
          clear d00 d01 d02 l0 d10 d11 d12 l1 d20 d21 d22 l2 d30 d31 d32 l3
          go_loopg [13, 14] (NR + 1) (fun g u v wx => ∃ (i : Nat) (m : Bool), u = .bool m ∧ v = .int .i64 i ∧ i + g = NR + 1 ∧ Hid (Met e f l i m) ∧ Hid (Pack w wx [⟨W4.heap.size + 1, .mk 115 ByteArray.empty [e, f], some ⟨W4.heap.size, 0, none⟩, 2, 2⟩, ⟨W3.heap.size + 1, .mk 97 ByteArray.empty [e, f], some ⟨W3.heap.size, 0, none⟩, 2, 2⟩, ⟨w.heap.size + 1, f, B, k', c'⟩, ⟨w.heap.size, e, A, k, c⟩] ((.slice (some ⟨gR, 0, none⟩) NR cR, l) :: [(.slice Aa Na ca, a), (.slice Ab Nb cb, b)])))
          case atStart => exact ⟨0, false, rfl, rfl, by omega, Lib.hid ⟨fun h => (nomatch h), fun ⟨j, h, _⟩ => absurd h (by omega)⟩, HP10⟩
          case round =>
            clear HP10
            obtain ⟨i, m, rfl, rfl, hig, HM, HP11⟩ := hrel
            obtain ⟨d00, d01, d02⟩ := HP11.out.cells (.tail _ (.tail _ (.tail _ (.head _))))
            have l0 := cell_lt d00
            obtain ⟨d10, d11, d12⟩ := HP11.out.cells (.tail _ (.tail _ (.head _)))
            have l1 := cell_lt d10
            obtain ⟨d20, d21, d22⟩ := HP11.out.cells (.tail _ (.head _))
            have l2 := cell_lt d20
            obtain ⟨d30, d31, d32⟩ := HP11.out.cells (.head _)
            have l3 := cell_lt d30
            by_cases hi : i ≤ NR
            · obtain ⟨g, rfl⟩ : ∃ g, gk = g + 1 := ⟨gk - 1, by omega⟩
              cases m with
              | true =>
                go_wp2
                have k00 := cell_regrown d00
                have k01 := cell_regrown d01
                have k02 := cell_regrown d02
                have k10 := cell_regrown d10
                have k11 := cell_regrown d11
                have k12 := cell_regrown d12
                have k20 := cell_regrown d20
                have k21 := cell_regrown d21
                have k22 := cell_regrown d22
                have k30 := cell_regrown d30
                have k31 := cell_regrown d31
                have k32 := cell_regrown d32
                refine wp_region_quiet_below (by kernel_rfl) (by kernel_rfl) ?_
                repeat (first | go_big_quiet_step (first | fail) | quiet_step (first | fail))
                refine wpQuiet_nil ?_
                intro _ hw'
                obtain ⟨⟨dq, osq⟩, hw''⟩ := hw'
                subst hw''
                have HP12 := Lib.hid (HP11.out.next (below_regrown _ dq osq))
                clear k00 k01 k02 k10 k11 k12 k20 k21 k22 k30 k31 k32
                clear d00 d01 d02 l0 d10 d11 d12 l1 d20 d21 d22 l2 d30 d31 d32 l3
                clear HP11
                generalize grow (redrawn _ dq) osq = wn at *
                obtain ⟨d00, d01, d02⟩ := HP12.out.cells (.tail _ (.tail _ (.tail _ (.head _))))
                have l0 := cell_lt d00
                obtain ⟨d10, d11, d12⟩ := HP12.out.cells (.tail _ (.tail _ (.head _)))
                have l1 := cell_lt d10
                obtain ⟨d20, d21, d22⟩ := HP12.out.cells (.tail _ (.head _))
                have l2 := cell_lt d20
                obtain ⟨d30, d31, d32⟩ := HP12.out.cells (.head _)
                have l3 := cell_lt d30
                go_wp2
                go_roundg g
                case measure => omega
                case rel => exact ⟨i + 1, _, rfl, by go_num, by omega, Lib.hid (HM.out.next (r := true) (fun h => (nomatch h))), HP12⟩
              | false =>
                obtain ⟨r1, hr1⟩ := bool_of (lang e (l.take i))
                have HR1 := Lib.hid hr1
                clear hr1
                have hs1 : Strs wr (Under wr.heap.size) (.slice (some ⟨gR, 0, none⟩) i cR) (l.take i) := by
                  have h := strs_part (l := l) (by rw [HNR.out]; exact HP11.out.strs _ (.head _)) 0 i (by rw [HNR.out]; omega) (A' := some ⟨gR, 0, none⟩) (d := cR) (by omega) (Nat.le_refl _) (.inr rfl)
                  rwa [List.drop_zero] at h
                have HP11a := Lib.hid (HP11.out.row hs1)
                have HLS : Hid (∀ s ∈ l, s.size ≤ maxLen) := Lib.hid (by rw [HLL.out]; exact sizes_app HAS.out HBS.out)
                have HD1 := Lib.hid (regrown_any (w := wr) fun W hW => has_fix (r := r1) (HP11a.out.next hW) (.tail _ (.tail _ (.tail _ (.head _)))) HF.out (.head _) (by have h := sizes_take HLS.out 0 i; rwa [List.drop_zero] at h) (by rw [HR1.out]; simp only [HRE.out, true_and]))
                clear hs1
                cases r1 with
                | false =>
                  go_wp2
                  have k00 := cell_regrown d00
                  have k01 := cell_regrown d01
                  have k02 := cell_regrown d02
                  have k10 := cell_regrown d10
                  have k11 := cell_regrown d11
                  have k12 := cell_regrown d12
                  have k20 := cell_regrown d20
                  have k21 := cell_regrown d21
                  have k22 := cell_regrown d22
                  have k30 := cell_regrown d30
                  have k31 := cell_regrown d31
                  have k32 := cell_regrown d32
                  refine wp_region_quiet_below (by kernel_rfl) (by kernel_rfl) ?_
                  repeat (first | go_big_quiet_step (first | with_reducible exact HD1.out _ _) | quiet_step (first | with_reducible exact HD1.out _ _))
                  refine wpQuiet_nil ?_
                  intro _ hw'
                  obtain ⟨⟨dq, osq⟩, hw''⟩ := hw'
                  subst hw''
                  have HP12 := Lib.hid (HP11.out.next (below_regrown _ dq osq))
                  clear k00 k01 k02 k10 k11 k12 k20 k21 k22 k30 k31 k32
                  clear d00 d01 d02 l0 d10 d11 d12 l1 d20 d21 d22 l2 d30 d31 d32 l3
                  clear HP11
                  generalize grow (redrawn _ dq) osq = wn at *
                  obtain ⟨d00, d01, d02⟩ := HP12.out.cells (.tail _ (.tail _ (.tail _ (.head _))))
                  have l0 := cell_lt d00
                  obtain ⟨d10, d11, d12⟩ := HP12.out.cells (.tail _ (.tail _ (.head _)))
                  have l1 := cell_lt d10
                  obtain ⟨d20, d21, d22⟩ := HP12.out.cells (.tail _ (.head _))
                  have l2 := cell_lt d20
                  obtain ⟨d30, d31, d32⟩ := HP12.out.cells (.head _)
                  have l3 := cell_lt d30
                  go_wp2
                  go_roundg g
                  case measure => omega
                  case rel => exact ⟨i + 1, _, rfl, by go_num, by omega, Lib.hid (HM.out.next (r := false) (fun _ => ⟨fun h => (nomatch h), fun h => HR1.out.2 h.1⟩)), HP12⟩
                | true =>
                  obtain ⟨r2, hr2⟩ := bool_of (lang f (l.drop i))
                  have HR2 := Lib.hid hr2
                  clear hr2
                  by_cases hic : cR = i
                  · subst hic
                    have hs2 : Strs wr (Under wr.heap.size) (.slice (some ⟨gR, 0, none⟩) 0 0) (l.drop cR) := by
                      have h := strs_part (l := l) (by rw [HNR.out]; exact HP11.out.strs _ (.head _)) cR (NR - cR) (by rw [HNR.out]; omega) (A' := some ⟨gR, 0, none⟩) (d := 0) (by omega) (by omega) (.inl (by omega))
                      rw [List.take_of_length_le (by rw [List.length_drop, HNR.out]; omega)] at h
                      rwa [show NR - cR = 0 by omega] at h
                    have HP11b := Lib.hid (HP11.out.row hs2)
                    have HD2 := Lib.hid (regrown_any (w := wr) fun W hW => has_fix (r := r2) (HP11b.out.next hW) (.tail _ (.tail _ (.head _))) HFf.out (.head _) (fun s hs => HLS.out s (List.mem_of_mem_drop hs)) (by rw [HR2.out]; simp only [HRF.out, true_and]))
                    clear hs2
                    cases r2 with
                    | false =>
                      go_wp2
                      have k00 := cell_regrown d00
                      have k01 := cell_regrown d01
                      have k02 := cell_regrown d02
                      have k10 := cell_regrown d10
                      have k11 := cell_regrown d11
                      have k12 := cell_regrown d12
                      have k20 := cell_regrown d20
                      have k21 := cell_regrown d21
                      have k22 := cell_regrown d22
                      have k30 := cell_regrown d30
                      have k31 := cell_regrown d31
                      have k32 := cell_regrown d32
                      refine wp_region_quiet_below (by kernel_rfl) (by kernel_rfl) ?_
                      repeat (first | go_big_quiet_step (first | with_reducible exact HD1.out _ _ | with_reducible exact HD2.out _ _) | quiet_step (first | with_reducible exact HD1.out _ _ | with_reducible exact HD2.out _ _))
                      refine wpQuiet_nil ?_
                      intro _ hw'
                      obtain ⟨⟨dq, osq⟩, hw''⟩ := hw'
                      subst hw''
                      have HP12 := Lib.hid (HP11.out.next (below_regrown _ dq osq))
                      clear k00 k01 k02 k10 k11 k12 k20 k21 k22 k30 k31 k32
                      clear d00 d01 d02 l0 d10 d11 d12 l1 d20 d21 d22 l2 d30 d31 d32 l3
                      clear HP11
                      generalize grow (redrawn _ dq) osq = wn at *
                      obtain ⟨d00, d01, d02⟩ := HP12.out.cells (.tail _ (.tail _ (.tail _ (.head _))))
                      have l0 := cell_lt d00
                      obtain ⟨d10, d11, d12⟩ := HP12.out.cells (.tail _ (.tail _ (.head _)))
                      have l1 := cell_lt d10
                      obtain ⟨d20, d21, d22⟩ := HP12.out.cells (.tail _ (.head _))
                      have l2 := cell_lt d20
                      obtain ⟨d30, d31, d32⟩ := HP12.out.cells (.head _)
                      have l3 := cell_lt d30
                      go_wp2
                      go_roundg g
                      case measure => omega
                      case rel => exact ⟨cR + 1, _, rfl, by go_num, by omega, Lib.hid (HM.out.next (r := false) (fun _ => ⟨fun h => (nomatch h), fun h => HR2.out.2 h.2⟩)), HP12⟩
                    | true =>
                      go_wp2
                      have k00 := cell_regrown d00
                      have k01 := cell_regrown d01
                      have k02 := cell_regrown d02
                      have k10 := cell_regrown d10
                      have k11 := cell_regrown d11
                      have k12 := cell_regrown d12
                      have k20 := cell_regrown d20
                      have k21 := cell_regrown d21
                      have k22 := cell_regrown d22
                      have k30 := cell_regrown d30
                      have k31 := cell_regrown d31
                      have k32 := cell_regrown d32
                      refine wp_region_quiet_below (by kernel_rfl) (by kernel_rfl) ?_
                      repeat (first | go_big_quiet_step (first | with_reducible exact HD1.out _ _ | with_reducible exact HD2.out _ _) | quiet_step (first | with_reducible exact HD1.out _ _ | with_reducible exact HD2.out _ _))
                      refine wpQuiet_nil ?_
                      intro _ hw'
                      obtain ⟨⟨dq, osq⟩, hw''⟩ := hw'
                      subst hw''
                      have HP12 := Lib.hid (HP11.out.next (below_regrown _ dq osq))
                      clear k00 k01 k02 k10 k11 k12 k20 k21 k22 k30 k31 k32
                      clear d00 d01 d02 l0 d10 d11 d12 l1 d20 d21 d22 l2 d30 d31 d32 l3
                      clear HP11
                      generalize grow (redrawn _ dq) osq = wn at *
                      obtain ⟨d00, d01, d02⟩ := HP12.out.cells (.tail _ (.tail _ (.tail _ (.head _))))
                      have l0 := cell_lt d00
                      obtain ⟨d10, d11, d12⟩ := HP12.out.cells (.tail _ (.tail _ (.head _)))
                      have l1 := cell_lt d10
                      obtain ⟨d20, d21, d22⟩ := HP12.out.cells (.tail _ (.head _))
                      have l2 := cell_lt d20
                      obtain ⟨d30, d31, d32⟩ := HP12.out.cells (.head _)
                      have l3 := cell_lt d30
                      go_wp2
                      go_roundg g
                      case measure => omega
                      case rel => exact ⟨cR + 1, _, rfl, by go_num, by omega, Lib.hid (HM.out.next (r := true) (fun _ => ⟨fun _ => ⟨HR1.out.1 (by simp), HR2.out.1 (by simp)⟩, fun _ => rfl⟩)), HP12⟩
                  · have hic' : ¬ (cR : Int) = (i : Int) := by omega
                    have hs2 : Strs wr (Under wr.heap.size) (.slice (some ⟨gR, i, none⟩) (NR - i) (cR - i)) (l.drop i) := by
                      have h := strs_part (l := l) (by rw [HNR.out]; exact HP11.out.strs _ (.head _)) i (NR - i) (by rw [HNR.out]; omega) (A' := some ⟨gR, i, none⟩) (d := (cR - i)) (by omega) (by omega) (.inr rfl)
                      rw [List.take_of_length_le (by rw [List.length_drop, HNR.out]; omega)] at h
                      exact h
                    have HP11b := Lib.hid (HP11.out.row hs2)
                    have HD2 := Lib.hid (regrown_any (w := wr) fun W hW => has_fix (r := r2) (HP11b.out.next hW) (.tail _ (.tail _ (.head _))) HFf.out (.head _) (fun s hs => HLS.out s (List.mem_of_mem_drop hs)) (by rw [HR2.out]; simp only [HRF.out, true_and]))
                    clear hs2
                    cases r2 with
                    | false =>
                      go_wp2
                      have k00 := cell_regrown d00
                      have k01 := cell_regrown d01
                      have k02 := cell_regrown d02
                      have k10 := cell_regrown d10
                      have k11 := cell_regrown d11
                      have k12 := cell_regrown d12
                      have k20 := cell_regrown d20
                      have k21 := cell_regrown d21
                      have k22 := cell_regrown d22
                      have k30 := cell_regrown d30
                      have k31 := cell_regrown d31
                      have k32 := cell_regrown d32
                      refine wp_region_quiet_below (by kernel_rfl) (by kernel_rfl) ?_
                      repeat (first | go_big_quiet_step (first | with_reducible exact HD1.out _ _ | with_reducible exact HD2.out _ _) | quiet_step (first | with_reducible exact HD1.out _ _ | with_reducible exact HD2.out _ _))
                      refine wpQuiet_nil ?_
                      intro _ hw'
                      obtain ⟨⟨dq, osq⟩, hw''⟩ := hw'
                      subst hw''
                      have HP12 := Lib.hid (HP11.out.next (below_regrown _ dq osq))
                      clear k00 k01 k02 k10 k11 k12 k20 k21 k22 k30 k31 k32
                      clear d00 d01 d02 l0 d10 d11 d12 l1 d20 d21 d22 l2 d30 d31 d32 l3
                      clear HP11
                      generalize grow (redrawn _ dq) osq = wn at *
                      obtain ⟨d00, d01, d02⟩ := HP12.out.cells (.tail _ (.tail _ (.tail _ (.head _))))
                      have l0 := cell_lt d00
                      obtain ⟨d10, d11, d12⟩ := HP12.out.cells (.tail _ (.tail _ (.head _)))
                      have l1 := cell_lt d10
                      obtain ⟨d20, d21, d22⟩ := HP12.out.cells (.tail _ (.head _))
                      have l2 := cell_lt d20
                      obtain ⟨d30, d31, d32⟩ := HP12.out.cells (.head _)
                      have l3 := cell_lt d30
                      go_wp2
                      go_roundg g
                      case measure => omega
                      case rel => exact ⟨i + 1, _, rfl, by go_num, by omega, Lib.hid (HM.out.next (r := false) (fun _ => ⟨fun h => (nomatch h), fun h => HR2.out.2 h.2⟩)), HP12⟩
                    | true =>
                      go_wp2
                      have k00 := cell_regrown d00
                      have k01 := cell_regrown d01
                      have k02 := cell_regrown d02
                      have k10 := cell_regrown d10
                      have k11 := cell_regrown d11
                      have k12 := cell_regrown d12
                      have k20 := cell_regrown d20
                      have k21 := cell_regrown d21
                      have k22 := cell_regrown d22
                      have k30 := cell_regrown d30
                      have k31 := cell_regrown d31
                      have k32 := cell_regrown d32
                      refine wp_region_quiet_below (by kernel_rfl) (by kernel_rfl) ?_
                      repeat (first | go_big_quiet_step (first | with_reducible exact HD1.out _ _ | with_reducible exact HD2.out _ _) | quiet_step (first | with_reducible exact HD1.out _ _ | with_reducible exact HD2.out _ _))
                      refine wpQuiet_nil ?_
                      intro _ hw'
                      obtain ⟨⟨dq, osq⟩, hw''⟩ := hw'
                      subst hw''
                      have HP12 := Lib.hid (HP11.out.next (below_regrown _ dq osq))
                      clear k00 k01 k02 k10 k11 k12 k20 k21 k22 k30 k31 k32
                      clear d00 d01 d02 l0 d10 d11 d12 l1 d20 d21 d22 l2 d30 d31 d32 l3
                      clear HP11
                      generalize grow (redrawn _ dq) osq = wn at *
                      obtain ⟨d00, d01, d02⟩ := HP12.out.cells (.tail _ (.tail _ (.tail _ (.head _))))
                      have l0 := cell_lt d00
                      obtain ⟨d10, d11, d12⟩ := HP12.out.cells (.tail _ (.tail _ (.head _)))
                      have l1 := cell_lt d10
                      obtain ⟨d20, d21, d22⟩ := HP12.out.cells (.tail _ (.head _))
                      have l2 := cell_lt d20
                      obtain ⟨d30, d31, d32⟩ := HP12.out.cells (.head _)
                      have l3 := cell_lt d30
                      go_wp2
                      go_roundg g
                      case measure => omega
                      case rel => exact ⟨i + 1, _, rfl, by go_num, by omega, Lib.hid (HM.out.next (r := true) (fun _ => ⟨fun _ => ⟨HR1.out.1 (by simp), HR2.out.1 (by simp)⟩, fun _ => rfl⟩)), HP12⟩
            · have hii : i = NR + 1 := by omega
              subst hii
              have HMM : Hid (m = true ↔ rightE okN (.mk 115 ByteArray.empty [e, f]) = true ∧ lang (.mk 115 ByteArray.empty [e, f]) l) := Lib.hid (by
                have h := HM.out
                unfold Met at h
                rw [h]
                simp only [HRS.out, true_and, lang_seq2, HNR.out, Nat.lt_succ_iff])
              have HLS : Hid (∀ s ∈ l, s.size ≤ maxLen) := Lib.hid (by rw [HLL.out]; exact sizes_app HAS.out HBS.out)
              go_wp2_with fail
              refine (has_fix (r := m) HP11.out (.head _) HFS.out (.head _) HLS.out HMM.out).mono ?_
              rintro x W13 ⟨rfl, hb13⟩
              have HP13 := Lib.hid (HP11.out.next hb13)
              clear d00 d01 d02 l0 d10 d11 d12 l1 d20 d21 d22 l2 d30 d31 d32 l3 hb13
              go_wp2
              go_ret
              exact ⟨ret_bool (by simp), HP13.out.below⟩
      | false =>
        go_wp2
        have k00 := cell_regrown d00
        have k01 := cell_regrown d01
        have k02 := cell_regrown d02
        have k10 := cell_regrown d10
        have k11 := cell_regrown d11
        have k12 := cell_regrown d12
        have k20 := cell_regrown d20
        have k21 := cell_regrown d21
        have k22 := cell_regrown d22
        have k30 := cell_regrown d30
        have k31 := cell_regrown d31
        have k32 := cell_regrown d32
        refine wp_region_quiet_below (by kernel_rfl) (by kernel_rfl) ?_
        repeat (first | go_big_quiet_step (first | with_reducible exact HC0.out _ _ | with_reducible exact HC1.out _ _ | with_reducible exact HC2.out _ _ | with_reducible exact HC3.out _ _) | quiet_step (first | with_reducible exact HC0.out _ _ | with_reducible exact HC1.out _ _ | with_reducible exact HC2.out _ _ | with_reducible exact HC3.out _ _))
        refine wpQuiet_nil ?_
        intro _ hw'
        obtain ⟨⟨dq, osq⟩, hw''⟩ := hw'
        subst hw''
        have HP7 := Lib.hid (HP6.out.next (below_regrown _ dq osq))
        clear k00 k01 k02 k10 k11 k12 k20 k21 k22 k30 k31 k32
        clear d00 d01 d02 l0 d10 d11 d12 l1 d20 d21 d22 l2 d30 d31 d32 l3
        clear HP6
        generalize grow (redrawn _ dq) osq = W7 at *
        obtain ⟨d00, d01, d02⟩ := HP7.out.cells (.tail _ (.tail _ (.tail _ (.head _))))
        have l0 := cell_lt d00
        obtain ⟨d10, d11, d12⟩ := HP7.out.cells (.tail _ (.tail _ (.head _)))
        have l1 := cell_lt d10
        obtain ⟨d20, d21, d22⟩ := HP7.out.cells (.tail _ (.head _))
        have l2 := cell_lt d20
        obtain ⟨d30, d31, d32⟩ := HP7.out.cells (.head _)
        have l3 := cell_lt d30
        clear HC0 HC1 HC2 HC3 HRA HE HFF HRE HRF
        go_wp2_with fail
        refine (right_pack HP7.out (.head _) HFS.out).mono ?_
        rintro x W8 ⟨rfl, hb8⟩
        have HP8 := Lib.hid (HP7.out.next hb8)
        clear d00 d01 d02 l0 d10 d11 d12 l1 d20 d21 d22 l2 d30 d31 d32 l3
        clear hb8 HP7
        obtain ⟨d00, d01, d02⟩ := HP8.out.cells (.tail _ (.tail _ (.tail _ (.head _))))
        have l0 := cell_lt d00
        obtain ⟨d10, d11, d12⟩ := HP8.out.cells (.tail _ (.tail _ (.head _)))
        have l1 := cell_lt d10
        obtain ⟨d20, d21, d22⟩ := HP8.out.cells (.tail _ (.head _))
        have l2 := cell_lt d20
        obtain ⟨d30, d31, d32⟩ := HP8.out.cells (.head _)
        have l3 := cell_lt d30
        simp only
        generalize hrs : rightE okN (.mk 115 ByteArray.empty [e, f]) = rs at *
        cases rs with
        | false =>
          go_wp2
          go_ret
          exact ⟨rfl, HP8.out.below⟩
        | true =>
          have HRS := Lib.hid hrs
          clear hrs
          have HRE : Hid (rightE okN e = true) := Lib.hid (right_kid HRS.out (List.mem_cons_self ..))
          have HRF : Hid (rightE okN f = true) := Lib.hid (right_kid HRS.out (List.mem_cons_of_mem _ (List.mem_cons_self ..)))
          go_wp2_with (first
            | (at_builtin; refine wpList_append_strsE rfl (.tmp 64) (.tmp 65) rfl W8.heap.size (Under W8.heap.size) (.slice (some ⟨W8.heap.size, 0, none⟩) 0 0) (.slice Aa Na ca) [] a rfl rfl (SRowE.made W8 (Nat.le_refl _)) ((HP8.out.strs _ (.head _)).below ((Below.refl _ _).alloc (Nat.le_refl _) _)) (by rw [HNa.out]; simp; omega) (by simp) ?_; intro v9 W9 ho9 hg9 hb9
               have HB9 : Hid (Below W8.heap.size W8 W9) := Lib.hid (below_grown ((Below.refl _ _).alloc (Nat.le_refl _) _) hg9 (fun k hk => by rw [← Option.some.inj hk]; exact Nat.le_refl _) (by simp))
               have HO9 : Hid (SRowE W9 W8.heap.size v9 a) := Lib.hid ho9
               have HV9 : Hid (v9.ownBlock ≠ none) := Lib.hid (by rcases hb9 with h | h <;> (rw [h]; intro h2; cases h2))
               clear ho9 hg9 hb9)
            | (at_builtin; refine wpList_append_strsE rfl (.tmp 66) (.tmp 67) rfl W8.heap.size (Under W8.heap.size) v9 (.slice Ab Nb cb) a b rfl rfl HO9.out ((HP8.out.strs _ (.tail _ (.head _))).below HB9.out) (by rw [HNa.out, HNb.out]; omega) HB9.out.size ?_; intro v10 W10 ho10 hg10 hb10
               have HB10 : Hid (Below W8.heap.size W8 W10) := Lib.hid (below_grown HB9.out hg10 (fun k hk => (World.ownsRow.lt HO9.out k hk).1) HB9.out.size)
               have HV10 : Hid (v10.ownBlock ≠ none) := Lib.hid (by rcases hb10 with h | h; exact (by rw [h]; exact HV9.out); (rw [h]; intro h2; cases h2))
               obtain ⟨l, hl⟩ : ∃ l, l = a ++ b := ⟨_, rfl⟩
               rw [← hl] at ho10
               have HLL := Lib.hid hl
               obtain ⟨gR, cR, rfl, hgR, hgR2, hcR, hcm⟩ := ho10.some HV10.out
               have HP10 := Lib.hid (HP8.out.both HB10.out ho10)
               have HLN : Hid (l.length = Na + Nb) := Lib.hid (by rw [hl, List.length_append, HNa.out, HNb.out])
               clear hl
               generalize hNR : l.length = NR at *
               have HNR := Lib.hid hNR
               have hNR40 : NR ≤ 30 := by have := HLN.out; omega
               unfold maxLen at hcm
               clear ho10 hg10 hb10 HB10 HB9 HO9 HV9 HV10 HP8 hNR HLN)
            | fail)
          clear d00 d01 d02 l0 d10 d11 d12 l1 d20 d21 d22 l2 d30 d31 d32 l3
          go_loopg [13, 14] (NR + 1) (fun g u v wx => ∃ (i : Nat) (m : Bool), u = .bool m ∧ v = .int .i64 i ∧ i + g = NR + 1 ∧ Hid (Met e f l i m) ∧ Hid (Pack w wx [⟨W4.heap.size + 1, .mk 115 ByteArray.empty [e, f], some ⟨W4.heap.size, 0, none⟩, 2, 2⟩, ⟨W3.heap.size + 1, .mk 97 ByteArray.empty [e, f], some ⟨W3.heap.size, 0, none⟩, 2, 2⟩, ⟨w.heap.size + 1, f, B, k', c'⟩, ⟨w.heap.size, e, A, k, c⟩] ((.slice (some ⟨gR, 0, none⟩) NR cR, l) :: [(.slice Aa Na ca, a), (.slice Ab Nb cb, b)])))
          case atStart => exact ⟨0, false, rfl, rfl, by omega, Lib.hid ⟨fun h => (nomatch h), fun ⟨j, h, _⟩ => absurd h (by omega)⟩, HP10⟩
          case round =>
            clear HP10
            obtain ⟨i, m, rfl, rfl, hig, HM, HP11⟩ := hrel
            obtain ⟨d00, d01, d02⟩ := HP11.out.cells (.tail _ (.tail _ (.tail _ (.head _))))
            have l0 := cell_lt d00
            obtain ⟨d10, d11, d12⟩ := HP11.out.cells (.tail _ (.tail _ (.head _)))
            have l1 := cell_lt d10
            obtain ⟨d20, d21, d22⟩ := HP11.out.cells (.tail _ (.head _))
            have l2 := cell_lt d20
            obtain ⟨d30, d31, d32⟩ := HP11.out.cells (.head _)
            have l3 := cell_lt d30
            by_cases hi : i ≤ NR
            · obtain ⟨g, rfl⟩ : ∃ g, gk = g + 1 := ⟨gk - 1, by omega⟩
              cases m with
              | true =>
                go_wp2
                have k00 := cell_regrown d00
                have k01 := cell_regrown d01
                have k02 := cell_regrown d02
                have k10 := cell_regrown d10
                have k11 := cell_regrown d11
                have k12 := cell_regrown d12
                have k20 := cell_regrown d20
                have k21 := cell_regrown d21
                have k22 := cell_regrown d22
                have k30 := cell_regrown d30
                have k31 := cell_regrown d31
                have k32 := cell_regrown d32
                refine wp_region_quiet_below (by kernel_rfl) (by kernel_rfl) ?_
                repeat (first | go_big_quiet_step (first | fail) | quiet_step (first | fail))
                refine wpQuiet_nil ?_
                intro _ hw'
                obtain ⟨⟨dq, osq⟩, hw''⟩ := hw'
                subst hw''
                have HP12 := Lib.hid (HP11.out.next (below_regrown _ dq osq))
                clear k00 k01 k02 k10 k11 k12 k20 k21 k22 k30 k31 k32
                clear d00 d01 d02 l0 d10 d11 d12 l1 d20 d21 d22 l2 d30 d31 d32 l3
                clear HP11
                generalize grow (redrawn _ dq) osq = wn at *
                obtain ⟨d00, d01, d02⟩ := HP12.out.cells (.tail _ (.tail _ (.tail _ (.head _))))
                have l0 := cell_lt d00
                obtain ⟨d10, d11, d12⟩ := HP12.out.cells (.tail _ (.tail _ (.head _)))
                have l1 := cell_lt d10
                obtain ⟨d20, d21, d22⟩ := HP12.out.cells (.tail _ (.head _))
                have l2 := cell_lt d20
                obtain ⟨d30, d31, d32⟩ := HP12.out.cells (.head _)
                have l3 := cell_lt d30
                go_wp2
                go_roundg g
                case measure => omega
                case rel => exact ⟨i + 1, _, rfl, by go_num, by omega, Lib.hid (HM.out.next (r := true) (fun h => (nomatch h))), HP12⟩
              | false =>
                obtain ⟨r1, hr1⟩ := bool_of (lang e (l.take i))
                have HR1 := Lib.hid hr1
                clear hr1
                have hs1 : Strs wr (Under wr.heap.size) (.slice (some ⟨gR, 0, none⟩) i cR) (l.take i) := by
                  have h := strs_part (l := l) (by rw [HNR.out]; exact HP11.out.strs _ (.head _)) 0 i (by rw [HNR.out]; omega) (A' := some ⟨gR, 0, none⟩) (d := cR) (by omega) (Nat.le_refl _) (.inr rfl)
                  rwa [List.drop_zero] at h
                have HP11a := Lib.hid (HP11.out.row hs1)
                have HLS : Hid (∀ s ∈ l, s.size ≤ maxLen) := Lib.hid (by rw [HLL.out]; exact sizes_app HAS.out HBS.out)
                have HD1 := Lib.hid (regrown_any (w := wr) fun W hW => has_fix (r := r1) (HP11a.out.next hW) (.tail _ (.tail _ (.tail _ (.head _)))) HF.out (.head _) (by have h := sizes_take HLS.out 0 i; rwa [List.drop_zero] at h) (by rw [HR1.out]; simp only [HRE.out, true_and]))
                clear hs1
                cases r1 with
                | false =>
                  go_wp2
                  have k00 := cell_regrown d00
                  have k01 := cell_regrown d01
                  have k02 := cell_regrown d02
                  have k10 := cell_regrown d10
                  have k11 := cell_regrown d11
                  have k12 := cell_regrown d12
                  have k20 := cell_regrown d20
                  have k21 := cell_regrown d21
                  have k22 := cell_regrown d22
                  have k30 := cell_regrown d30
                  have k31 := cell_regrown d31
                  have k32 := cell_regrown d32
                  refine wp_region_quiet_below (by kernel_rfl) (by kernel_rfl) ?_
                  repeat (first | go_big_quiet_step (first | with_reducible exact HD1.out _ _) | quiet_step (first | with_reducible exact HD1.out _ _))
                  refine wpQuiet_nil ?_
                  intro _ hw'
                  obtain ⟨⟨dq, osq⟩, hw''⟩ := hw'
                  subst hw''
                  have HP12 := Lib.hid (HP11.out.next (below_regrown _ dq osq))
                  clear k00 k01 k02 k10 k11 k12 k20 k21 k22 k30 k31 k32
                  clear d00 d01 d02 l0 d10 d11 d12 l1 d20 d21 d22 l2 d30 d31 d32 l3
                  clear HP11
                  generalize grow (redrawn _ dq) osq = wn at *
                  obtain ⟨d00, d01, d02⟩ := HP12.out.cells (.tail _ (.tail _ (.tail _ (.head _))))
                  have l0 := cell_lt d00
                  obtain ⟨d10, d11, d12⟩ := HP12.out.cells (.tail _ (.tail _ (.head _)))
                  have l1 := cell_lt d10
                  obtain ⟨d20, d21, d22⟩ := HP12.out.cells (.tail _ (.head _))
                  have l2 := cell_lt d20
                  obtain ⟨d30, d31, d32⟩ := HP12.out.cells (.head _)
                  have l3 := cell_lt d30
                  go_wp2
                  go_roundg g
                  case measure => omega
                  case rel => exact ⟨i + 1, _, rfl, by go_num, by omega, Lib.hid (HM.out.next (r := false) (fun _ => ⟨fun h => (nomatch h), fun h => HR1.out.2 h.1⟩)), HP12⟩
                | true =>
                  obtain ⟨r2, hr2⟩ := bool_of (lang f (l.drop i))
                  have HR2 := Lib.hid hr2
                  clear hr2
                  by_cases hic : cR = i
                  · subst hic
                    have hs2 : Strs wr (Under wr.heap.size) (.slice (some ⟨gR, 0, none⟩) 0 0) (l.drop cR) := by
                      have h := strs_part (l := l) (by rw [HNR.out]; exact HP11.out.strs _ (.head _)) cR (NR - cR) (by rw [HNR.out]; omega) (A' := some ⟨gR, 0, none⟩) (d := 0) (by omega) (by omega) (.inl (by omega))
                      rw [List.take_of_length_le (by rw [List.length_drop, HNR.out]; omega)] at h
                      rwa [show NR - cR = 0 by omega] at h
                    have HP11b := Lib.hid (HP11.out.row hs2)
                    have HD2 := Lib.hid (regrown_any (w := wr) fun W hW => has_fix (r := r2) (HP11b.out.next hW) (.tail _ (.tail _ (.head _))) HFf.out (.head _) (fun s hs => HLS.out s (List.mem_of_mem_drop hs)) (by rw [HR2.out]; simp only [HRF.out, true_and]))
                    clear hs2
                    cases r2 with
                    | false =>
                      go_wp2
                      have k00 := cell_regrown d00
                      have k01 := cell_regrown d01
                      have k02 := cell_regrown d02
                      have k10 := cell_regrown d10
                      have k11 := cell_regrown d11
                      have k12 := cell_regrown d12
                      have k20 := cell_regrown d20
                      have k21 := cell_regrown d21
                      have k22 := cell_regrown d22
                      have k30 := cell_regrown d30
                      have k31 := cell_regrown d31
                      have k32 := cell_regrown d32
                      refine wp_region_quiet_below (by kernel_rfl) (by kernel_rfl) ?_
                      repeat (first | go_big_quiet_step (first | with_reducible exact HD1.out _ _ | with_reducible exact HD2.out _ _) | quiet_step (first | with_reducible exact HD1.out _ _ | with_reducible exact HD2.out _ _))
                      refine wpQuiet_nil ?_
                      intro _ hw'
                      obtain ⟨⟨dq, osq⟩, hw''⟩ := hw'
                      subst hw''
                      have HP12 := Lib.hid (HP11.out.next (below_regrown _ dq osq))
                      clear k00 k01 k02 k10 k11 k12 k20 k21 k22 k30 k31 k32
                      clear d00 d01 d02 l0 d10 d11 d12 l1 d20 d21 d22 l2 d30 d31 d32 l3
                      clear HP11
                      generalize grow (redrawn _ dq) osq = wn at *
                      obtain ⟨d00, d01, d02⟩ := HP12.out.cells (.tail _ (.tail _ (.tail _ (.head _))))
                      have l0 := cell_lt d00
                      obtain ⟨d10, d11, d12⟩ := HP12.out.cells (.tail _ (.tail _ (.head _)))
                      have l1 := cell_lt d10
                      obtain ⟨d20, d21, d22⟩ := HP12.out.cells (.tail _ (.head _))
                      have l2 := cell_lt d20
                      obtain ⟨d30, d31, d32⟩ := HP12.out.cells (.head _)
                      have l3 := cell_lt d30
                      go_wp2
                      go_roundg g
                      case measure => omega
                      case rel => exact ⟨cR + 1, _, rfl, by go_num, by omega, Lib.hid (HM.out.next (r := false) (fun _ => ⟨fun h => (nomatch h), fun h => HR2.out.2 h.2⟩)), HP12⟩
                    | true =>
                      go_wp2
                      have k00 := cell_regrown d00
                      have k01 := cell_regrown d01
                      have k02 := cell_regrown d02
                      have k10 := cell_regrown d10
                      have k11 := cell_regrown d11
                      have k12 := cell_regrown d12
                      have k20 := cell_regrown d20
                      have k21 := cell_regrown d21
                      have k22 := cell_regrown d22
                      have k30 := cell_regrown d30
                      have k31 := cell_regrown d31
                      have k32 := cell_regrown d32
                      refine wp_region_quiet_below (by kernel_rfl) (by kernel_rfl) ?_
                      repeat (first | go_big_quiet_step (first | with_reducible exact HD1.out _ _ | with_reducible exact HD2.out _ _) | quiet_step (first | with_reducible exact HD1.out _ _ | with_reducible exact HD2.out _ _))
                      refine wpQuiet_nil ?_
                      intro _ hw'
                      obtain ⟨⟨dq, osq⟩, hw''⟩ := hw'
                      subst hw''
                      have HP12 := Lib.hid (HP11.out.next (below_regrown _ dq osq))
                      clear k00 k01 k02 k10 k11 k12 k20 k21 k22 k30 k31 k32
                      clear d00 d01 d02 l0 d10 d11 d12 l1 d20 d21 d22 l2 d30 d31 d32 l3
                      clear HP11
                      generalize grow (redrawn _ dq) osq = wn at *
                      obtain ⟨d00, d01, d02⟩ := HP12.out.cells (.tail _ (.tail _ (.tail _ (.head _))))
                      have l0 := cell_lt d00
                      obtain ⟨d10, d11, d12⟩ := HP12.out.cells (.tail _ (.tail _ (.head _)))
                      have l1 := cell_lt d10
                      obtain ⟨d20, d21, d22⟩ := HP12.out.cells (.tail _ (.head _))
                      have l2 := cell_lt d20
                      obtain ⟨d30, d31, d32⟩ := HP12.out.cells (.head _)
                      have l3 := cell_lt d30
                      go_wp2
                      go_roundg g
                      case measure => omega
                      case rel => exact ⟨cR + 1, _, rfl, by go_num, by omega, Lib.hid (HM.out.next (r := true) (fun _ => ⟨fun _ => ⟨HR1.out.1 (by simp), HR2.out.1 (by simp)⟩, fun _ => rfl⟩)), HP12⟩
                  · have hic' : ¬ (cR : Int) = (i : Int) := by omega
                    have hs2 : Strs wr (Under wr.heap.size) (.slice (some ⟨gR, i, none⟩) (NR - i) (cR - i)) (l.drop i) := by
                      have h := strs_part (l := l) (by rw [HNR.out]; exact HP11.out.strs _ (.head _)) i (NR - i) (by rw [HNR.out]; omega) (A' := some ⟨gR, i, none⟩) (d := (cR - i)) (by omega) (by omega) (.inr rfl)
                      rw [List.take_of_length_le (by rw [List.length_drop, HNR.out]; omega)] at h
                      exact h
                    have HP11b := Lib.hid (HP11.out.row hs2)
                    have HD2 := Lib.hid (regrown_any (w := wr) fun W hW => has_fix (r := r2) (HP11b.out.next hW) (.tail _ (.tail _ (.head _))) HFf.out (.head _) (fun s hs => HLS.out s (List.mem_of_mem_drop hs)) (by rw [HR2.out]; simp only [HRF.out, true_and]))
                    clear hs2
                    cases r2 with
                    | false =>
                      go_wp2
                      have k00 := cell_regrown d00
                      have k01 := cell_regrown d01
                      have k02 := cell_regrown d02
                      have k10 := cell_regrown d10
                      have k11 := cell_regrown d11
                      have k12 := cell_regrown d12
                      have k20 := cell_regrown d20
                      have k21 := cell_regrown d21
                      have k22 := cell_regrown d22
                      have k30 := cell_regrown d30
                      have k31 := cell_regrown d31
                      have k32 := cell_regrown d32
                      refine wp_region_quiet_below (by kernel_rfl) (by kernel_rfl) ?_
                      repeat (first | go_big_quiet_step (first | with_reducible exact HD1.out _ _ | with_reducible exact HD2.out _ _) | quiet_step (first | with_reducible exact HD1.out _ _ | with_reducible exact HD2.out _ _))
                      refine wpQuiet_nil ?_
                      intro _ hw'
                      obtain ⟨⟨dq, osq⟩, hw''⟩ := hw'
                      subst hw''
                      have HP12 := Lib.hid (HP11.out.next (below_regrown _ dq osq))
                      clear k00 k01 k02 k10 k11 k12 k20 k21 k22 k30 k31 k32
                      clear d00 d01 d02 l0 d10 d11 d12 l1 d20 d21 d22 l2 d30 d31 d32 l3
                      clear HP11
                      generalize grow (redrawn _ dq) osq = wn at *
                      obtain ⟨d00, d01, d02⟩ := HP12.out.cells (.tail _ (.tail _ (.tail _ (.head _))))
                      have l0 := cell_lt d00
                      obtain ⟨d10, d11, d12⟩ := HP12.out.cells (.tail _ (.tail _ (.head _)))
                      have l1 := cell_lt d10
                      obtain ⟨d20, d21, d22⟩ := HP12.out.cells (.tail _ (.head _))
                      have l2 := cell_lt d20
                      obtain ⟨d30, d31, d32⟩ := HP12.out.cells (.head _)
                      have l3 := cell_lt d30
                      go_wp2
                      go_roundg g
                      case measure => omega
                      case rel => exact ⟨i + 1, _, rfl, by go_num, by omega, Lib.hid (HM.out.next (r := false) (fun _ => ⟨fun h => (nomatch h), fun h => HR2.out.2 h.2⟩)), HP12⟩
                    | true =>
                      go_wp2
                      have k00 := cell_regrown d00
                      have k01 := cell_regrown d01
                      have k02 := cell_regrown d02
                      have k10 := cell_regrown d10
                      have k11 := cell_regrown d11
                      have k12 := cell_regrown d12
                      have k20 := cell_regrown d20
                      have k21 := cell_regrown d21
                      have k22 := cell_regrown d22
                      have k30 := cell_regrown d30
                      have k31 := cell_regrown d31
                      have k32 := cell_regrown d32
                      refine wp_region_quiet_below (by kernel_rfl) (by kernel_rfl) ?_
                      repeat (first | go_big_quiet_step (first | with_reducible exact HD1.out _ _ | with_reducible exact HD2.out _ _) | quiet_step (first | with_reducible exact HD1.out _ _ | with_reducible exact HD2.out _ _))
                      refine wpQuiet_nil ?_
                      intro _ hw'
                      obtain ⟨⟨dq, osq⟩, hw''⟩ := hw'
                      subst hw''
                      have HP12 := Lib.hid (HP11.out.next (below_regrown _ dq osq))
                      clear k00 k01 k02 k10 k11 k12 k20 k21 k22 k30 k31 k32
                      clear d00 d01 d02 l0 d10 d11 d12 l1 d20 d21 d22 l2 d30 d31 d32 l3
                      clear HP11
                      generalize grow (redrawn _ dq) osq = wn at *
                      obtain ⟨d00, d01, d02⟩ := HP12.out.cells (.tail _ (.tail _ (.tail _ (.head _))))
                      have l0 := cell_lt d00
                      obtain ⟨d10, d11, d12⟩ := HP12.out.cells (.tail _ (.tail _ (.head _)))
                      have l1 := cell_lt d10
                      obtain ⟨d20, d21, d22⟩ := HP12.out.cells (.tail _ (.head _))
                      have l2 := cell_lt d20
                      obtain ⟨d30, d31, d32⟩ := HP12.out.cells (.head _)
                      have l3 := cell_lt d30
                      go_wp2
                      go_roundg g
                      case measure => omega
                      case rel => exact ⟨i + 1, _, rfl, by go_num, by omega, Lib.hid (HM.out.next (r := true) (fun _ => ⟨fun _ => ⟨HR1.out.1 (by simp), HR2.out.1 (by simp)⟩, fun _ => rfl⟩)), HP12⟩
            · have hii : i = NR + 1 := by omega
              subst hii
              have HMM : Hid (m = true ↔ rightE okN (.mk 115 ByteArray.empty [e, f]) = true ∧ lang (.mk 115 ByteArray.empty [e, f]) l) := Lib.hid (by
                have h := HM.out
                unfold Met at h
                rw [h]
                simp only [HRS.out, true_and, lang_seq2, HNR.out, Nat.lt_succ_iff])
              have HLS : Hid (∀ s ∈ l, s.size ≤ maxLen) := Lib.hid (by rw [HLL.out]; exact sizes_app HAS.out HBS.out)
              go_wp2_with fail
              refine (has_fix (r := m) HP11.out (.head _) HFS.out (.head _) HLS.out HMM.out).mono ?_
              rintro x W13 ⟨rfl, hb13⟩
              have HP13 := Lib.hid (HP11.out.next hb13)
              clear d00 d01 d02 l0 d10 d11 d12 l1 d20 d21 d22 l2 d30 d31 d32 l3 hb13
              go_wp2
              go_ret
              exact ⟨ret_bool (by simp), HP13.out.below⟩
end Go.Proofs.YtldmimekmjmkgaaDoor
