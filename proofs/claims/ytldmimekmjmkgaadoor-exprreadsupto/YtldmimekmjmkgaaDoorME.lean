/-
  What the statements' walks want: rows of strings of the call's own, expressions in boxes, what lies in memory at each step.
  ExprStars walked: whatever expression and rows are handed in, it answers true.
  ExprGrows walked: whatever expression and rows are handed in, it answers true.
-/
import Derived.Test.YtldmimekmjmkgaaDoorGh
namespace Go.Proofs.YtldmimekmjmkgaaDoor
open Go.RowKit Go.Sort Go.Maps Go.WideMaps

/-- A row of strings of the call's own. -/
def SRowE (w : World) (base : Nat) (v : Value) (l : List ByteArray) : Prop := w.ownsRow base 9 1 v l.length (l.map Value.string)
theorem SRowE.made (w : World) {base : Nat} (hb : base ≤ w.heap.size) : SRowE (w.alloc (.cells #[] 9)) base (.slice (some ⟨w.heap.size, 0, none⟩) 0 0) [] := World.ownsRow_made w #[] 0 hb (Nat.zero_le _) rfl
theorem SRowE.strs {w : World} {base : Nat} {v : Value} {l : List ByteArray} (h : SRowE w base v l) : Strs w (Under w.heap.size) v l := by
  have hc := fun g hg => World.ownsRow.cells h (g := g) hg
  have hlt := World.ownsRow.lt h
  obtain ⟨_, ⟨hv, h0⟩ | ⟨g, cap, cur, hv, _, _, hn, hcap, _⟩⟩ := h
  · subst hv
    have : l = [] := List.eq_nil_of_length_eq_zero h0
    subst this
    exact strs_no w _
  · subst hv
    refine ⟨_, cap, rfl, hn, hcap, .inr ⟨g, 0, rfl, (hlt g rfl).2, fun i s hi => ?_⟩⟩
    have := hc g rfl i (.string s) (by rw [List.getElem?_map, hi]; rfl)
    rwa [add_cell] at this
theorem run_append_strsE {w : World} {base : Nat} {S : Nat → Prop} {v x : Value} {l l' : List ByteArray} (ty : TypeId) (hown : SRowE w base v l) (hsrc : Strs w S x l')
    (hn : l.length + l'.length ≤ 1000000) (hbase : base ≤ w.heap.size) :
    ∃ v' w', (Builtin.append_ #[25, 25] ty #[v, x]).run Tryd.prog w = .ok v' w' ∧ SRowE w' base v' (l ++ l') ∧ w.grownBy w' v.ownBlock ∧ (v'.ownBlock = v.ownBlock ∨ v'.ownBlock = some w.heap.size) := by
  obtain ⟨A, c, rfl, _, _, hsrc⟩ := hsrc
  obtain ⟨i, hi, hz0, hz1, hz2⟩ := info_parts strE_info
  cases A with
  | none =>
    have hl : l' = [] := by
      rcases hsrc with h | ⟨b, o, h, _⟩
      · exact h
      · cases h
    subst hl
    refine ⟨v, w, ?_, by simpa using hown, ⟨rfl, rfl, rfl, Nat.le_refl _, fun _ _ _ => rfl⟩, .inl rfl⟩
    rcases hown.2 with ⟨rfl, h0⟩ | ⟨g, cap, cur, rfl, _, _, hnc, _⟩
    · simp [Builtin.append_, run_underlying Tryd.underlying25, sizeOf, typeInfo, hi, Builtin.lenOf, Builtin.firstCells]
    · simp [Builtin.append_, run_underlying Tryd.underlying25, sizeOf, typeInfo, hi, Builtin.lenOf, Builtin.firstCells, hnc, storeCells]
  | some a =>
    have ha : ∀ j u, (l'.map Value.string)[j]? = some u → w.cell? (a.add j) = some u := by
      rcases hsrc with h | ⟨b, o, h, _, hx⟩
      · subst h; intro j u h; simp at h
      · injection h with h; subst h
        intro j u hj
        rw [List.getElem?_map] at hj
        cases hq : l'[j]? with
        | none => rw [hq] at hj; simp at hj
        | some s =>
          rw [hq] at hj
          simp only [Option.map_some, Option.some.injEq] at hj
          subst hj
          rw [add_cell]
          exact hx j s hq
    have hone : ∀ u ∈ l'.map Value.string, u.oneCell' = true := by
      intro u hu
      obtain ⟨t, _, ht⟩ := List.mem_map.1 hu
      subst ht; rfl
    obtain ⟨v', w', hr, h1, h2, _, h4⟩ := run_append_own_at (P := Tryd.prog) w base 25 ty 9 i _ 1 16 Tryd.underlying25 hi hz0 hz1 hz2 rfl (by omega) v l.length _ hown a l'.length c _ (by simp) ha hone (by unfold maxLen; omega) (by omega) hbase
    exact ⟨v', w', hr, by unfold SRowE; rw [List.length_append, List.map_append]; exact h1, h2, h4⟩
section
variable {w : World} {ops : Array Oper} {rest : List Oper} {o : Oper} {a : Act} {Q : Exit → Act → World → Prop}
theorem wpList_append_strsE (hgd : o.guard = none) (s x : Operand) (ho : o.op = .call { callee := .builtin .append, args := #[s, x], argTypes := #[25, 25] })
    (base : Nat) (S : Nat → Prop) (v u : Value) (l l' : List ByteArray) (hs : a.eval s = v) (hx : a.eval x = u) (hown : SRowE w base v l) (hsrc : Strs w S u l')
    (hn : l.length + l'.length ≤ 1000000) (hbase : base ≤ w.heap.size)
    (h : ∀ v' w', SRowE w' base v' (l ++ l') → w.grownBy w' v.ownBlock → (v'.ownBlock = v.ownBlock ∨ v'.ownBlock = some w.heap.size) → wpList Tryd.prog ops Q rest (a.put o.dst v') w') : wpList Tryd.prog ops Q (o :: rest) a w := by
  refine wpList_plain hgd fun _ hK => ?_
  obtain ⟨v', w', hr, h1, h2, h3⟩ := run_append_strsE o.type hown hsrc hn hbase
  unfold Oper.wp execOp
  simp only [ho, resolve, invoke, builtin, Sem.run_bind, Sem.run_pure, Result.andThen_ok, List.map_toArray, List.map_cons, List.map_nil, hs, hx, hr]
  exact hK _ _ (h v' w' h1 h2 h3)
end
/-- An append to a row of the call's own leaves what lay ahead of it. -/
theorem below_grown {B : Nat} {w a b : World} {row : Option Nat} (h : Below B w a) (hg : a.grownBy b row) (hrow : ∀ k, row = some k → B ≤ k) (hB : B ≤ a.heap.size) : Below B w b :=
  ⟨hg.os.trans h.os, hg.tape.trans h.tape, hg.output.trans h.output, Nat.le_trans h.size hg.size, fun k hk => (hg.block k (by omega) (fun e => by have := hrow k e.symm; omega)).trans (h.block k hk)⟩

/-- Where an expression lies. -/
structure Slot where
  g : Nat
  e : Ex
  A : Option Addr
  k : Nat
  c : Nat
/-- What lies in memory: expressions in boxes, rows of strings, the library's table. -/
structure Pack (w W : World) (es : List Slot) (ss : List (Value × List ByteArray)) : Prop where
  below : Below w.heap.size w W
  tab : TabB W
  ex : ∀ x ∈ es, Lies w W x.g x.e x.A x.k x.c
  strs : ∀ y ∈ ss, Strs W (Under W.heap.size) y.1 y.2
theorem Pack.next {w W W' : World} {es : List Slot} {ss : List (Value × List ByteArray)} (h : Pack w W es ss) (hb : Below W.heap.size W W') : Pack w W' es ss :=
  ⟨belowNext h.below hb, h.tab.below hb, fun x hx => (h.ex x hx).next hb, fun y hy => (h.strs y hy).keep (fun _ hb' => Nat.lt_of_lt_of_le hb' hb.size) fun b hb' => hb.block b hb'⟩
theorem Pack.alloc {w W : World} {es : List Slot} {ss : List (Value × List ByteArray)} (h : Pack w W es ss) (o : Obj) : Pack w (W.alloc o) es ss := h.next ((Below.refl _ _).alloc (Nat.le_refl _) _)
theorem Pack.add {w W : World} {es : List Slot} {ss : List (Value × List ByteArray)} (h : Pack w W es ss) {x : Slot} (hx : Lies w W x.g x.e x.A x.k x.c) : Pack w W (x :: es) ss :=
  ⟨h.below, h.tab, fun y hy => by
    rcases List.mem_cons.1 hy with rfl | hy
    · exact hx
    · exact h.ex y hy, h.strs⟩
theorem Pack.row {w W : World} {es : List Slot} {ss : List (Value × List ByteArray)} (h : Pack w W es ss) {v : Value} {l : List ByteArray} (hx : Strs W (Under W.heap.size) v l) : Pack w W es ((v, l) :: ss) :=
  ⟨h.below, h.tab, h.ex, fun y hy => by
    rcases List.mem_cons.1 hy with rfl | hy
    · exact hx
    · exact h.strs y hy⟩
theorem Pack.cells {w W : World} {es : List Slot} {ss : List (Value × List ByteArray)} (h : Pack w W es ss) {x : Slot} (hx : x ∈ es) : W.cell? ⟨x.g, 0, none⟩ = some (.int .u8 (x.e.op : Int)) ∧ W.cell? ⟨x.g, 1, none⟩ = some (.string x.e.name) ∧ W.cell? ⟨x.g, 2, none⟩ = some (.slice x.A x.k x.c) := (h.ex x hx).cells
/-- One alone in a row, in a new box. -/
theorem Pack.one {w W : World} {es : List Slot} {ss : List (Value × List ByteArray)} (h : Pack w W es ss) {x : Slot} (hx : x ∈ es) (o : Nat) {g : Nat} (hg : W.heap.size = g) :
    Pack w ((W.alloc (.cells #[.int .u8 (x.e.op : Int), .string x.e.name, .slice x.A x.k x.c] 24)).alloc (.cells #[.int .u8 (o : Int), .string ⟨#[]⟩, .slice (some ⟨g, 0, none⟩) 1 1] 24))
      (⟨g + 1, .mk o ByteArray.empty [x.e], some ⟨g, 0, none⟩, 1, 1⟩ :: es) ss := by
  subst hg
  have h1 := h.alloc (.cells #[.int .u8 (x.e.op : Int), .string x.e.name, .slice x.A x.k x.c] 24)
  have hk : Exs (W.alloc (.cells #[.int .u8 (x.e.op : Int), .string x.e.name, .slice x.A x.k x.c] 24)) (Under (W.heap.size + 1)) (.slice (some ⟨W.heap.size, 0, none⟩) 1 1) [x.e] :=
    ex_row (heap_new _ _) (Nat.lt_succ_self _) ((h1.ex x hx).kids.keep (fun b hb => by have : b < _ := hb; simp at this; exact this) fun _ _ => rfl)
  have h2 := (h1.alloc (.cells #[.int .u8 (o : Int), .string ⟨#[]⟩, .slice (some ⟨W.heap.size, 0, none⟩) 1 1] 24)).add (x := ⟨(W.alloc (.cells #[.int .u8 (x.e.op : Int), .string x.e.name, .slice x.A x.k x.c] 24)).heap.size, .mk o ByteArray.empty [x.e], some ⟨W.heap.size, 0, none⟩, 1, 1⟩) (Lies.new (e := .mk o ByteArray.empty [x.e]) h1.below hk fun b hb => by have : b < _ := hb; simp; omega)
  have e : (W.alloc (.cells #[.int .u8 (x.e.op : Int), .string x.e.name, .slice x.A x.k x.c] 24)).heap.size = W.heap.size + 1 := by simp
  rwa [e] at h2

theorem lang_star (e : Ex) (w : List ByteArray) : lang (.mk 42 ByteArray.empty [e]) w ↔ lStar (lang e) w := by
  rw [lang]; simp [langOne]
theorem lang_plus (e : Ex) (w : List ByteArray) : lang (.mk 43 ByteArray.empty [e]) w ↔ lCat (lang e) (lStar (lang e)) w := by
  rw [lang]; simp [langOne]
theorem lang_opt (e : Ex) (w : List ByteArray) : lang (.mk 63 ByteArray.empty [e]) w ↔ w = [] ∨ lang e w := by
  rw [lang]; simp [langOne]
theorem lStar_or {A : Rws} {w : List ByteArray} : lStar A w ↔ w = [] ∨ lCat A (lStar A) w := by
  constructor
  · intro h
    cases h with
    | nil => exact .inl rfl
    | app hu hv => exact .inr ⟨_, _, rfl, hu, hv⟩
  · rintro (rfl | ⟨u, v, rfl, hu, hv⟩)
    · exact .nil
    · exact .app hu hv
end Go.Proofs.YtldmimekmjmkgaaDoor

namespace Go.Proofs.YtldmimekmjmkgaaDoor
open Go.RowKit Go.Sort Go.Maps Go.WideMaps

theorem has_pack {w W : World} {es : List Slot} {ss : List (Value × List ByteArray)} (h : Pack w W es ss) {x : Slot} (hx : x ∈ es) (hf : x.e.fits) {y : Value × List ByteArray} (hv : y ∈ ss) (hs : ∀ s ∈ y.2, s.size ≤ maxLen) :
    Calls Tryd.prog 24 #[.agg #[.int .u8 (x.e.op : Int), .string x.e.name, .slice x.A x.k x.c], y.1] W (HasE W x.e y.2) :=
  hasE_any x.e x.A x.k x.c y.1 y.2 W hf (h.ex x hx).kids h.tab (h.strs y hv) hs
theorem right_pack {w W : World} {es : List Slot} {ss : List (Value × List ByteArray)} (h : Pack w W es ss) {x : Slot} (hx : x ∈ es) (hf : x.e.fits) :
    Calls Tryd.prog 16 #[.agg #[.int .u8 (x.e.op : Int), .string x.e.name, .slice x.A x.k x.c]] W fun e' w' => e' = .returned (.bool (rightE okN x.e)) ∧ Below W.heap.size W w' :=
  right_ok x.e x.A x.k x.c W hf (h.ex x hx).kids
theorem fits_one {o : Nat} (ho : o < 256) {e : Ex} (he : e.fits) : (Ex.mk o ByteArray.empty [e]).fits := ⟨ho, empty_len, he, trivial⟩
theorem sizes_app {a b : List ByteArray} (ha : ∀ s ∈ a, s.size ≤ maxLen) (hb : ∀ s ∈ b, s.size ≤ maxLen) : ∀ s ∈ a ++ b, s.size ≤ maxLen := fun s hs => (List.mem_append.1 hs).elim (ha s) (hb s)
theorem sizes_no : ∀ s ∈ ([] : List ByteArray), s.size ≤ maxLen := fun s hs => by cases hs
theorem right_star {e : Ex} (h : rightE okN (.mk 42 ByteArray.empty [e]) = true) : rightE okN e = true ∧ rightE okN (.mk 43 ByteArray.empty [e]) = true ∧ rightE okN (.mk 63 ByteArray.empty [e]) = true :=
  ⟨right_kid h (List.mem_cons_self ..), (right_rep (by rfl) (by rfl)).trans h, (right_rep (by rfl) (by rfl)).trans h⟩
/-- a, and b behind it, in a row of the call's own. -/
theorem Pack.both {w W W' : World} {es : List Slot} {ss : List (Value × List ByteArray)} (h : Pack w W es ss) (hb : Below W.heap.size W W') {base : Nat} {v : Value} {l : List ByteArray} (hr : SRowE W' base v l) : Pack w W' es ((v, l) :: ss) :=
  (h.next hb).row hr.strs

set_option maxRecDepth 100000 in
set_option maxHeartbeats 8000000 in
theorem exprStars_walk (e : Ex) (A : Option Addr) (k c : Nat) (va vb : Value) (a b : List ByteArray) (w : World) (he : e.fits) (hl : Exs w (Under w.heap.size) (.slice A k c) e.kids) (hT : TabB w) (ha : Strs w (Under w.heap.size) va a) (hb : Strs w (Under w.heap.size) vb b)
    (has : ∀ s ∈ a, s.size ≤ maxLen) (hbs : ∀ s ∈ b, s.size ≤ maxLen) (hal : a.length ≤ 8796093022208) (hbl : b.length ≤ 8796093022208) :
    Calls Tryd.prog 10 #[.agg #[.int .u8 e.op, .string e.name, .slice A k c], va, vb] w fun x w' => x = .returned (.bool true) ∧ Below w.heap.size w w' := by
  have HP0 : Hid (Pack w w [] [(va, a), (vb, b)]) := Lib.hid ⟨Below.refl _ _, hT, fun _ h => (nomatch h), fun y hy => by
    rcases List.mem_cons.1 hy with rfl | hy
    · exact ha
    · rcases List.mem_cons.1 hy with rfl | hy
      · exact hb
      · cases hy⟩
  have HP1 : Hid (Pack w (w.alloc (.cells #[.int .u8 e.op, .string e.name, .slice A k c] 24)) [⟨w.heap.size, e, A, k, c⟩] [(va, a), (vb, b)]) := Lib.hid ((HP0.out.alloc _).add (Lies.new (Below.refl _ _) hl fun _ h => h))
  obtain ⟨Aa, ca, rfl, hca, hcma, _⟩ := id ha
  obtain ⟨Ab, cb, rfl, hcb, hcmb, _⟩ := id hb
  generalize hNa : a.length = Na at *
  generalize hNb : b.length = Nb at *
  have HNa := Lib.hid hNa
  have HNb := Lib.hid hNb
  have HF := Lib.hid he
  have HAS := Lib.hid has
  have HBS := Lib.hid hbs
  clear hl hT ha hb he has hbs HP0 hNa hNb
  unfold maxLen at hcma hcmb
  go_enter Tryd.func10, Tryd.ntmps10
  go_wp2_with fail
  refine (shown6_any _ HP1.out.tab).mono ?_
  rintro x W1 ⟨rfl, hb1⟩
  have HP2 := Lib.hid (HP1.out.next hb1)
  clear hb1 HP1
  obtain ⟨d00, d01, d02⟩ := HP2.out.cells (.head _)
  go_wp2_with fail
  refine (light6_any e A k c 100 W1 HF.out (HP2.out.ex _ (.head _)).kids (by decide) (by decide)).mono ?_
  rintro x W2 ⟨⟨q, rfl, hq0, hq1⟩, hb2⟩
  have HP3 := Lib.hid (HP2.out.next hb2)
  clear d00 d01 d02 hb2 HP2
  obtain ⟨d00, d01, d02⟩ := HP3.out.cells (.head _)
  have l0 := cell_lt d00
  by_cases hq : q < 0
  · go_wp2
    go_ret
    exact ⟨rfl, HP3.out.below⟩
  by_cases hlen : 30 < (Na : Int) + (Nb : Int)
  · go_wp2
    go_ret
    exact ⟨rfl, HP3.out.below⟩
  have HP4 : Hid (Pack w ((((W2.alloc (.cells #[.int .u8 e.op, .string e.name, .slice A k c] 24)).alloc (.cells #[.int .u8 42, .string ⟨#[]⟩, .slice (some ⟨W2.heap.size, 0, none⟩) 1 1] 24)).alloc (.cells #[.int .u8 e.op, .string e.name, .slice A k c] 24)).alloc (.cells #[.int .u8 43, .string ⟨#[]⟩, .slice (some ⟨W2.heap.size + 1 + 1, 0, none⟩) 1 1] 24)) [⟨W2.heap.size + 1 + 1 + 1, .mk 43 ByteArray.empty [e], some ⟨W2.heap.size + 1 + 1, 0, none⟩, 1, 1⟩, ⟨W2.heap.size + 1, .mk 42 ByteArray.empty [e], some ⟨W2.heap.size, 0, none⟩, 1, 1⟩, ⟨w.heap.size, e, A, k, c⟩] [(.slice Aa Na ca, a), (.slice Ab Nb cb, b)]) := Lib.hid ((HP3.out.one (.head _) 42 rfl).one (g := W2.heap.size + 1 + 1) (.tail _ (.head _)) 43 (by simp))
  have HS3 : Hid (((((W2.alloc (.cells #[.int .u8 e.op, .string e.name, .slice A k c] 24)).alloc (.cells #[.int .u8 42, .string ⟨#[]⟩, .slice (some ⟨W2.heap.size, 0, none⟩) 1 1] 24)).alloc (.cells #[.int .u8 e.op, .string e.name, .slice A k c] 24)).alloc (.cells #[.int .u8 43, .string ⟨#[]⟩, .slice (some ⟨W2.heap.size + 1 + 1, 0, none⟩) 1 1] 24)).heap.size = W2.heap.size + 4) := Lib.hid (by simp)
  go_wp2_with fail
  generalize (((W2.alloc (.cells #[.int .u8 e.op, .string e.name, .slice A k c] 24)).alloc (.cells #[.int .u8 42, .string ⟨#[]⟩, .slice (some ⟨W2.heap.size, 0, none⟩) 1 1] 24)).alloc (.cells #[.int .u8 e.op, .string e.name, .slice A k c] 24)).alloc (.cells #[.int .u8 43, .string ⟨#[]⟩, .slice (some ⟨W2.heap.size + 1 + 1, 0, none⟩) 1 1] 24) = W3 at *
  have HF42 : Hid (Ex.mk 42 ByteArray.empty [e]).fits := Lib.hid (fits_one (by decide) HF.out)
  have HF43 : Hid (Ex.mk 43 ByteArray.empty [e]).fits := Lib.hid (fits_one (by decide) HF.out)
  clear d00 d01 d02 l0 HP3
  refine (right_pack HP4.out (.tail _ (.head _)) HF42.out).mono ?_
  rintro x W4 ⟨rfl, hb4⟩
  have HP5 := Lib.hid (HP4.out.next hb4)
  clear hb4 HP4
  simp only
  generalize hrs : rightE okN (.mk 42 ByteArray.empty [e]) = rs at *
  cases rs with
  | false =>
    go_wp2
    go_ret
    exact ⟨rfl, HP5.out.below⟩
  | true =>
    have HRS := Lib.hid hrs
    clear hrs HS3
    go_wp2_with (first
      | (at_builtin; refine wpList_append_strsE rfl (.tmp 37) (.tmp 38) rfl W4.heap.size (Under W4.heap.size) (.slice (some ⟨W4.heap.size, 0, none⟩) 0 0) (.slice Aa Na ca) [] a rfl rfl (SRowE.made W4 (Nat.le_refl _)) ((HP5.out.strs _ (.head _)).below ((Below.refl _ _).alloc (Nat.le_refl _) _)) (by rw [HNa.out]; simp; omega) (by simp) ?_; intro v5 W5 ho5 hg5 hb5
         have HB5 : Hid (Below W4.heap.size W4 W5) := Lib.hid (below_grown ((Below.refl _ _).alloc (Nat.le_refl _) _) hg5 (fun k hk => by rw [← Option.some.inj hk]; exact Nat.le_refl _) (by simp))
         have HO5 : Hid (SRowE W5 W4.heap.size v5 a) := Lib.hid ho5
         clear ho5 hg5 hb5)
      | (at_builtin; refine wpList_append_strsE rfl (.tmp 39) (.tmp 40) rfl W4.heap.size (Under W4.heap.size) v5 (.slice Ab Nb cb) a b rfl rfl HO5.out ((HP5.out.strs _ (.tail _ (.head _))).below HB5.out) (by rw [HNa.out, HNb.out]; omega) HB5.out.size ?_; intro v6 W6 ho6 hg6 hb6
         have HB6 : Hid (Below W4.heap.size W4 W6) := Lib.hid (below_grown HB5.out hg6 (fun k hk => (World.ownsRow.lt HO5.out k hk).1) HB5.out.size)
         have HP6 := Lib.hid (HP5.out.both HB6.out ho6)
         clear ho6 hg6 hb6 HB6 HB5 HO5 HP5
         obtain ⟨d00, d01, d02⟩ := HP6.out.cells (.tail _ (.tail _ (.head _)))
         have l0 := cell_lt d00
         obtain ⟨d10, d11, d12⟩ := HP6.out.cells (.tail _ (.head _))
         have l1 := cell_lt d10
         obtain ⟨d20, d21, d22⟩ := HP6.out.cells (.head _)
         have l2 := cell_lt d20)
      | fail)
    skip
    refine (has_pack HP6.out (.tail _ (.tail _ (.head _))) HF.out (.tail _ (.head _)) HAS.out).mono ?_
    rintro x W1 ⟨⟨r1, rfl, hr1⟩, hb1⟩
    have HR1 := Lib.hid hr1
    have HK1 := Lib.hid (HP6.out.next hb1)
    clear d00 d01 d02 l0 d10 d11 d12 l1 d20 d21 d22 l2
    clear hb1 hr1 HP6
    obtain ⟨d00, d01, d02⟩ := HK1.out.cells (.tail _ (.tail _ (.head _)))
    have l0 := cell_lt d00
    obtain ⟨d10, d11, d12⟩ := HK1.out.cells (.tail _ (.head _))
    have l1 := cell_lt d10
    obtain ⟨d20, d21, d22⟩ := HK1.out.cells (.head _)
    have l2 := cell_lt d20
    cases r1 with
    | true =>
      have HA1 := Lib.hid (HR1.out.1 rfl)
      go_wp2_with fail
      refine (has_pack HK1.out (.tail _ (.head _)) HF42.out (.tail _ (.tail _ (.head _))) HBS.out).mono ?_
      rintro x W2 ⟨⟨r2, rfl, hr2⟩, hb2⟩
      have HR2 := Lib.hid hr2
      have HK2 := Lib.hid (HK1.out.next hb2)
      clear d00 d01 d02 l0 d10 d11 d12 l1 d20 d21 d22 l2
      clear hb2 hr2 HK1
      obtain ⟨d00, d01, d02⟩ := HK2.out.cells (.tail _ (.tail _ (.head _)))
      have l0 := cell_lt d00
      obtain ⟨d10, d11, d12⟩ := HK2.out.cells (.tail _ (.head _))
      have l1 := cell_lt d10
      obtain ⟨d20, d21, d22⟩ := HK2.out.cells (.head _)
      have l2 := cell_lt d20
      cases r2 with
      | true =>
        have HA2 := Lib.hid (HR2.out.1 rfl)
        go_wp2_with fail
        refine (has_pack HK2.out (.tail _ (.head _)) HF42.out (.head _) (sizes_app HAS.out HBS.out)).mono ?_
        rintro x W3 ⟨⟨r3, rfl, hr3⟩, hb3⟩
        have HR3 := Lib.hid hr3
        have HK3 := Lib.hid (HK2.out.next hb3)
        clear d00 d01 d02 l0 d10 d11 d12 l1 d20 d21 d22 l2
        clear hb3 hr3 HK2
        obtain ⟨d00, d01, d02⟩ := HK3.out.cells (.tail _ (.tail _ (.head _)))
        have l0 := cell_lt d00
        obtain ⟨d10, d11, d12⟩ := HK3.out.cells (.tail _ (.head _))
        have l1 := cell_lt d10
        obtain ⟨d20, d21, d22⟩ := HK3.out.cells (.head _)
        have l2 := cell_lt d20
        obtain rfl : r3 = true := HR3.out.2 ⟨HRS.out, (lang_star _ _).2 (.app HA1.out.2 ((lang_star _ _).1 HA2.out.2))⟩
        go_wp2_with fail
        refine (has_pack HK3.out (.head _) HF43.out (.head _) (sizes_app HAS.out HBS.out)).mono ?_
        rintro x W4 ⟨⟨r4, rfl, hr4⟩, hb4⟩
        have HR4 := Lib.hid hr4
        have HK4 := Lib.hid (HK3.out.next hb4)
        clear d00 d01 d02 l0 d10 d11 d12 l1 d20 d21 d22 l2
        clear hb4 hr4 HK3
        obtain ⟨d00, d01, d02⟩ := HK4.out.cells (.tail _ (.tail _ (.head _)))
        have l0 := cell_lt d00
        obtain ⟨d10, d11, d12⟩ := HK4.out.cells (.tail _ (.head _))
        have l1 := cell_lt d10
        obtain ⟨d20, d21, d22⟩ := HK4.out.cells (.head _)
        have l2 := cell_lt d20
        obtain rfl : r4 = true := HR4.out.2 ⟨(right_star HRS.out).2.1, (lang_plus _ _).2 ⟨_, _, rfl, HA1.out.2, (lang_star _ _).1 HA2.out.2⟩⟩
        go_wp2_with fail
        refine (has_pack HK4.out (.tail _ (.head _)) HF42.out (.tail _ (.head _)) HAS.out).mono ?_
        rintro x W5 ⟨⟨r5, rfl, hr5⟩, hb5⟩
        have HR5 := Lib.hid hr5
        have HK5 := Lib.hid (HK4.out.next hb5)
        clear d00 d01 d02 l0 d10 d11 d12 l1 d20 d21 d22 l2
        clear hb5 hr5 HK4
        obtain ⟨d00, d01, d02⟩ := HK5.out.cells (.tail _ (.tail _ (.head _)))
        have l0 := cell_lt d00
        obtain ⟨d10, d11, d12⟩ := HK5.out.cells (.tail _ (.head _))
        have l1 := cell_lt d10
        obtain ⟨d20, d21, d22⟩ := HK5.out.cells (.head _)
        have l2 := cell_lt d20
        by_cases hn : Na = 0
        · subst hn
          have ha0 : a = [] := List.eq_nil_of_length_eq_zero HNa.out
          obtain rfl : r5 = true := HR5.out.2 ⟨HRS.out, (lang_star _ _).2 (by rw [ha0]; exact .nil)⟩
          clear ha0
          go_wp2_with fail
          refine (has_pack (y := (.slice none 0 0, [])) (HK5.out.row (strs_no _ _)) (.tail _ (.head _)) HF42.out (.head _) sizes_no).mono ?_
          rintro x W6 ⟨⟨r6, rfl, hr6⟩, hb6⟩
          have HR6 := Lib.hid hr6
          have HK6 := Lib.hid (HK5.out.next hb6)
          clear d00 d01 d02 l0 d10 d11 d12 l1 d20 d21 d22 l2
          clear hb6 hr6 HK5
          obtain ⟨d00, d01, d02⟩ := HK6.out.cells (.tail _ (.tail _ (.head _)))
          have l0 := cell_lt d00
          obtain ⟨d10, d11, d12⟩ := HK6.out.cells (.tail _ (.head _))
          have l1 := cell_lt d10
          obtain ⟨d20, d21, d22⟩ := HK6.out.cells (.head _)
          have l2 := cell_lt d20
          obtain rfl : r6 = true := HR6.out.2 ⟨HRS.out, (lang_star _ _).2 .nil⟩
          go_wp2
          go_ret
          exact ⟨rfl, HK6.out.below⟩
        · have hn' : ¬ (Na : Int) = 0 := by omega
          go_wp2_with fail
          refine (has_pack HK5.out (.head _) HF43.out (.tail _ (.head _)) HAS.out).mono ?_
          rintro x W6 ⟨⟨r6, rfl, hr6⟩, hb6⟩
          have HR6 := Lib.hid hr6
          have HK6 := Lib.hid (HK5.out.next hb6)
          clear d00 d01 d02 l0 d10 d11 d12 l1 d20 d21 d22 l2
          clear hb6 hr6 HK5
          obtain ⟨d00, d01, d02⟩ := HK6.out.cells (.tail _ (.tail _ (.head _)))
          have l0 := cell_lt d00
          obtain ⟨d10, d11, d12⟩ := HK6.out.cells (.tail _ (.head _))
          have l1 := cell_lt d10
          obtain ⟨d20, d21, d22⟩ := HK6.out.cells (.head _)
          have l2 := cell_lt d20
          have ha0 : a ≠ [] := fun h => hn (by rw [← HNa.out, h]; rfl)
          have hq56 : r5 = r6 := by
            rw [Bool.eq_iff_iff, HR5.out, HR6.out]
            refine ⟨fun h => ⟨(right_star HRS.out).2.1, (lang_plus _ _).2 ((lStar_or.1 ((lang_star _ _).1 h.2)).resolve_left ha0)⟩, fun h => ⟨HRS.out, (lang_star _ _).2 (lStar_or.2 (.inr ((lang_plus _ _).1 h.2)))⟩⟩
          subst hq56
          clear ha0
          go_wp2_with fail
          refine (has_pack (y := (.slice none 0 0, [])) (HK6.out.row (strs_no _ _)) (.tail _ (.head _)) HF42.out (.head _) sizes_no).mono ?_
          rintro x W7 ⟨⟨r7, rfl, hr7⟩, hb7⟩
          have HR7 := Lib.hid hr7
          have HK7 := Lib.hid (HK6.out.next hb7)
          clear d00 d01 d02 l0 d10 d11 d12 l1 d20 d21 d22 l2
          clear hb7 hr7 HK6
          obtain ⟨d00, d01, d02⟩ := HK7.out.cells (.tail _ (.tail _ (.head _)))
          have l0 := cell_lt d00
          obtain ⟨d10, d11, d12⟩ := HK7.out.cells (.tail _ (.head _))
          have l1 := cell_lt d10
          obtain ⟨d20, d21, d22⟩ := HK7.out.cells (.head _)
          have l2 := cell_lt d20
          obtain rfl : r7 = true := HR7.out.2 ⟨HRS.out, (lang_star _ _).2 .nil⟩
          go_wp2
          go_ret
          exact ⟨ret_bool (by simp [hn]), HK7.out.below⟩
      | false =>
        go_wp2_with fail
        refine (has_pack HK2.out (.tail _ (.head _)) HF42.out (.tail _ (.head _)) HAS.out).mono ?_
        rintro x W3 ⟨⟨r3, rfl, hr3⟩, hb3⟩
        have HR3 := Lib.hid hr3
        have HK3 := Lib.hid (HK2.out.next hb3)
        clear d00 d01 d02 l0 d10 d11 d12 l1 d20 d21 d22 l2
        clear hb3 hr3 HK2
        obtain ⟨d00, d01, d02⟩ := HK3.out.cells (.tail _ (.tail _ (.head _)))
        have l0 := cell_lt d00
        obtain ⟨d10, d11, d12⟩ := HK3.out.cells (.tail _ (.head _))
        have l1 := cell_lt d10
        obtain ⟨d20, d21, d22⟩ := HK3.out.cells (.head _)
        have l2 := cell_lt d20
        by_cases hn : Na = 0
        · subst hn
          have ha0 : a = [] := List.eq_nil_of_length_eq_zero HNa.out
          obtain rfl : r3 = true := HR3.out.2 ⟨HRS.out, (lang_star _ _).2 (by rw [ha0]; exact .nil)⟩
          clear ha0
          go_wp2_with fail
          refine (has_pack (y := (.slice none 0 0, [])) (HK3.out.row (strs_no _ _)) (.tail _ (.head _)) HF42.out (.head _) sizes_no).mono ?_
          rintro x W4 ⟨⟨r4, rfl, hr4⟩, hb4⟩
          have HR4 := Lib.hid hr4
          have HK4 := Lib.hid (HK3.out.next hb4)
          clear d00 d01 d02 l0 d10 d11 d12 l1 d20 d21 d22 l2
          clear hb4 hr4 HK3
          obtain ⟨d00, d01, d02⟩ := HK4.out.cells (.tail _ (.tail _ (.head _)))
          have l0 := cell_lt d00
          obtain ⟨d10, d11, d12⟩ := HK4.out.cells (.tail _ (.head _))
          have l1 := cell_lt d10
          obtain ⟨d20, d21, d22⟩ := HK4.out.cells (.head _)
          have l2 := cell_lt d20
          obtain rfl : r4 = true := HR4.out.2 ⟨HRS.out, (lang_star _ _).2 .nil⟩
          go_wp2
          go_ret
          exact ⟨rfl, HK4.out.below⟩
        · have hn' : ¬ (Na : Int) = 0 := by omega
          go_wp2_with fail
          refine (has_pack HK3.out (.head _) HF43.out (.tail _ (.head _)) HAS.out).mono ?_
          rintro x W4 ⟨⟨r4, rfl, hr4⟩, hb4⟩
          have HR4 := Lib.hid hr4
          have HK4 := Lib.hid (HK3.out.next hb4)
          clear d00 d01 d02 l0 d10 d11 d12 l1 d20 d21 d22 l2
          clear hb4 hr4 HK3
          obtain ⟨d00, d01, d02⟩ := HK4.out.cells (.tail _ (.tail _ (.head _)))
          have l0 := cell_lt d00
          obtain ⟨d10, d11, d12⟩ := HK4.out.cells (.tail _ (.head _))
          have l1 := cell_lt d10
          obtain ⟨d20, d21, d22⟩ := HK4.out.cells (.head _)
          have l2 := cell_lt d20
          have ha0 : a ≠ [] := fun h => hn (by rw [← HNa.out, h]; rfl)
          have hq56 : r3 = r4 := by
            rw [Bool.eq_iff_iff, HR3.out, HR4.out]
            refine ⟨fun h => ⟨(right_star HRS.out).2.1, (lang_plus _ _).2 ((lStar_or.1 ((lang_star _ _).1 h.2)).resolve_left ha0)⟩, fun h => ⟨HRS.out, (lang_star _ _).2 (lStar_or.2 (.inr ((lang_plus _ _).1 h.2)))⟩⟩
          subst hq56
          clear ha0
          go_wp2_with fail
          refine (has_pack (y := (.slice none 0 0, [])) (HK4.out.row (strs_no _ _)) (.tail _ (.head _)) HF42.out (.head _) sizes_no).mono ?_
          rintro x W5 ⟨⟨r5, rfl, hr5⟩, hb5⟩
          have HR5 := Lib.hid hr5
          have HK5 := Lib.hid (HK4.out.next hb5)
          clear d00 d01 d02 l0 d10 d11 d12 l1 d20 d21 d22 l2
          clear hb5 hr5 HK4
          obtain ⟨d00, d01, d02⟩ := HK5.out.cells (.tail _ (.tail _ (.head _)))
          have l0 := cell_lt d00
          obtain ⟨d10, d11, d12⟩ := HK5.out.cells (.tail _ (.head _))
          have l1 := cell_lt d10
          obtain ⟨d20, d21, d22⟩ := HK5.out.cells (.head _)
          have l2 := cell_lt d20
          obtain rfl : r5 = true := HR5.out.2 ⟨HRS.out, (lang_star _ _).2 .nil⟩
          go_wp2
          go_ret
          exact ⟨ret_bool (by simp [hn]), HK5.out.below⟩
    | false =>
      go_wp2_with fail
      refine (has_pack HK1.out (.tail _ (.head _)) HF42.out (.tail _ (.head _)) HAS.out).mono ?_
      rintro x W2 ⟨⟨r2, rfl, hr2⟩, hb2⟩
      have HR2 := Lib.hid hr2
      have HK2 := Lib.hid (HK1.out.next hb2)
      clear d00 d01 d02 l0 d10 d11 d12 l1 d20 d21 d22 l2
      clear hb2 hr2 HK1
      obtain ⟨d00, d01, d02⟩ := HK2.out.cells (.tail _ (.tail _ (.head _)))
      have l0 := cell_lt d00
      obtain ⟨d10, d11, d12⟩ := HK2.out.cells (.tail _ (.head _))
      have l1 := cell_lt d10
      obtain ⟨d20, d21, d22⟩ := HK2.out.cells (.head _)
      have l2 := cell_lt d20
      by_cases hn : Na = 0
      · subst hn
        have ha0 : a = [] := List.eq_nil_of_length_eq_zero HNa.out
        obtain rfl : r2 = true := HR2.out.2 ⟨HRS.out, (lang_star _ _).2 (by rw [ha0]; exact .nil)⟩
        clear ha0
        go_wp2_with fail
        refine (has_pack (y := (.slice none 0 0, [])) (HK2.out.row (strs_no _ _)) (.tail _ (.head _)) HF42.out (.head _) sizes_no).mono ?_
        rintro x W3 ⟨⟨r3, rfl, hr3⟩, hb3⟩
        have HR3 := Lib.hid hr3
        have HK3 := Lib.hid (HK2.out.next hb3)
        clear d00 d01 d02 l0 d10 d11 d12 l1 d20 d21 d22 l2
        clear hb3 hr3 HK2
        obtain ⟨d00, d01, d02⟩ := HK3.out.cells (.tail _ (.tail _ (.head _)))
        have l0 := cell_lt d00
        obtain ⟨d10, d11, d12⟩ := HK3.out.cells (.tail _ (.head _))
        have l1 := cell_lt d10
        obtain ⟨d20, d21, d22⟩ := HK3.out.cells (.head _)
        have l2 := cell_lt d20
        obtain rfl : r3 = true := HR3.out.2 ⟨HRS.out, (lang_star _ _).2 .nil⟩
        go_wp2
        go_ret
        exact ⟨rfl, HK3.out.below⟩
      · have hn' : ¬ (Na : Int) = 0 := by omega
        go_wp2_with fail
        refine (has_pack HK2.out (.head _) HF43.out (.tail _ (.head _)) HAS.out).mono ?_
        rintro x W3 ⟨⟨r3, rfl, hr3⟩, hb3⟩
        have HR3 := Lib.hid hr3
        have HK3 := Lib.hid (HK2.out.next hb3)
        clear d00 d01 d02 l0 d10 d11 d12 l1 d20 d21 d22 l2
        clear hb3 hr3 HK2
        obtain ⟨d00, d01, d02⟩ := HK3.out.cells (.tail _ (.tail _ (.head _)))
        have l0 := cell_lt d00
        obtain ⟨d10, d11, d12⟩ := HK3.out.cells (.tail _ (.head _))
        have l1 := cell_lt d10
        obtain ⟨d20, d21, d22⟩ := HK3.out.cells (.head _)
        have l2 := cell_lt d20
        have ha0 : a ≠ [] := fun h => hn (by rw [← HNa.out, h]; rfl)
        have hq56 : r2 = r3 := by
          rw [Bool.eq_iff_iff, HR2.out, HR3.out]
          refine ⟨fun h => ⟨(right_star HRS.out).2.1, (lang_plus _ _).2 ((lStar_or.1 ((lang_star _ _).1 h.2)).resolve_left ha0)⟩, fun h => ⟨HRS.out, (lang_star _ _).2 (lStar_or.2 (.inr ((lang_plus _ _).1 h.2)))⟩⟩
        subst hq56
        clear ha0
        go_wp2_with fail
        refine (has_pack (y := (.slice none 0 0, [])) (HK3.out.row (strs_no _ _)) (.tail _ (.head _)) HF42.out (.head _) sizes_no).mono ?_
        rintro x W4 ⟨⟨r4, rfl, hr4⟩, hb4⟩
        have HR4 := Lib.hid hr4
        have HK4 := Lib.hid (HK3.out.next hb4)
        clear d00 d01 d02 l0 d10 d11 d12 l1 d20 d21 d22 l2
        clear hb4 hr4 HK3
        obtain ⟨d00, d01, d02⟩ := HK4.out.cells (.tail _ (.tail _ (.head _)))
        have l0 := cell_lt d00
        obtain ⟨d10, d11, d12⟩ := HK4.out.cells (.tail _ (.head _))
        have l1 := cell_lt d10
        obtain ⟨d20, d21, d22⟩ := HK4.out.cells (.head _)
        have l2 := cell_lt d20
        obtain rfl : r4 = true := HR4.out.2 ⟨HRS.out, (lang_star _ _).2 .nil⟩
        go_wp2
        go_ret
        exact ⟨ret_bool (by simp [hn]), HK4.out.below⟩
end Go.Proofs.YtldmimekmjmkgaaDoor

namespace Go.Proofs.YtldmimekmjmkgaaDoor
open Go.RowKit Go.Sort Go.Maps Go.WideMaps

theorem bool_of (P : Prop) : ∃ r : Bool, r = true ↔ P := by
  by_cases h : P
  · exact ⟨true, by simp [h]⟩
  · exact ⟨false, by simp [h]⟩
/-- Has, where its answer is known. -/
theorem has_fix {w W : World} {es : List Slot} {ss : List (Value × List ByteArray)} (h : Pack w W es ss) {x : Slot} (hx : x ∈ es) (hf : x.e.fits) {y : Value × List ByteArray} (hv : y ∈ ss) (hs : ∀ s ∈ y.2, s.size ≤ maxLen) {r : Bool} (hr : r = true ↔ rightE okN x.e = true ∧ lang x.e y.2) :
    Calls Tryd.prog 24 #[.agg #[.int .u8 (x.e.op : Int), .string x.e.name, .slice x.A x.k x.c], y.1] W fun e' w' => e' = .returned (.bool r) ∧ Below W.heap.size W w' := by
  refine (has_pack h hx hf hv hs).mono ?_
  rintro e' w' ⟨⟨q, rfl, hq⟩, hb⟩
  have : q = r := by rw [Bool.eq_iff_iff, hq, hr]
  exact ⟨by rw [this], hb⟩
theorem has_fix_no {w W : World} {es : List Slot} {ss : List (Value × List ByteArray)} (h : Pack w W es ss) {x : Slot} (hx : x ∈ es) (hf : x.e.fits) {r : Bool} (hr : r = true ↔ rightE okN x.e = true ∧ lang x.e []) :
    Calls Tryd.prog 24 #[.agg #[.int .u8 (x.e.op : Int), .string x.e.name, .slice x.A x.k x.c], .slice none 0 0] W fun e' w' => e' = .returned (.bool r) ∧ Below W.heap.size W w' :=
  has_fix (y := (.slice none 0 0, [])) (h.row (strs_no _ _)) hx hf (.head _) sizes_no hr
theorem plus_nil (e : Ex) : lang (.mk 43 ByteArray.empty [e]) [] ↔ lang e [] := by
  rw [lang_plus]
  constructor
  · rintro ⟨u, v, h, hu, _⟩
    obtain ⟨rfl, rfl⟩ := List.append_eq_nil_iff.1 h.symm
    exact hu
  · exact fun h => ⟨[], [], rfl, h, .nil⟩
theorem right_one {e : Ex} (h : rightE okN (.mk 42 ByteArray.empty [e]) = true) {o : Nat} (ho : o = 42 ∨ o = 43 ∨ o = 63) : rightE okN (.mk o ByteArray.empty [e]) = true := by
  rcases ho with rfl | rfl | rfl
  · exact h
  · exact (right_star h).2.1
  · exact (right_star h).2.2


section
variable {w : World} {ops : Array Oper} {o : Oper} {a : Act} {K : Act → World → Prop} {Q : Exit → Act → World → Prop} {E : Prop}
/-- Has, in a region that draws its order. -/
theorem step_has {r : Bool} {v y : Value} (hw : Region.wanted o (yielded ops a.tmps) = true) (p q : Operand) (ho : o.op = .call { callee := .value (.func 24), args := #[p, q], argTypes := #[24, 25] })
    (hp : a.eval p = v) (hq : a.eval q = y) (hC : Calls Tryd.prog 24 #[v, y] w fun e' w' => e' = .returned (.bool r) ∧ Below w.heap.size w w')
    (h : ∀ w', Below w.heap.size w w' → K (a.put o.dst (.bool r)) w') : if Region.wanted o (yielded ops a.tmps) = true then Oper.wp Tryd.prog o a w K Q else E := by
  rw [if_pos hw]
  have hrun : (execOp a.eval o).run Tryd.prog w = .ok (.enter 24 #[v, y]) w := by
    have hf : a.eval (.func 24) = .func (.func 24) #[] #[] := rfl
    obtain ⟨c, hc⟩ : ∃ c, Tryd.f24.body = some c := Option.isSome_iff_exists.1 (by kernel_rfl)
    have hne : ¬ Tryd.f24.name = "runtime.NumGoroutine" := of_decide_eq_false (by kernel_rfl)
    simp [execOp, ho, resolve, invoke, hp, hq, hf, Deferred.ofValue, callFunc, hne, hc]
  unfold Oper.wp
  rw [hrun, Oper.upon_enter]
  refine hC.mono fun e w'' hh => ?_
  obtain ⟨rfl, h1⟩ := hh
  exact h w'' h1
/-- An append of strings, in a region that draws its order. -/
theorem step_append_strsE (hw : Region.wanted o (yielded ops a.tmps) = true) (s x : Operand) (ho : o.op = .call { callee := .builtin .append, args := #[s, x], argTypes := #[25, 25] })
    (base : Nat) (S : Nat → Prop) (v u : Value) (l l' : List ByteArray) (hs : a.eval s = v) (hx : a.eval x = u) (hown : SRowE w base v l) (hsrc : Strs w S u l')
    (hn : l.length + l'.length ≤ 1000000) (hbase : base ≤ w.heap.size)
    (h : ∀ v' w', SRowE w' base v' (l ++ l') → w.grownBy w' v.ownBlock → (v'.ownBlock = v.ownBlock ∨ v'.ownBlock = some w.heap.size) → K (a.put o.dst v') w') : if Region.wanted o (yielded ops a.tmps) = true then Oper.wp Tryd.prog o a w K Q else E := by
  rw [if_pos hw]
  obtain ⟨v', w', hr, h1, h2, h3⟩ := run_append_strsE o.type hown hsrc hn hbase
  unfold Oper.wp execOp
  simp only [ho, resolve, invoke, builtin, Sem.run_bind, Sem.run_pure, Result.andThen_ok, List.map_toArray, List.map_cons, List.map_nil, hs, hx, hr]
  exact h v' w' h1 h2 h3
end
theorem below_drewE (w : World) : Below w.heap.size w w.drew := ⟨rfl, rfl, rfl, Nat.le_refl _, fun _ _ => rfl⟩

set_option maxRecDepth 100000 in
set_option maxHeartbeats 8000000 in
theorem exprGrows_walk (e : Ex) (A : Option Addr) (k c : Nat) (va vb : Value) (a b : List ByteArray) (w : World) (he : e.fits) (hl : Exs w (Under w.heap.size) (.slice A k c) e.kids) (hT : TabB w) (ha : Strs w (Under w.heap.size) va a) (hb : Strs w (Under w.heap.size) vb b)
    (has : ∀ s ∈ a, s.size ≤ maxLen) (hbs : ∀ s ∈ b, s.size ≤ maxLen) (hal : a.length ≤ 8796093022208) (hbl : b.length ≤ 8796093022208) :
    Calls Tryd.prog 7 #[.agg #[.int .u8 e.op, .string e.name, .slice A k c], va, vb] w fun x w' => x = .returned (.bool true) ∧ Below w.heap.size w w' := by
  have HP0 : Hid (Pack w w [] [(va, a), (vb, b)]) := Lib.hid ⟨Below.refl _ _, hT, fun _ h => (nomatch h), fun y hy => by
    rcases List.mem_cons.1 hy with rfl | hy
    · exact ha
    · rcases List.mem_cons.1 hy with rfl | hy
      · exact hb
      · cases hy⟩
  have HP1 : Hid (Pack w (w.alloc (.cells #[.int .u8 e.op, .string e.name, .slice A k c] 24)) [⟨w.heap.size, e, A, k, c⟩] [(va, a), (vb, b)]) := Lib.hid ((HP0.out.alloc _).add (Lies.new (Below.refl _ _) hl fun _ h => h))
  obtain ⟨Aa, ca, rfl, hca, hcma, _⟩ := id ha
  obtain ⟨Ab, cb, rfl, hcb, hcmb, _⟩ := id hb
  generalize hNa : a.length = Na at *
  generalize hNb : b.length = Nb at *
  have HNa := Lib.hid hNa
  have HNb := Lib.hid hNb
  have HF := Lib.hid he
  have HAS := Lib.hid has
  have HBS := Lib.hid hbs
  clear hl hT ha hb he has hbs HP0 hNa hNb
  unfold maxLen at hcma hcmb
  go_enter Tryd.func7, Tryd.ntmps7
  go_wp2_with fail
  refine (shown6_any _ HP1.out.tab).mono ?_
  rintro x W1 ⟨rfl, hb1⟩
  have HP2 := Lib.hid (HP1.out.next hb1)
  clear hb1 HP1
  obtain ⟨d00, d01, d02⟩ := HP2.out.cells (.head _)
  go_wp2_with fail
  refine (light6_any e A k c 300 W1 HF.out (HP2.out.ex _ (.head _)).kids (by decide) (by decide)).mono ?_
  rintro x W2 ⟨⟨q, rfl, hq0, hq1⟩, hb2⟩
  have HP3 := Lib.hid (HP2.out.next hb2)
  clear d00 d01 d02 hb2 HP2
  obtain ⟨d00, d01, d02⟩ := HP3.out.cells (.head _)
  have l0 := cell_lt d00
  by_cases hq : q < 0
  · go_wp2
    go_ret
    exact ⟨rfl, HP3.out.below⟩
  by_cases hlen : 40 < (Na : Int) + (Nb : Int)
  · go_wp2
    go_ret
    exact ⟨rfl, HP3.out.below⟩
  have HP3a : Hid (Pack w (((W2.alloc (.cells #[.int .u8 e.op, .string e.name, .slice A k c] 24)).alloc (.cells #[.int .u8 42, .string ⟨#[]⟩, .slice (some ⟨W2.heap.size, 0, none⟩) 1 1] 24))) [⟨W2.heap.size + 1, .mk 42 ByteArray.empty [e], some ⟨W2.heap.size, 0, none⟩, 1, 1⟩, ⟨w.heap.size, e, A, k, c⟩] [(.slice Aa Na ca, a), (.slice Ab Nb cb, b)]) := Lib.hid (HP3.out.one (.head _) 42 rfl)
  go_upto_region 5 with fail
  generalize (W2.alloc (.cells #[.int .u8 e.op, .string e.name, .slice A k c] 24)).alloc (.cells #[.int .u8 42, .string ⟨#[]⟩, .slice (some ⟨W2.heap.size, 0, none⟩) 1 1] 24) = W2a at *
  clear d00 d01 d02 l0 HP3
  obtain ⟨d00, d01, d02⟩ := HP3a.out.cells (.tail _ (.head _))
  have l0 := cell_lt d00
  have HP3b : Hid (Pack w (((W2a.alloc (.cells #[.int .u8 e.op, .string e.name, .slice A k c] 24)).alloc (.cells #[.int .u8 43, .string ⟨#[]⟩, .slice (some ⟨W2a.heap.size, 0, none⟩) 1 1] 24))) [⟨W2a.heap.size + 1, .mk 43 ByteArray.empty [e], some ⟨W2a.heap.size, 0, none⟩, 1, 1⟩, ⟨W2.heap.size + 1, .mk 42 ByteArray.empty [e], some ⟨W2.heap.size, 0, none⟩, 1, 1⟩, ⟨w.heap.size, e, A, k, c⟩] [(.slice Aa Na ca, a), (.slice Ab Nb cb, b)]) := Lib.hid (HP3a.out.one (.tail _ (.head _)) 43 rfl)
  go_upto_region 6 with fail
  generalize (W2a.alloc (.cells #[.int .u8 e.op, .string e.name, .slice A k c] 24)).alloc (.cells #[.int .u8 43, .string ⟨#[]⟩, .slice (some ⟨W2a.heap.size, 0, none⟩) 1 1] 24) = W2b at *
  clear d00 d01 d02 l0 HP3a
  obtain ⟨d00, d01, d02⟩ := HP3b.out.cells (.tail _ (.tail _ (.head _)))
  have l0 := cell_lt d00
  have HP4 : Hid (Pack w (((W2b.alloc (.cells #[.int .u8 e.op, .string e.name, .slice A k c] 24)).alloc (.cells #[.int .u8 63, .string ⟨#[]⟩, .slice (some ⟨W2b.heap.size, 0, none⟩) 1 1] 24))) [⟨W2b.heap.size + 1, .mk 63 ByteArray.empty [e], some ⟨W2b.heap.size, 0, none⟩, 1, 1⟩, ⟨W2a.heap.size + 1, .mk 43 ByteArray.empty [e], some ⟨W2a.heap.size, 0, none⟩, 1, 1⟩, ⟨W2.heap.size + 1, .mk 42 ByteArray.empty [e], some ⟨W2.heap.size, 0, none⟩, 1, 1⟩, ⟨w.heap.size, e, A, k, c⟩] [(.slice Aa Na ca, a), (.slice Ab Nb cb, b)]) := Lib.hid (HP3b.out.one (.tail _ (.tail _ (.head _))) 63 rfl)
  go_upto_region 7 with fail
  generalize (W2b.alloc (.cells #[.int .u8 e.op, .string e.name, .slice A k c] 24)).alloc (.cells #[.int .u8 63, .string ⟨#[]⟩, .slice (some ⟨W2b.heap.size, 0, none⟩) 1 1] 24) = W3 at *
  clear d00 d01 d02 l0 HP3b
  obtain ⟨d00, d01, d02⟩ := HP4.out.cells (.tail _ (.tail _ (.tail _ (.head _))))
  have l0 := cell_lt d00
  obtain ⟨d10, d11, d12⟩ := HP4.out.cells (.tail _ (.tail _ (.head _)))
  have l1 := cell_lt d10
  go_wp2_with fail
  clear d10 d11 d12 l1
  have HF42 : Hid (Ex.mk 42 ByteArray.empty [e]).fits := Lib.hid (fits_one (by decide) HF.out)
  have HF43 : Hid (Ex.mk 43 ByteArray.empty [e]).fits := Lib.hid (fits_one (by decide) HF.out)
  have HF63 : Hid (Ex.mk 63 ByteArray.empty [e]).fits := Lib.hid (fits_one (by decide) HF.out)
  clear d00 d01 d02 l0
  refine (right_pack HP4.out (.tail _ (.tail _ (.head _))) HF42.out).mono ?_
  rintro x W4 ⟨rfl, hb4⟩
  have HP5 := Lib.hid (HP4.out.next hb4)
  clear hb4 HP4
  simp only
  generalize hrs : rightE okN (.mk 42 ByteArray.empty [e]) = rs at *
  cases rs with
  | false =>
    have HRS := Lib.hid hrs
    clear hrs
    obtain ⟨d00, d01, d02⟩ := HP5.out.cells (.tail _ (.tail _ (.tail _ (.head _))))
    have l0 := cell_lt d00
    obtain ⟨d10, d11, d12⟩ := HP5.out.cells (.tail _ (.tail _ (.head _)))
    have l1 := cell_lt d10
    obtain ⟨d20, d21, d22⟩ := HP5.out.cells (.tail _ (.head _))
    have l2 := cell_lt d20
    obtain ⟨d30, d31, d32⟩ := HP5.out.cells (.head _)
    have l3 := cell_lt d30
    go_wp2_with fail
    refine (has_fix (r := false) HP5.out (.tail _ (.tail _ (.head _))) HF42.out (.head _) HAS.out (by rw [HRS.out]; simp)).mono ?_
    rintro x W5 ⟨rfl, hb5⟩
    have HP6 := Lib.hid (HP5.out.next hb5)
    clear d00 d01 d02 l0 d10 d11 d12 l1 d20 d21 d22 l2 d30 d31 d32 l3
    go_wp2
    go_ret
    exact ⟨rfl, HP6.out.below⟩
  | true =>
    have HRS := Lib.hid hrs
    clear hrs
    obtain ⟨d00, d01, d02⟩ := HP5.out.cells (.tail _ (.tail _ (.tail _ (.head _))))
    have l0 := cell_lt d00
    obtain ⟨d10, d11, d12⟩ := HP5.out.cells (.tail _ (.tail _ (.head _)))
    have l1 := cell_lt d10
    obtain ⟨d20, d21, d22⟩ := HP5.out.cells (.tail _ (.head _))
    have l2 := cell_lt d20
    obtain ⟨d30, d31, d32⟩ := HP5.out.cells (.head _)
    have l3 := cell_lt d30
    obtain ⟨rE, hE⟩ := bool_of (rightE okN e = true ∧ lang e a)
    obtain ⟨rN, hN⟩ := bool_of (rightE okN e = true ∧ lang e [])
    obtain ⟨sA, hSA⟩ := bool_of (rightE okN (.mk 42 ByteArray.empty [e]) = true ∧ lang (.mk 42 ByteArray.empty [e]) a)
    obtain ⟨sB, hSB⟩ := bool_of (rightE okN (.mk 42 ByteArray.empty [e]) = true ∧ lang (.mk 42 ByteArray.empty [e]) b)
    have HE := Lib.hid hE
    have HN := Lib.hid hN
    have HSA := Lib.hid hSA
    have HSB := Lib.hid hSB
    clear hE hN hSA hSB
    go_wp2_with fail
    refine (has_fix (r := rE) HP5.out (.tail _ (.tail _ (.tail _ (.head _)))) HF.out (.head _) HAS.out HE.out).mono ?_
    rintro x W5 ⟨rfl, hb5⟩
    have HP6 := Lib.hid (HP5.out.next hb5)
    clear d00 d01 d02 l0 d10 d11 d12 l1 d20 d21 d22 l2 d30 d31 d32 l3
    clear hb5 HP5
    obtain ⟨d00, d01, d02⟩ := HP6.out.cells (.tail _ (.tail _ (.tail _ (.head _))))
    have l0 := cell_lt d00
    obtain ⟨d10, d11, d12⟩ := HP6.out.cells (.tail _ (.tail _ (.head _)))
    have l1 := cell_lt d10
    obtain ⟨d20, d21, d22⟩ := HP6.out.cells (.tail _ (.head _))
    have l2 := cell_lt d20
    obtain ⟨d30, d31, d32⟩ := HP6.out.cells (.head _)
    have l3 := cell_lt d30
    have HCs : Hid (∀ r : Bool, (r = true ↔ rightE okN (.mk 42 ByteArray.empty [e]) = true ∧ lang (.mk 42 ByteArray.empty [e]) []) → r = true) := Lib.hid (fun r h => h.2 ⟨HRS.out, (lang_star _ _).2 .nil⟩)
    have HC1 := Lib.hid (regrown_any (w := W5) fun W hW => has_fix_no (r := true) (HP6.out.next hW) (.tail _ (.tail _ (.head _))) HF42.out (by simp only [HRS.out, true_and, true_iff]; exact (lang_star _ _).2 .nil))
    have HC2 := Lib.hid (regrown_any (w := W5) fun W hW => has_fix_no (r := true) (HP6.out.next hW) (.head _) HF63.out (by simp only [right_one HRS.out (.inr (.inr rfl)), true_and, true_iff]; exact (lang_opt _ _).2 (.inl rfl)))
    have HC3 := Lib.hid (regrown_any (w := W5) fun W hW => has_fix_no (r := rN) (HP6.out.next hW) (.tail _ (.head _)) HF43.out (by rw [HN.out, plus_nil, (right_star HRS.out).1, (right_star HRS.out).2.1]))
    have HC4 := Lib.hid (regrown_any (w := W5) fun W hW => has_fix_no (r := rN) (HP6.out.next hW) (.tail _ (.tail _ (.tail _ (.head _)))) HF.out HN.out)
    clear HCs
    cases rE with
    | false =>
      cases rN with
      | false =>
        go_wp2
        have k00 := cell_regrown d00
        have k01 := cell_regrown d01
        have k02 := cell_regrown d02
        have k10 := cell_regrown d10
        have k11 := cell_regrown d11
        have k12 := cell_regrown d12
        have k20 := cell_regrown d20
        have k21 := cell_regrown d21
        have k22 := cell_regrown d22
        have k30 := cell_regrown d30
        have k31 := cell_regrown d31
        have k32 := cell_regrown d32
        refine wp_region_quiet_below (by kernel_rfl) (by kernel_rfl) ?_
        repeat (first | go_big_quiet_step (first | with_reducible exact HC1.out _ _ | with_reducible exact HC2.out _ _ | with_reducible exact HC3.out _ _ | with_reducible exact HC4.out _ _) | quiet_step (first | with_reducible exact HC1.out _ _ | with_reducible exact HC2.out _ _ | with_reducible exact HC3.out _ _ | with_reducible exact HC4.out _ _))
        refine wpQuiet_nil ?_
        intro _ hw'
        obtain ⟨⟨dq, osq⟩, hw''⟩ := hw'
        subst hw''
        have HP7 := Lib.hid (HP6.out.next (below_regrown _ dq osq))
        clear k00 k01 k02 k10 k11 k12 k20 k21 k22 k30 k31 k32
        clear d00 d01 d02 l0 d10 d11 d12 l1 d20 d21 d22 l2 d30 d31 d32 l3
        clear HP6
        generalize grow (redrawn _ dq) osq = wq at *
        obtain ⟨d00, d01, d02⟩ := HP7.out.cells (.tail _ (.tail _ (.tail _ (.head _))))
        have l0 := cell_lt d00
        obtain ⟨d10, d11, d12⟩ := HP7.out.cells (.tail _ (.tail _ (.head _)))
        have l1 := cell_lt d10
        obtain ⟨d20, d21, d22⟩ := HP7.out.cells (.tail _ (.head _))
        have l2 := cell_lt d20
        obtain ⟨d30, d31, d32⟩ := HP7.out.cells (.head _)
        have l3 := cell_lt d30
        clear HC1 HC2 HC3 HC4 HE HN
        cases sA with
        | false =>
          have HD1 := Lib.hid (regrown_any (w := wq) fun W hW => has_fix (r := false) (HP7.out.next hW) (.tail _ (.tail _ (.head _))) HF42.out (.head _) HAS.out HSA.out)
          go_wp2
          have k00 := cell_regrown d00
          have k01 := cell_regrown d01
          have k02 := cell_regrown d02
          have k10 := cell_regrown d10
          have k11 := cell_regrown d11
          have k12 := cell_regrown d12
          have k20 := cell_regrown d20
          have k21 := cell_regrown d21
          have k22 := cell_regrown d22
          have k30 := cell_regrown d30
          have k31 := cell_regrown d31
          have k32 := cell_regrown d32
          refine wp_region_quiet_below (by kernel_rfl) (by kernel_rfl) ?_
          repeat (first | go_big_quiet_step (first | with_reducible exact HD1.out _ _) | quiet_step (first | with_reducible exact HD1.out _ _))
          refine wpQuiet_nil ?_
          intro _ hw'
          obtain ⟨⟨dq, osq⟩, hw''⟩ := hw'
          subst hw''
          have HP8 := Lib.hid (HP7.out.next (below_regrown _ dq osq))
          clear k00 k01 k02 k10 k11 k12 k20 k21 k22 k30 k31 k32
          clear d00 d01 d02 l0 d10 d11 d12 l1 d20 d21 d22 l2 d30 d31 d32 l3
          clear HP7
          generalize grow (redrawn _ dq) osq = wq at *
          obtain ⟨d00, d01, d02⟩ := HP8.out.cells (.tail _ (.tail _ (.tail _ (.head _))))
          have l0 := cell_lt d00
          obtain ⟨d10, d11, d12⟩ := HP8.out.cells (.tail _ (.tail _ (.head _)))
          have l1 := cell_lt d10
          obtain ⟨d20, d21, d22⟩ := HP8.out.cells (.tail _ (.head _))
          have l2 := cell_lt d20
          obtain ⟨d30, d31, d32⟩ := HP8.out.cells (.head _)
          have l3 := cell_lt d30
          go_wp2
          go_ret
          exact ⟨rfl, HP8.out.below⟩
        | true =>
          have HD1 := Lib.hid (regrown_any (w := wq) fun W hW => has_fix (r := true) (HP7.out.next hW) (.tail _ (.tail _ (.head _))) HF42.out (.head _) HAS.out HSA.out)
          cases sB with
          | false =>
            have HD2 := Lib.hid (regrown_any (w := wq) fun W hW => has_fix (r := false) (HP7.out.next hW) (.tail _ (.tail _ (.head _))) HF42.out (.tail _ (.head _)) HBS.out HSB.out)
            go_wp2
            have k00 := cell_regrown d00
            have k01 := cell_regrown d01
            have k02 := cell_regrown d02
            have k10 := cell_regrown d10
            have k11 := cell_regrown d11
            have k12 := cell_regrown d12
            have k20 := cell_regrown d20
            have k21 := cell_regrown d21
            have k22 := cell_regrown d22
            have k30 := cell_regrown d30
            have k31 := cell_regrown d31
            have k32 := cell_regrown d32
            refine wp_region_quiet_below (by kernel_rfl) (by kernel_rfl) ?_
            repeat (first | go_big_quiet_step (first | with_reducible exact HD1.out _ _ | with_reducible exact HD2.out _ _) | quiet_step (first | with_reducible exact HD1.out _ _ | with_reducible exact HD2.out _ _))
            refine wpQuiet_nil ?_
            intro _ hw'
            obtain ⟨⟨dq, osq⟩, hw''⟩ := hw'
            subst hw''
            have HP8 := Lib.hid (HP7.out.next (below_regrown _ dq osq))
            clear k00 k01 k02 k10 k11 k12 k20 k21 k22 k30 k31 k32
            clear d00 d01 d02 l0 d10 d11 d12 l1 d20 d21 d22 l2 d30 d31 d32 l3
            clear HP7
            generalize grow (redrawn _ dq) osq = wq at *
            obtain ⟨d00, d01, d02⟩ := HP8.out.cells (.tail _ (.tail _ (.tail _ (.head _))))
            have l0 := cell_lt d00
            obtain ⟨d10, d11, d12⟩ := HP8.out.cells (.tail _ (.tail _ (.head _)))
            have l1 := cell_lt d10
            obtain ⟨d20, d21, d22⟩ := HP8.out.cells (.tail _ (.head _))
            have l2 := cell_lt d20
            obtain ⟨d30, d31, d32⟩ := HP8.out.cells (.head _)
            have l3 := cell_lt d30
            go_wp2
            go_ret
            exact ⟨rfl, HP8.out.below⟩
          | true =>
            have HDa := Lib.hid (fun W hW => has_fix (r := true) (HP7.out.next (W' := W) hW) (.tail _ (.tail _ (.head _))) HF42.out (.head _) HAS.out HSA.out)
            have HDb := Lib.hid (fun W hW => has_fix (r := true) (HP7.out.next (W' := W) hW) (.tail _ (.tail _ (.head _))) HF42.out (.tail _ (.head _)) HBS.out HSB.out)
            have HAB : Hid (lang (.mk 42 ByteArray.empty [e]) (a ++ b)) := Lib.hid ((lang_star _ _).2 (lStar_app ((lang_star _ _).1 (HSA.out.1 rfl).2) ((lang_star _ _).1 (HSB.out.1 rfl).2)))
            have hab : a.length + b.length ≤ 40 := by rw [HNa.out, HNb.out]; omega
            have HAB2 := Lib.hid hab
            clear HD1 HSA HSB d00 d01 d02 l0 d20 d21 d22 l2 d30 d31 d32 l3 hab
            go_wp2_with fail
            go_region_law (first
              | ((with_reducible refine step_has (r := true) (v := .agg #[.int .u8 ((Ex.mk 42 ByteArray.empty [e]).op : Int), .string (Ex.mk 42 ByteArray.empty [e]).name, .slice (some ⟨W2.heap.size, 0, none⟩) 1 1]) (y := .slice Aa Na ca) (by kernel_rfl) (.tmp 84) (.tmp 85) rfl rfl rfl (HDa.out _ (below_drewE _)) ?_); intro w8 hb8; have HB8 := Lib.hid ((below_drewE wq).trans hb8); have HP8 := Lib.hid (HP7.out.next HB8.out); obtain ⟨e0, e1, e2⟩ := HP8.out.cells (.tail _ (.tail _ (.head _))); have m0 := cell_lt e0; clear hb8)
              | ((with_reducible refine step_has (r := true) (v := .agg #[.int .u8 ((Ex.mk 42 ByteArray.empty [e]).op : Int), .string (Ex.mk 42 ByteArray.empty [e]).name, .slice (some ⟨W2.heap.size, 0, none⟩) 1 1]) (y := .slice Ab Nb cb) (by kernel_rfl) (.tmp 89) (.tmp 90) rfl rfl rfl (HDb.out _ HB8.out) ?_); intro w9 hb9; have HP9 := Lib.hid (HP8.out.next hb9); obtain ⟨f0, f1, f2⟩ := HP9.out.cells (.tail _ (.tail _ (.head _))); have n0 := cell_lt f0; have HRA : Hid (Strs (w9.alloc (.cells #[] 9)) (Under w9.heap.size) (.slice Aa Na ca) a) := Lib.hid ((HP9.out.strs (.slice Aa Na ca, a) (.head _)).below ((Below.refl _ _).alloc (Nat.le_refl _) _)); have HRB : Hid (Strs w9 (Under w9.heap.size) (.slice Ab Nb cb) b) := Lib.hid (HP9.out.strs (.slice Ab Nb cb, b) (.tail _ (.head _))); have HRM : Hid (SRowE (w9.alloc (.cells #[] 9)) w9.heap.size (.slice (some ⟨w9.heap.size, 0, none⟩) 0 0) []) := Lib.hid (SRowE.made w9 (Nat.le_refl _)); have HLA : Hid (([] : List ByteArray).length + a.length ≤ 1000000) := Lib.hid (by have := HAB2.out; simp; omega); have HLB : Hid (a.length + b.length ≤ 1000000) := Lib.hid (by have := HAB2.out; omega); have HLW : Hid (w9.heap.size ≤ (w9.alloc (.cells #[] 9)).heap.size) := Lib.hid (by simp); clear hb9)
              | ((with_reducible refine step_append_strsE (by kernel_rfl) (.tmp 96) (.tmp 97) rfl w9.heap.size (Under w9.heap.size) (.slice (some ⟨w9.heap.size, 0, none⟩) 0 0) (.slice Aa Na ca) [] a rfl rfl HRM.out HRA.out HLA.out HLW.out ?_); intro v10 w10 ho10 hg10 hb10; have HB10 : Hid (Below w9.heap.size w9 w10) := Lib.hid (below_grown ((Below.refl _ _).alloc (Nat.le_refl _) _) hg10 (fun k hk => by rw [← Option.some.inj hk]; exact Nat.le_refl _) (by simp)); have HO10 : Hid (SRowE w10 w9.heap.size v10 a) := Lib.hid ho10; obtain ⟨g0, g1, g2⟩ := (HP9.out.next HB10.out).cells (.tail _ (.tail _ (.head _))); have o0 := cell_lt g0; have HRB10 : Hid (Strs w10 (Under w9.heap.size) (.slice Ab Nb cb) b) := Lib.hid (HRB.out.below HB10.out); have HLX : Hid (w9.heap.size ≤ w10.heap.size) := Lib.hid HB10.out.size; clear ho10 hg10 hb10)
              | ((with_reducible refine step_append_strsE (by kernel_rfl) (.tmp 98) (.tmp 99) rfl w9.heap.size (Under w9.heap.size) v10 (.slice Ab Nb cb) a b rfl rfl HO10.out HRB10.out HLB.out HLX.out ?_); intro v11 w11 ho11 hg11 hb11; have HB11 : Hid (Below w9.heap.size w9 w11) := Lib.hid (below_grown HB10.out hg11 (fun k hk => (World.ownsRow.lt HO10.out k hk).1) HB10.out.size); have HP11 := Lib.hid (HP9.out.both HB11.out ho11); obtain ⟨j0, j1, j2⟩ := HP11.out.cells (.tail _ (.tail _ (.head _))); have p0 := cell_lt j0; have HFX := Lib.hid (has_fix (r := true) (x := ⟨W2.heap.size + 1, .mk 42 ByteArray.empty [e], some ⟨W2.heap.size, 0, none⟩, 1, 1⟩) (y := (v11, a ++ b)) HP11.out (.tail _ (.tail _ (.head _))) HF42.out (.head _) (sizes_app HAS.out HBS.out) (by simp [HRS.out, HAB.out])); clear ho11 hg11 hb11)
              | ((with_reducible refine step_has (r := true) (v := .agg #[.int .u8 ((Ex.mk 42 ByteArray.empty [e]).op : Int), .string (Ex.mk 42 ByteArray.empty [e]).name, .slice (some ⟨W2.heap.size, 0, none⟩) 1 1]) (y := v11) (by kernel_rfl) (.tmp 95) (.tmp 100) rfl rfl rfl HFX.out ?_); intro w12 hb12; have HP12 := Lib.hid (HP11.out.next hb12); clear hb12))
            all_goals
              go_wp2
              go_ret
              exact ⟨rfl, HP12.out.below⟩
      | true =>
        go_wp2
        have k00 := cell_regrown d00
        have k01 := cell_regrown d01
        have k02 := cell_regrown d02
        have k10 := cell_regrown d10
        have k11 := cell_regrown d11
        have k12 := cell_regrown d12
        have k20 := cell_regrown d20
        have k21 := cell_regrown d21
        have k22 := cell_regrown d22
        have k30 := cell_regrown d30
        have k31 := cell_regrown d31
        have k32 := cell_regrown d32
        refine wp_region_quiet_below (by kernel_rfl) (by kernel_rfl) ?_
        repeat (first | go_big_quiet_step (first | with_reducible exact HC1.out _ _ | with_reducible exact HC2.out _ _ | with_reducible exact HC3.out _ _ | with_reducible exact HC4.out _ _) | quiet_step (first | with_reducible exact HC1.out _ _ | with_reducible exact HC2.out _ _ | with_reducible exact HC3.out _ _ | with_reducible exact HC4.out _ _))
        refine wpQuiet_nil ?_
        intro _ hw'
        obtain ⟨⟨dq, osq⟩, hw''⟩ := hw'
        subst hw''
        have HP7 := Lib.hid (HP6.out.next (below_regrown _ dq osq))
        clear k00 k01 k02 k10 k11 k12 k20 k21 k22 k30 k31 k32
        clear d00 d01 d02 l0 d10 d11 d12 l1 d20 d21 d22 l2 d30 d31 d32 l3
        clear HP6
        generalize grow (redrawn _ dq) osq = wq at *
        obtain ⟨d00, d01, d02⟩ := HP7.out.cells (.tail _ (.tail _ (.tail _ (.head _))))
        have l0 := cell_lt d00
        obtain ⟨d10, d11, d12⟩ := HP7.out.cells (.tail _ (.tail _ (.head _)))
        have l1 := cell_lt d10
        obtain ⟨d20, d21, d22⟩ := HP7.out.cells (.tail _ (.head _))
        have l2 := cell_lt d20
        obtain ⟨d30, d31, d32⟩ := HP7.out.cells (.head _)
        have l3 := cell_lt d30
        clear HC1 HC2 HC3 HC4 HE HN
        cases sA with
        | false =>
          have HD1 := Lib.hid (regrown_any (w := wq) fun W hW => has_fix (r := false) (HP7.out.next hW) (.tail _ (.tail _ (.head _))) HF42.out (.head _) HAS.out HSA.out)
          go_wp2
          have k00 := cell_regrown d00
          have k01 := cell_regrown d01
          have k02 := cell_regrown d02
          have k10 := cell_regrown d10
          have k11 := cell_regrown d11
          have k12 := cell_regrown d12
          have k20 := cell_regrown d20
          have k21 := cell_regrown d21
          have k22 := cell_regrown d22
          have k30 := cell_regrown d30
          have k31 := cell_regrown d31
          have k32 := cell_regrown d32
          refine wp_region_quiet_below (by kernel_rfl) (by kernel_rfl) ?_
          repeat (first | go_big_quiet_step (first | with_reducible exact HD1.out _ _) | quiet_step (first | with_reducible exact HD1.out _ _))
          refine wpQuiet_nil ?_
          intro _ hw'
          obtain ⟨⟨dq, osq⟩, hw''⟩ := hw'
          subst hw''
          have HP8 := Lib.hid (HP7.out.next (below_regrown _ dq osq))
          clear k00 k01 k02 k10 k11 k12 k20 k21 k22 k30 k31 k32
          clear d00 d01 d02 l0 d10 d11 d12 l1 d20 d21 d22 l2 d30 d31 d32 l3
          clear HP7
          generalize grow (redrawn _ dq) osq = wq at *
          obtain ⟨d00, d01, d02⟩ := HP8.out.cells (.tail _ (.tail _ (.tail _ (.head _))))
          have l0 := cell_lt d00
          obtain ⟨d10, d11, d12⟩ := HP8.out.cells (.tail _ (.tail _ (.head _)))
          have l1 := cell_lt d10
          obtain ⟨d20, d21, d22⟩ := HP8.out.cells (.tail _ (.head _))
          have l2 := cell_lt d20
          obtain ⟨d30, d31, d32⟩ := HP8.out.cells (.head _)
          have l3 := cell_lt d30
          go_wp2
          go_ret
          exact ⟨rfl, HP8.out.below⟩
        | true =>
          have HD1 := Lib.hid (regrown_any (w := wq) fun W hW => has_fix (r := true) (HP7.out.next hW) (.tail _ (.tail _ (.head _))) HF42.out (.head _) HAS.out HSA.out)
          cases sB with
          | false =>
            have HD2 := Lib.hid (regrown_any (w := wq) fun W hW => has_fix (r := false) (HP7.out.next hW) (.tail _ (.tail _ (.head _))) HF42.out (.tail _ (.head _)) HBS.out HSB.out)
            go_wp2
            have k00 := cell_regrown d00
            have k01 := cell_regrown d01
            have k02 := cell_regrown d02
            have k10 := cell_regrown d10
            have k11 := cell_regrown d11
            have k12 := cell_regrown d12
            have k20 := cell_regrown d20
            have k21 := cell_regrown d21
            have k22 := cell_regrown d22
            have k30 := cell_regrown d30
            have k31 := cell_regrown d31
            have k32 := cell_regrown d32
            refine wp_region_quiet_below (by kernel_rfl) (by kernel_rfl) ?_
            repeat (first | go_big_quiet_step (first | with_reducible exact HD1.out _ _ | with_reducible exact HD2.out _ _) | quiet_step (first | with_reducible exact HD1.out _ _ | with_reducible exact HD2.out _ _))
            refine wpQuiet_nil ?_
            intro _ hw'
            obtain ⟨⟨dq, osq⟩, hw''⟩ := hw'
            subst hw''
            have HP8 := Lib.hid (HP7.out.next (below_regrown _ dq osq))
            clear k00 k01 k02 k10 k11 k12 k20 k21 k22 k30 k31 k32
            clear d00 d01 d02 l0 d10 d11 d12 l1 d20 d21 d22 l2 d30 d31 d32 l3
            clear HP7
            generalize grow (redrawn _ dq) osq = wq at *
            obtain ⟨d00, d01, d02⟩ := HP8.out.cells (.tail _ (.tail _ (.tail _ (.head _))))
            have l0 := cell_lt d00
            obtain ⟨d10, d11, d12⟩ := HP8.out.cells (.tail _ (.tail _ (.head _)))
            have l1 := cell_lt d10
            obtain ⟨d20, d21, d22⟩ := HP8.out.cells (.tail _ (.head _))
            have l2 := cell_lt d20
            obtain ⟨d30, d31, d32⟩ := HP8.out.cells (.head _)
            have l3 := cell_lt d30
            go_wp2
            go_ret
            exact ⟨rfl, HP8.out.below⟩
          | true =>
            have HDa := Lib.hid (fun W hW => has_fix (r := true) (HP7.out.next (W' := W) hW) (.tail _ (.tail _ (.head _))) HF42.out (.head _) HAS.out HSA.out)
            have HDb := Lib.hid (fun W hW => has_fix (r := true) (HP7.out.next (W' := W) hW) (.tail _ (.tail _ (.head _))) HF42.out (.tail _ (.head _)) HBS.out HSB.out)
            have HAB : Hid (lang (.mk 42 ByteArray.empty [e]) (a ++ b)) := Lib.hid ((lang_star _ _).2 (lStar_app ((lang_star _ _).1 (HSA.out.1 rfl).2) ((lang_star _ _).1 (HSB.out.1 rfl).2)))
            have hab : a.length + b.length ≤ 40 := by rw [HNa.out, HNb.out]; omega
            have HAB2 := Lib.hid hab
            clear HD1 HSA HSB d00 d01 d02 l0 d20 d21 d22 l2 d30 d31 d32 l3 hab
            go_wp2_with fail
            go_region_law (first
              | ((with_reducible refine step_has (r := true) (v := .agg #[.int .u8 ((Ex.mk 42 ByteArray.empty [e]).op : Int), .string (Ex.mk 42 ByteArray.empty [e]).name, .slice (some ⟨W2.heap.size, 0, none⟩) 1 1]) (y := .slice Aa Na ca) (by kernel_rfl) (.tmp 84) (.tmp 85) rfl rfl rfl (HDa.out _ (below_drewE _)) ?_); intro w8 hb8; have HB8 := Lib.hid ((below_drewE wq).trans hb8); have HP8 := Lib.hid (HP7.out.next HB8.out); obtain ⟨e0, e1, e2⟩ := HP8.out.cells (.tail _ (.tail _ (.head _))); have m0 := cell_lt e0; clear hb8)
              | ((with_reducible refine step_has (r := true) (v := .agg #[.int .u8 ((Ex.mk 42 ByteArray.empty [e]).op : Int), .string (Ex.mk 42 ByteArray.empty [e]).name, .slice (some ⟨W2.heap.size, 0, none⟩) 1 1]) (y := .slice Ab Nb cb) (by kernel_rfl) (.tmp 89) (.tmp 90) rfl rfl rfl (HDb.out _ HB8.out) ?_); intro w9 hb9; have HP9 := Lib.hid (HP8.out.next hb9); obtain ⟨f0, f1, f2⟩ := HP9.out.cells (.tail _ (.tail _ (.head _))); have n0 := cell_lt f0; have HRA : Hid (Strs (w9.alloc (.cells #[] 9)) (Under w9.heap.size) (.slice Aa Na ca) a) := Lib.hid ((HP9.out.strs (.slice Aa Na ca, a) (.head _)).below ((Below.refl _ _).alloc (Nat.le_refl _) _)); have HRB : Hid (Strs w9 (Under w9.heap.size) (.slice Ab Nb cb) b) := Lib.hid (HP9.out.strs (.slice Ab Nb cb, b) (.tail _ (.head _))); have HRM : Hid (SRowE (w9.alloc (.cells #[] 9)) w9.heap.size (.slice (some ⟨w9.heap.size, 0, none⟩) 0 0) []) := Lib.hid (SRowE.made w9 (Nat.le_refl _)); have HLA : Hid (([] : List ByteArray).length + a.length ≤ 1000000) := Lib.hid (by have := HAB2.out; simp; omega); have HLB : Hid (a.length + b.length ≤ 1000000) := Lib.hid (by have := HAB2.out; omega); have HLW : Hid (w9.heap.size ≤ (w9.alloc (.cells #[] 9)).heap.size) := Lib.hid (by simp); clear hb9)
              | ((with_reducible refine step_append_strsE (by kernel_rfl) (.tmp 96) (.tmp 97) rfl w9.heap.size (Under w9.heap.size) (.slice (some ⟨w9.heap.size, 0, none⟩) 0 0) (.slice Aa Na ca) [] a rfl rfl HRM.out HRA.out HLA.out HLW.out ?_); intro v10 w10 ho10 hg10 hb10; have HB10 : Hid (Below w9.heap.size w9 w10) := Lib.hid (below_grown ((Below.refl _ _).alloc (Nat.le_refl _) _) hg10 (fun k hk => by rw [← Option.some.inj hk]; exact Nat.le_refl _) (by simp)); have HO10 : Hid (SRowE w10 w9.heap.size v10 a) := Lib.hid ho10; obtain ⟨g0, g1, g2⟩ := (HP9.out.next HB10.out).cells (.tail _ (.tail _ (.head _))); have o0 := cell_lt g0; have HRB10 : Hid (Strs w10 (Under w9.heap.size) (.slice Ab Nb cb) b) := Lib.hid (HRB.out.below HB10.out); have HLX : Hid (w9.heap.size ≤ w10.heap.size) := Lib.hid HB10.out.size; clear ho10 hg10 hb10)
              | ((with_reducible refine step_append_strsE (by kernel_rfl) (.tmp 98) (.tmp 99) rfl w9.heap.size (Under w9.heap.size) v10 (.slice Ab Nb cb) a b rfl rfl HO10.out HRB10.out HLB.out HLX.out ?_); intro v11 w11 ho11 hg11 hb11; have HB11 : Hid (Below w9.heap.size w9 w11) := Lib.hid (below_grown HB10.out hg11 (fun k hk => (World.ownsRow.lt HO10.out k hk).1) HB10.out.size); have HP11 := Lib.hid (HP9.out.both HB11.out ho11); obtain ⟨j0, j1, j2⟩ := HP11.out.cells (.tail _ (.tail _ (.head _))); have p0 := cell_lt j0; have HFX := Lib.hid (has_fix (r := true) (x := ⟨W2.heap.size + 1, .mk 42 ByteArray.empty [e], some ⟨W2.heap.size, 0, none⟩, 1, 1⟩) (y := (v11, a ++ b)) HP11.out (.tail _ (.tail _ (.head _))) HF42.out (.head _) (sizes_app HAS.out HBS.out) (by simp [HRS.out, HAB.out])); clear ho11 hg11 hb11)
              | ((with_reducible refine step_has (r := true) (v := .agg #[.int .u8 ((Ex.mk 42 ByteArray.empty [e]).op : Int), .string (Ex.mk 42 ByteArray.empty [e]).name, .slice (some ⟨W2.heap.size, 0, none⟩) 1 1]) (y := v11) (by kernel_rfl) (.tmp 95) (.tmp 100) rfl rfl rfl HFX.out ?_); intro w12 hb12; have HP12 := Lib.hid (HP11.out.next hb12); clear hb12))
            all_goals
              go_wp2
              go_ret
              exact ⟨rfl, HP12.out.below⟩
    | true =>
      have HA0 := HE.out.1 rfl
      have HC5 := Lib.hid (regrown_any (w := W5) fun W hW => has_fix (r := true) (HP6.out.next hW) (.tail _ (.tail _ (.head _))) HF42.out (.head _) HAS.out (by simp only [HRS.out, true_and, true_iff]; exact (lang_star _ _).2 (lStar_one HA0.2)))
      have HC6 := Lib.hid (regrown_any (w := W5) fun W hW => has_fix (r := true) (HP6.out.next hW) (.tail _ (.head _)) HF43.out (.head _) HAS.out (by simp only [right_one HRS.out (.inr (.inl rfl)), true_and, true_iff]; exact (lang_plus _ _).2 ⟨a, [], by simp, HA0.2, .nil⟩))
      have HC7 := Lib.hid (regrown_any (w := W5) fun W hW => has_fix (r := true) (HP6.out.next hW) (.head _) HF63.out (.head _) HAS.out (by simp only [right_one HRS.out (.inr (.inr rfl)), true_and, true_iff]; exact (lang_opt _ _).2 (.inr HA0.2)))
      clear HA0
      cases rN with
      | false =>
        go_wp2
        have k00 := cell_regrown d00
        have k01 := cell_regrown d01
        have k02 := cell_regrown d02
        have k10 := cell_regrown d10
        have k11 := cell_regrown d11
        have k12 := cell_regrown d12
        have k20 := cell_regrown d20
        have k21 := cell_regrown d21
        have k22 := cell_regrown d22
        have k30 := cell_regrown d30
        have k31 := cell_regrown d31
        have k32 := cell_regrown d32
        refine wp_region_quiet_below (by kernel_rfl) (by kernel_rfl) ?_
        repeat (first | go_big_quiet_step (first | with_reducible exact HC5.out _ _ | with_reducible exact HC6.out _ _ | with_reducible exact HC7.out _ _ | with_reducible exact HC1.out _ _ | with_reducible exact HC2.out _ _ | with_reducible exact HC3.out _ _ | with_reducible exact HC4.out _ _) | quiet_step (first | with_reducible exact HC5.out _ _ | with_reducible exact HC6.out _ _ | with_reducible exact HC7.out _ _ | with_reducible exact HC1.out _ _ | with_reducible exact HC2.out _ _ | with_reducible exact HC3.out _ _ | with_reducible exact HC4.out _ _))
        refine wpQuiet_nil ?_
        intro _ hw'
        obtain ⟨⟨dq, osq⟩, hw''⟩ := hw'
        subst hw''
        have HP7 := Lib.hid (HP6.out.next (below_regrown _ dq osq))
        clear k00 k01 k02 k10 k11 k12 k20 k21 k22 k30 k31 k32
        clear d00 d01 d02 l0 d10 d11 d12 l1 d20 d21 d22 l2 d30 d31 d32 l3
        clear HP6
        generalize grow (redrawn _ dq) osq = wq at *
        obtain ⟨d00, d01, d02⟩ := HP7.out.cells (.tail _ (.tail _ (.tail _ (.head _))))
        have l0 := cell_lt d00
        obtain ⟨d10, d11, d12⟩ := HP7.out.cells (.tail _ (.tail _ (.head _)))
        have l1 := cell_lt d10
        obtain ⟨d20, d21, d22⟩ := HP7.out.cells (.tail _ (.head _))
        have l2 := cell_lt d20
        obtain ⟨d30, d31, d32⟩ := HP7.out.cells (.head _)
        have l3 := cell_lt d30
        clear HC1 HC2 HC3 HC4 HC5 HC6 HC7 HE HN
        cases sA with
        | false =>
          have HD1 := Lib.hid (regrown_any (w := wq) fun W hW => has_fix (r := false) (HP7.out.next hW) (.tail _ (.tail _ (.head _))) HF42.out (.head _) HAS.out HSA.out)
          go_wp2
          have k00 := cell_regrown d00
          have k01 := cell_regrown d01
          have k02 := cell_regrown d02
          have k10 := cell_regrown d10
          have k11 := cell_regrown d11
          have k12 := cell_regrown d12
          have k20 := cell_regrown d20
          have k21 := cell_regrown d21
          have k22 := cell_regrown d22
          have k30 := cell_regrown d30
          have k31 := cell_regrown d31
          have k32 := cell_regrown d32
          refine wp_region_quiet_below (by kernel_rfl) (by kernel_rfl) ?_
          repeat (first | go_big_quiet_step (first | with_reducible exact HD1.out _ _) | quiet_step (first | with_reducible exact HD1.out _ _))
          refine wpQuiet_nil ?_
          intro _ hw'
          obtain ⟨⟨dq, osq⟩, hw''⟩ := hw'
          subst hw''
          have HP8 := Lib.hid (HP7.out.next (below_regrown _ dq osq))
          clear k00 k01 k02 k10 k11 k12 k20 k21 k22 k30 k31 k32
          clear d00 d01 d02 l0 d10 d11 d12 l1 d20 d21 d22 l2 d30 d31 d32 l3
          clear HP7
          generalize grow (redrawn _ dq) osq = wq at *
          obtain ⟨d00, d01, d02⟩ := HP8.out.cells (.tail _ (.tail _ (.tail _ (.head _))))
          have l0 := cell_lt d00
          obtain ⟨d10, d11, d12⟩ := HP8.out.cells (.tail _ (.tail _ (.head _)))
          have l1 := cell_lt d10
          obtain ⟨d20, d21, d22⟩ := HP8.out.cells (.tail _ (.head _))
          have l2 := cell_lt d20
          obtain ⟨d30, d31, d32⟩ := HP8.out.cells (.head _)
          have l3 := cell_lt d30
          go_wp2
          go_ret
          exact ⟨rfl, HP8.out.below⟩
        | true =>
          have HD1 := Lib.hid (regrown_any (w := wq) fun W hW => has_fix (r := true) (HP7.out.next hW) (.tail _ (.tail _ (.head _))) HF42.out (.head _) HAS.out HSA.out)
          cases sB with
          | false =>
            have HD2 := Lib.hid (regrown_any (w := wq) fun W hW => has_fix (r := false) (HP7.out.next hW) (.tail _ (.tail _ (.head _))) HF42.out (.tail _ (.head _)) HBS.out HSB.out)
            go_wp2
            have k00 := cell_regrown d00
            have k01 := cell_regrown d01
            have k02 := cell_regrown d02
            have k10 := cell_regrown d10
            have k11 := cell_regrown d11
            have k12 := cell_regrown d12
            have k20 := cell_regrown d20
            have k21 := cell_regrown d21
            have k22 := cell_regrown d22
            have k30 := cell_regrown d30
            have k31 := cell_regrown d31
            have k32 := cell_regrown d32
            refine wp_region_quiet_below (by kernel_rfl) (by kernel_rfl) ?_
            repeat (first | go_big_quiet_step (first | with_reducible exact HD1.out _ _ | with_reducible exact HD2.out _ _) | quiet_step (first | with_reducible exact HD1.out _ _ | with_reducible exact HD2.out _ _))
            refine wpQuiet_nil ?_
            intro _ hw'
            obtain ⟨⟨dq, osq⟩, hw''⟩ := hw'
            subst hw''
            have HP8 := Lib.hid (HP7.out.next (below_regrown _ dq osq))
            clear k00 k01 k02 k10 k11 k12 k20 k21 k22 k30 k31 k32
            clear d00 d01 d02 l0 d10 d11 d12 l1 d20 d21 d22 l2 d30 d31 d32 l3
            clear HP7
            generalize grow (redrawn _ dq) osq = wq at *
            obtain ⟨d00, d01, d02⟩ := HP8.out.cells (.tail _ (.tail _ (.tail _ (.head _))))
            have l0 := cell_lt d00
            obtain ⟨d10, d11, d12⟩ := HP8.out.cells (.tail _ (.tail _ (.head _)))
            have l1 := cell_lt d10
            obtain ⟨d20, d21, d22⟩ := HP8.out.cells (.tail _ (.head _))
            have l2 := cell_lt d20
            obtain ⟨d30, d31, d32⟩ := HP8.out.cells (.head _)
            have l3 := cell_lt d30
            go_wp2
            go_ret
            exact ⟨rfl, HP8.out.below⟩
          | true =>
            have HDa := Lib.hid (fun W hW => has_fix (r := true) (HP7.out.next (W' := W) hW) (.tail _ (.tail _ (.head _))) HF42.out (.head _) HAS.out HSA.out)
            have HDb := Lib.hid (fun W hW => has_fix (r := true) (HP7.out.next (W' := W) hW) (.tail _ (.tail _ (.head _))) HF42.out (.tail _ (.head _)) HBS.out HSB.out)
            have HAB : Hid (lang (.mk 42 ByteArray.empty [e]) (a ++ b)) := Lib.hid ((lang_star _ _).2 (lStar_app ((lang_star _ _).1 (HSA.out.1 rfl).2) ((lang_star _ _).1 (HSB.out.1 rfl).2)))
            have hab : a.length + b.length ≤ 40 := by rw [HNa.out, HNb.out]; omega
            have HAB2 := Lib.hid hab
            clear HD1 HSA HSB d00 d01 d02 l0 d20 d21 d22 l2 d30 d31 d32 l3 hab
            go_wp2_with fail
            go_region_law (first
              | ((with_reducible refine step_has (r := true) (v := .agg #[.int .u8 ((Ex.mk 42 ByteArray.empty [e]).op : Int), .string (Ex.mk 42 ByteArray.empty [e]).name, .slice (some ⟨W2.heap.size, 0, none⟩) 1 1]) (y := .slice Aa Na ca) (by kernel_rfl) (.tmp 84) (.tmp 85) rfl rfl rfl (HDa.out _ (below_drewE _)) ?_); intro w8 hb8; have HB8 := Lib.hid ((below_drewE wq).trans hb8); have HP8 := Lib.hid (HP7.out.next HB8.out); obtain ⟨e0, e1, e2⟩ := HP8.out.cells (.tail _ (.tail _ (.head _))); have m0 := cell_lt e0; clear hb8)
              | ((with_reducible refine step_has (r := true) (v := .agg #[.int .u8 ((Ex.mk 42 ByteArray.empty [e]).op : Int), .string (Ex.mk 42 ByteArray.empty [e]).name, .slice (some ⟨W2.heap.size, 0, none⟩) 1 1]) (y := .slice Ab Nb cb) (by kernel_rfl) (.tmp 89) (.tmp 90) rfl rfl rfl (HDb.out _ HB8.out) ?_); intro w9 hb9; have HP9 := Lib.hid (HP8.out.next hb9); obtain ⟨f0, f1, f2⟩ := HP9.out.cells (.tail _ (.tail _ (.head _))); have n0 := cell_lt f0; have HRA : Hid (Strs (w9.alloc (.cells #[] 9)) (Under w9.heap.size) (.slice Aa Na ca) a) := Lib.hid ((HP9.out.strs (.slice Aa Na ca, a) (.head _)).below ((Below.refl _ _).alloc (Nat.le_refl _) _)); have HRB : Hid (Strs w9 (Under w9.heap.size) (.slice Ab Nb cb) b) := Lib.hid (HP9.out.strs (.slice Ab Nb cb, b) (.tail _ (.head _))); have HRM : Hid (SRowE (w9.alloc (.cells #[] 9)) w9.heap.size (.slice (some ⟨w9.heap.size, 0, none⟩) 0 0) []) := Lib.hid (SRowE.made w9 (Nat.le_refl _)); have HLA : Hid (([] : List ByteArray).length + a.length ≤ 1000000) := Lib.hid (by have := HAB2.out; simp; omega); have HLB : Hid (a.length + b.length ≤ 1000000) := Lib.hid (by have := HAB2.out; omega); have HLW : Hid (w9.heap.size ≤ (w9.alloc (.cells #[] 9)).heap.size) := Lib.hid (by simp); clear hb9)
              | ((with_reducible refine step_append_strsE (by kernel_rfl) (.tmp 96) (.tmp 97) rfl w9.heap.size (Under w9.heap.size) (.slice (some ⟨w9.heap.size, 0, none⟩) 0 0) (.slice Aa Na ca) [] a rfl rfl HRM.out HRA.out HLA.out HLW.out ?_); intro v10 w10 ho10 hg10 hb10; have HB10 : Hid (Below w9.heap.size w9 w10) := Lib.hid (below_grown ((Below.refl _ _).alloc (Nat.le_refl _) _) hg10 (fun k hk => by rw [← Option.some.inj hk]; exact Nat.le_refl _) (by simp)); have HO10 : Hid (SRowE w10 w9.heap.size v10 a) := Lib.hid ho10; obtain ⟨g0, g1, g2⟩ := (HP9.out.next HB10.out).cells (.tail _ (.tail _ (.head _))); have o0 := cell_lt g0; have HRB10 : Hid (Strs w10 (Under w9.heap.size) (.slice Ab Nb cb) b) := Lib.hid (HRB.out.below HB10.out); have HLX : Hid (w9.heap.size ≤ w10.heap.size) := Lib.hid HB10.out.size; clear ho10 hg10 hb10)
              | ((with_reducible refine step_append_strsE (by kernel_rfl) (.tmp 98) (.tmp 99) rfl w9.heap.size (Under w9.heap.size) v10 (.slice Ab Nb cb) a b rfl rfl HO10.out HRB10.out HLB.out HLX.out ?_); intro v11 w11 ho11 hg11 hb11; have HB11 : Hid (Below w9.heap.size w9 w11) := Lib.hid (below_grown HB10.out hg11 (fun k hk => (World.ownsRow.lt HO10.out k hk).1) HB10.out.size); have HP11 := Lib.hid (HP9.out.both HB11.out ho11); obtain ⟨j0, j1, j2⟩ := HP11.out.cells (.tail _ (.tail _ (.head _))); have p0 := cell_lt j0; have HFX := Lib.hid (has_fix (r := true) (x := ⟨W2.heap.size + 1, .mk 42 ByteArray.empty [e], some ⟨W2.heap.size, 0, none⟩, 1, 1⟩) (y := (v11, a ++ b)) HP11.out (.tail _ (.tail _ (.head _))) HF42.out (.head _) (sizes_app HAS.out HBS.out) (by simp [HRS.out, HAB.out])); clear ho11 hg11 hb11)
              | ((with_reducible refine step_has (r := true) (v := .agg #[.int .u8 ((Ex.mk 42 ByteArray.empty [e]).op : Int), .string (Ex.mk 42 ByteArray.empty [e]).name, .slice (some ⟨W2.heap.size, 0, none⟩) 1 1]) (y := v11) (by kernel_rfl) (.tmp 95) (.tmp 100) rfl rfl rfl HFX.out ?_); intro w12 hb12; have HP12 := Lib.hid (HP11.out.next hb12); clear hb12))
            all_goals
              go_wp2
              go_ret
              exact ⟨rfl, HP12.out.below⟩
      | true =>
        go_wp2
        have k00 := cell_regrown d00
        have k01 := cell_regrown d01
        have k02 := cell_regrown d02
        have k10 := cell_regrown d10
        have k11 := cell_regrown d11
        have k12 := cell_regrown d12
        have k20 := cell_regrown d20
        have k21 := cell_regrown d21
        have k22 := cell_regrown d22
        have k30 := cell_regrown d30
        have k31 := cell_regrown d31
        have k32 := cell_regrown d32
        refine wp_region_quiet_below (by kernel_rfl) (by kernel_rfl) ?_
        repeat (first | go_big_quiet_step (first | with_reducible exact HC5.out _ _ | with_reducible exact HC6.out _ _ | with_reducible exact HC7.out _ _ | with_reducible exact HC1.out _ _ | with_reducible exact HC2.out _ _ | with_reducible exact HC3.out _ _ | with_reducible exact HC4.out _ _) | quiet_step (first | with_reducible exact HC5.out _ _ | with_reducible exact HC6.out _ _ | with_reducible exact HC7.out _ _ | with_reducible exact HC1.out _ _ | with_reducible exact HC2.out _ _ | with_reducible exact HC3.out _ _ | with_reducible exact HC4.out _ _))
        refine wpQuiet_nil ?_
        intro _ hw'
        obtain ⟨⟨dq, osq⟩, hw''⟩ := hw'
        subst hw''
        have HP7 := Lib.hid (HP6.out.next (below_regrown _ dq osq))
        clear k00 k01 k02 k10 k11 k12 k20 k21 k22 k30 k31 k32
        clear d00 d01 d02 l0 d10 d11 d12 l1 d20 d21 d22 l2 d30 d31 d32 l3
        clear HP6
        generalize grow (redrawn _ dq) osq = wq at *
        obtain ⟨d00, d01, d02⟩ := HP7.out.cells (.tail _ (.tail _ (.tail _ (.head _))))
        have l0 := cell_lt d00
        obtain ⟨d10, d11, d12⟩ := HP7.out.cells (.tail _ (.tail _ (.head _)))
        have l1 := cell_lt d10
        obtain ⟨d20, d21, d22⟩ := HP7.out.cells (.tail _ (.head _))
        have l2 := cell_lt d20
        obtain ⟨d30, d31, d32⟩ := HP7.out.cells (.head _)
        have l3 := cell_lt d30
        clear HC1 HC2 HC3 HC4 HC5 HC6 HC7 HE HN
        cases sA with
        | false =>
          have HD1 := Lib.hid (regrown_any (w := wq) fun W hW => has_fix (r := false) (HP7.out.next hW) (.tail _ (.tail _ (.head _))) HF42.out (.head _) HAS.out HSA.out)
          go_wp2
          have k00 := cell_regrown d00
          have k01 := cell_regrown d01
          have k02 := cell_regrown d02
          have k10 := cell_regrown d10
          have k11 := cell_regrown d11
          have k12 := cell_regrown d12
          have k20 := cell_regrown d20
          have k21 := cell_regrown d21
          have k22 := cell_regrown d22
          have k30 := cell_regrown d30
          have k31 := cell_regrown d31
          have k32 := cell_regrown d32
          refine wp_region_quiet_below (by kernel_rfl) (by kernel_rfl) ?_
          repeat (first | go_big_quiet_step (first | with_reducible exact HD1.out _ _) | quiet_step (first | with_reducible exact HD1.out _ _))
          refine wpQuiet_nil ?_
          intro _ hw'
          obtain ⟨⟨dq, osq⟩, hw''⟩ := hw'
          subst hw''
          have HP8 := Lib.hid (HP7.out.next (below_regrown _ dq osq))
          clear k00 k01 k02 k10 k11 k12 k20 k21 k22 k30 k31 k32
          clear d00 d01 d02 l0 d10 d11 d12 l1 d20 d21 d22 l2 d30 d31 d32 l3
          clear HP7
          generalize grow (redrawn _ dq) osq = wq at *
          obtain ⟨d00, d01, d02⟩ := HP8.out.cells (.tail _ (.tail _ (.tail _ (.head _))))
          have l0 := cell_lt d00
          obtain ⟨d10, d11, d12⟩ := HP8.out.cells (.tail _ (.tail _ (.head _)))
          have l1 := cell_lt d10
          obtain ⟨d20, d21, d22⟩ := HP8.out.cells (.tail _ (.head _))
          have l2 := cell_lt d20
          obtain ⟨d30, d31, d32⟩ := HP8.out.cells (.head _)
          have l3 := cell_lt d30
          go_wp2
          go_ret
          exact ⟨rfl, HP8.out.below⟩
        | true =>
          have HD1 := Lib.hid (regrown_any (w := wq) fun W hW => has_fix (r := true) (HP7.out.next hW) (.tail _ (.tail _ (.head _))) HF42.out (.head _) HAS.out HSA.out)
          cases sB with
          | false =>
            have HD2 := Lib.hid (regrown_any (w := wq) fun W hW => has_fix (r := false) (HP7.out.next hW) (.tail _ (.tail _ (.head _))) HF42.out (.tail _ (.head _)) HBS.out HSB.out)
            go_wp2
            have k00 := cell_regrown d00
            have k01 := cell_regrown d01
            have k02 := cell_regrown d02
            have k10 := cell_regrown d10
            have k11 := cell_regrown d11
            have k12 := cell_regrown d12
            have k20 := cell_regrown d20
            have k21 := cell_regrown d21
            have k22 := cell_regrown d22
            have k30 := cell_regrown d30
            have k31 := cell_regrown d31
            have k32 := cell_regrown d32
            refine wp_region_quiet_below (by kernel_rfl) (by kernel_rfl) ?_
            repeat (first | go_big_quiet_step (first | with_reducible exact HD1.out _ _ | with_reducible exact HD2.out _ _) | quiet_step (first | with_reducible exact HD1.out _ _ | with_reducible exact HD2.out _ _))
            refine wpQuiet_nil ?_
            intro _ hw'
            obtain ⟨⟨dq, osq⟩, hw''⟩ := hw'
            subst hw''
            have HP8 := Lib.hid (HP7.out.next (below_regrown _ dq osq))
            clear k00 k01 k02 k10 k11 k12 k20 k21 k22 k30 k31 k32
            clear d00 d01 d02 l0 d10 d11 d12 l1 d20 d21 d22 l2 d30 d31 d32 l3
            clear HP7
            generalize grow (redrawn _ dq) osq = wq at *
            obtain ⟨d00, d01, d02⟩ := HP8.out.cells (.tail _ (.tail _ (.tail _ (.head _))))
            have l0 := cell_lt d00
            obtain ⟨d10, d11, d12⟩ := HP8.out.cells (.tail _ (.tail _ (.head _)))
            have l1 := cell_lt d10
            obtain ⟨d20, d21, d22⟩ := HP8.out.cells (.tail _ (.head _))
            have l2 := cell_lt d20
            obtain ⟨d30, d31, d32⟩ := HP8.out.cells (.head _)
            have l3 := cell_lt d30
            go_wp2
            go_ret
            exact ⟨rfl, HP8.out.below⟩
          | true =>
            have HDa := Lib.hid (fun W hW => has_fix (r := true) (HP7.out.next (W' := W) hW) (.tail _ (.tail _ (.head _))) HF42.out (.head _) HAS.out HSA.out)
            have HDb := Lib.hid (fun W hW => has_fix (r := true) (HP7.out.next (W' := W) hW) (.tail _ (.tail _ (.head _))) HF42.out (.tail _ (.head _)) HBS.out HSB.out)
            have HAB : Hid (lang (.mk 42 ByteArray.empty [e]) (a ++ b)) := Lib.hid ((lang_star _ _).2 (lStar_app ((lang_star _ _).1 (HSA.out.1 rfl).2) ((lang_star _ _).1 (HSB.out.1 rfl).2)))
            have hab : a.length + b.length ≤ 40 := by rw [HNa.out, HNb.out]; omega
            have HAB2 := Lib.hid hab
            clear HD1 HSA HSB d00 d01 d02 l0 d20 d21 d22 l2 d30 d31 d32 l3 hab
            go_wp2_with fail
            go_region_law (first
              | ((with_reducible refine step_has (r := true) (v := .agg #[.int .u8 ((Ex.mk 42 ByteArray.empty [e]).op : Int), .string (Ex.mk 42 ByteArray.empty [e]).name, .slice (some ⟨W2.heap.size, 0, none⟩) 1 1]) (y := .slice Aa Na ca) (by kernel_rfl) (.tmp 84) (.tmp 85) rfl rfl rfl (HDa.out _ (below_drewE _)) ?_); intro w8 hb8; have HB8 := Lib.hid ((below_drewE wq).trans hb8); have HP8 := Lib.hid (HP7.out.next HB8.out); obtain ⟨e0, e1, e2⟩ := HP8.out.cells (.tail _ (.tail _ (.head _))); have m0 := cell_lt e0; clear hb8)
              | ((with_reducible refine step_has (r := true) (v := .agg #[.int .u8 ((Ex.mk 42 ByteArray.empty [e]).op : Int), .string (Ex.mk 42 ByteArray.empty [e]).name, .slice (some ⟨W2.heap.size, 0, none⟩) 1 1]) (y := .slice Ab Nb cb) (by kernel_rfl) (.tmp 89) (.tmp 90) rfl rfl rfl (HDb.out _ HB8.out) ?_); intro w9 hb9; have HP9 := Lib.hid (HP8.out.next hb9); obtain ⟨f0, f1, f2⟩ := HP9.out.cells (.tail _ (.tail _ (.head _))); have n0 := cell_lt f0; have HRA : Hid (Strs (w9.alloc (.cells #[] 9)) (Under w9.heap.size) (.slice Aa Na ca) a) := Lib.hid ((HP9.out.strs (.slice Aa Na ca, a) (.head _)).below ((Below.refl _ _).alloc (Nat.le_refl _) _)); have HRB : Hid (Strs w9 (Under w9.heap.size) (.slice Ab Nb cb) b) := Lib.hid (HP9.out.strs (.slice Ab Nb cb, b) (.tail _ (.head _))); have HRM : Hid (SRowE (w9.alloc (.cells #[] 9)) w9.heap.size (.slice (some ⟨w9.heap.size, 0, none⟩) 0 0) []) := Lib.hid (SRowE.made w9 (Nat.le_refl _)); have HLA : Hid (([] : List ByteArray).length + a.length ≤ 1000000) := Lib.hid (by have := HAB2.out; simp; omega); have HLB : Hid (a.length + b.length ≤ 1000000) := Lib.hid (by have := HAB2.out; omega); have HLW : Hid (w9.heap.size ≤ (w9.alloc (.cells #[] 9)).heap.size) := Lib.hid (by simp); clear hb9)
              | ((with_reducible refine step_append_strsE (by kernel_rfl) (.tmp 96) (.tmp 97) rfl w9.heap.size (Under w9.heap.size) (.slice (some ⟨w9.heap.size, 0, none⟩) 0 0) (.slice Aa Na ca) [] a rfl rfl HRM.out HRA.out HLA.out HLW.out ?_); intro v10 w10 ho10 hg10 hb10; have HB10 : Hid (Below w9.heap.size w9 w10) := Lib.hid (below_grown ((Below.refl _ _).alloc (Nat.le_refl _) _) hg10 (fun k hk => by rw [← Option.some.inj hk]; exact Nat.le_refl _) (by simp)); have HO10 : Hid (SRowE w10 w9.heap.size v10 a) := Lib.hid ho10; obtain ⟨g0, g1, g2⟩ := (HP9.out.next HB10.out).cells (.tail _ (.tail _ (.head _))); have o0 := cell_lt g0; have HRB10 : Hid (Strs w10 (Under w9.heap.size) (.slice Ab Nb cb) b) := Lib.hid (HRB.out.below HB10.out); have HLX : Hid (w9.heap.size ≤ w10.heap.size) := Lib.hid HB10.out.size; clear ho10 hg10 hb10)
              | ((with_reducible refine step_append_strsE (by kernel_rfl) (.tmp 98) (.tmp 99) rfl w9.heap.size (Under w9.heap.size) v10 (.slice Ab Nb cb) a b rfl rfl HO10.out HRB10.out HLB.out HLX.out ?_); intro v11 w11 ho11 hg11 hb11; have HB11 : Hid (Below w9.heap.size w9 w11) := Lib.hid (below_grown HB10.out hg11 (fun k hk => (World.ownsRow.lt HO10.out k hk).1) HB10.out.size); have HP11 := Lib.hid (HP9.out.both HB11.out ho11); obtain ⟨j0, j1, j2⟩ := HP11.out.cells (.tail _ (.tail _ (.head _))); have p0 := cell_lt j0; have HFX := Lib.hid (has_fix (r := true) (x := ⟨W2.heap.size + 1, .mk 42 ByteArray.empty [e], some ⟨W2.heap.size, 0, none⟩, 1, 1⟩) (y := (v11, a ++ b)) HP11.out (.tail _ (.tail _ (.head _))) HF42.out (.head _) (sizes_app HAS.out HBS.out) (by simp [HRS.out, HAB.out])); clear ho11 hg11 hb11)
              | ((with_reducible refine step_has (r := true) (v := .agg #[.int .u8 ((Ex.mk 42 ByteArray.empty [e]).op : Int), .string (Ex.mk 42 ByteArray.empty [e]).name, .slice (some ⟨W2.heap.size, 0, none⟩) 1 1]) (y := v11) (by kernel_rfl) (.tmp 95) (.tmp 100) rfl rfl rfl HFX.out ?_); intro w12 hb12; have HP12 := Lib.hid (HP11.out.next hb12); clear hb12))
            all_goals
              go_wp2
              go_ret
              exact ⟨rfl, HP12.out.below⟩
end Go.Proofs.YtldmimekmjmkgaaDoor
