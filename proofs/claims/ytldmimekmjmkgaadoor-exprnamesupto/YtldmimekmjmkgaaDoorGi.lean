/-
  What the statements' walks want: rows of strings of the call's own, expressions in boxes, what lies in memory at each step.
-/
import Derived.Test.YtldmimekmjmkgaaDoorGh
namespace Go.Proofs.YtldmimekmjmkgaaDoor
open Go.RowKit Go.Sort Go.Maps Go.WideMaps

/-- A row of strings of the call's own. -/
def SRowE (w : World) (base : Nat) (v : Value) (l : List ByteArray) : Prop := w.ownsRow base 9 1 v l.length (l.map Value.string)
theorem SRowE.made (w : World) {base : Nat} (hb : base ≤ w.heap.size) : SRowE (w.alloc (.cells #[] 9)) base (.slice (some ⟨w.heap.size, 0, none⟩) 0 0) [] := World.ownsRow_made w #[] 0 hb (Nat.zero_le _) rfl
theorem SRowE.strs {w : World} {base : Nat} {v : Value} {l : List ByteArray} (h : SRowE w base v l) : Strs w (Under w.heap.size) v l := by
  have hc := fun g hg => World.ownsRow.cells h (g := g) hg
  have hlt := World.ownsRow.lt h
  obtain ⟨_, ⟨hv, h0⟩ | ⟨g, cap, cur, hv, _, _, hn, hcap, _⟩⟩ := h
  · subst hv
    have : l = [] := List.eq_nil_of_length_eq_zero h0
    subst this
    exact strs_no w _
  · subst hv
    refine ⟨_, cap, rfl, hn, hcap, .inr ⟨g, 0, rfl, (hlt g rfl).2, fun i s hi => ?_⟩⟩
    have := hc g rfl i (.string s) (by rw [List.getElem?_map, hi]; rfl)
    rwa [add_cell] at this
theorem run_append_strsE {w : World} {base : Nat} {S : Nat → Prop} {v x : Value} {l l' : List ByteArray} (ty : TypeId) (hown : SRowE w base v l) (hsrc : Strs w S x l')
    (hn : l.length + l'.length ≤ 1000000) (hbase : base ≤ w.heap.size) :
    ∃ v' w', (Builtin.append_ #[25, 25] ty #[v, x]).run Tryd.prog w = .ok v' w' ∧ SRowE w' base v' (l ++ l') ∧ w.grownBy w' v.ownBlock ∧ (v'.ownBlock = v.ownBlock ∨ v'.ownBlock = some w.heap.size) := by
  obtain ⟨A, c, rfl, _, _, hsrc⟩ := hsrc
  obtain ⟨i, hi, hz0, hz1, hz2⟩ := info_parts strE_info
  cases A with
  | none =>
    have hl : l' = [] := by
      rcases hsrc with h | ⟨b, o, h, _⟩
      · exact h
      · cases h
    subst hl
    refine ⟨v, w, ?_, by simpa using hown, ⟨rfl, rfl, rfl, Nat.le_refl _, fun _ _ _ => rfl⟩, .inl rfl⟩
    rcases hown.2 with ⟨rfl, h0⟩ | ⟨g, cap, cur, rfl, _, _, hnc, _⟩
    · simp [Builtin.append_, run_underlying Tryd.underlying25, sizeOf, typeInfo, hi, Builtin.lenOf, Builtin.firstCells]
    · simp [Builtin.append_, run_underlying Tryd.underlying25, sizeOf, typeInfo, hi, Builtin.lenOf, Builtin.firstCells, hnc, storeCells]
  | some a =>
    have ha : ∀ j u, (l'.map Value.string)[j]? = some u → w.cell? (a.add j) = some u := by
      rcases hsrc with h | ⟨b, o, h, _, hx⟩
      · subst h; intro j u h; simp at h
      · injection h with h; subst h
        intro j u hj
        rw [List.getElem?_map] at hj
        cases hq : l'[j]? with
        | none => rw [hq] at hj; simp at hj
        | some s =>
          rw [hq] at hj
          simp only [Option.map_some, Option.some.injEq] at hj
          subst hj
          rw [add_cell]
          exact hx j s hq
    have hone : ∀ u ∈ l'.map Value.string, u.oneCell' = true := by
      intro u hu
      obtain ⟨t, _, ht⟩ := List.mem_map.1 hu
      subst ht; rfl
    obtain ⟨v', w', hr, h1, h2, _, h4⟩ := run_append_own_at (P := Tryd.prog) w base 25 ty 9 i _ 1 16 Tryd.underlying25 hi hz0 hz1 hz2 rfl (by omega) v l.length _ hown a l'.length c _ (by simp) ha hone (by unfold maxLen; omega) (by omega) hbase
    exact ⟨v', w', hr, by unfold SRowE; rw [List.length_append, List.map_append]; exact h1, h2, h4⟩
section
variable {w : World} {ops : Array Oper} {rest : List Oper} {o : Oper} {a : Act} {Q : Exit → Act → World → Prop}
theorem wpList_append_strsE (hgd : o.guard = none) (s x : Operand) (ho : o.op = .call { callee := .builtin .append, args := #[s, x], argTypes := #[25, 25] })
    (base : Nat) (S : Nat → Prop) (v u : Value) (l l' : List ByteArray) (hs : a.eval s = v) (hx : a.eval x = u) (hown : SRowE w base v l) (hsrc : Strs w S u l')
    (hn : l.length + l'.length ≤ 1000000) (hbase : base ≤ w.heap.size)
    (h : ∀ v' w', SRowE w' base v' (l ++ l') → w.grownBy w' v.ownBlock → (v'.ownBlock = v.ownBlock ∨ v'.ownBlock = some w.heap.size) → wpList Tryd.prog ops Q rest (a.put o.dst v') w') : wpList Tryd.prog ops Q (o :: rest) a w := by
  refine wpList_plain hgd fun _ hK => ?_
  obtain ⟨v', w', hr, h1, h2, h3⟩ := run_append_strsE o.type hown hsrc hn hbase
  unfold Oper.wp execOp
  simp only [ho, resolve, invoke, builtin, Sem.run_bind, Sem.run_pure, Result.andThen_ok, List.map_toArray, List.map_cons, List.map_nil, hs, hx, hr]
  exact hK _ _ (h v' w' h1 h2 h3)
end
/-- An append to a row of the call's own leaves what lay ahead of it. -/
theorem below_grown {B : Nat} {w a b : World} {row : Option Nat} (h : Below B w a) (hg : a.grownBy b row) (hrow : ∀ k, row = some k → B ≤ k) (hB : B ≤ a.heap.size) : Below B w b :=
  ⟨hg.os.trans h.os, hg.tape.trans h.tape, hg.output.trans h.output, Nat.le_trans h.size hg.size, fun k hk => (hg.block k (by omega) (fun e => by have := hrow k e.symm; omega)).trans (h.block k hk)⟩

/-- Where an expression lies. -/
structure Slot where
  g : Nat
  e : Ex
  A : Option Addr
  k : Nat
  c : Nat
/-- What lies in memory: expressions in boxes, rows of strings, the library's table. -/
structure Pack (w W : World) (es : List Slot) (ss : List (Value × List ByteArray)) : Prop where
  below : Below w.heap.size w W
  tab : TabB W
  ex : ∀ x ∈ es, Lies w W x.g x.e x.A x.k x.c
  strs : ∀ y ∈ ss, Strs W (Under W.heap.size) y.1 y.2
theorem Pack.next {w W W' : World} {es : List Slot} {ss : List (Value × List ByteArray)} (h : Pack w W es ss) (hb : Below W.heap.size W W') : Pack w W' es ss :=
  ⟨belowNext h.below hb, h.tab.below hb, fun x hx => (h.ex x hx).next hb, fun y hy => (h.strs y hy).keep (fun _ hb' => Nat.lt_of_lt_of_le hb' hb.size) fun b hb' => hb.block b hb'⟩
theorem Pack.alloc {w W : World} {es : List Slot} {ss : List (Value × List ByteArray)} (h : Pack w W es ss) (o : Obj) : Pack w (W.alloc o) es ss := h.next ((Below.refl _ _).alloc (Nat.le_refl _) _)
theorem Pack.add {w W : World} {es : List Slot} {ss : List (Value × List ByteArray)} (h : Pack w W es ss) {x : Slot} (hx : Lies w W x.g x.e x.A x.k x.c) : Pack w W (x :: es) ss :=
  ⟨h.below, h.tab, fun y hy => by
    rcases List.mem_cons.1 hy with rfl | hy
    · exact hx
    · exact h.ex y hy, h.strs⟩
theorem Pack.row {w W : World} {es : List Slot} {ss : List (Value × List ByteArray)} (h : Pack w W es ss) {v : Value} {l : List ByteArray} (hx : Strs W (Under W.heap.size) v l) : Pack w W es ((v, l) :: ss) :=
  ⟨h.below, h.tab, h.ex, fun y hy => by
    rcases List.mem_cons.1 hy with rfl | hy
    · exact hx
    · exact h.strs y hy⟩
theorem Pack.cells {w W : World} {es : List Slot} {ss : List (Value × List ByteArray)} (h : Pack w W es ss) {x : Slot} (hx : x ∈ es) : W.cell? ⟨x.g, 0, none⟩ = some (.int .u8 (x.e.op : Int)) ∧ W.cell? ⟨x.g, 1, none⟩ = some (.string x.e.name) ∧ W.cell? ⟨x.g, 2, none⟩ = some (.slice x.A x.k x.c) := (h.ex x hx).cells
/-- One alone in a row, in a new box. -/
theorem Pack.one {w W : World} {es : List Slot} {ss : List (Value × List ByteArray)} (h : Pack w W es ss) {x : Slot} (hx : x ∈ es) (o : Nat) {g : Nat} (hg : W.heap.size = g) :
    Pack w ((W.alloc (.cells #[.int .u8 (x.e.op : Int), .string x.e.name, .slice x.A x.k x.c] 24)).alloc (.cells #[.int .u8 (o : Int), .string ⟨#[]⟩, .slice (some ⟨g, 0, none⟩) 1 1] 24))
      (⟨g + 1, .mk o ByteArray.empty [x.e], some ⟨g, 0, none⟩, 1, 1⟩ :: es) ss := by
  subst hg
  have h1 := h.alloc (.cells #[.int .u8 (x.e.op : Int), .string x.e.name, .slice x.A x.k x.c] 24)
  have hk : Exs (W.alloc (.cells #[.int .u8 (x.e.op : Int), .string x.e.name, .slice x.A x.k x.c] 24)) (Under (W.heap.size + 1)) (.slice (some ⟨W.heap.size, 0, none⟩) 1 1) [x.e] :=
    ex_row (heap_new _ _) (Nat.lt_succ_self _) ((h1.ex x hx).kids.keep (fun b hb => by have : b < _ := hb; simp at this; exact this) fun _ _ => rfl)
  have h2 := (h1.alloc (.cells #[.int .u8 (o : Int), .string ⟨#[]⟩, .slice (some ⟨W.heap.size, 0, none⟩) 1 1] 24)).add (x := ⟨(W.alloc (.cells #[.int .u8 (x.e.op : Int), .string x.e.name, .slice x.A x.k x.c] 24)).heap.size, .mk o ByteArray.empty [x.e], some ⟨W.heap.size, 0, none⟩, 1, 1⟩) (Lies.new (e := .mk o ByteArray.empty [x.e]) h1.below hk fun b hb => by have : b < _ := hb; simp; omega)
  have e : (W.alloc (.cells #[.int .u8 (x.e.op : Int), .string x.e.name, .slice x.A x.k x.c] 24)).heap.size = W.heap.size + 1 := by simp
  rwa [e] at h2

theorem lang_star (e : Ex) (w : List ByteArray) : lang (.mk 42 ByteArray.empty [e]) w ↔ lStar (lang e) w := by
  rw [lang]; simp [langOne]
theorem lang_plus (e : Ex) (w : List ByteArray) : lang (.mk 43 ByteArray.empty [e]) w ↔ lCat (lang e) (lStar (lang e)) w := by
  rw [lang]; simp [langOne]
theorem lang_opt (e : Ex) (w : List ByteArray) : lang (.mk 63 ByteArray.empty [e]) w ↔ w = [] ∨ lang e w := by
  rw [lang]; simp [langOne]
theorem lStar_or {A : Rws} {w : List ByteArray} : lStar A w ↔ w = [] ∨ lCat A (lStar A) w := by
  constructor
  · intro h
    cases h with
    | nil => exact .inl rfl
    | app hu hv => exact .inr ⟨_, _, rfl, hu, hv⟩
  · rintro (rfl | ⟨u, v, rfl, hu, hv⟩)
    · exact .nil
    · exact .app hu hv
end Go.Proofs.YtldmimekmjmkgaaDoor
