/-
  What the statements' walks want: rows of strings of the call's own, expressions in boxes, what lies in memory at each step.
  The document's cut: what it answers.
  The document's write: of a right expression it answers how that is written.
  The document's read: what it answers.
  The document's Print and Parse: what they answer.
  ExprParses walked: whatever text is handed in, it answers true.
-/
import Derived.Test.YtldmimekmjmkgaaDoorGh
import Derived.Test.YtldmimekmjmkgaaDoorMA
import Derived.Test.YtldmimekmjmkgaaDoorMD
import Derived.Laws.BytesString
import Derived.Deep.DrawnRows
import Derived.Test.YtldmimekmjmkgaaDoorGe
import Derived.Test.YtldmimekmjmkgaaDoorGg
namespace Go.Proofs.YtldmimekmjmkgaaDoor
open Go.RowKit Go.Sort Go.Maps Go.WideMaps

/-- A row of strings of the call's own. -/
def SRowE (w : World) (base : Nat) (v : Value) (l : List ByteArray) : Prop := w.ownsRow base 9 1 v l.length (l.map Value.string)
theorem SRowE.made (w : World) {base : Nat} (hb : base ≤ w.heap.size) : SRowE (w.alloc (.cells #[] 9)) base (.slice (some ⟨w.heap.size, 0, none⟩) 0 0) [] := World.ownsRow_made w #[] 0 hb (Nat.zero_le _) rfl
theorem SRowE.strs {w : World} {base : Nat} {v : Value} {l : List ByteArray} (h : SRowE w base v l) : Strs w (Under w.heap.size) v l := by
  have hc := fun g hg => World.ownsRow.cells h (g := g) hg
  have hlt := World.ownsRow.lt h
  obtain ⟨_, ⟨hv, h0⟩ | ⟨g, cap, cur, hv, _, _, hn, hcap, _⟩⟩ := h
  · subst hv
    have : l = [] := List.eq_nil_of_length_eq_zero h0
    subst this
    exact strs_no w _
  · subst hv
    refine ⟨_, cap, rfl, hn, hcap, .inr ⟨g, 0, rfl, (hlt g rfl).2, fun i s hi => ?_⟩⟩
    have := hc g rfl i (.string s) (by rw [List.getElem?_map, hi]; rfl)
    rwa [add_cell] at this
theorem run_append_strsE {w : World} {base : Nat} {S : Nat → Prop} {v x : Value} {l l' : List ByteArray} (ty : TypeId) (hown : SRowE w base v l) (hsrc : Strs w S x l')
    (hn : l.length + l'.length ≤ 1000000) (hbase : base ≤ w.heap.size) :
    ∃ v' w', (Builtin.append_ #[25, 25] ty #[v, x]).run Tryd.prog w = .ok v' w' ∧ SRowE w' base v' (l ++ l') ∧ w.grownBy w' v.ownBlock ∧ (v'.ownBlock = v.ownBlock ∨ v'.ownBlock = some w.heap.size) := by
  obtain ⟨A, c, rfl, _, _, hsrc⟩ := hsrc
  obtain ⟨i, hi, hz0, hz1, hz2⟩ := info_parts strE_info
  cases A with
  | none =>
    have hl : l' = [] := by
      rcases hsrc with h | ⟨b, o, h, _⟩
      · exact h
      · cases h
    subst hl
    refine ⟨v, w, ?_, by simpa using hown, ⟨rfl, rfl, rfl, Nat.le_refl _, fun _ _ _ => rfl⟩, .inl rfl⟩
    rcases hown.2 with ⟨rfl, h0⟩ | ⟨g, cap, cur, rfl, _, _, hnc, _⟩
    · simp [Builtin.append_, run_underlying Tryd.underlying25, sizeOf, typeInfo, hi, Builtin.lenOf, Builtin.firstCells]
    · simp [Builtin.append_, run_underlying Tryd.underlying25, sizeOf, typeInfo, hi, Builtin.lenOf, Builtin.firstCells, hnc, storeCells]
  | some a =>
    have ha : ∀ j u, (l'.map Value.string)[j]? = some u → w.cell? (a.add j) = some u := by
      rcases hsrc with h | ⟨b, o, h, _, hx⟩
      · subst h; intro j u h; simp at h
      · injection h with h; subst h
        intro j u hj
        rw [List.getElem?_map] at hj
        cases hq : l'[j]? with
        | none => rw [hq] at hj; simp at hj
        | some s =>
          rw [hq] at hj
          simp only [Option.map_some, Option.some.injEq] at hj
          subst hj
          rw [add_cell]
          exact hx j s hq
    have hone : ∀ u ∈ l'.map Value.string, u.oneCell' = true := by
      intro u hu
      obtain ⟨t, _, ht⟩ := List.mem_map.1 hu
      subst ht; rfl
    obtain ⟨v', w', hr, h1, h2, _, h4⟩ := run_append_own_at (P := Tryd.prog) w base 25 ty 9 i _ 1 16 Tryd.underlying25 hi hz0 hz1 hz2 rfl (by omega) v l.length _ hown a l'.length c _ (by simp) ha hone (by unfold maxLen; omega) (by omega) hbase
    exact ⟨v', w', hr, by unfold SRowE; rw [List.length_append, List.map_append]; exact h1, h2, h4⟩
section
variable {w : World} {ops : Array Oper} {rest : List Oper} {o : Oper} {a : Act} {Q : Exit → Act → World → Prop}
theorem wpList_append_strsE (hgd : o.guard = none) (s x : Operand) (ho : o.op = .call { callee := .builtin .append, args := #[s, x], argTypes := #[25, 25] })
    (base : Nat) (S : Nat → Prop) (v u : Value) (l l' : List ByteArray) (hs : a.eval s = v) (hx : a.eval x = u) (hown : SRowE w base v l) (hsrc : Strs w S u l')
    (hn : l.length + l'.length ≤ 1000000) (hbase : base ≤ w.heap.size)
    (h : ∀ v' w', SRowE w' base v' (l ++ l') → w.grownBy w' v.ownBlock → (v'.ownBlock = v.ownBlock ∨ v'.ownBlock = some w.heap.size) → wpList Tryd.prog ops Q rest (a.put o.dst v') w') : wpList Tryd.prog ops Q (o :: rest) a w := by
  refine wpList_plain hgd fun _ hK => ?_
  obtain ⟨v', w', hr, h1, h2, h3⟩ := run_append_strsE o.type hown hsrc hn hbase
  unfold Oper.wp execOp
  simp only [ho, resolve, invoke, builtin, Sem.run_bind, Sem.run_pure, Result.andThen_ok, List.map_toArray, List.map_cons, List.map_nil, hs, hx, hr]
  exact hK _ _ (h v' w' h1 h2 h3)
end
/-- An append to a row of the call's own leaves what lay ahead of it. -/
theorem below_grown {B : Nat} {w a b : World} {row : Option Nat} (h : Below B w a) (hg : a.grownBy b row) (hrow : ∀ k, row = some k → B ≤ k) (hB : B ≤ a.heap.size) : Below B w b :=
  ⟨hg.os.trans h.os, hg.tape.trans h.tape, hg.output.trans h.output, Nat.le_trans h.size hg.size, fun k hk => (hg.block k (by omega) (fun e => by have := hrow k e.symm; omega)).trans (h.block k hk)⟩

/-- Where an expression lies. -/
structure Slot where
  g : Nat
  e : Ex
  A : Option Addr
  k : Nat
  c : Nat
/-- What lies in memory: expressions in boxes, rows of strings, the library's table. -/
structure Pack (w W : World) (es : List Slot) (ss : List (Value × List ByteArray)) : Prop where
  below : Below w.heap.size w W
  tab : TabB W
  ex : ∀ x ∈ es, Lies w W x.g x.e x.A x.k x.c
  strs : ∀ y ∈ ss, Strs W (Under W.heap.size) y.1 y.2
theorem Pack.next {w W W' : World} {es : List Slot} {ss : List (Value × List ByteArray)} (h : Pack w W es ss) (hb : Below W.heap.size W W') : Pack w W' es ss :=
  ⟨belowNext h.below hb, h.tab.below hb, fun x hx => (h.ex x hx).next hb, fun y hy => (h.strs y hy).keep (fun _ hb' => Nat.lt_of_lt_of_le hb' hb.size) fun b hb' => hb.block b hb'⟩
theorem Pack.alloc {w W : World} {es : List Slot} {ss : List (Value × List ByteArray)} (h : Pack w W es ss) (o : Obj) : Pack w (W.alloc o) es ss := h.next ((Below.refl _ _).alloc (Nat.le_refl _) _)
theorem Pack.add {w W : World} {es : List Slot} {ss : List (Value × List ByteArray)} (h : Pack w W es ss) {x : Slot} (hx : Lies w W x.g x.e x.A x.k x.c) : Pack w W (x :: es) ss :=
  ⟨h.below, h.tab, fun y hy => by
    rcases List.mem_cons.1 hy with rfl | hy
    · exact hx
    · exact h.ex y hy, h.strs⟩
theorem Pack.row {w W : World} {es : List Slot} {ss : List (Value × List ByteArray)} (h : Pack w W es ss) {v : Value} {l : List ByteArray} (hx : Strs W (Under W.heap.size) v l) : Pack w W es ((v, l) :: ss) :=
  ⟨h.below, h.tab, h.ex, fun y hy => by
    rcases List.mem_cons.1 hy with rfl | hy
    · exact hx
    · exact h.strs y hy⟩
theorem Pack.cells {w W : World} {es : List Slot} {ss : List (Value × List ByteArray)} (h : Pack w W es ss) {x : Slot} (hx : x ∈ es) : W.cell? ⟨x.g, 0, none⟩ = some (.int .u8 (x.e.op : Int)) ∧ W.cell? ⟨x.g, 1, none⟩ = some (.string x.e.name) ∧ W.cell? ⟨x.g, 2, none⟩ = some (.slice x.A x.k x.c) := (h.ex x hx).cells
/-- One alone in a row, in a new box. -/
theorem Pack.one {w W : World} {es : List Slot} {ss : List (Value × List ByteArray)} (h : Pack w W es ss) {x : Slot} (hx : x ∈ es) (o : Nat) {g : Nat} (hg : W.heap.size = g) :
    Pack w ((W.alloc (.cells #[.int .u8 (x.e.op : Int), .string x.e.name, .slice x.A x.k x.c] 24)).alloc (.cells #[.int .u8 (o : Int), .string ⟨#[]⟩, .slice (some ⟨g, 0, none⟩) 1 1] 24))
      (⟨g + 1, .mk o ByteArray.empty [x.e], some ⟨g, 0, none⟩, 1, 1⟩ :: es) ss := by
  subst hg
  have h1 := h.alloc (.cells #[.int .u8 (x.e.op : Int), .string x.e.name, .slice x.A x.k x.c] 24)
  have hk : Exs (W.alloc (.cells #[.int .u8 (x.e.op : Int), .string x.e.name, .slice x.A x.k x.c] 24)) (Under (W.heap.size + 1)) (.slice (some ⟨W.heap.size, 0, none⟩) 1 1) [x.e] :=
    ex_row (heap_new _ _) (Nat.lt_succ_self _) ((h1.ex x hx).kids.keep (fun b hb => by have : b < _ := hb; simp at this; exact this) fun _ _ => rfl)
  have h2 := (h1.alloc (.cells #[.int .u8 (o : Int), .string ⟨#[]⟩, .slice (some ⟨W.heap.size, 0, none⟩) 1 1] 24)).add (x := ⟨(W.alloc (.cells #[.int .u8 (x.e.op : Int), .string x.e.name, .slice x.A x.k x.c] 24)).heap.size, .mk o ByteArray.empty [x.e], some ⟨W.heap.size, 0, none⟩, 1, 1⟩) (Lies.new (e := .mk o ByteArray.empty [x.e]) h1.below hk fun b hb => by have : b < _ := hb; simp; omega)
  have e : (W.alloc (.cells #[.int .u8 (x.e.op : Int), .string x.e.name, .slice x.A x.k x.c] 24)).heap.size = W.heap.size + 1 := by simp
  rwa [e] at h2

theorem lang_star (e : Ex) (w : List ByteArray) : lang (.mk 42 ByteArray.empty [e]) w ↔ lStar (lang e) w := by
  rw [lang]; simp [langOne]
theorem lang_plus (e : Ex) (w : List ByteArray) : lang (.mk 43 ByteArray.empty [e]) w ↔ lCat (lang e) (lStar (lang e)) w := by
  rw [lang]; simp [langOne]
theorem lang_opt (e : Ex) (w : List ByteArray) : lang (.mk 63 ByteArray.empty [e]) w ↔ w = [] ∨ lang e w := by
  rw [lang]; simp [langOne]
theorem lStar_or {A : Rws} {w : List ByteArray} : lStar A w ↔ w = [] ∨ lCat A (lStar A) w := by
  constructor
  · intro h
    cases h with
    | nil => exact .inl rfl
    | app hu hv => exact .inr ⟨_, _, rfl, hu, hv⟩
  · rintro (rfl | ⟨u, v, rfl, hu, hv⟩)
    · exact .nil
    · exact .app hu hv
end Go.Proofs.YtldmimekmjmkgaaDoor

namespace Go.Proofs.YtldmimekmjmkgaaDoor
open Go.RowKit Go.Sort Go.Maps Go.WideMaps

/-- A text of so many bytes. -/
def bA (l : List UInt8) : ByteArray := ⟨l.toArray⟩
theorem bA_list (l : List UInt8) : (bA l).data.toList = l := rfl
theorem bA_back (s : ByteArray) : bA s.data.toList = s := rfl
theorem ext_mid (S : ByteArray) (i j : Nat) : S.extract i j = bA ((S.data.toList.drop i).take (j - i)) := by
  refine ByteArray.ext (Array.ext' ?_)
  rw [ByteArray.data_extract, Array.toList_extract]
  simp only [List.extract, bA]
/-- Where cut's loop stands: i bytes are looked at, what is not cut yet begins at f. -/
structure CutS (g : UInt8) (L : List UInt8) (i f : Nat) (o : Int) (outs : List ByteArray) : Prop where
  eq : (cutP g L 0 []).map bA = outs ++ (cutP g (L.drop i) o ((L.drop f).take (i - f))).map bA
  le : f ≤ i
  len : outs.length ≤ i
  lo : -(i : Int) ≤ o
  hi : o ≤ i
theorem CutS.start (g : UInt8) (L : List UInt8) : CutS g L 0 0 0 [] := ⟨by simp, Nat.le_refl _, Nat.le_refl _, by simp, by simp⟩
theorem cutS_list {L : List UInt8} {i f : Nat} {c : UInt8} (hf : f ≤ i) (hc : L[i]? = some c) : (L.drop f).take (i - f) ++ [c] = (L.drop f).take (i + 1 - f) := by
  have h : (L.drop f)[i - f]? = some c := by rw [List.getElem?_drop, show f + (i - f) = i by omega]; exact hc
  rw [show i + 1 - f = (i - f) + 1 by omega, List.take_add_one, h]; rfl
theorem drop_one {L : List UInt8} {i : Nat} {c : UInt8} (hc : L[i]? = some c) : L.drop i = c :: L.drop (i + 1) := by
  obtain ⟨h, rfl⟩ := List.getElem?_eq_some_iff.1 hc
  exact List.drop_eq_getElem_cons h
theorem lvl_near (o : Int) (c : UInt8) : o - 1 ≤ lvl o c ∧ lvl o c ≤ o + 1 := by unfold lvl; split <;> split <;> omega
theorem CutS.pass {g : UInt8} {L : List UInt8} {i f : Nat} {o o' : Int} {outs : List ByteArray} {c : UInt8} (h : CutS g L i f o outs) (hc : L[i]? = some c) (ho : o' = lvl o c) (hn : ¬ (c = g ∧ o' = 0)) : CutS g L (i + 1) f o' outs := by
  have h1 := lvl_near o c
  have h2 := h.lo
  have h3 := h.hi
  subst ho
  refine ⟨?_, Nat.le_succ_of_le h.le, Nat.le_succ_of_le h.len, by omega, by omega⟩
  rw [h.eq, drop_one hc, cutP, if_neg hn, cutS_list h.le hc]
theorem CutS.cut {g : UInt8} {L : List UInt8} {i f : Nat} {o o' : Int} {outs : List ByteArray} {c : UInt8} (h : CutS g L i f o outs) (hc : L[i]? = some c) (ho : o' = lvl o c) (hn : c = g ∧ o' = 0) : CutS g L (i + 1) (i + 1) o' (outs ++ [bA ((L.drop f).take (i - f))]) := by
  have h1 := lvl_near o c
  have h2 := h.lo
  have h3 := h.hi
  have h4 := h.len
  subst ho
  refine ⟨?_, Nat.le_refl _, by rw [List.length_append]; simp; omega, by omega, by omega⟩
  rw [h.eq, drop_one hc, cutP, if_pos hn, Nat.sub_self, List.take_zero, List.map_cons, List.append_assoc]
  rfl
theorem CutS.done {g : UInt8} {L : List UInt8} {i f : Nat} {o : Int} {outs : List ByteArray} (h : CutS g L i f o outs) (hi : i = L.length) : (cutP g L 0 []).map bA = outs ++ [bA (L.drop f)] := by
  have h1 := h.le
  rw [h.eq, hi, List.drop_length, cutP, List.take_of_length_le (by rw [List.length_drop]; omega)]
  rfl

theorem srowB {wo wr w5 : World} {x : ByteArray} {v : Value} {l : List ByteArray} (h : Below wo.heap.size wo wr) (hr : SRowE wr wo.heap.size v l) (hg : (wr.alloc (.cells #[.string x] 9)).grownBy w5 v.ownBlock) : Below wo.heap.size wo w5 :=
  below_grown (h.alloc h.size _) hg (fun k hk => (World.ownsRow.lt hr k hk).1) (by have := h.size; simp; omega)
theorem strsN {W : World} {S : Nat → Prop} {v : Value} {l : List ByteArray} (h : Strs W S v l) : ∃ A n c, v = .slice A n c ∧ l.length = n ∧ n ≤ c ∧ c ≤ maxLen := by
  obtain ⟨A, c, hv, h1, h2, _⟩ := h
  exact ⟨A, l.length, c, hv, rfl, h1, h2⟩

set_option maxRecDepth 100000 in
set_option maxHeartbeats 4000000 in
theorem rcut_any (s : ByteArray) (g : UInt8) (w : World) (hs : s.size ≤ 1000) :
    Calls Tryd.prog 56 #[.string s, .int .u8 (g.toNat : Int)] w fun x w' => ∃ v, x = .returned v ∧ SRowE w' w.heap.size v ((cutP g s.data.toList 0 []).map bA) ∧ Below w.heap.size w w' := by
  have HL : Hid (s.data.toList.length = s.size) := Lib.hid (list_size s)
  go_enter Tryd.func56, Tryd.ntmps56
  go_wp2
  go_loopg [5, 6, 7, 8] s.size (fun gg v q u z wx => ∃ (i f : Nat) (o : Int) (outs : List ByteArray) (Ak : Option Addr) (nk ck : Nat), v = .slice Ak nk ck ∧ q = .int .i64 o ∧ u = .int .i64 f ∧ z = .int .i64 i ∧ i + gg = s.size ∧ f ≤ i ∧ -(i : Int) ≤ o ∧ o ≤ i ∧ Hid (CutS g s.data.toList i f o outs) ∧ Hid (SRowE wx w.heap.size (.slice Ak nk ck) outs) ∧ Hid (Below w.heap.size w wx))
  case atStart => exact ⟨0, 0, 0, [], none, 0, 0, rfl, rfl, rfl, rfl, by omega, by omega, by omega, by omega, Lib.hid (CutS.start _ _), Lib.hid (World.ownsRow_nil _ _ _ _), Lib.hid (Below.refl _ _)⟩
  case round =>
    obtain ⟨i, f, o, outs, Ak, nk, ck, rfl, rfl, rfl, rfl, hig, hfi, hlo, hhi, HC, HR, HB⟩ := hrel
    have HLN : Hid (outs.length + 1 ≤ 1000000) := Lib.hid (by have := HC.out.len; omega)
    by_cases hi : i < s.size
    · have HG : Hid (s.data.toList[i]? = some s[i]) := Lib.hid (by rw [List.getElem?_eq_getElem (by rw [HL.out]; exact hi)]; rfl)
      obtain ⟨gg, rfl⟩ : ∃ g, gk = g + 1 := ⟨gk - 1, by omega⟩
      obtain ⟨cc, hcc⟩ : ∃ cc, s[i] = cc := ⟨_, rfl⟩
      have HCC := Lib.hid hcc
      rw [hcc] at HG
      clear hcc
      have HEX : Hid (s.extract f i = bA ((s.data.toList.drop f).take (i - f))) := Lib.hid (ext_mid s f i)
      have HLV : Hid (∀ o', o' = lvl o cc → (¬ (cc = g ∧ o' = 0) → CutS g s.data.toList (i + 1) f o' outs) ∧ (cc = g ∧ o' = 0 → CutS g s.data.toList (i + 1) (i + 1) o' (outs ++ [s.extract f i]))) := Lib.hid fun o' ho' => ⟨fun hn => HC.out.pass HG.out ho' hn, fun hn => by rw [HEX.out]; exact HC.out.cut HG.out ho' hn⟩
      by_cases h40 : cc = 40
      · have q40 : ((s[i].toNat : Int) == 40) = true := by rw [HCC.out, h40]; rfl
        have q41 : ((s[i].toNat : Int) == 41) = false := by rw [HCC.out, h40]; rfl
        have HO : Hid (o + 1 = lvl o cc) := Lib.hid (by rw [h40]; unfold lvl; rw [if_pos rfl, if_neg (by decide)]; omega)
        clear h40
        by_cases hcg : cc = g
        · have qg : ((s[i].toNat : Int) == (g.toNat : Int)) = true := by rw [HCC.out, hcg]; simp
          have HCG := Lib.hid hcg
          clear hcg
          by_cases h0 : o + 1 = 0
          · have HCUT := Lib.hid ((HLV.out _ HO.out).2 ⟨HCG.out, h0⟩)
            go_wp2_with (first
              | (at_builtin; refine wpList_append_strsE rfl (.tmp 36) (.tmp 41) rfl w.heap.size (Under ((wr.alloc (.cells #[.string (s.extract f i)] 9)).heap.size)) (.slice Ak nk ck) (.slice (some ⟨wr.heap.size, 0, none⟩) 1 1) outs [s.extract f i] rfl rfl (World.ownsRow.alloc HR.out _) (strs_one (heap_new _ _) (by show _ < _; simp)) HLN.out (by have := HB.out.size; simp; omega) ?_; intro v5 w5 ho5 hg5 hb5; obtain ⟨G5, n5, d5, rfl, _⟩ := strsN (SRowE.strs ho5); have HO5 := Lib.hid ho5; have HB5 := Lib.hid (srowB HB.out HR.out hg5); clear ho5 hg5 hb5)
              | fail)
            go_roundg gg
            case measure => omega
            case rel => exact ⟨i + 1, i + 1, o + 1, _, G5, n5, d5, rfl, by go_num, by go_num, by go_num, by omega, by omega, by omega, by omega, HCUT, HO5, HB5⟩
          · have HPS := Lib.hid ((HLV.out _ HO.out).1 (fun h => h0 h.2))
            go_wp2
            go_roundg gg
            case measure => omega
            case rel => exact ⟨i + 1, f, o + 1, outs, Ak, nk, ck, rfl, by go_num, rfl, by go_num, by omega, by omega, by omega, by omega, HPS, HR, HB⟩
        · have qg : ((s[i].toNat : Int) == (g.toNat : Int)) = false := by rw [HCC.out, beq_eq_false_iff_ne]; intro h; exact hcg (UInt8.toNat_inj.1 (by omega))
          have HPS := Lib.hid ((HLV.out _ HO.out).1 (fun h => hcg h.1))
          clear hcg
          go_wp2
          go_roundg gg
          case measure => omega
          case rel => exact ⟨i + 1, f, o + 1, outs, Ak, nk, ck, rfl, by go_num, rfl, by go_num, by omega, by omega, by omega, by omega, HPS, HR, HB⟩
      · have q40 : ((s[i].toNat : Int) == 40) = false := by rw [HCC.out, beq_eq_false_iff_ne]; intro h; exact h40 (UInt8.toNat_inj.1 (by simpa using (by omega : cc.toNat = 40)))
        by_cases h41 : cc = 41
        · have q41 : ((s[i].toNat : Int) == 41) = true := by rw [HCC.out, h41]; rfl
          have HO : Hid (o - 1 = lvl o cc) := Lib.hid (by unfold lvl; rw [if_neg h40, if_pos h41]; omega)
          clear h40 h41
          by_cases hcg : cc = g
          · have qg : ((s[i].toNat : Int) == (g.toNat : Int)) = true := by rw [HCC.out, hcg]; simp
            have HCG := Lib.hid hcg
            clear hcg
            by_cases h0 : o - 1 = 0
            · have HCUT := Lib.hid ((HLV.out _ HO.out).2 ⟨HCG.out, h0⟩)
              go_wp2_with (first
                | (at_builtin; refine wpList_append_strsE rfl (.tmp 36) (.tmp 41) rfl w.heap.size (Under ((wr.alloc (.cells #[.string (s.extract f i)] 9)).heap.size)) (.slice Ak nk ck) (.slice (some ⟨wr.heap.size, 0, none⟩) 1 1) outs [s.extract f i] rfl rfl (World.ownsRow.alloc HR.out _) (strs_one (heap_new _ _) (by show _ < _; simp)) HLN.out (by have := HB.out.size; simp; omega) ?_; intro v5 w5 ho5 hg5 hb5; obtain ⟨G5, n5, d5, rfl, _⟩ := strsN (SRowE.strs ho5); have HO5 := Lib.hid ho5; have HB5 := Lib.hid (srowB HB.out HR.out hg5); clear ho5 hg5 hb5)
                | fail)
              go_roundg gg
              case measure => omega
              case rel => exact ⟨i + 1, i + 1, o - 1, _, G5, n5, d5, rfl, by go_num, by go_num, by go_num, by omega, by omega, by omega, by omega, HCUT, HO5, HB5⟩
            · have HPS := Lib.hid ((HLV.out _ HO.out).1 (fun h => h0 h.2))
              go_wp2
              go_roundg gg
              case measure => omega
              case rel => exact ⟨i + 1, f, o - 1, outs, Ak, nk, ck, rfl, by go_num, rfl, by go_num, by omega, by omega, by omega, by omega, HPS, HR, HB⟩
          · have qg : ((s[i].toNat : Int) == (g.toNat : Int)) = false := by rw [HCC.out, beq_eq_false_iff_ne]; intro h; exact hcg (UInt8.toNat_inj.1 (by omega))
            have HPS := Lib.hid ((HLV.out _ HO.out).1 (fun h => hcg h.1))
            clear hcg
            go_wp2
            go_roundg gg
            case measure => omega
            case rel => exact ⟨i + 1, f, o - 1, outs, Ak, nk, ck, rfl, by go_num, rfl, by go_num, by omega, by omega, by omega, by omega, HPS, HR, HB⟩
        · have q41 : ((s[i].toNat : Int) == 41) = false := by rw [HCC.out, beq_eq_false_iff_ne]; intro h; exact h41 (UInt8.toNat_inj.1 (by simpa using (by omega : cc.toNat = 41)))
          have HO : Hid (o = lvl o cc) := Lib.hid (lvl_other h40 h41).symm
          clear h40 h41
          by_cases hcg : cc = g
          · have qg : ((s[i].toNat : Int) == (g.toNat : Int)) = true := by rw [HCC.out, hcg]; simp
            have HCG := Lib.hid hcg
            clear hcg
            by_cases h0 : o = 0
            · have HCUT := Lib.hid ((HLV.out _ HO.out).2 ⟨HCG.out, h0⟩)
              go_wp2_with (first
                | (at_builtin; refine wpList_append_strsE rfl (.tmp 36) (.tmp 41) rfl w.heap.size (Under ((wr.alloc (.cells #[.string (s.extract f i)] 9)).heap.size)) (.slice Ak nk ck) (.slice (some ⟨wr.heap.size, 0, none⟩) 1 1) outs [s.extract f i] rfl rfl (World.ownsRow.alloc HR.out _) (strs_one (heap_new _ _) (by show _ < _; simp)) HLN.out (by have := HB.out.size; simp; omega) ?_; intro v5 w5 ho5 hg5 hb5; obtain ⟨G5, n5, d5, rfl, _⟩ := strsN (SRowE.strs ho5); have HO5 := Lib.hid ho5; have HB5 := Lib.hid (srowB HB.out HR.out hg5); clear ho5 hg5 hb5)
                | fail)
              go_roundg gg
              case measure => omega
              case rel => exact ⟨i + 1, i + 1, o, _, G5, n5, d5, rfl, by go_num, by go_num, by go_num, by omega, by omega, by omega, by omega, HCUT, HO5, HB5⟩
            · have HPS := Lib.hid ((HLV.out _ HO.out).1 (fun h => h0 h.2))
              go_wp2
              go_roundg gg
              case measure => omega
              case rel => exact ⟨i + 1, f, o, outs, Ak, nk, ck, rfl, rfl, rfl, by go_num, by omega, by omega, by omega, by omega, HPS, HR, HB⟩
          · have qg : ((s[i].toNat : Int) == (g.toNat : Int)) = false := by rw [HCC.out, beq_eq_false_iff_ne]; intro h; exact hcg (UInt8.toNat_inj.1 (by omega))
            have HPS := Lib.hid ((HLV.out _ HO.out).1 (fun h => hcg h.1))
            clear hcg
            go_wp2
            go_roundg gg
            case measure => omega
            case rel => exact ⟨i + 1, f, o, outs, Ak, nk, ck, rfl, rfl, rfl, by go_num, by omega, by omega, by omega, by omega, HPS, HR, HB⟩
    · have HD : Hid ((cutP g s.data.toList 0 []).map bA = outs ++ [bA (s.data.toList.drop f)]) := Lib.hid (HC.out.done (by rw [HL.out]; omega))
      go_wp2_with (first
        | (at_builtin; refine wpList_append_strsE rfl (.tmp 45) (.tmp 49) rfl w.heap.size (Under ((wr.alloc (.cells #[.string (s.extract f s.size)] 9)).heap.size)) (.slice Ak nk ck) (.slice (some ⟨wr.heap.size, 0, none⟩) 1 1) outs [s.extract f s.size] rfl rfl (World.ownsRow.alloc HR.out _) (strs_one (heap_new _ _) (by show _ < _; simp)) HLN.out (by have := HB.out.size; simp; omega) ?_; intro v5 w5 ho5 hg5 hb5; obtain ⟨G5, n5, d5, rfl, _⟩ := strsN (SRowE.strs ho5); have HO5 := Lib.hid ho5; have HB5 := Lib.hid (srowB HB.out HR.out hg5); clear ho5 hg5 hb5)
        | fail)
      go_ret
      exact ⟨_, rfl, by have h := HO5.out; rw [HD.out]; rw [show s.extract f s.size = bA (s.data.toList.drop f) from ext_drop s f] at h; exact h, HB5.out⟩
end Go.Proofs.YtldmimekmjmkgaaDoor

namespace Go.Proofs.YtldmimekmjmkgaaDoor
open Go.RowKit Go.Sort Go.Maps Go.WideMaps

/-- A part, and what stands between two. -/
def partE (o : Nat) (x : Ex) : ByteArray := if o = 97 then writeE x else inE x (writeE x)
def sepE (o : Nat) : ByteArray := if o = 115 then ⟨#[32]⟩ else ⟨#[124]⟩
def accE (o : Nat) (l : List Ex) : ByteArray := joinE (sepE o) (l.map (partE o))
theorem acc_none (o : Nat) : accE o [] = ByteArray.empty := bytesE_of rfl
theorem join_end (sep : List UInt8) (x b : List UInt8) (l : List (List UInt8)) : Lib.join ((x :: l) ++ [b]) sep = Lib.join (x :: l) sep ++ sep ++ b := by
  rw [List.cons_append, Lib.join_cons, Lib.join_cons]
  unfold Lib.joinTail
  simp
theorem acc_first {o : Nat} {l : List Ex} {x : Ex} (h : l[0]? = some x) : accE o (l.take 1) = partE o x := by
  match l, h with
  | y :: l, h =>
    obtain rfl : y = x := by simpa using h
    refine bytesE_of ?_
    show Lib.join [(partE o y).data.toList] (sepE o).data.toList = _
    rw [Lib.join_cons]
    unfold Lib.joinTail
    simp
theorem acc_next {o : Nat} {l : List Ex} {i : Nat} {x : Ex} (h : l[i]? = some x) (hi : i ≠ 0) : accE o (l.take (i + 1)) = accE o (l.take i) ++ sepE o ++ partE o x := by
  rw [List.take_add_one, h]
  match l, i, hi, h with
  | y :: l, i + 1, _, _ =>
    refine bytesE_of ?_
    show Lib.join (List.map (fun s : ByteArray => s.data.toList) (List.map (partE o) (List.take (i + 1) (y :: l) ++ [x]))) (sepE o).data.toList = _
    rw [List.map_append, List.map_append, List.take_succ_cons, List.map_cons, List.map_cons]
    show Lib.join (_ :: _ ++ [(partE o x).data.toList]) _ = _
    rw [join_end, ByteArray.data_append, ByteArray.data_append, Array.toList_append, Array.toList_append]
    rfl
theorem sep_size (o : Nat) : (sepE o).size = 1 := by unfold sepE; split <;> rfl
theorem part_size {o : Nat} {x : Ex} (h : allE okN x = true) (hs : sizeE x ≤ 24) : (partE o x).size ≤ 290 := by
  have h1 := write_len x h
  have h2 := inE_size x (writeE x)
  unfold partE
  split <;> omega
theorem acc_size {o : Nat} : ∀ (l : List Ex), (∀ x ∈ l, allE okN x = true ∧ sizeE x ≤ 24) → (accE o l).size ≤ 300 * l.length := by
  intro l h
  have h1 := joinE_size (sepE o) (sep_size o) (l.map (partE o))
  have h2 : Lib.lens ((l.map (partE o)).map (·.data.toList)) ≤ 290 * l.length := by
    clear h1
    induction l with
    | nil => simp [Lib.lens]
    | cons x l ih =>
      have h3 := ih fun y hy => h y (List.mem_cons_of_mem _ hy)
      have h4 := part_size (o := o) (h x (List.mem_cons_self ..)).1 (h x (List.mem_cons_self ..)).2
      rw [← list_size] at h4
      simp only [Lib.lens, List.map_cons, List.sum_cons, List.length_cons] at h3 ⊢
      omega
  unfold accE
  rw [List.length_map] at h1
  omega
theorem write_alt {l : List Ex} : writeE (.mk 97 ByteArray.empty l) = accE 97 l := by
  rw [writeE, if_neg (by decide), if_pos rfl, writesE_map]
  unfold accE
  rw [show partE 97 = writeE from funext fun x => if_pos rfl]
  rfl
theorem write_seq {l : List Ex} (h : l.length ≠ 0) : writeE (.mk 115 ByteArray.empty l) = accE 115 l := by
  rw [writeE, if_neg (by decide), if_neg (by decide), if_pos rfl, if_neg h, innersE_map]
  rfl
theorem write_rep {o : Nat} (h : repE o = true) {x : Ex} {l : List Ex} (hl : l = [x]) : writeE (.mk o ByteArray.empty l) = accE o l ++ ⟨#[UInt8.ofNat o]⟩ := by
  obtain ⟨_, _, _, h3, h4, h5⟩ := repE_small h
  subst hl
  have h6 : accE o [x] = partE o x := acc_first (l := [x]) rfl
  rw [writeE, if_neg h3, if_neg h4, if_neg h5, firstE, h6]
  unfold partE
  rw [if_neg h4]
theorem part_alt (x : Ex) : partE 97 x = writeE x := if_pos rfl
theorem part_par {o : Nat} {x : Ex} (ho : o ≠ 97) (h : parE x = true) : partE o x = (⟨#[40]⟩ : ByteArray) ++ writeE x ++ ⟨#[41]⟩ := by unfold partE inE; rw [if_neg ho, if_pos h]
theorem part_no {o : Nat} {x : Ex} (ho : o ≠ 97) (h : parE x = false) : partE o x = writeE x := by unfold partE inE; rw [if_neg ho, h]; rfl
theorem par_97 {x : Ex} (h : x.op = 97) : parE x = true := by unfold parE; rw [h]; rfl
theorem par_115 {x : Ex} (h : x.op = 115) (h2 : 0 < x.kids.length) : parE x = true := by unfold parE; rw [h, decide_eq_true h2]; rfl
theorem par_0 {x : Ex} (h : x.op = 115) (h2 : ¬ 0 < x.kids.length) : parE x = false := by unfold parE; rw [h, decide_eq_false h2]; rfl
theorem par_no {x : Ex} (h : x.op ≠ 97) (h2 : x.op ≠ 115) : parE x = false := by unfold parE; rw [beq_eq_false_iff_ne.2 h, beq_eq_false_iff_ne.2 h2]; rfl
/-- One byte in a row, as a text. -/
theorem run_one_byte (w : World) (g o c : Nat) (h : w.cell? ⟨g, 0, none⟩ = some (.int .u8 (o : Int))) :
    (convert 78 9 (.slice (some ⟨g, 0, none⟩) 1 c)).run Tryd.prog w = .ok (.string ⟨#[UInt8.ofNat o]⟩) w := by
  rw [run_convert_bytes_string w 78 9 5 (some ⟨g, 0, none⟩) 1 c Tryd.underlying78 Tryd.underlying5 Tryd.underlying9]
  have hl := run_loadCells_list (P := Tryd.prog) (w := w) ⟨g, 0, none⟩ ([(o : Int)].map (Value.int .u8)) fun j v hj => by
    rw [add_cell, Nat.zero_add]
    match j, hj with
    | 0, hj => rw [h]; simpa using hj
    | j + 1, hj => simp at hj
  exact run_bytesToString w ⟨g, 0, none⟩ 1 c [(o : Int)] (by simpa using hl)

theorem one_cell {w : World} {g : Nat} {v : Value} {T : TypeId} (h : w.heap[g]? = some (.cells #[v] T)) : w.cell? ⟨g, 0, none⟩ = some v := by simp [World.cell?, show w.heap[g]? = _ from h]
def RWSaid (e : Ex) : Prop := ∀ (A : Option Addr) (n c B : Nat) (w : World), e.fits → allE okN e = true → sizeE e ≤ 24 → Exs w (Under B) (.slice A n c) e.kids → B ≤ w.heap.size →
  Calls Tryd.prog 29 #[.agg #[.int .u8 (e.op : Int), .string e.name, .slice A n c]] w fun x w' => x = .returned (.string (writeE e)) ∧ Below w.heap.size w w'
set_option maxRecDepth 100000 in
set_option maxHeartbeats 8000000 in
theorem rwrite_walk : ∀ e, RWSaid e := by
  intro e
  induction e using Ex.induct_one with
  | h o s l ih =>
    intro A n c B w he ha hsz hl hB
    have IH := Lib.hid ih
    clear ih
    simp only [Ex.op, Ex.name, Ex.kids] at *
    have hlen := hl.len
    obtain ⟨A', c', hv, hc, hm, _⟩ := id hl
    injection hv with hA hn hc'
    subst hA hn hc'
    unfold maxLen at hm
    have HF := Lib.hid he
    have HA := Lib.hid hl
    have HZZ : Hid (1 + sizeEs l ≤ 24) := Lib.hid (by rw [sizeE] at hsz; exact hsz)
    have hll : l.length ≤ 23 := by have := sizes_len l; have := HZZ.out; omega
    have HB1 : Hid (Below w.heap.size w (w.alloc (.cells #[.int .u8 (o : Int), .string s, .slice A l.length c] 30))) := Lib.hid ((Below.refl _ _).alloc (Nat.le_refl _) _)
    have HN1 : Hid ((w.alloc (.cells #[.int .u8 (o : Int), .string s, .slice A l.length c] 30)).heap[w.heap.size]? = some (.cells #[.int .u8 (o : Int), .string s, .slice A l.length c] 30)) := Lib.hid (heap_new _ _)
    have hz1 : (w.alloc (.cells #[.int .u8 (o : Int), .string s, .slice A l.length c] 30)).heap.size = w.heap.size + 1 := by simp
    clear hl he hsz
    by_cases ho : o = 110
    · have HQ : Hid (writeE (.mk o s l) = s) := Lib.hid (by rw [writeE, if_pos ho])
      subst ho
      clear ha
      go_enter Tryd.func29, Tryd.ntmps29
      go_wp2
      go_ret
      exact ⟨rd_ret HQ.out.symm, HB1.out⟩
    have e110 : ((o : Int) == 110) = false := by simp; omega
    obtain rfl := all_empty ha ho
    have hop := write_op ha
    by_cases h97 : o = 97
    · subst h97
      obtain ⟨hl2, hop2, hks⟩ := all_alt ha
      have HKS := Lib.hid hks
      have HOP := Lib.hid hop2
      have HRO : Hid (repE 97 = false) := Lib.hid rfl
      have HQ : Hid (writeE (.mk 97 ByteArray.empty l) = accE 97 l) := Lib.hid write_alt
      clear hl2 hop2 hks hop ha ho e110
      go_enter Tryd.func29, Tryd.ntmps29
      go_wp2
      generalize w.alloc (.cells #[.int .u8 (97 : Nat), .string ByteArray.empty, .slice A l.length c] 30) = w1 at *
      go_loopg [3, 4, 5, 6] l.length (fun g q u y z wx => ∃ i : Nat, q = .string (accE 97 (l.take i)) ∧ u = .int .i64 i ∧ i + g = l.length ∧ Hid (Below w1.heap.size w1 wx))
      case atStart => exact ⟨0, by rw [List.take_zero, acc_none]; rfl, rfl, by omega, Lib.hid (Below.refl _ _)⟩
      case round =>
        obtain ⟨i, rfl, rfl, hig, HR⟩ := hrel
        have HBX : Hid (wr.heap[w.heap.size]? = some (.cells #[.int .u8 (97 : Nat), .string ByteArray.empty, .slice A l.length c] 30)) := Lib.hid ((HR.out.block _ (by omega)).trans HN1.out)
        obtain ⟨d0, d1, d2⟩ := three_cells HBX.out
        have hzl := cell_lt d0
        by_cases hi : i < l.length
        · have hlx : l[i]? = some l[i] := List.getElem?_eq_getElem hi
          generalize hx : l[i] = x at *
          have HAR : Hid (Exs wr (Under B) (.slice A l.length c) l) := Lib.hid (HA.out.keep (fun _ h => h) fun b hb => (HR.out.block b (by have : b < B := hb; omega)).trans (HB1.out.block b (Nat.lt_of_lt_of_le hb hB)))
          obtain ⟨b, off, rfl, hb, hat⟩ := HAR.out.get hlx
          obtain ⟨v3, f0, f1, f2, exk⟩ := (exAt_iff x b _).1 hat
          obtain ⟨A3, c3, rfl, _⟩ := id exk
          have hl3 := cell_lt f0
          have HX := Lib.hid hlx
          have HMEM := Lib.hid (List.mem_of_getElem? hlx)
          have HKX : Hid (allE okN x = true ∧ sizeE x ≤ 24) := Lib.hid ⟨HKS.out x HMEM.out, by have := size_mem HMEM.out; have := HZZ.out; omega⟩
          have hxo : x.op ≠ 97 := HOP.out x HMEM.out
          have HBK : Hid (Below wr.heap.size wr (wr.alloc (.cells #[.int .u8 (x.op : Int), .string x.name, .slice A3 x.kids.length c3] 30))) := Lib.hid ((Below.refl _ _).alloc (Nat.le_refl _) _)
          have HTB : Hid (TwoB (wr.alloc (.cells #[.int .u8 (x.op : Int), .string x.name, .slice A3 x.kids.length c3] 30)) w.heap.size wr.heap.size #[.int .u8 (97 : Nat), .string ByteArray.empty, .slice (some ⟨b, off, none⟩) l.length c] #[.int .u8 (x.op : Int), .string x.name, .slice A3 x.kids.length c3]) := Lib.hid ⟨(HBK.out.block _ hzl).trans HBX.out, heap_new _ _⟩
          have HEK : Hid (Exs (wr.alloc (.cells #[.int .u8 (x.op : Int), .string x.name, .slice A3 x.kids.length c3] 30)) (Under B) (.slice A3 x.kids.length c3) x.kids) := Lib.hid (exk.keep (fun _ h => h) fun b hb => HBK.out.block b (by have : b < B := hb; have := HR.out.size; omega))
          have hBz : B ≤ (wr.alloc (.cells #[.int .u8 (x.op : Int), .string x.name, .slice A3 x.kids.length c3] 30)).heap.size := by have := HR.out.size; simp; omega
          obtain ⟨g, rfl⟩ : ∃ g, gk = g + 1 := ⟨gk - 1, by omega⟩
          clear exk hx hlx hat hb
          go_wp2_with fail
          refine (IH.out x HMEM.out A3 _ c3 B _ (HF.out.kid (e := .mk 97 ByteArray.empty l) HMEM.out) HKX.out.1 HKX.out.2 HEK.out hBz).mono ?_
          rintro e w3 ⟨rfl, hb3⟩
          have HT3 := Lib.hid (HTB.out.keep hb3)
          have HR3 : Hid (Below w1.heap.size w1 w3) := Lib.hid (belowNext (belowNext HR.out HBK.out) hb3)
          clear hb3 f0 f1 f2 HEK d0 d1 d2 HTB HBX hBz HBK HAR
          obtain ⟨d0, d1, d2⟩ := three_cells HT3.out.1
          obtain ⟨k0, k1, k2⟩ := three_cells HT3.out.2
          have hzd := cell_lt d0
          have hzk := cell_lt k0
          have HTS : Hid ((writeE x).size ≤ 288) := Lib.hid (by have := write_len x HKX.out.1; have := HKX.out.2; omega)
          have HQS : Hid ((accE 97 (l.take i)).size ≤ 7200) := Lib.hid (by have h := acc_size (o := 97) (l.take i) (fun y hy => ⟨HKS.out y (List.mem_of_mem_take hy), by have := size_mem (List.mem_of_mem_take hy); have := HZZ.out; omega⟩); rw [List.length_take] at h; omega)
          have HNF : Hid (i = 0 → accE 97 (l.take (i + 1)) = partE 97 x) := Lib.hid fun h => by subst h; exact acc_first HX.out
          have HQZ : Hid (i = 0 → accE 97 (l.take i) = ByteArray.empty) := Lib.hid fun h => by subst h; rw [List.take_zero, acc_none]
          have HNN : Hid (i ≠ 0 → accE 97 (l.take (i + 1)) = accE 97 (l.take i) ++ ⟨#[124]⟩ ++ partE 97 x) := Lib.hid fun h => acc_next HX.out h
          obtain ⟨t, ht⟩ : ∃ t, writeE x = t := ⟨_, rfl⟩
          have HTX := Lib.hid ht
          rw [ht]
          rw [ht] at HTS
          generalize accE 97 (l.take i) = q at *
          clear ht
          have e97 : ((x.op : Int) == 97) = false := by simp; omega
          by_cases x115 : x.op = 115
          · have e115 : ((x.op : Int) == 115) = true := by simp [x115]
            by_cases xk : 0 < x.kids.length
            · have ek := xk
              have HP : Hid (partE 97 x = t) := Lib.hid (by rw [← HTX.out]; exact part_alt x)
              clear x115 hxo
              by_cases hi0 : i = 0
              · have HFIN : Hid (accE 97 (l.take (i + 1)) = q ++ (t)) := Lib.hid (by rw [HNF.out hi0, HP.out, HQZ.out hi0, ByteArray.empty_append])
                have g0 : ¬ 0 < i := by omega
                clear hi0
                have n3 : ¬ 9223372036854775807 < q.size + t.size := by have := HTS.out; have := HQS.out; omega
                go_wp2
                go_roundg g
                case measure => omega
                case rel => exact ⟨i + 1, by rw [HFIN.out] <;> rfl, by go_num, by omega, HR3⟩
              · have HFIN : Hid (accE 97 (l.take (i + 1)) = q ++ ⟨#[124]⟩ ++ (t)) := Lib.hid (by rw [HNN.out hi0, HP.out])
                have g0 : 0 < i := by omega
                clear hi0
                have n3 : ¬ 9223372036854775807 < q.size + 1 := by have := HQS.out; omega
                have n4 : ¬ 9223372036854775807 < q.size + 1 + t.size := by have := HTS.out; have := HQS.out; omega
                go_wp2
                go_roundg g
                case measure => omega
                case rel => exact ⟨i + 1, by rw [HFIN.out] <;> rfl, by go_num, by omega, HR3⟩
            · have ek := xk
              have HP : Hid (partE 97 x = t) := Lib.hid (by rw [← HTX.out]; exact part_alt x)
              clear x115 hxo
              by_cases hi0 : i = 0
              · have HFIN : Hid (accE 97 (l.take (i + 1)) = q ++ (t)) := Lib.hid (by rw [HNF.out hi0, HP.out, HQZ.out hi0, ByteArray.empty_append])
                have g0 : ¬ 0 < i := by omega
                clear hi0
                have n3 : ¬ 9223372036854775807 < q.size + t.size := by have := HTS.out; have := HQS.out; omega
                go_wp2
                go_roundg g
                case measure => omega
                case rel => exact ⟨i + 1, by rw [HFIN.out] <;> rfl, by go_num, by omega, HR3⟩
              · have HFIN : Hid (accE 97 (l.take (i + 1)) = q ++ ⟨#[124]⟩ ++ (t)) := Lib.hid (by rw [HNN.out hi0, HP.out])
                have g0 : 0 < i := by omega
                clear hi0
                have n3 : ¬ 9223372036854775807 < q.size + 1 := by have := HQS.out; omega
                have n4 : ¬ 9223372036854775807 < q.size + 1 + t.size := by have := HTS.out; have := HQS.out; omega
                go_wp2
                go_roundg g
                case measure => omega
                case rel => exact ⟨i + 1, by rw [HFIN.out] <;> rfl, by go_num, by omega, HR3⟩
          have e115 : ((x.op : Int) == 115) = false := by simp; omega
          have HP : Hid (partE 97 x = t) := Lib.hid (by rw [← HTX.out]; exact part_alt x)
          clear x115 hxo
          by_cases hi0 : i = 0
          · have HFIN : Hid (accE 97 (l.take (i + 1)) = q ++ (t)) := Lib.hid (by rw [HNF.out hi0, HP.out, HQZ.out hi0, ByteArray.empty_append])
            have g0 : ¬ 0 < i := by omega
            clear hi0
            have n3 : ¬ 9223372036854775807 < q.size + t.size := by have := HTS.out; have := HQS.out; omega
            go_wp2
            go_roundg g
            case measure => omega
            case rel => exact ⟨i + 1, by rw [HFIN.out] <;> rfl, by go_num, by omega, HR3⟩
          · have HFIN : Hid (accE 97 (l.take (i + 1)) = q ++ ⟨#[124]⟩ ++ (t)) := Lib.hid (by rw [HNN.out hi0, HP.out])
            have g0 : 0 < i := by omega
            clear hi0
            have n3 : ¬ 9223372036854775807 < q.size + 1 := by have := HQS.out; omega
            have n4 : ¬ 9223372036854775807 < q.size + 1 + t.size := by have := HTS.out; have := HQS.out; omega
            go_wp2
            go_roundg g
            case measure => omega
            case rel => exact ⟨i + 1, by rw [HFIN.out] <;> rfl, by go_num, by omega, HR3⟩
        · have HE : Hid (l.take i = l) := Lib.hid (List.take_of_length_le (by omega))
          go_wp2_with fail
          refine (after_any 97 _ _ _ _ _).mono ?_
          rintro e w4 ⟨rfl, hb4⟩
          have HBX4 := Lib.hid ((hb4.block _ hzl).trans HBX.out)
          have HR4 : Hid (Below w1.heap.size w1 w4) := Lib.hid (belowNext HR.out hb4)
          rw [HRO.out]
          clear hb4 d0 d1 d2 hzl
          go_wp2
          go_ret
          exact ⟨rd_ret (by rw [HQ.out, HE.out]), HB1.out.trans (HR4.out.mono (by omega))⟩
    have e97o : ((o : Int) == 97) = false := by simp; omega
    have n97o : ((o : Int) != 97) = true := by simp; omega
    by_cases h115 : o = 115
    · subst h115
      obtain ⟨hl2, hop2, hks⟩ := all_seq ha
      have HKS := Lib.hid hks
      have HOP := Lib.hid hop2
      have HRO : Hid (repE 115 = false) := Lib.hid rfl
      clear hop2 hks hop ha ho e110 e97o n97o h97
      by_cases h0 : l.length = 0
      · have HQ : Hid (writeE (.mk 115 ByteArray.empty l) = ⟨#[40, 41]⟩) := Lib.hid (by rw [writeE, if_neg (by decide), if_neg (by decide), if_pos rfl, if_pos h0])
        have eh : ((l.length : Int) == 0) = true := by simp [h0]
        clear h0 hl2
        go_enter Tryd.func29, Tryd.ntmps29
        go_wp2
        go_ret
        exact ⟨rd_ret HQ.out.symm, HB1.out⟩
      · have HQ : Hid (writeE (.mk 115 ByteArray.empty l) = accE 115 l) := Lib.hid (write_seq h0)
        have eh : ((l.length : Int) == 0) = false := by simp; intro h; exact h0 (by rw [h]; rfl)
        clear h0 hl2
        go_enter Tryd.func29, Tryd.ntmps29
        go_wp2
        generalize w.alloc (.cells #[.int .u8 (115 : Nat), .string ByteArray.empty, .slice A l.length c] 30) = w1 at *
        go_loopg [3, 4, 5, 6] l.length (fun g q u y z wx => ∃ i : Nat, q = .string (accE 115 (l.take i)) ∧ u = .int .i64 i ∧ i + g = l.length ∧ Hid (Below w1.heap.size w1 wx))
        case atStart => exact ⟨0, by rw [List.take_zero, acc_none]; rfl, rfl, by omega, Lib.hid (Below.refl _ _)⟩
        case round =>
          obtain ⟨i, rfl, rfl, hig, HR⟩ := hrel
          have HBX : Hid (wr.heap[w.heap.size]? = some (.cells #[.int .u8 (115 : Nat), .string ByteArray.empty, .slice A l.length c] 30)) := Lib.hid ((HR.out.block _ (by omega)).trans HN1.out)
          obtain ⟨d0, d1, d2⟩ := three_cells HBX.out
          have hzl := cell_lt d0
          by_cases hi : i < l.length
          · have hlx : l[i]? = some l[i] := List.getElem?_eq_getElem hi
            generalize hx : l[i] = x at *
            have HAR : Hid (Exs wr (Under B) (.slice A l.length c) l) := Lib.hid (HA.out.keep (fun _ h => h) fun b hb => (HR.out.block b (by have : b < B := hb; omega)).trans (HB1.out.block b (Nat.lt_of_lt_of_le hb hB)))
            obtain ⟨b, off, rfl, hb, hat⟩ := HAR.out.get hlx
            obtain ⟨v3, f0, f1, f2, exk⟩ := (exAt_iff x b _).1 hat
            obtain ⟨A3, c3, rfl, _⟩ := id exk
            have hl3 := cell_lt f0
            have HX := Lib.hid hlx
            have HMEM := Lib.hid (List.mem_of_getElem? hlx)
            have HKX : Hid (allE okN x = true ∧ sizeE x ≤ 24) := Lib.hid ⟨HKS.out x HMEM.out, by have := size_mem HMEM.out; have := HZZ.out; omega⟩
            have hxo : x.op ≠ 115 := HOP.out x HMEM.out
            have HBK : Hid (Below wr.heap.size wr (wr.alloc (.cells #[.int .u8 (x.op : Int), .string x.name, .slice A3 x.kids.length c3] 30))) := Lib.hid ((Below.refl _ _).alloc (Nat.le_refl _) _)
            have HTB : Hid (TwoB (wr.alloc (.cells #[.int .u8 (x.op : Int), .string x.name, .slice A3 x.kids.length c3] 30)) w.heap.size wr.heap.size #[.int .u8 (115 : Nat), .string ByteArray.empty, .slice (some ⟨b, off, none⟩) l.length c] #[.int .u8 (x.op : Int), .string x.name, .slice A3 x.kids.length c3]) := Lib.hid ⟨(HBK.out.block _ hzl).trans HBX.out, heap_new _ _⟩
            have HEK : Hid (Exs (wr.alloc (.cells #[.int .u8 (x.op : Int), .string x.name, .slice A3 x.kids.length c3] 30)) (Under B) (.slice A3 x.kids.length c3) x.kids) := Lib.hid (exk.keep (fun _ h => h) fun b hb => HBK.out.block b (by have : b < B := hb; have := HR.out.size; omega))
            have hBz : B ≤ (wr.alloc (.cells #[.int .u8 (x.op : Int), .string x.name, .slice A3 x.kids.length c3] 30)).heap.size := by have := HR.out.size; simp; omega
            obtain ⟨g, rfl⟩ : ∃ g, gk = g + 1 := ⟨gk - 1, by omega⟩
            clear exk hx hlx hat hb
            go_wp2_with fail
            refine (IH.out x HMEM.out A3 _ c3 B _ (HF.out.kid (e := .mk 115 ByteArray.empty l) HMEM.out) HKX.out.1 HKX.out.2 HEK.out hBz).mono ?_
            rintro e w3 ⟨rfl, hb3⟩
            have HT3 := Lib.hid (HTB.out.keep hb3)
            have HR3 : Hid (Below w1.heap.size w1 w3) := Lib.hid (belowNext (belowNext HR.out HBK.out) hb3)
            clear hb3 f0 f1 f2 HEK d0 d1 d2 HTB HBX hBz HBK HAR
            obtain ⟨d0, d1, d2⟩ := three_cells HT3.out.1
            obtain ⟨k0, k1, k2⟩ := three_cells HT3.out.2
            have hzd := cell_lt d0
            have hzk := cell_lt k0
            have HTS : Hid ((writeE x).size ≤ 288) := Lib.hid (by have := write_len x HKX.out.1; have := HKX.out.2; omega)
            have HQS : Hid ((accE 115 (l.take i)).size ≤ 7200) := Lib.hid (by have h := acc_size (o := 115) (l.take i) (fun y hy => ⟨HKS.out y (List.mem_of_mem_take hy), by have := size_mem (List.mem_of_mem_take hy); have := HZZ.out; omega⟩); rw [List.length_take] at h; omega)
            have HNF : Hid (i = 0 → accE 115 (l.take (i + 1)) = partE 115 x) := Lib.hid fun h => by subst h; exact acc_first HX.out
            have HQZ : Hid (i = 0 → accE 115 (l.take i) = ByteArray.empty) := Lib.hid fun h => by subst h; rw [List.take_zero, acc_none]
            have HNN : Hid (i ≠ 0 → accE 115 (l.take (i + 1)) = accE 115 (l.take i) ++ ⟨#[32]⟩ ++ partE 115 x) := Lib.hid fun h => acc_next HX.out h
            obtain ⟨t, ht⟩ : ∃ t, writeE x = t := ⟨_, rfl⟩
            have HTX := Lib.hid ht
            rw [ht]
            rw [ht] at HTS
            generalize accE 115 (l.take i) = q at *
            clear ht
            by_cases x97 : x.op = 97
            · have e97 : ((x.op : Int) == 97) = true := by simp [x97]
              have HP : Hid (partE 115 x = (⟨#[40]⟩ : ByteArray) ++ t ++ ⟨#[41]⟩) := Lib.hid (by rw [← HTX.out]; exact part_par (show (115 : Nat) ≠ 97 by decide) (par_97 x97))
              clear x97 hxo
              by_cases hi0 : i = 0
              · have HFIN : Hid (accE 115 (l.take (i + 1)) = q ++ ((⟨#[40]⟩ : ByteArray) ++ t ++ ⟨#[41]⟩)) := Lib.hid (by rw [HNF.out hi0, HP.out, HQZ.out hi0, ByteArray.empty_append])
                have g0 : ¬ 0 < i := by omega
                clear hi0
                have n1 : ¬ 9223372036854775807 < 1 + t.size := by have := HTS.out; omega
                have n2 : ¬ 9223372036854775807 < 1 + t.size + 1 := by have := HTS.out; omega
                have n3 : ¬ 9223372036854775807 < q.size + (1 + t.size + 1) := by have := HTS.out; have := HQS.out; omega
                go_wp2
                go_roundg g
                case measure => omega
                case rel => exact ⟨i + 1, by rw [HFIN.out] <;> rfl, by go_num, by omega, HR3⟩
              · have HFIN : Hid (accE 115 (l.take (i + 1)) = q ++ ⟨#[32]⟩ ++ ((⟨#[40]⟩ : ByteArray) ++ t ++ ⟨#[41]⟩)) := Lib.hid (by rw [HNN.out hi0, HP.out])
                have g0 : 0 < i := by omega
                clear hi0
                have n1 : ¬ 9223372036854775807 < 1 + t.size := by have := HTS.out; omega
                have n2 : ¬ 9223372036854775807 < 1 + t.size + 1 := by have := HTS.out; omega
                have n3 : ¬ 9223372036854775807 < q.size + 1 := by have := HQS.out; omega
                have n4 : ¬ 9223372036854775807 < q.size + 1 + (1 + t.size + 1) := by have := HTS.out; have := HQS.out; omega
                go_wp2
                go_roundg g
                case measure => omega
                case rel => exact ⟨i + 1, by rw [HFIN.out] <;> rfl, by go_num, by omega, HR3⟩
            have e97 : ((x.op : Int) == 97) = false := by simp; omega
            have e115 : ((x.op : Int) == 115) = false := by simp; omega
            have HP : Hid (partE 115 x = t) := Lib.hid (by rw [← HTX.out]; exact part_no (show (115 : Nat) ≠ 97 by decide) (par_no x97 hxo))
            clear hxo x97
            by_cases hi0 : i = 0
            · have HFIN : Hid (accE 115 (l.take (i + 1)) = q ++ (t)) := Lib.hid (by rw [HNF.out hi0, HP.out, HQZ.out hi0, ByteArray.empty_append])
              have g0 : ¬ 0 < i := by omega
              clear hi0
              have n3 : ¬ 9223372036854775807 < q.size + t.size := by have := HTS.out; have := HQS.out; omega
              go_wp2
              go_roundg g
              case measure => omega
              case rel => exact ⟨i + 1, by rw [HFIN.out] <;> rfl, by go_num, by omega, HR3⟩
            · have HFIN : Hid (accE 115 (l.take (i + 1)) = q ++ ⟨#[32]⟩ ++ (t)) := Lib.hid (by rw [HNN.out hi0, HP.out])
              have g0 : 0 < i := by omega
              clear hi0
              have n3 : ¬ 9223372036854775807 < q.size + 1 := by have := HQS.out; omega
              have n4 : ¬ 9223372036854775807 < q.size + 1 + t.size := by have := HTS.out; have := HQS.out; omega
              go_wp2
              go_roundg g
              case measure => omega
              case rel => exact ⟨i + 1, by rw [HFIN.out] <;> rfl, by go_num, by omega, HR3⟩
          · have HE : Hid (l.take i = l) := Lib.hid (List.take_of_length_le (by omega))
            go_wp2_with fail
            refine (after_any 115 _ _ _ _ _).mono ?_
            rintro e w4 ⟨rfl, hb4⟩
            have HBX4 := Lib.hid ((hb4.block _ hzl).trans HBX.out)
            have HR4 : Hid (Below w1.heap.size w1 w4) := Lib.hid (belowNext HR.out hb4)
            rw [HRO.out]
            clear hb4 d0 d1 d2 hzl
            go_wp2
            go_ret
            exact ⟨rd_ret (by rw [HQ.out, HE.out]), HB1.out.trans (HR4.out.mono (by omega))⟩
    have e115o : ((o : Int) == 115) = false := by simp; omega
    have hro : repE o = true := by rcases hop with h | h | h | h <;> first | exact absurd h ho | exact absurd h h97 | exact absurd h h115 | exact h
    obtain ⟨x0, hlx0, _, hks0⟩ := all_rep ha ho h115 h97
    have HL1 : Hid (l.length = 1) := Lib.hid (by rw [hlx0]; rfl)
    have HKS : Hid (∀ x ∈ l, allE okN x = true) := Lib.hid (by intro y hy; rw [hlx0] at hy; simp at hy; subst hy; exact hks0)
    have HQ : Hid (writeE (.mk o ByteArray.empty l) = accE o l ++ ⟨#[UInt8.ofNat o]⟩) := Lib.hid (write_rep hro hlx0)
    have HRO := Lib.hid hro
    have HO97 := Lib.hid h97
    clear hlx0 hks0 hro hop ha ho h97 h115
    go_enter Tryd.func29, Tryd.ntmps29
    go_wp2
    generalize w.alloc (.cells #[.int .u8 (o : Nat), .string ByteArray.empty, .slice A l.length c] 30) = w1 at *
    go_loopg [3, 4, 5, 6] l.length (fun g q u y z wx => ∃ i : Nat, q = .string (accE o (l.take i)) ∧ u = .int .i64 i ∧ i + g = l.length ∧ Hid (Below w1.heap.size w1 wx))
    case atStart => exact ⟨0, by rw [List.take_zero, acc_none]; rfl, rfl, by omega, Lib.hid (Below.refl _ _)⟩
    case round =>
      obtain ⟨i, rfl, rfl, hig, HR⟩ := hrel
      have HBX : Hid (wr.heap[w.heap.size]? = some (.cells #[.int .u8 (o : Nat), .string ByteArray.empty, .slice A l.length c] 30)) := Lib.hid ((HR.out.block _ (by omega)).trans HN1.out)
      obtain ⟨d0, d1, d2⟩ := three_cells HBX.out
      have hzl := cell_lt d0
      by_cases hi : i < l.length
      · have hlx : l[i]? = some l[i] := List.getElem?_eq_getElem hi
        generalize hx : l[i] = x at *
        have HAR : Hid (Exs wr (Under B) (.slice A l.length c) l) := Lib.hid (HA.out.keep (fun _ h => h) fun b hb => (HR.out.block b (by have : b < B := hb; omega)).trans (HB1.out.block b (Nat.lt_of_lt_of_le hb hB)))
        obtain ⟨b, off, rfl, hb, hat⟩ := HAR.out.get hlx
        obtain ⟨v3, f0, f1, f2, exk⟩ := (exAt_iff x b _).1 hat
        obtain ⟨A3, c3, rfl, _⟩ := id exk
        have hl3 := cell_lt f0
        have HX := Lib.hid hlx
        have HMEM := Lib.hid (List.mem_of_getElem? hlx)
        have HKX : Hid (allE okN x = true ∧ sizeE x ≤ 24) := Lib.hid ⟨HKS.out x HMEM.out, by have := size_mem HMEM.out; have := HZZ.out; omega⟩
        have HBK : Hid (Below wr.heap.size wr (wr.alloc (.cells #[.int .u8 (x.op : Int), .string x.name, .slice A3 x.kids.length c3] 30))) := Lib.hid ((Below.refl _ _).alloc (Nat.le_refl _) _)
        have HTB : Hid (TwoB (wr.alloc (.cells #[.int .u8 (x.op : Int), .string x.name, .slice A3 x.kids.length c3] 30)) w.heap.size wr.heap.size #[.int .u8 (o : Nat), .string ByteArray.empty, .slice (some ⟨b, off, none⟩) l.length c] #[.int .u8 (x.op : Int), .string x.name, .slice A3 x.kids.length c3]) := Lib.hid ⟨(HBK.out.block _ hzl).trans HBX.out, heap_new _ _⟩
        have HEK : Hid (Exs (wr.alloc (.cells #[.int .u8 (x.op : Int), .string x.name, .slice A3 x.kids.length c3] 30)) (Under B) (.slice A3 x.kids.length c3) x.kids) := Lib.hid (exk.keep (fun _ h => h) fun b hb => HBK.out.block b (by have : b < B := hb; have := HR.out.size; omega))
        have hBz : B ≤ (wr.alloc (.cells #[.int .u8 (x.op : Int), .string x.name, .slice A3 x.kids.length c3] 30)).heap.size := by have := HR.out.size; simp; omega
        obtain ⟨g, rfl⟩ : ∃ g, gk = g + 1 := ⟨gk - 1, by omega⟩
        clear exk hx hlx hat hb
        go_wp2_with fail
        refine (IH.out x HMEM.out A3 _ c3 B _ (HF.out.kid (e := .mk o ByteArray.empty l) HMEM.out) HKX.out.1 HKX.out.2 HEK.out hBz).mono ?_
        rintro e w3 ⟨rfl, hb3⟩
        have HT3 := Lib.hid (HTB.out.keep hb3)
        have HR3 : Hid (Below w1.heap.size w1 w3) := Lib.hid (belowNext (belowNext HR.out HBK.out) hb3)
        clear hb3 f0 f1 f2 HEK d0 d1 d2 HTB HBX hBz HBK HAR
        obtain ⟨d0, d1, d2⟩ := three_cells HT3.out.1
        obtain ⟨k0, k1, k2⟩ := three_cells HT3.out.2
        have hzd := cell_lt d0
        have hzk := cell_lt k0
        have HTS : Hid ((writeE x).size ≤ 288) := Lib.hid (by have := write_len x HKX.out.1; have := HKX.out.2; omega)
        have HQS : Hid ((accE o (l.take i)).size ≤ 7200) := Lib.hid (by have h := acc_size (o := o) (l.take i) (fun y hy => ⟨HKS.out y (List.mem_of_mem_take hy), by have := size_mem (List.mem_of_mem_take hy); have := HZZ.out; omega⟩); rw [List.length_take] at h; omega)
        have HNF : Hid (i = 0 → accE o (l.take (i + 1)) = partE o x) := Lib.hid fun h => by subst h; exact acc_first HX.out
        have HQZ : Hid (i = 0 → accE o (l.take i) = ByteArray.empty) := Lib.hid fun h => by subst h; rw [List.take_zero, acc_none]
        obtain ⟨t, ht⟩ : ∃ t, writeE x = t := ⟨_, rfl⟩
        have HTX := Lib.hid ht
        rw [ht]
        rw [ht] at HTS
        generalize accE o (l.take i) = q at *
        clear ht
        by_cases x97 : x.op = 97
        · have e97 : ((x.op : Int) == 97) = true := by simp [x97]
          have HP : Hid (partE o x = (⟨#[40]⟩ : ByteArray) ++ t ++ ⟨#[41]⟩) := Lib.hid (by rw [← HTX.out]; exact part_par HO97.out (par_97 x97))
          clear x97
          have hi0 : i = 0 := by have := HL1.out; omega
          have HFIN : Hid (accE o (l.take (i + 1)) = q ++ ((⟨#[40]⟩ : ByteArray) ++ t ++ ⟨#[41]⟩)) := Lib.hid (by rw [HNF.out hi0, HP.out, HQZ.out hi0, ByteArray.empty_append])
          have g0 : ¬ 0 < i := by omega
          clear hi0
          have n1 : ¬ 9223372036854775807 < 1 + t.size := by have := HTS.out; omega
          have n2 : ¬ 9223372036854775807 < 1 + t.size + 1 := by have := HTS.out; omega
          have n3 : ¬ 9223372036854775807 < q.size + (1 + t.size + 1) := by have := HTS.out; have := HQS.out; omega
          go_wp2
          go_roundg g
          case measure => omega
          case rel => exact ⟨i + 1, by rw [HFIN.out] <;> rfl, by go_num, by omega, HR3⟩
        have e97 : ((x.op : Int) == 97) = false := by simp; omega
        by_cases x115 : x.op = 115
        · have e115 : ((x.op : Int) == 115) = true := by simp [x115]
          by_cases xk : 0 < x.kids.length
          · have ek := xk
            have HP : Hid (partE o x = (⟨#[40]⟩ : ByteArray) ++ t ++ ⟨#[41]⟩) := Lib.hid (by rw [← HTX.out]; exact part_par HO97.out (par_115 x115 xk))
            clear x115 x97
            have hi0 : i = 0 := by have := HL1.out; omega
            have HFIN : Hid (accE o (l.take (i + 1)) = q ++ ((⟨#[40]⟩ : ByteArray) ++ t ++ ⟨#[41]⟩)) := Lib.hid (by rw [HNF.out hi0, HP.out, HQZ.out hi0, ByteArray.empty_append])
            have g0 : ¬ 0 < i := by omega
            clear hi0
            have n1 : ¬ 9223372036854775807 < 1 + t.size := by have := HTS.out; omega
            have n2 : ¬ 9223372036854775807 < 1 + t.size + 1 := by have := HTS.out; omega
            have n3 : ¬ 9223372036854775807 < q.size + (1 + t.size + 1) := by have := HTS.out; have := HQS.out; omega
            go_wp2
            go_roundg g
            case measure => omega
            case rel => exact ⟨i + 1, by rw [HFIN.out] <;> rfl, by go_num, by omega, HR3⟩
          · have ek := xk
            have HP : Hid (partE o x = t) := Lib.hid (by rw [← HTX.out]; exact part_no HO97.out (par_0 x115 xk))
            clear x115 x97
            have hi0 : i = 0 := by have := HL1.out; omega
            have HFIN : Hid (accE o (l.take (i + 1)) = q ++ (t)) := Lib.hid (by rw [HNF.out hi0, HP.out, HQZ.out hi0, ByteArray.empty_append])
            have g0 : ¬ 0 < i := by omega
            clear hi0
            have n3 : ¬ 9223372036854775807 < q.size + t.size := by have := HTS.out; have := HQS.out; omega
            go_wp2
            go_roundg g
            case measure => omega
            case rel => exact ⟨i + 1, by rw [HFIN.out] <;> rfl, by go_num, by omega, HR3⟩
        have e115 : ((x.op : Int) == 115) = false := by simp; omega
        have HP : Hid (partE o x = t) := Lib.hid (by rw [← HTX.out]; exact part_no HO97.out (par_no x97 x115))
        clear x115 x97
        have hi0 : i = 0 := by have := HL1.out; omega
        have HFIN : Hid (accE o (l.take (i + 1)) = q ++ (t)) := Lib.hid (by rw [HNF.out hi0, HP.out, HQZ.out hi0, ByteArray.empty_append])
        have g0 : ¬ 0 < i := by omega
        clear hi0
        have n3 : ¬ 9223372036854775807 < q.size + t.size := by have := HTS.out; have := HQS.out; omega
        go_wp2
        go_roundg g
        case measure => omega
        case rel => exact ⟨i + 1, by rw [HFIN.out] <;> rfl, by go_num, by omega, HR3⟩
      · have HE : Hid (l.take i = l) := Lib.hid (List.take_of_length_le (by omega))
        have HQ2 : Hid (writeE (.mk o ByteArray.empty l) = accE o (l.take i) ++ ⟨#[UInt8.ofNat o]⟩) := Lib.hid (by rw [HE.out]; exact HQ.out)
        have HQS : Hid ((accE o (l.take i)).size ≤ 7200) := Lib.hid (by have h := acc_size (o := o) (l.take i) (fun y hy => ⟨HKS.out y (List.mem_of_mem_take hy), by have := size_mem (List.mem_of_mem_take hy); have := HZZ.out; omega⟩); rw [List.length_take] at h; omega)
        generalize accE o (l.take i) = q at *
        go_wp2_with fail
        refine (after_any o _ _ _ _ _).mono ?_
        rintro e w4 ⟨rfl, hb4⟩
        have HBX4 := Lib.hid ((hb4.block _ hzl).trans HBX.out)
        have HR4 : Hid (Below w1.heap.size w1 w4) := Lib.hid (belowNext HR.out hb4)
        rw [HRO.out]
        clear hb4 d0 d1 d2 hzl
        obtain ⟨d0, d1, d2⟩ := three_cells HBX4.out
        have hzl := cell_lt d0
        have n1 : ¬ 9223372036854775807 < q.size + 1 := by have := HQS.out; omega
        have HBB : Hid (Below w1.heap.size w1 (w4.alloc (.cells #[.int .u8 (o : Int)] 5))) := Lib.hid (belowNext HR4.out ((Below.refl _ _).alloc (Nat.le_refl _) _))
        have hcv := run_one_byte (w4.alloc (.cells #[.int .u8 (o : Int)] 5)) w4.heap.size o 1 (one_cell (heap_new w4 (.cells #[.int .u8 (o : Int)] 5)))
        go_wp2
        go_ret
        exact ⟨rd_ret HQ2.out.symm, HB1.out.trans (HBB.out.mono (by omega))⟩
end Go.Proofs.YtldmimekmjmkgaaDoor

namespace Go.Proofs.YtldmimekmjmkgaaDoor
open Go.RowKit Go.Sort Go.Maps Go.WideMaps

/-- What is told, from the box of the result. -/
theorem rr_fin {w W : World} (v : Int) {o : Nat} (hv : v = (o : Int)) {s : ByteArray} {l : List Ex} {A : Option Addr} {n c : Nat} {u0 u1 u2 : Value} (hB : Below w.heap.size w W) (hz : W.heap[w.heap.size]? = some (.cells #[u0, u1, u2] 30)) (hk : Exs W (From (w.heap.size + 1) W.heap.size) (.slice A n c) l) :
    (((W.setCell ⟨w.heap.size, 0, none⟩ (.int .u8 v)).setCell ⟨w.heap.size, 1, none⟩ (.string s)).setCell ⟨w.heap.size, 2, none⟩ (.slice A n c)).heap[w.heap.size]? = some (.cells #[.int .u8 v, .string s, .slice A n c] 30) ∧
    EPost w (.mk o s l) (.returned (.agg #[.int .u8 v, .string s, .slice A n c])) (((W.setCell ⟨w.heap.size, 0, none⟩ (.int .u8 v)).setCell ⟨w.heap.size, 1, none⟩ (.string s)).setCell ⟨w.heap.size, 2, none⟩ (.slice A n c)) := by
  subst hv
  obtain ⟨x0, hx, hzz⟩ := put3x (v0 := .int .u8 (o : Int)) (v1 := .string s) (v2 := .slice A n c) hz
  refine ⟨x0, A, n, c, rfl, hk.keep (fun b hb => ⟨by have := hb.1; omega, by rw [hzz]; exact hb.2⟩) fun b hb => hx b (by have := hb.1; omega), hB.os, hB.tape, hB.output, by rw [hzz]; exact hB.size, fun b hb => (hx b (by omega)).trans (hB.block b hb)⟩
theorem rr_none {w : World} : EPost w (.mk 0 ⟨#[]⟩ []) (.returned (.agg #[.int .u8 0, .string ⟨#[]⟩, .slice none 0 0])) (w.alloc (.cells #[.int .u8 0, .string ⟨#[]⟩, .slice none 0 0] 30)) :=
  ⟨none, 0, 0, rfl, exs_nil _ _, (Below.refl _ _).alloc (Nat.le_refl _) _⟩
theorem KRowR.first {w : World} {lo : Nat} {e : Ex} {A : Option Addr} {n c : Nat} (hlo : lo ≤ w.heap.size) (hk : Exs w (From lo w.heap.size) (.slice A n c) e.kids) :
    KRowR (w.alloc (.cells #[.int .u8 (e.op : Int), .string e.name, .slice A n c] 30)) lo (.slice (some ⟨w.heap.size, 0, none⟩) 1 1) [e] := by
  refine ⟨[.int .u8 (e.op : Int), .string e.name, .slice A n c], ⟨rfl, .inr ⟨w.heap.size, 1, #[.int .u8 (e.op : Int), .string e.name, .slice A n c], rfl, hlo, heap_new _ _, Nat.le_refl _, by unfold maxLen; omega, rfl, rfl⟩⟩, _, [], rfl, ?_, rfl⟩
  exact hk.keep (fun b hb => ⟨hb.1, by have := hb.2; simp; omega, by intro h; have h5 : w.heap.size = b := Option.some.inj h; have := hb.2; omega⟩) fun b hb => Below.heap_alloc _ _ _ hb.2
/-- Where read's loop stands: e lies at w's end. -/
structure ReAt (w wx : World) (o : Nat) (l : List Ex) (i : Nat) (vk : Value) : Prop where
  below : Below w.heap.size w wx
  out : wx.heap[w.heap.size]? = some (.cells #[.int .u8 (o : Int), .string ⟨#[]⟩, vk] 30)
  row : KRowR wx (w.heap.size + 1) vk (l.take i)
theorem ReAt.low {w wx : World} {o : Nat} {l : List Ex} {i : Nat} {vk : Value} (h : ReAt w wx o l i vk) : w.heap.size < wx.heap.size := (Array.getElem?_eq_some_iff.1 h.out).1
theorem ReAt.keep {w wx wy : World} {o : Nat} {l : List Ex} {i : Nat} {vk : Value} (h : ReAt w wx o l i vk) (hb : Below wx.heap.size wx wy) : ReAt w wy o l i vk := by
  have hl := h.low
  exact ⟨belowNext h.below hb, (hb.block _ (by omega)).trans h.out, h.row.keep hb.size fun b _ hb2 => hb.block b hb2⟩
theorem ReAt.next {w W w5 : World} {o : Nat} {l : List Ex} {i : Nat} {vk v5 vx : Value} {x : Ex} {xs : List Value} (h : ReAt w W o l i vk) (hx : l.take (i + 1) = l.take i ++ [x])
    (hvk : ∀ b, vk.ownBlock = some b → w.heap.size + 1 ≤ b) (hkc : KC W (fun b => w.heap.size + 1 ≤ b ∧ b < W.heap.size ∧ vk.ownBlock ≠ some b) (l.take i) xs)
    (ho : w5.ownsRow (w.heap.size + 1) 30 3 v5 ((l.take i).length + 1) (xs ++ [.int .u8 (x.op : Int), .string x.name, vx])) (hg : W.grownBy w5 vk.ownBlock) (hb : v5.ownBlock = vk.ownBlock ∨ v5.ownBlock = some W.heap.size)
    (hk : Exs W (fun b => w.heap.size + 1 ≤ b ∧ b < W.heap.size ∧ vk.ownBlock ≠ some b) vx x.kids) : ReAt w (w5.setCell ⟨w.heap.size, 2, none⟩ v5) o l (i + 1) v5 := by
  have hl := h.low
  have hblk : ∀ b, b < w.heap.size + 1 → w5.heap[b]? = W.heap[b]? := fun b hb' => hg.block b (by omega) fun e => by have := hvk b e.symm; omega
  have hrow := KRowR.more hkc ho hg hb hk
  refine ⟨⟨hg.os.trans h.below.os, hg.tape.trans h.below.tape, hg.output.trans h.below.output, by have h1 := h.below.size; have h2 := hg.size; simp [World.setCell]; omega, fun b hb' => (Below.heap_setCell _ _ _ _ (by dsimp only; omega)).trans ((hblk b (by omega)).trans (h.below.block b hb'))⟩, ?_, ?_⟩
  · exact heap_setCell_same w5 _ 2 _ _ _ ((hblk _ (by omega)).trans h.out)
  · rw [hx]
    exact hrow.keep (by simp [World.setCell]) fun b hb1 _ => Below.heap_setCell _ _ _ _ (by dsimp only; omega)
section
variable {w : World} {ops : Array Oper} {o : Oper} {a : Act} {Q : Exit → Act → World → Prop} {K : Act → World → Prop} {E : Prop}
theorem step_rd {s : ByteArray} {m : Int} {x : Ex} (hw : Region.wanted o (yielded ops a.tmps) = true) (p q : Operand) (ho : o.op = .call { callee := .value (.func 41), args := #[p, q], argTypes := #[9, 3] })
    (hp : a.eval p = .string s) (hq : a.eval q = .int .i64 m) (hC : Calls Tryd.prog 41 #[.string s, .int .i64 m] w (EPost w x))
    (h : ∀ (A : Option Addr) (n c : Nat) (w' : World), Exs w' (From w.heap.size w'.heap.size) (.slice A n c) x.kids → Below w.heap.size w w' → K (a.put o.dst (.agg #[.int .u8 (x.op : Int), .string x.name, .slice A n c])) w') : if Region.wanted o (yielded ops a.tmps) = true then Oper.wp Tryd.prog o a w K Q else E := by
  rw [if_pos hw]
  have hrun : (execOp a.eval o).run Tryd.prog w = .ok (.enter 41 #[.string s, .int .i64 m]) w := by
    have hf : a.eval (.func 41) = .func (.func 41) #[] #[] := rfl
    obtain ⟨c, hc⟩ : ∃ c, Tryd.f41.body = some c := Option.isSome_iff_exists.1 (by kernel_rfl)
    have hne : ¬ Tryd.f41.name = "runtime.NumGoroutine" := of_decide_eq_false (by kernel_rfl)
    simp [execOp, ho, resolve, invoke, hp, hq, hf, Deferred.ofValue, callFunc, hne, hc]
  unfold Oper.wp
  rw [hrun, Oper.upon_enter]
  refine hC.mono fun e w'' hh => ?_
  obtain ⟨A, n, c, rfl, h1, h2⟩ := hh
  exact h A n c w'' h1 h2
end
/-- What the kids are. -/
def rKids (n : Nat) (ps : List (List UInt8)) : List Ex := ps.map (readR n)
theorem cutP_ne (g : UInt8) : ∀ (L : List UInt8) (o : Int) (cur : List UInt8), (cutP g L o cur).length ≠ 0
  | [], _, _ => by simp [cutP]
  | c :: r, o, cur => by
    rw [cutP]
    split
    · simp
    · exact cutP_ne g r _ _
theorem cutP_sum (g : UInt8) : ∀ (L : List UInt8) (o : Int) (cur : List UInt8), ∀ p ∈ cutP g L o cur, p.length ≤ L.length + cur.length
  | [], _, cur, p, hp => by simp [cutP] at hp; subst hp; simp
  | c :: r, o, cur, p, hp => by
    rw [cutP] at hp
    split at hp
    · rcases List.mem_cons.1 hp with rfl | hp
      · simp
      · have := cutP_sum g r _ _ p hp
        simp only [List.length_cons, List.length_nil] at this ⊢; omega
    · have := cutP_sum g r _ _ p hp
      simp only [List.length_cons, List.length_append, List.length_nil] at this ⊢; omega
theorem strsAt {W : World} {S : Nat → Prop} {A : Option Addr} {n c : Nat} {l : List ByteArray} (h : Strs W S (.slice A n c) l) {i : Nat} {s : ByteArray} (hi : l[i]? = some s) : ∃ b o, A = some ⟨b, o, none⟩ ∧ S b ∧ W.cell? ⟨b, o + i, none⟩ = some (.string s) := by
  obtain ⟨A', c', hv, _, _, h⟩ := h
  injection hv with hA _ _
  subst hA
  rcases h with h | ⟨b, o, rfl, hb, hx⟩
  · subst h; simp at hi
  · exact ⟨b, o, rfl, hb, hx i s hi⟩
theorem partAt {L : List (List UInt8)} {i : Nat} (h : i < L.length) : ∃ x, L[i]? = some x := ⟨_, List.getElem?_eq_getElem h⟩
theorem strs_byte {W : World} {S : Nat → Prop} {A : Option Addr} {n c : Nat} {ps : List (List UInt8)} (h : Strs W S (.slice A n c) (ps.map bA)) {i : Nat} {p : List UInt8} (hp : ps[i]? = some p) :
    ∃ b o, A = some ⟨b, o, none⟩ ∧ W.cell? ⟨b, o + i, none⟩ = some (.string (bA p)) := by
  obtain ⟨b, o, h1, _, h2⟩ := strsAt h (i := i) (s := bA p) (by rw [List.getElem?_map, hp]; rfl)
  exact ⟨b, o, h1, h2⟩
theorem rKids_take {n : Nat} {ps : List (List UInt8)} {i : Nat} {p : List UInt8} (hp : ps[i]? = some p) : (rKids n ps).take (i + 1) = (rKids n ps).take i ++ [readR n p] := by
  unfold rKids
  rw [List.take_add_one, List.getElem?_map, hp]; rfl
theorem bA_size (l : List UInt8) : (bA l).size = l.length := by rw [← list_size]; rfl
theorem bA_empty {s : ByteArray} (h : s.data.toList = []) : s.size = 0 := by rw [← list_size, h]; rfl
theorem ext_init {s : ByteArray} {k : Nat} (h : s.size = k + 1) : (s.extract 0 k).data.toList = s.data.toList.dropLast := by
  rw [ext_take, List.dropLast_eq_take, list_size, h]
  rfl
theorem ext_inner {s : ByteArray} {k : Nat} (h : s.size = k + 1) : (s.extract 1 k).data.toList = s.data.toList.tail.dropLast := by
  rw [ext_mid, List.dropLast_eq_take, List.length_tail, list_size, h, ← List.drop_one]
  rfl
theorem last_is {s : ByteArray} {k : Nat} (h : s.size = k + 1) (hk : k < s.size) : s.data.toList.getLastD 0 = s[k] := by
  have h1 : s.data.toList.length = k + 1 := by rw [list_size, h]
  rw [List.getLastD_eq_getLast?, List.getLast?_eq_getElem?, h1, Nat.add_sub_cancel, List.getElem?_eq_getElem (by omega)]
  rfl
theorem head_is {s : ByteArray} (hk : 0 < s.size) : s.data.toList.headD 0 = s[0] := by
  have h1 : 0 < s.data.toList.length := by rw [list_size]; exact hk
  rw [List.headD_eq_head?_getD, List.head?_eq_getElem?, List.getElem?_eq_getElem h1]
  rfl

def RRSaid (n : Nat) : Prop := ∀ (m : Int) (s : ByteArray) (w : World), m = n → n ≤ 100 → s.size ≤ 1000 → Calls Tryd.prog 41 #[.string s, .int .i64 m] w (EPost w (readR n s.data.toList))
attribute [local go_sem ↓] Go.wp_at_zero Go.wp_at_succ

set_option maxRecDepth 100000 in
set_option maxHeartbeats 8000000 in
theorem rread_walk : ∀ n, RRSaid n := by
  intro n
  induction n with
  | zero =>
    intro m s w hm _ hs
    subst hm
    have HBZ : Hid (Below w.heap.size w (w.alloc (.cells #[.int .u8 0, .string ⟨#[]⟩, .slice none 0 0] 30))) := Lib.hid ((Below.refl _ _).alloc (Nat.le_refl _) _)
    have HZB : Hid ((w.alloc (.cells #[.int .u8 0, .string ⟨#[]⟩, .slice none 0 0] 30)).heap[w.heap.size]? = some (.cells #[.int .u8 0, .string ⟨#[]⟩, .slice none 0 0] 30)) := Lib.hid (heap_new _ _)
    have HQ : Hid (readR 0 s.data.toList = .mk 0 ⟨#[]⟩ []) := Lib.hid rfl
    by_cases he : s = ByteArray.empty
    · have e1 : (s.toList == []) = true := by rw [he, Lib.toList_data]; rfl
      clear he
      go_enter Tryd.func41, Tryd.ntmps41
      obtain ⟨q0, q1, q2⟩ := three_cells HZB.out
      have t0 := frozen_of_row _ w.heap.size 0 _ _ HZB.out
      have t1 := frozen_of_row _ w.heap.size 1 _ _ HZB.out
      have t2 := frozen_of_row _ w.heap.size 2 _ _ HZB.out
      have hzq := cell_lt q0
      go_wp2
      refine bodyPost_ret (v := .agg #[.int .u8 0, .string ⟨#[]⟩, .slice none 0 0]) (by simp [results, Tryd.results41, go_sem, q0, q1, q2]) rfl ?_
      rw [HQ.out]
      exact rr_none
    · have e1 : (s.toList == []) = false := by rw [beq_eq_false_iff_ne]; intro h; exact he (str_empty h)
      clear he
      go_enter Tryd.func41, Tryd.ntmps41
      obtain ⟨q0, q1, q2⟩ := three_cells HZB.out
      have t0 := frozen_of_row _ w.heap.size 0 _ _ HZB.out
      have t1 := frozen_of_row _ w.heap.size 1 _ _ HZB.out
      have t2 := frozen_of_row _ w.heap.size 2 _ _ HZB.out
      have hzq := cell_lt q0
      go_wp2
      refine bodyPost_ret (v := .agg #[.int .u8 0, .string ⟨#[]⟩, .slice none 0 0]) (by simp [results, Tryd.results41, go_sem, q0, q1, q2]) rfl ?_
      rw [HQ.out]
      exact rr_none
  | succ n ih =>
    intro m s w hm hn hs
    have IH := Lib.hid ih
    clear ih
    have HBZ : Hid (Below w.heap.size w (w.alloc (.cells #[.int .u8 0, .string ⟨#[]⟩, .slice none 0 0] 30))) := Lib.hid ((Below.refl _ _).alloc (Nat.le_refl _) _)
    have HZB : Hid ((w.alloc (.cells #[.int .u8 0, .string ⟨#[]⟩, .slice none 0 0] 30)).heap[w.heap.size]? = some (.cells #[.int .u8 0, .string ⟨#[]⟩, .slice none 0 0] 30)) := Lib.hid (heap_new _ _)
    by_cases he : s = ByteArray.empty
    · have e1 : (s.toList == []) = true := by rw [he, Lib.toList_data]; rfl
      have HQ : Hid (readR (n + 1) s.data.toList = .mk 0 ⟨#[]⟩ []) := Lib.hid (by rw [he]; rfl)
      clear he hm
      go_enter Tryd.func41, Tryd.ntmps41
      obtain ⟨q0, q1, q2⟩ := three_cells HZB.out
      have t0 := frozen_of_row _ w.heap.size 0 _ _ HZB.out
      have t1 := frozen_of_row _ w.heap.size 1 _ _ HZB.out
      have t2 := frozen_of_row _ w.heap.size 2 _ _ HZB.out
      have hzq := cell_lt q0
      go_wp2
      refine bodyPost_ret (v := .agg #[.int .u8 0, .string ⟨#[]⟩, .slice none 0 0]) (by simp [results, Tryd.results41, go_sem, q0, q1, q2]) rfl ?_
      rw [HQ.out]
      exact rr_none
    have e1 : (s.toList == []) = false := by rw [beq_eq_false_iff_ne]; intro h; exact he (str_empty h)
    have HL0 : Hid (s.data.toList ≠ []) := Lib.hid (fun h => he (bytesE_of h))
    have em : (m == 0) = false := by simp; omega
    have HM := Lib.hid hm
    have hm1 : 1 ≤ m := by omega
    have hm2 : m ≤ 100 := by omega
    clear he hm
    go_enter Tryd.func41, Tryd.ntmps41
    go_wp2_with fail
    generalize hW0 : w.alloc (.cells #[.int .u8 0, .string ⟨#[]⟩, .slice none 0 0] 30) = W0 at *
    have hz0 : w.heap.size < W0.heap.size := by rw [← hW0]; simp
    clear hW0
    refine (rcut_any s 124 W0 hs).mono ?_
    rintro x W1 ⟨v1, rfl, hr1, hb1⟩
    obtain ⟨A1, N1, c1, rfl, hN1, hc1, hcm1⟩ := strsN hr1.strs
    rw [List.length_map] at hN1
    unfold maxLen at hcm1
    have HS1 : Hid (Strs W1 (Under W1.heap.size) (.slice A1 N1 c1) ((cutP 124 s.data.toList 0 []).map bA)) := Lib.hid hr1.strs
    have HB1 : Hid (Below w.heap.size w W1) := Lib.hid (belowNext HBZ.out hb1)
    have HZ1 := Lib.hid ((hb1.block _ hz0).trans HZB.out)
    have hzW1 : w.heap.size < W1.heap.size := by have := hb1.size; omega
    have HNN := Lib.hid (cutP_ne 124 s.data.toList 0 [])
    by_cases h1 : N1 = 1
    case neg =>
      have hgt : 1 < N1 := by have := HNN.out; omega
      have HN := Lib.hid hN1
      have HQ : Hid (readR (n + 1) s.data.toList = .mk 97 ByteArray.empty (if (cutP 124 s.data.toList 0 []).length < 30 then rKids n (cutP 124 s.data.toList 0 []) else [])) := Lib.hid (by
        have hp : partsR s.data.toList = (97, cutP 124 s.data.toList 0 []) := by unfold partsR; rw [if_neg (by rw [hN1]; exact h1)]
        rw [readR, if_neg HL0.out, hp, if_pos (by rw [hN1]; exact hgt)]; rfl)
      have e2 : ((N1 : Int) == 1) = false := by simp; omega
      have e3 : decide ((N1 : Int) > 1) = true := by simp; omega
      have HZ := HZ1
      have HBW := HB1
      have hzW := hzW1
      clear hN1 hr1 hb1 HB1 HZ1 HBZ HZB h1 hzW1
      have HAT : Hid (ReAt W1 (W1.alloc (.cells #[.int .u8 (97 : Nat), .string ⟨#[]⟩, .slice none 0 0] 30)) 97 (rKids n (cutP 124 s.data.toList 0 [])) 0 (.slice none 0 0)) := Lib.hid ⟨(Below.refl _ _).alloc (Nat.le_refl _) _, heap_new _ _, ⟨[], World.ownsRow_nil _ _ _ _, rfl⟩⟩
      go_wp2
      generalize W1.alloc (.cells #[.int .u8 (97 : Nat), .string ⟨#[]⟩, .slice none 0 0] 30) = wk at *
      go_loopg [8] N1 (fun g u wx => ∃ (i : Nat) (vk : Value), u = .int .i64 i ∧ i + g = N1 ∧ (30 ≤ N1 → i = 0) ∧ Hid (ReAt W1 wx 97 (rKids n (cutP 124 s.data.toList 0 [])) i vk))
      case atStart => exact ⟨0, _, rfl, by omega, fun _ => rfl, HAT⟩
      case round =>
        clear HAT
        obtain ⟨i, vk, rfl, hig, hi30, HR⟩ := hrel
        obtain ⟨Ak, ck, rfl, hck, hckm, _⟩ := id HR.out.row.exs
        generalize hnk : ((rKids n (cutP 124 s.data.toList 0 [])).take i).length = nk at *
        have HNK := Lib.hid hnk
        have hnk2 : nk ≤ i := by rw [← hnk, List.length_take]; omega
        clear hnk
        obtain ⟨k0, k1, k2⟩ := three_cells HR.out.out
        have t2 := frozen_of_row _ W1.heap.size 2 _ _ HR.out.out
        have hlow := HR.out.low
        by_cases hi : i < N1
        · by_cases h30 : N1 < 30
          · obtain ⟨p, hp⟩ : ∃ p, (cutP 124 s.data.toList 0 [])[i]? = some p   := partAt (by rw [HN.out]; exact hi)
            have HP := Lib.hid hp
            have HRO : Hid (Strs wr (Under W1.heap.size) (.slice A1 N1 c1) ((cutP 124 s.data.toList 0 []).map bA)) := Lib.hid (HS1.out.below HR.out.below)
            obtain ⟨b, off, rfl, cx⟩ := strs_byte HRO.out hp
            have hlb := cell_lt cx
            have HCALL : Hid (Calls Tryd.prog 41 #[.string (bA p), .int .i64 (IntKind.i64.wrap (m - 1))] wr.drew (EPost wr.drew (readR n p))) := Lib.hid (IH.out (IntKind.i64.wrap (m - 1)) (bA p) wr.drew (by have := HM.out; rw [IntWalk.i64_in _ (by omega)]; omega) (by omega) (by rw [bA_size]; have := cutP_sum _ _ _ _ p (List.mem_of_getElem? hp); rw [list_size] at this; simp only [List.length_nil] at this; omega))
            have HLX := Lib.hid (rKids_take (n := n) hp)
            obtain ⟨g, rfl⟩ : ∃ g, gk = g + 1 := ⟨gk - 1, by omega⟩
            clear hp
            generalize readR n p = x at *
            have HVK : Hid (∀ b, (Value.slice Ak nk ck).ownBlock = some b → W1.heap.size + 1 ≤ b) := Lib.hid (by obtain ⟨xs, h, _⟩ := HR.out.row; exact fun b hb => (h.lt b hb).1)
            go_wp2_with fail
            go_region_law (first
              | ((with_reducible refine step_rd (s := bA p) (m := IntKind.i64.wrap (m - 1)) (x := x) (by kernel_rfl) (.tmp 45) (.tmp 47) rfl rfl rfl HCALL.out ?_); intro A4 n4 c4 w2 hk2 hb2; have HB2 : Hid (Below wr.heap.size wr w2) := Lib.hid ((below_drewX wr).trans hb2); have HR2 := Lib.hid (HR.out.keep HB2.out); obtain ⟨p0, p1, p2⟩ := three_cells HR2.out.out; have s2 := frozen_of_row _ W1.heap.size 2 _ _ HR2.out.out; have hlow2 := HR2.out.low; have HR3 := Lib.hid (HR2.out.keep (wy := w2.alloc (.cells #[.int .u8 (x.op : Int), .string x.name, .slice A4 n4 c4] 30)) ((Below.refl _ _).alloc (Nat.le_refl _) _)); obtain ⟨xs, hxs, hkc⟩ := HR3.out.row; rw [HNK.out] at hxs; have HXS4 := Lib.hid hxs; have HKC := Lib.hid hkc; have HNEW : Hid ((w2.alloc (.cells #[.int .u8 (x.op : Int), .string x.name, .slice A4 n4 c4] 30)).heap[w2.heap.size]? = some (.cells #[.int .u8 (x.op : Int), .string x.name, .slice A4 n4 c4] 30)) := Lib.hid (heap_new _ _); have HON4 : Hid (∀ u ∈ [Value.int .u8 (x.op : Int), .string x.name, .slice A4 n4 c4], u.oneCell' = true) := Lib.hid (by simp [Value.oneCell']); have HN1 : Hid (nk + 1 ≤ 100000000) := Lib.hid (by omega); have HBS : Hid (W1.heap.size + 1 ≤ (w2.alloc (.cells #[.int .u8 (x.op : Int), .string x.name, .slice A4 n4 c4] 30)).heap.size) := Lib.hid (by simp; omega); have HKX : Hid (Exs (w2.alloc (.cells #[.int .u8 (x.op : Int), .string x.name, .slice A4 n4 c4] 30)) (fun b => W1.heap.size + 1 ≤ b ∧ b < (w2.alloc (.cells #[.int .u8 (x.op : Int), .string x.name, .slice A4 n4 c4] 30)).heap.size ∧ (Value.slice Ak nk ck).ownBlock ≠ some b) (.slice A4 n4 c4) x.kids) := Lib.hid (hk2.keep (fun b hb => ⟨by have h1 : wr.heap.size ≤ b := hb.1; omega, by have := hb.2; simp; omega, by intro h5; obtain ⟨ys, h6, _⟩ := HR.out.row; have h7 := (h6.lt b h5).2; have h8 : wr.heap.size ≤ b := hb.1; omega⟩) fun b hb => Below.heap_alloc _ _ _ hb.2); clear hk2 hb2 hxs hkc)
              | ((with_reducible refine step_append_exR (by kernel_rfl) (.tmp 41) (.tmp 49) rfl (W1.heap.size + 1) (.slice Ak nk ck) nk xs w2.heap.size 1 (.int .u8 (x.op : Int)) (.string x.name) (.slice A4 n4 c4) rfl rfl HXS4.out HNEW.out HON4.out HN1.out HBS.out ?_); intro v5 w5 ho5 hg5 hb5; obtain ⟨G5, d5, rfl⟩ := own_slice ho5; have HFIN := Lib.hid (HR3.out.next HLX.out HVK.out HKC.out (by rw [HNK.out]; exact ho5) hg5 hb5 HKX.out); have hw5 : w5.heap[W1.heap.size]? = some (.cells #[.int .u8 (97 : Nat), .string ⟨#[]⟩, .slice Ak nk ck] 30) := (hg5.block _ (by simp; omega) (fun e5 => by have := HVK.out _ e5.symm; omega)).trans HR3.out.out; obtain ⟨y0, y1, y2⟩ := three_cells hw5; have u2 := frozen_of_row _ W1.heap.size 2 _ _ hw5; have hlow5 := cell_lt y0; clear ho5 hg5 hb5 hw5))
            all_goals
              go_wp2
              go_roundg g
              case measure => omega
              case rel => exact ⟨i + 1, _, by go_num, by omega, by omega, HFIN⟩
          · have HQK : Hid ((rKids n (cutP 124 s.data.toList 0 [])).take i = []) := Lib.hid (by rw [hi30 (by omega), List.take_zero])
            have HQ2 : Hid (readR (n + 1) s.data.toList = .mk 97 ⟨#[]⟩ []) := Lib.hid (by rw [HQ.out, if_neg (by rw [HN.out]; exact h30)]; rfl)
            have HZ4 := Lib.hid ((HR.out.below.block _ hzW).trans HZ.out)
            have HB4 := Lib.hid (belowNext HBW.out HR.out.below)
            have HK4 : Hid (Exs wr (From (w.heap.size + 1) wr.heap.size) (.slice Ak nk ck) []) := Lib.hid (by have h := HR.out.row.exs; rw [HQK.out] at h; exact h.keep (fun b hb => ⟨by have := hb.1; omega, hb.2⟩) fun _ _ => rfl)
            have hnq : w.heap.size ≠ W1.heap.size := by omega
            obtain ⟨q0, q1, q2⟩ := three_cells HZ4.out
            have t0 := frozen_of_row _ w.heap.size 0 _ _ HZ4.out
            have t1 := frozen_of_row _ w.heap.size 1 _ _ HZ4.out
            have t2 := frozen_of_row _ w.heap.size 2 _ _ HZ4.out
            have hzq := cell_lt q0
            go_wp2
            obtain ⟨x0, x1⟩ := rr_fin 97 (o := 97) (by simp) (s := ⟨#[]⟩) (l := []) HB4.out HZ4.out HK4.out
            obtain ⟨y0, y1, y2⟩ := three_cells x0
            refine bodyPost_ret (v := .agg #[.int .u8 97, .string ⟨#[]⟩, .slice Ak nk ck]) (by simp [results, Tryd.results41, go_sem, y0, y1, y2]) rfl ?_
            rw [HQ2.out]
            exact x1
        · have hIN : i = N1 := by omega
          have h30 : N1 < 30 := by
            rcases Nat.lt_or_ge N1 30 with h | h
            · exact h
            · have := hi30 h; omega
          have HQK : Hid ((rKids n (cutP 124 s.data.toList 0 [])).take i = rKids n (cutP 124 s.data.toList 0 [])) := Lib.hid (List.take_of_length_le (by unfold rKids; rw [List.length_map, HN.out]; omega))
          have HQ2 : Hid (readR (n + 1) s.data.toList = .mk 97 ⟨#[]⟩ (rKids n (cutP 124 s.data.toList 0 []))) := Lib.hid (by rw [HQ.out, if_pos (by rw [HN.out]; exact h30)]; rfl)
          clear hIN h30 hi30
          have HZ4 := Lib.hid ((HR.out.below.block _ hzW).trans HZ.out)
          have HB4 := Lib.hid (belowNext HBW.out HR.out.below)
          have HK4 : Hid (Exs wr (From (w.heap.size + 1) wr.heap.size) (.slice Ak nk ck) (rKids n (cutP 124 s.data.toList 0 []))) := Lib.hid (by have h := HR.out.row.exs; rw [HQK.out] at h; exact h.keep (fun b hb => ⟨by have := hb.1; omega, hb.2⟩) fun _ _ => rfl)
          have hnq : w.heap.size ≠ W1.heap.size := by omega
          obtain ⟨q0, q1, q2⟩ := three_cells HZ4.out
          have t0 := frozen_of_row _ w.heap.size 0 _ _ HZ4.out
          have t1 := frozen_of_row _ w.heap.size 1 _ _ HZ4.out
          have t2 := frozen_of_row _ w.heap.size 2 _ _ HZ4.out
          have hzq := cell_lt q0
          go_wp2
          obtain ⟨x0, x1⟩ := rr_fin 97 (o := 97) (by simp) (s := ⟨#[]⟩) (l := rKids n (cutP 124 s.data.toList 0 [])) HB4.out HZ4.out HK4.out
          obtain ⟨y0, y1, y2⟩ := three_cells x0
          refine bodyPost_ret (v := .agg #[.int .u8 97, .string ⟨#[]⟩, .slice Ak nk ck]) (by simp [results, Tryd.results41, go_sem, y0, y1, y2]) rfl ?_
          rw [HQ2.out]
          exact x1
    case pos =>
      have e2 : ((N1 : Int) == 1) = true := by simp; omega
      have HP1 : Hid (partsR s.data.toList = (115, cutP 32 s.data.toList 0 [])) := Lib.hid (by unfold partsR; rw [if_pos (by rw [hN1]; exact h1)])
      clear hN1 hr1 hb1 HS1 HBZ HZB hc1 hcm1 HNN
      go_wp2_with fail
      refine (rcut_any s 32 W1 hs).mono ?_
      rintro x W2 ⟨v2, rfl, hr2, hb2⟩
      obtain ⟨A2, N2, c2, rfl, hN2, hc2, hcm2⟩ := strsN hr2.strs
      rw [List.length_map] at hN2
      unfold maxLen at hcm2
      have HS2 : Hid (Strs W2 (Under W2.heap.size) (.slice A2 N2 c2) ((cutP 32 s.data.toList 0 []).map bA)) := Lib.hid hr2.strs
      have HBW : Hid (Below w.heap.size w W2) := Lib.hid (belowNext HB1.out hb2)
      have HZ := Lib.hid ((hb2.block _ hzW1).trans HZ1.out)
      have hzW : w.heap.size < W2.heap.size := by have := hb2.size; omega
      have HN := Lib.hid hN2
      clear h1 e2 hr2 hb2 HB1 HZ1 hzW1 hN2
      by_cases h2 : 1 < N2
      · have HQ : Hid (readR (n + 1) s.data.toList = .mk 115 ByteArray.empty (if (cutP 32 s.data.toList 0 []).length < 30 then rKids n (cutP 32 s.data.toList 0 []) else [])) := Lib.hid (by
          rw [readR, if_neg HL0.out, HP1.out, if_pos (by rw [HN.out]; exact h2)]; rfl)
        have e3 : decide ((N2 : Int) > 1) = true := by simp; omega
        have HAT : Hid (ReAt W2 (W2.alloc (.cells #[.int .u8 (115 : Nat), .string ⟨#[]⟩, .slice none 0 0] 30)) 115 (rKids n (cutP 32 s.data.toList 0 [])) 0 (.slice none 0 0)) := Lib.hid ⟨(Below.refl _ _).alloc (Nat.le_refl _) _, heap_new _ _, ⟨[], World.ownsRow_nil _ _ _ _, rfl⟩⟩
        go_wp2
        generalize W2.alloc (.cells #[.int .u8 (115 : Nat), .string ⟨#[]⟩, .slice none 0 0] 30) = wk at *
        go_loopg [8] N2 (fun g u wx => ∃ (i : Nat) (vk : Value), u = .int .i64 i ∧ i + g = N2 ∧ (30 ≤ N2 → i = 0) ∧ Hid (ReAt W2 wx 115 (rKids n (cutP 32 s.data.toList 0 [])) i vk))
        case atStart => exact ⟨0, _, rfl, by omega, fun _ => rfl, HAT⟩
        case round =>
          clear HAT
          obtain ⟨i, vk, rfl, hig, hi30, HR⟩ := hrel
          obtain ⟨Ak, ck, rfl, hck, hckm, _⟩ := id HR.out.row.exs
          generalize hnk : ((rKids n (cutP 32 s.data.toList 0 [])).take i).length = nk at *
          have HNK := Lib.hid hnk
          have hnk2 : nk ≤ i := by rw [← hnk, List.length_take]; omega
          clear hnk
          obtain ⟨k0, k1, k2⟩ := three_cells HR.out.out
          have t2 := frozen_of_row _ W2.heap.size 2 _ _ HR.out.out
          have hlow := HR.out.low
          by_cases hi : i < N2
          · by_cases h30 : N2 < 30
            · obtain ⟨p, hp⟩ : ∃ p, (cutP 32 s.data.toList 0 [])[i]? = some p   := partAt (by rw [HN.out]; exact hi)
              have HP := Lib.hid hp
              have HRO : Hid (Strs wr (Under W2.heap.size) (.slice A2 N2 c2) ((cutP 32 s.data.toList 0 []).map bA)) := Lib.hid (HS2.out.below HR.out.below)
              obtain ⟨b, off, rfl, cx⟩ := strs_byte HRO.out hp
              have hlb := cell_lt cx
              have HCALL : Hid (Calls Tryd.prog 41 #[.string (bA p), .int .i64 (IntKind.i64.wrap (m - 1))] wr.drew (EPost wr.drew (readR n p))) := Lib.hid (IH.out (IntKind.i64.wrap (m - 1)) (bA p) wr.drew (by have := HM.out; rw [IntWalk.i64_in _ (by omega)]; omega) (by omega) (by rw [bA_size]; have := cutP_sum _ _ _ _ p (List.mem_of_getElem? hp); rw [list_size] at this; simp only [List.length_nil] at this; omega))
              have HLX := Lib.hid (rKids_take (n := n) hp)
              obtain ⟨g, rfl⟩ : ∃ g, gk = g + 1 := ⟨gk - 1, by omega⟩
              clear hp
              generalize readR n p = x at *
              have HVK : Hid (∀ b, (Value.slice Ak nk ck).ownBlock = some b → W2.heap.size + 1 ≤ b) := Lib.hid (by obtain ⟨xs, h, _⟩ := HR.out.row; exact fun b hb => (h.lt b hb).1)
              go_wp2_with fail
              go_region_law (first
                | ((with_reducible refine step_rd (s := bA p) (m := IntKind.i64.wrap (m - 1)) (x := x) (by kernel_rfl) (.tmp 45) (.tmp 47) rfl rfl rfl HCALL.out ?_); intro A4 n4 c4 w2 hk2 hb2; have HB2 : Hid (Below wr.heap.size wr w2) := Lib.hid ((below_drewX wr).trans hb2); have HR2 := Lib.hid (HR.out.keep HB2.out); obtain ⟨p0, p1, p2⟩ := three_cells HR2.out.out; have s2 := frozen_of_row _ W2.heap.size 2 _ _ HR2.out.out; have hlow2 := HR2.out.low; have HR3 := Lib.hid (HR2.out.keep (wy := w2.alloc (.cells #[.int .u8 (x.op : Int), .string x.name, .slice A4 n4 c4] 30)) ((Below.refl _ _).alloc (Nat.le_refl _) _)); obtain ⟨xs, hxs, hkc⟩ := HR3.out.row; rw [HNK.out] at hxs; have HXS4 := Lib.hid hxs; have HKC := Lib.hid hkc; have HNEW : Hid ((w2.alloc (.cells #[.int .u8 (x.op : Int), .string x.name, .slice A4 n4 c4] 30)).heap[w2.heap.size]? = some (.cells #[.int .u8 (x.op : Int), .string x.name, .slice A4 n4 c4] 30)) := Lib.hid (heap_new _ _); have HON4 : Hid (∀ u ∈ [Value.int .u8 (x.op : Int), .string x.name, .slice A4 n4 c4], u.oneCell' = true) := Lib.hid (by simp [Value.oneCell']); have HN1 : Hid (nk + 1 ≤ 100000000) := Lib.hid (by omega); have HBS : Hid (W2.heap.size + 1 ≤ (w2.alloc (.cells #[.int .u8 (x.op : Int), .string x.name, .slice A4 n4 c4] 30)).heap.size) := Lib.hid (by simp; omega); have HKX : Hid (Exs (w2.alloc (.cells #[.int .u8 (x.op : Int), .string x.name, .slice A4 n4 c4] 30)) (fun b => W2.heap.size + 1 ≤ b ∧ b < (w2.alloc (.cells #[.int .u8 (x.op : Int), .string x.name, .slice A4 n4 c4] 30)).heap.size ∧ (Value.slice Ak nk ck).ownBlock ≠ some b) (.slice A4 n4 c4) x.kids) := Lib.hid (hk2.keep (fun b hb => ⟨by have h1 : wr.heap.size ≤ b := hb.1; omega, by have := hb.2; simp; omega, by intro h5; obtain ⟨ys, h6, _⟩ := HR.out.row; have h7 := (h6.lt b h5).2; have h8 : wr.heap.size ≤ b := hb.1; omega⟩) fun b hb => Below.heap_alloc _ _ _ hb.2); clear hk2 hb2 hxs hkc)
                | ((with_reducible refine step_append_exR (by kernel_rfl) (.tmp 41) (.tmp 49) rfl (W2.heap.size + 1) (.slice Ak nk ck) nk xs w2.heap.size 1 (.int .u8 (x.op : Int)) (.string x.name) (.slice A4 n4 c4) rfl rfl HXS4.out HNEW.out HON4.out HN1.out HBS.out ?_); intro v5 w5 ho5 hg5 hb5; obtain ⟨G5, d5, rfl⟩ := own_slice ho5; have HFIN := Lib.hid (HR3.out.next HLX.out HVK.out HKC.out (by rw [HNK.out]; exact ho5) hg5 hb5 HKX.out); have hw5 : w5.heap[W2.heap.size]? = some (.cells #[.int .u8 (115 : Nat), .string ⟨#[]⟩, .slice Ak nk ck] 30) := (hg5.block _ (by simp; omega) (fun e5 => by have := HVK.out _ e5.symm; omega)).trans HR3.out.out; obtain ⟨y0, y1, y2⟩ := three_cells hw5; have u2 := frozen_of_row _ W2.heap.size 2 _ _ hw5; have hlow5 := cell_lt y0; clear ho5 hg5 hb5 hw5))
              all_goals
                go_wp2
                go_roundg g
                case measure => omega
                case rel => exact ⟨i + 1, _, by go_num, by omega, by omega, HFIN⟩
            · have HQK : Hid ((rKids n (cutP 32 s.data.toList 0 [])).take i = []) := Lib.hid (by rw [hi30 (by omega), List.take_zero])
              have HQ2 : Hid (readR (n + 1) s.data.toList = .mk 115 ⟨#[]⟩ []) := Lib.hid (by rw [HQ.out, if_neg (by rw [HN.out]; exact h30)]; rfl)
              have HZ4 := Lib.hid ((HR.out.below.block _ hzW).trans HZ.out)
              have HB4 := Lib.hid (belowNext HBW.out HR.out.below)
              have HK4 : Hid (Exs wr (From (w.heap.size + 1) wr.heap.size) (.slice Ak nk ck) []) := Lib.hid (by have h := HR.out.row.exs; rw [HQK.out] at h; exact h.keep (fun b hb => ⟨by have := hb.1; omega, hb.2⟩) fun _ _ => rfl)
              have hnq : w.heap.size ≠ W2.heap.size := by omega
              obtain ⟨q0, q1, q2⟩ := three_cells HZ4.out
              have t0 := frozen_of_row _ w.heap.size 0 _ _ HZ4.out
              have t1 := frozen_of_row _ w.heap.size 1 _ _ HZ4.out
              have t2 := frozen_of_row _ w.heap.size 2 _ _ HZ4.out
              have hzq := cell_lt q0
              go_wp2
              obtain ⟨x0, x1⟩ := rr_fin 115 (o := 115) (by simp) (s := ⟨#[]⟩) (l := []) HB4.out HZ4.out HK4.out
              obtain ⟨y0, y1, y2⟩ := three_cells x0
              refine bodyPost_ret (v := .agg #[.int .u8 115, .string ⟨#[]⟩, .slice Ak nk ck]) (by simp [results, Tryd.results41, go_sem, y0, y1, y2]) rfl ?_
              rw [HQ2.out]
              exact x1
          · have hIN : i = N2 := by omega
            have h30 : N2 < 30 := by
              rcases Nat.lt_or_ge N2 30 with h | h
              · exact h
              · have := hi30 h; omega
            have HQK : Hid ((rKids n (cutP 32 s.data.toList 0 [])).take i = rKids n (cutP 32 s.data.toList 0 [])) := Lib.hid (List.take_of_length_le (by unfold rKids; rw [List.length_map, HN.out]; omega))
            have HQ2 : Hid (readR (n + 1) s.data.toList = .mk 115 ⟨#[]⟩ (rKids n (cutP 32 s.data.toList 0 []))) := Lib.hid (by rw [HQ.out, if_pos (by rw [HN.out]; exact h30)]; rfl)
            clear hIN h30 hi30
            have HZ4 := Lib.hid ((HR.out.below.block _ hzW).trans HZ.out)
            have HB4 := Lib.hid (belowNext HBW.out HR.out.below)
            have HK4 : Hid (Exs wr (From (w.heap.size + 1) wr.heap.size) (.slice Ak nk ck) (rKids n (cutP 32 s.data.toList 0 []))) := Lib.hid (by have h := HR.out.row.exs; rw [HQK.out] at h; exact h.keep (fun b hb => ⟨by have := hb.1; omega, hb.2⟩) fun _ _ => rfl)
            have hnq : w.heap.size ≠ W2.heap.size := by omega
            obtain ⟨q0, q1, q2⟩ := three_cells HZ4.out
            have t0 := frozen_of_row _ w.heap.size 0 _ _ HZ4.out
            have t1 := frozen_of_row _ w.heap.size 1 _ _ HZ4.out
            have t2 := frozen_of_row _ w.heap.size 2 _ _ HZ4.out
            have hzq := cell_lt q0
            go_wp2
            obtain ⟨x0, x1⟩ := rr_fin 115 (o := 115) (by simp) (s := ⟨#[]⟩) (l := rKids n (cutP 32 s.data.toList 0 [])) HB4.out HZ4.out HK4.out
            obtain ⟨y0, y1, y2⟩ := three_cells x0
            refine bodyPost_ret (v := .agg #[.int .u8 115, .string ⟨#[]⟩, .slice Ak nk ck]) (by simp [results, Tryd.results41, go_sem, y0, y1, y2]) rfl ?_
            rw [HQ2.out]
            exact x1
      · have HQ : Hid (readR (n + 1) s.data.toList = if repE (s.data.toList.getLastD 0).toNat then .mk (s.data.toList.getLastD 0).toNat ByteArray.empty [readR n s.data.toList.dropLast]
            else if s.data.toList = [40, 41] then .mk 115 ByteArray.empty []
            else if s.data.toList.headD 0 = 40 ∧ s.data.toList.getLastD 0 = 41 then readR n s.data.toList.tail.dropLast
            else .mk 110 ⟨s.data.toList.toArray⟩ []) := Lib.hid (by
          rw [readR, if_neg HL0.out, HP1.out, if_neg (by rw [HN.out]; exact h2)])
        have e3 : decide ((N2 : Int) > 1) = false := by simp; omega
        have n2 : ¬ 1 < N2 := h2
        obtain ⟨k, hk⟩ : ∃ k, s.size = k + 1 := ⟨s.size - 1, by have h : s.size ≠ 0 := fun h => HL0.out (List.eq_nil_of_length_eq_zero (by rw [list_size]; exact h)); omega⟩
        have HK := Lib.hid hk
        have hks : k < s.size := by omega
        have h0s : 0 < s.size := by omega
        have HLA : Hid (s.data.toList.getLastD 0 = s[k]) := Lib.hid (last_is hk hks)
        have HHD : Hid (s.data.toList.headD 0 = s[0]) := Lib.hid (head_is h0s)
        have HEI : Hid ((s.extract 0 k).data.toList = s.data.toList.dropLast) := Lib.hid (ext_init hk)
        have HEM : Hid ((s.extract 1 k).data.toList = s.data.toList.tail.dropLast) := Lib.hid (ext_inner hk)
        rw [HLA.out, HHD.out, ← HEI.out, ← HEM.out] at HQ
        clear h2
        cases hr : repE s[k].toNat with
        | true =>
          have HQ2 : Hid (readR (n + 1) s.data.toList = .mk s[k].toNat ⟨#[]⟩ [readR n (s.extract 0 k).data.toList]) := Lib.hid (by rw [HQ.out, if_pos hr]; rfl)
          have HCALL : Hid (Calls Tryd.prog 41 #[.string (s.extract 0 k), .int .i64 (m - 1)] W2 (EPost W2 (readR n (s.extract 0 k).data.toList))) := Lib.hid (IH.out (m - 1) (s.extract 0 k) W2 (by have := HM.out; omega) (by omega) (by rw [← list_size, HEI.out, List.length_dropLast, list_size]; omega))
          have hl : (s[k].toNat : Int) = 42 ∨ (s[k].toNat : Int) = 43 ∨ (s[k].toNat : Int) = 63 := by simp only [repE, Bool.or_eq_true, beq_iff_eq] at hr; omega
          clear hr HQ HEM HHD HEI
          generalize readR n (s.extract 0 k).data.toList = x at *
          rcases hl with hl | hl | hl
          · have l42 : ((s[k].toNat : Int) == 42) = true := by rw [hl]; rfl
            have l43 : ((s[k].toNat : Int) == 43) = false := by rw [hl]; rfl
            have l63 : ((s[k].toNat : Int) == 63) = false := by rw [hl]; rfl
            clear hl
            go_wp2_with fail
            refine HCALL.out.mono ?_
            rintro y W3 ⟨A3, n3, c3, rfl, hk3, hb3⟩
            have hw3 : W2.heap.size ≤ W3.heap.size := hb3.size
            have HZ3 := Lib.hid ((hb3.block _ hzW).trans HZ.out)
            have HB3 := Lib.hid (belowNext HBW.out hb3)
            have HKN : Hid (Exs (W3.alloc (.cells #[.int .u8 (x.op : Int), .string x.name, .slice A3 n3 c3] 30)) (From (w.heap.size + 1) (W3.alloc (.cells #[.int .u8 (x.op : Int), .string x.name, .slice A3 n3 c3] 30)).heap.size) (.slice (some ⟨W3.heap.size, 0, none⟩) 1 1) [x]) := Lib.hid (KRowR.first (by omega) (hk3.keep (fun b hb => ⟨by have := hb.1; omega, hb.2⟩) fun _ _ => rfl)).exs
            have HBA : Hid (Below W3.heap.size W3 (W3.alloc (.cells #[.int .u8 (x.op : Int), .string x.name, .slice A3 n3 c3] 30))) := Lib.hid ((Below.refl _ _).alloc (Nat.le_refl _) _)
            have HZ4 := Lib.hid ((HBA.out.block _ (by omega)).trans HZ3.out)
            have HB4 := Lib.hid (belowNext HB3.out HBA.out)
            clear hk3 hb3
            obtain ⟨q0, q1, q2⟩ := three_cells HZ4.out
            have t0 := frozen_of_row _ w.heap.size 0 _ _ HZ4.out
            have t1 := frozen_of_row _ w.heap.size 1 _ _ HZ4.out
            have t2 := frozen_of_row _ w.heap.size 2 _ _ HZ4.out
            have hzq := cell_lt q0
            go_wp2
            obtain ⟨x0, x1⟩ := rr_fin (s[k].toNat : Int) (o := s[k].toNat) (by simp) (s := ⟨#[]⟩) (l := [x]) HB4.out HZ4.out HKN.out
            obtain ⟨y0, y1, y2⟩ := three_cells x0
            refine bodyPost_ret (v := .agg #[.int .u8 (s[k].toNat : Int), .string ⟨#[]⟩, .slice (some ⟨W3.heap.size, 0, none⟩) 1 1]) (by simp [results, Tryd.results41, go_sem, y0, y1, y2]) rfl ?_
            rw [HQ2.out]
            exact x1
          · have l42 : ((s[k].toNat : Int) == 42) = false := by rw [hl]; rfl
            have l43 : ((s[k].toNat : Int) == 43) = true := by rw [hl]; rfl
            have l63 : ((s[k].toNat : Int) == 63) = false := by rw [hl]; rfl
            clear hl
            go_wp2_with fail
            refine HCALL.out.mono ?_
            rintro y W3 ⟨A3, n3, c3, rfl, hk3, hb3⟩
            have hw3 : W2.heap.size ≤ W3.heap.size := hb3.size
            have HZ3 := Lib.hid ((hb3.block _ hzW).trans HZ.out)
            have HB3 := Lib.hid (belowNext HBW.out hb3)
            have HKN : Hid (Exs (W3.alloc (.cells #[.int .u8 (x.op : Int), .string x.name, .slice A3 n3 c3] 30)) (From (w.heap.size + 1) (W3.alloc (.cells #[.int .u8 (x.op : Int), .string x.name, .slice A3 n3 c3] 30)).heap.size) (.slice (some ⟨W3.heap.size, 0, none⟩) 1 1) [x]) := Lib.hid (KRowR.first (by omega) (hk3.keep (fun b hb => ⟨by have := hb.1; omega, hb.2⟩) fun _ _ => rfl)).exs
            have HBA : Hid (Below W3.heap.size W3 (W3.alloc (.cells #[.int .u8 (x.op : Int), .string x.name, .slice A3 n3 c3] 30))) := Lib.hid ((Below.refl _ _).alloc (Nat.le_refl _) _)
            have HZ4 := Lib.hid ((HBA.out.block _ (by omega)).trans HZ3.out)
            have HB4 := Lib.hid (belowNext HB3.out HBA.out)
            clear hk3 hb3
            obtain ⟨q0, q1, q2⟩ := three_cells HZ4.out
            have t0 := frozen_of_row _ w.heap.size 0 _ _ HZ4.out
            have t1 := frozen_of_row _ w.heap.size 1 _ _ HZ4.out
            have t2 := frozen_of_row _ w.heap.size 2 _ _ HZ4.out
            have hzq := cell_lt q0
            go_wp2
            obtain ⟨x0, x1⟩ := rr_fin (s[k].toNat : Int) (o := s[k].toNat) (by simp) (s := ⟨#[]⟩) (l := [x]) HB4.out HZ4.out HKN.out
            obtain ⟨y0, y1, y2⟩ := three_cells x0
            refine bodyPost_ret (v := .agg #[.int .u8 (s[k].toNat : Int), .string ⟨#[]⟩, .slice (some ⟨W3.heap.size, 0, none⟩) 1 1]) (by simp [results, Tryd.results41, go_sem, y0, y1, y2]) rfl ?_
            rw [HQ2.out]
            exact x1
          · have l42 : ((s[k].toNat : Int) == 42) = false := by rw [hl]; rfl
            have l43 : ((s[k].toNat : Int) == 43) = false := by rw [hl]; rfl
            have l63 : ((s[k].toNat : Int) == 63) = true := by rw [hl]; rfl
            clear hl
            go_wp2_with fail
            refine HCALL.out.mono ?_
            rintro y W3 ⟨A3, n3, c3, rfl, hk3, hb3⟩
            have hw3 : W2.heap.size ≤ W3.heap.size := hb3.size
            have HZ3 := Lib.hid ((hb3.block _ hzW).trans HZ.out)
            have HB3 := Lib.hid (belowNext HBW.out hb3)
            have HKN : Hid (Exs (W3.alloc (.cells #[.int .u8 (x.op : Int), .string x.name, .slice A3 n3 c3] 30)) (From (w.heap.size + 1) (W3.alloc (.cells #[.int .u8 (x.op : Int), .string x.name, .slice A3 n3 c3] 30)).heap.size) (.slice (some ⟨W3.heap.size, 0, none⟩) 1 1) [x]) := Lib.hid (KRowR.first (by omega) (hk3.keep (fun b hb => ⟨by have := hb.1; omega, hb.2⟩) fun _ _ => rfl)).exs
            have HBA : Hid (Below W3.heap.size W3 (W3.alloc (.cells #[.int .u8 (x.op : Int), .string x.name, .slice A3 n3 c3] 30))) := Lib.hid ((Below.refl _ _).alloc (Nat.le_refl _) _)
            have HZ4 := Lib.hid ((HBA.out.block _ (by omega)).trans HZ3.out)
            have HB4 := Lib.hid (belowNext HB3.out HBA.out)
            clear hk3 hb3
            obtain ⟨q0, q1, q2⟩ := three_cells HZ4.out
            have t0 := frozen_of_row _ w.heap.size 0 _ _ HZ4.out
            have t1 := frozen_of_row _ w.heap.size 1 _ _ HZ4.out
            have t2 := frozen_of_row _ w.heap.size 2 _ _ HZ4.out
            have hzq := cell_lt q0
            go_wp2
            obtain ⟨x0, x1⟩ := rr_fin (s[k].toNat : Int) (o := s[k].toNat) (by simp) (s := ⟨#[]⟩) (l := [x]) HB4.out HZ4.out HKN.out
            obtain ⟨y0, y1, y2⟩ := three_cells x0
            refine bodyPost_ret (v := .agg #[.int .u8 (s[k].toNat : Int), .string ⟨#[]⟩, .slice (some ⟨W3.heap.size, 0, none⟩) 1 1]) (by simp [results, Tryd.results41, go_sem, y0, y1, y2]) rfl ?_
            rw [HQ2.out]
            exact x1
        | false =>
          have l42 : ((s[k].toNat : Int) == 42) = false := by rw [beq_eq_false_iff_ne]; intro h; have h9 : s[k].toNat = 42 := (by omega); exact absurd (show repE s[k].toNat = true by rw [h9]; rfl) (by rw [hr]; decide)
          have l43 : ((s[k].toNat : Int) == 43) = false := by rw [beq_eq_false_iff_ne]; intro h; have h9 : s[k].toNat = 43 := (by omega); exact absurd (show repE s[k].toNat = true by rw [h9]; rfl) (by rw [hr]; decide)
          have l63 : ((s[k].toNat : Int) == 63) = false := by rw [beq_eq_false_iff_ne]; intro h; have h9 : s[k].toNat = 63 := (by omega); exact absurd (show repE s[k].toNat = true by rw [h9]; rfl) (by rw [hr]; decide)
          rw [hr, if_neg (by decide)] at HQ
          clear hr HEI
          by_cases h4041 : s.data.toList = [40, 41]
          · have e4 : (s.toList == [40, 41]) = true := by rw [Lib.toList_data, h4041]; rfl
            have HQ2 : Hid (readR (n + 1) s.data.toList = .mk 115 ⟨#[]⟩ []) := Lib.hid (by rw [HQ.out, if_pos h4041]; rfl)
            have HK4 : Hid (Exs W2 (From (w.heap.size + 1) W2.heap.size) (.slice none 0 0) []) := Lib.hid (exs_nil _ _)
            clear h4041 HQ
            obtain ⟨q0, q1, q2⟩ := three_cells HZ.out
            have t0 := frozen_of_row _ w.heap.size 0 _ _ HZ.out
            have t1 := frozen_of_row _ w.heap.size 1 _ _ HZ.out
            have t2 := frozen_of_row _ w.heap.size 2 _ _ HZ.out
            have hzq := cell_lt q0
            go_wp2
            obtain ⟨x0, x1⟩ := rr_fin 115 (o := 115) (by simp) (s := ⟨#[]⟩) (l := []) HBW.out HZ.out HK4.out
            obtain ⟨y0, y1, y2⟩ := three_cells x0
            refine bodyPost_ret (v := .agg #[.int .u8 115, .string ⟨#[]⟩, .slice none 0 0]) (by simp [results, Tryd.results41, go_sem, y0, y1, y2]) rfl ?_
            rw [HQ2.out]
            exact x1
          · have e4 : (s.toList == [40, 41]) = false := by rw [Lib.toList_data, beq_eq_false_iff_ne]; exact h4041
            rw [if_neg h4041] at HQ
            clear h4041
            by_cases hp : s[0] = 40 ∧ s[k] = 41
            · have e5 : ((s[0].toNat : Int) == 40) = true := by rw [hp.1]; rfl
              have e6 : ((s[k].toNat : Int) == 41) = true := by rw [hp.2]; rfl
              have HQ2 : Hid (readR (n + 1) s.data.toList = readR n (s.extract 1 k).data.toList) := Lib.hid (by rw [HQ.out, if_pos hp])
              have hk1 : 1 ≤ k := by
                rcases Nat.eq_zero_or_pos k with h | h
                · subst h; have h1 := hp.1; rw [hp.2] at h1; exact absurd h1 (by decide)
                · exact h
              have HCALL : Hid (Calls Tryd.prog 41 #[.string (s.extract 1 k), .int .i64 (m - 1)] W2 (EPost W2 (readR n (s.extract 1 k).data.toList))) := Lib.hid (IH.out (m - 1) (s.extract 1 k) W2 (by have := HM.out; omega) (by omega) (by rw [← list_size, HEM.out, List.length_dropLast, List.length_tail, list_size]; omega))
              clear hp HQ HEM HHD
              generalize readR n (s.extract 1 k).data.toList = x at *
              go_wp2_with fail
              refine HCALL.out.mono ?_
              rintro y W3 ⟨A3, n3, c3, rfl, hk3, hb3⟩
              have hw3 : W2.heap.size ≤ W3.heap.size := hb3.size
              have HZ3 := Lib.hid ((hb3.block _ hzW).trans HZ.out)
              have HB3 := Lib.hid (belowNext HBW.out hb3)
              have HK4 : Hid (Exs W3 (From (w.heap.size + 1) W3.heap.size) (.slice A3 n3 c3) x.kids) := Lib.hid (hk3.keep (fun b hb => ⟨by have := hb.1; omega, hb.2⟩) fun _ _ => rfl)
              have HQ3 : Hid (readR (n + 1) s.data.toList = .mk x.op x.name x.kids) := Lib.hid (by rw [HQ2.out]; obtain ⟨_, _, _⟩ := x; rfl)
              clear hk3 hb3
              obtain ⟨q0, q1, q2⟩ := three_cells HZ3.out
              have t0 := frozen_of_row _ w.heap.size 0 _ _ HZ3.out
              have t1 := frozen_of_row _ w.heap.size 1 _ _ HZ3.out
              have t2 := frozen_of_row _ w.heap.size 2 _ _ HZ3.out
              have hzq := cell_lt q0
              go_wp2
              obtain ⟨x0, x1⟩ := rr_fin (x.op : Int) (o := x.op) (by simp) (s := x.name) (l := x.kids) HB3.out HZ3.out HK4.out
              obtain ⟨y0, y1, y2⟩ := three_cells x0
              refine bodyPost_ret (v := .agg #[.int .u8 (x.op : Int), .string x.name, .slice A3 n3 c3]) (by simp [results, Tryd.results41, go_sem, y0, y1, y2]) rfl ?_
              rw [HQ3.out]
              exact x1
            · have HQ2 : Hid (readR (n + 1) s.data.toList = .mk 110 s []) := Lib.hid (by rw [HQ.out, if_neg hp])
              have HK4 : Hid (Exs W2 (From (w.heap.size + 1) W2.heap.size) (.slice none 0 0) []) := Lib.hid (exs_nil _ _)
              by_cases hp0 : s[0] = 40
              · have e5 : ((s[0].toNat : Int) == 40) = true := by rw [hp0]; rfl
                have e6 : ((s[k].toNat : Int) == 41) = false := by rw [beq_eq_false_iff_ne]; intro h; exact hp ⟨hp0, UInt8.toNat_inj.1 (by simpa using (by omega : s[k].toNat = 41))⟩
                clear hp hp0 HQ
                obtain ⟨q0, q1, q2⟩ := three_cells HZ.out
                have t0 := frozen_of_row _ w.heap.size 0 _ _ HZ.out
                have t1 := frozen_of_row _ w.heap.size 1 _ _ HZ.out
                have t2 := frozen_of_row _ w.heap.size 2 _ _ HZ.out
                have hzq := cell_lt q0
                go_wp2
                obtain ⟨x0, x1⟩ := rr_fin 110 (o := 110) (by simp) (s := s) (l := []) HBW.out HZ.out HK4.out
                obtain ⟨y0, y1, y2⟩ := three_cells x0
                refine bodyPost_ret (v := .agg #[.int .u8 110, .string s, .slice none 0 0]) (by simp [results, Tryd.results41, go_sem, y0, y1, y2]) rfl ?_
                rw [HQ2.out]
                exact x1
              · have e5 : ((s[0].toNat : Int) == 40) = false := by rw [beq_eq_false_iff_ne]; intro h; exact hp0 (UInt8.toNat_inj.1 (by simpa using (by omega : s[0].toNat = 40)))
                clear hp hp0 HQ
                obtain ⟨q0, q1, q2⟩ := three_cells HZ.out
                have t0 := frozen_of_row _ w.heap.size 0 _ _ HZ.out
                have t1 := frozen_of_row _ w.heap.size 1 _ _ HZ.out
                have t2 := frozen_of_row _ w.heap.size 2 _ _ HZ.out
                have hzq := cell_lt q0
                go_wp2
                obtain ⟨x0, x1⟩ := rr_fin 110 (o := 110) (by simp) (s := s) (l := []) HBW.out HZ.out HK4.out
                obtain ⟨y0, y1, y2⟩ := three_cells x0
                refine bodyPost_ret (v := .agg #[.int .u8 110, .string s, .slice none 0 0]) (by simp [results, Tryd.results41, go_sem, y0, y1, y2]) rfl ?_
                rw [HQ2.out]
                exact x1
end Go.Proofs.YtldmimekmjmkgaaDoor

namespace Go.Proofs.YtldmimekmjmkgaaDoor
open Go.RowKit Go.Sort Go.Maps Go.WideMaps

theorem fit_readR : ∀ (n : Nat) (L : List UInt8), L.length ≤ 1000000 → (readR n L).fits
  | 0, _, _ => fit_nul
  | n + 1, L, h => by
    have hmax : (1000000 : Nat) ≤ maxLen := by unfold maxLen; decide
    rw [readR]
    split
    · exact fit_nul
    · split
      · refine ⟨?_, empty_len, ?_⟩
        · unfold partsR; split <;> simp
        · refine fitsAll_of _ fun x hx => ?_
          split at hx
          · obtain ⟨p, hp, rfl⟩ := List.mem_map.1 hx
            refine fit_readR n p ?_
            have h2 : p.length ≤ L.length := by
              unfold partsR at hp
              split at hp
              · have := cutP_sum 32 L 0 [] p hp; simpa using this
              · have := cutP_sum 124 L 0 [] p hp; simpa using this
            omega
          · cases hx
      · split
        · exact ⟨UInt8.toNat_lt _, empty_len, fit_readR n _ (by rw [List.length_dropLast]; omega), trivial⟩
        · split
          · exact ⟨by decide, empty_len, trivial⟩
          · split
            · exact fit_readR n _ (by rw [List.length_dropLast, List.length_tail]; omega)
            · refine ⟨by decide, ?_, trivial⟩
              show (bA L).size ≤ maxLen
              rw [bA_size]; omega
/-- The parts' lengths, and one for each. -/
def lenS (ps : List (List UInt8)) : Nat := (ps.map fun p => p.length + 1).sum
theorem cutP_total (g : UInt8) : ∀ (L : List UInt8) (o : Int) (cur : List UInt8), lenS (cutP g L o cur) = L.length + cur.length + 1
  | [], _, cur => by simp [cutP, lenS]
  | c :: r, o, cur => by
    rw [cutP]
    split
    · have := cutP_total g r (lvl o c) []
      simp only [lenS, List.map_cons, List.sum_cons, List.length_cons, List.length_nil] at this ⊢; omega
    · have := cutP_total g r (lvl o c) (cur ++ [c])
      simp only [List.length_cons, List.length_append, List.length_nil] at this ⊢; omega
theorem sizes_parts {f : List UInt8 → Ex} (hf : ∀ p, sizeE (f p) ≤ 3 * p.length + 1) : ∀ ps : List (List UInt8), sizeEs (ps.map f) + 2 * ps.length ≤ 3 * lenS ps
  | [] => by simp [sizeEs, lenS]
  | p :: ps => by
    have h1 := hf p
    have h2 := sizes_parts hf ps
    simp only [List.map_cons, sizeEs, lenS, List.sum_cons, List.length_cons] at h2 ⊢; omega
theorem size_readR : ∀ (n : Nat) (L : List UInt8), sizeE (readR n L) ≤ 3 * L.length + 1
  | 0, _ => by rw [readR]; unfold nulE; simp [sizeE, sizeEs]
  | n + 1, L => by
    rw [readR]
    split
    · unfold nulE; simp [sizeE, sizeEs]
    · rename_i h0
      have hL : 1 ≤ L.length := by cases L with | nil => exact absurd rfl h0 | cons c t => simp
      split
      · rename_i h1
        have h2 : lenS (partsR L).2 = L.length + 1 := by unfold partsR; split <;> (rw [cutP_total]; simp)
        have h3 := sizes_parts (size_readR n) (partsR L).2
        split
        · rw [sizeE]; omega
        · rw [sizeE, sizeEs]; omega
      · split
        · have h4 := size_readR n L.dropLast
          rw [List.length_dropLast] at h4
          rw [sizeE, sizeEs, sizeEs]; omega
        · split
          · rw [sizeE, sizeEs]; omega
          · split
            · have h4 := size_readR n L.tail.dropLast
              rw [List.length_dropLast, List.length_tail] at h4
              omega
            · rw [sizeE, sizeEs]; omega

set_option maxHeartbeats 2000000 in
theorem rprint_any (e : Ex) (A : Option Addr) (n c : Nat) (w : World) (he : e.fits) (hsz : sizeE e ≤ 1000000) (hl : Exs w (Under w.heap.size) (.slice A n c) e.kids) :
    Calls Tryd.prog 15 #[.agg #[.int .u8 e.op, .string e.name, .slice A n c]] w fun x w' => x = .returned (.tuple #[.string (printE e).1, .int .i64 (printE e).2]) ∧ Below w.heap.size w w' := by
  have HA := Lib.hid hl
  have HB : Hid (Below w.heap.size w (w.alloc (.cells #[.int .u8 e.op, .string e.name, .slice A n c] 30))) := Lib.hid ((Below.refl _ _).alloc (Nat.le_refl _) _)
  have HBX : Hid ((w.alloc (.cells #[.int .u8 e.op, .string e.name, .slice A n c] 30)).heap[w.heap.size]? = some (.cells #[.int .u8 e.op, .string e.name, .slice A n c] 30)) := Lib.hid (heap_new _ _)
  clear hl
  go_enter Tryd.func15, Tryd.ntmps15
  go_wp2_with fail
  generalize w.alloc (.cells #[.int .u8 e.op, .string e.name, .slice A n c] 30) = W1 at *
  have hz1 : w.heap.size < W1.heap.size := (Array.getElem?_eq_some_iff.1 HBX.out).1
  refine (rright_any e A n c W1.heap.size W1 he hsz ((HA.out.below HB.out).more HB.out.size) (Nat.le_refl _)).mono ?_
  rintro x w2 ⟨rfl, hb2⟩
  have HB2 := Lib.hid (HB.out.trans (hb2.mono HB.out.size))
  have HBX2 := Lib.hid ((hb2.block _ hz1).trans HBX.out)
  have hz2 : w.heap.size < w2.heap.size := (Array.getElem?_eq_some_iff.1 HBX2.out).1
  clear hb2 HB HBX hz1
  generalize hr : rightE okN e = r at *
  have HRE := Lib.hid hr
  clear hr
  cases r with
  | false =>
    have HP : Hid (printE e = (⟨#[]⟩, 2)) := Lib.hid (by unfold printE; rw [HRE.out]; rfl)
    go_wp2
    go_ret2
    exact ⟨by rw [HP.out]; rfl, HB2.out⟩
  | true =>
    have HP : Hid (printE e = (writeE e, 0)) := Lib.hid (by unfold printE; rw [HRE.out]; rfl)
    obtain ⟨k0, k1, k2⟩ := three_cells HBX2.out
    have hrt := HRE.out
    unfold rightE at hrt
    rw [Bool.and_eq_true, decide_eq_true_iff] at hrt
    go_wp2_with fail
    refine (rwrite_walk e A n c w2.heap.size w2 he hrt.1 hrt.2 ((HA.out.below HB2.out).more HB2.out.size) (Nat.le_refl _)).mono ?_
    rintro x w3 ⟨rfl, hb3⟩
    have HB3 := Lib.hid (HB2.out.trans (hb3.mono HB2.out.size))
    clear hb3 hrt
    go_wp2
    go_ret2
    exact ⟨by rw [HP.out]; rfl, HB3.out⟩

/-- What the document's Parse answers. -/
def parseR (s : ByteArray) : Ex × Int := if rightE okN (readR 100 s.data.toList) = true ∧ writeE (readR 100 s.data.toList) = s then (readR 100 s.data.toList, 0) else (nulE, 2)
/-- Both read alike. -/
theorem parse_same (s : ByteArray) : parseR s = parseE s := by
  unfold parseR parseE
  by_cases h : ∃ e, rightE okN e = true ∧ writeE e = s
  · obtain ⟨e, h1, h2⟩ := h
    have e1 : readR 100 s.data.toList = e := by rw [← h2]; exact readR_write h1
    have e2 : readE s.data.toList = e := by rw [← h2]; exact read_write h1
    rw [e1, e2]
  · rw [if_neg (fun h1 => h ⟨_, h1⟩), if_neg (fun h1 => h ⟨_, h1⟩)]
theorem rparse_fin {w W : World} {e : Ex} {A : Option Addr} {n c : Nat} {u0 u1 u2 : Value} (hB : Below w.heap.size w W) (hz : W.heap[w.heap.size]? = some (.cells #[u0, u1, u2] 30)) (hk : Exs W (From (w.heap.size + 1) W.heap.size) (.slice A n c) e.kids) (r : Int) :
    (((W.setCell ⟨w.heap.size, 0, none⟩ (.int .u8 (e.op : Int))).setCell ⟨w.heap.size, 1, none⟩ (.string e.name)).setCell ⟨w.heap.size, 2, none⟩ (.slice A n c)).heap[w.heap.size]? = some (.cells #[.int .u8 (e.op : Int), .string e.name, .slice A n c] 30) ∧
    PEPost w (e, r) (.returned (.tuple #[.agg #[.int .u8 (e.op : Int), .string e.name, .slice A n c], .int .i64 r])) (((W.setCell ⟨w.heap.size, 0, none⟩ (.int .u8 (e.op : Int))).setCell ⟨w.heap.size, 1, none⟩ (.string e.name)).setCell ⟨w.heap.size, 2, none⟩ (.slice A n c)) := by
  obtain ⟨x0, hx, hzz⟩ := put3x (v0 := .int .u8 (e.op : Int)) (v1 := .string e.name) (v2 := .slice A n c) hz
  refine ⟨x0, A, n, c, rfl, hk.keep (fun b hb => ⟨by have := hb.1; omega, by rw [hzz]; exact hb.2⟩) fun b hb => hx b (by have := hb.1; omega), hB.os, hB.tape, hB.output, by rw [hzz]; exact hB.size, fun b hb => (hx b (by omega)).trans (hB.block b hb)⟩

theorem rparse_nul {w W : World} {u0 u1 u2 : Value} (hB : Below w.heap.size w W) (hz : W.heap[w.heap.size]? = some (.cells #[u0, u1, u2] 30)) :
    (((W.setCell ⟨w.heap.size, 0, none⟩ (.int .u8 0)).setCell ⟨w.heap.size, 1, none⟩ (.string ⟨#[]⟩)).setCell ⟨w.heap.size, 2, none⟩ (.slice none 0 0)).heap[w.heap.size]? = some (.cells #[.int .u8 0, .string ⟨#[]⟩, .slice none 0 0] 30) ∧
    PEPost w (nulE, 2) (.returned (.tuple #[.agg #[.int .u8 0, .string ⟨#[]⟩, .slice none 0 0], .int .i64 2])) (((W.setCell ⟨w.heap.size, 0, none⟩ (.int .u8 0)).setCell ⟨w.heap.size, 1, none⟩ (.string ⟨#[]⟩)).setCell ⟨w.heap.size, 2, none⟩ (.slice none 0 0)) :=
  rparse_fin (e := nulE) hB hz (exs_nil W _) 2

set_option maxRecDepth 100000 in
set_option maxHeartbeats 4000000 in
theorem rparse_any (s : ByteArray) (w : World) (hs : s.size ≤ 1000) :
    Calls Tryd.prog 27 #[.string s] w (PEPost w (parseR s)) := by
  have HF := Lib.hid (fit_readR 100 s.data.toList (by rw [list_size]; omega))
  have HZZ := Lib.hid (Nat.le_trans (size_readR 100 s.data.toList) (show 3 * s.data.toList.length + 1 ≤ 1000000 by rw [list_size]; omega))
  have HB : Hid (Below w.heap.size w (w.alloc (.cells #[.int .u8 0, .string ⟨#[]⟩, .slice none 0 0] 30))) := Lib.hid ((Below.refl _ _).alloc (Nat.le_refl _) _)
  have HZB : Hid ((w.alloc (.cells #[.int .u8 0, .string ⟨#[]⟩, .slice none 0 0] 30)).heap[w.heap.size]? = some (.cells #[.int .u8 0, .string ⟨#[]⟩, .slice none 0 0] 30)) := Lib.hid (heap_new _ _)
  go_enter Tryd.func27, Tryd.ntmps27
  go_wp2_with fail
  generalize w.alloc (.cells #[.int .u8 0, .string ⟨#[]⟩, .slice none 0 0] 30) = W1 at *
  have hz1 : w.heap.size < W1.heap.size := (Array.getElem?_eq_some_iff.1 HZB.out).1
  refine (rread_walk 100 100 s W1 rfl (Nat.le_refl _) hs).mono ?_
  rintro x w2 ⟨A, k, c, rfl, hk2, hb2⟩
  have HQ : Hid (parseR s = if rightE okN (readR 100 s.data.toList) = true ∧ writeE (readR 100 s.data.toList) = s then (readR 100 s.data.toList, 0) else (nulE, 2)) := Lib.hid rfl
  generalize readR 100 s.data.toList = e at *
  have hw2 : W1.heap.size ≤ w2.heap.size := hb2.size
  have HZ2 : Hid (w2.heap[w.heap.size]? = some (.cells #[.int .u8 0, .string ⟨#[]⟩, .slice none 0 0] 30)) := Lib.hid ((hb2.block _ hz1).trans HZB.out)
  have HK2 : Hid (Exs w2 (From (w.heap.size + 1) w2.heap.size) (.slice A k c) e.kids) := Lib.hid (hk2.keep (fun b hb => ⟨by have := hb.1; omega, hb.2⟩) fun _ _ => rfl)
  have HB2 : Hid (Below w.heap.size w w2) := Lib.hid (belowNext HB.out hb2)
  clear hk2 hb2 HZB HB
  have HB3 : Hid (Below w2.heap.size w2 (w2.alloc (.cells #[.int .u8 (e.op : Int), .string e.name, .slice A k c] 30))) := Lib.hid ((Below.refl _ _).alloc (Nat.le_refl _) _)
  have HN3 : Hid ((w2.alloc (.cells #[.int .u8 (e.op : Int), .string e.name, .slice A k c] 30)).heap[w2.heap.size]? = some (.cells #[.int .u8 (e.op : Int), .string e.name, .slice A k c] 30)) := Lib.hid (heap_new _ _)
  go_wp2_with fail
  generalize hW : w2.alloc (.cells #[.int .u8 (e.op : Int), .string e.name, .slice A k c] 30) = W3 at *
  have HK3 := Lib.hid (HK2.out.keep (fun b hb => (show b < W3.heap.size from Nat.lt_of_lt_of_le hb.2 HB3.out.size)) fun b hb => HB3.out.block b hb.2)
  clear hW
  refine (rprint_any e A k c W3 HF.out HZZ.out HK3.out).mono ?_
  rintro x w4 ⟨rfl, hb4⟩
  have hw3 : w2.heap.size < W3.heap.size := (Array.getElem?_eq_some_iff.1 HN3.out).1
  have HN4 := Lib.hid ((hb4.block _ hw3).trans HN3.out)
  have HB4 : Hid (Below w.heap.size w w4) := Lib.hid (belowNext HB2.out (belowNext HB3.out hb4))
  have hw4 : W3.heap.size ≤ w4.heap.size := hb4.size
  have HZ4 : Hid (w4.heap[w.heap.size]? = _) := Lib.hid ((hb4.block _ (by omega)).trans ((HB3.out.block _ (by omega)).trans HZ2.out))
  have HK4 : Hid (Exs w4 (From (w.heap.size + 1) w4.heap.size) (.slice A k c) e.kids) := Lib.hid (HK2.out.keep (fun b hb => ⟨hb.1, by have := hb.2; omega⟩) fun b hb => (hb4.block b (by have := hb.2; omega)).trans (HB3.out.block b hb.2))
  have hne : w.heap.size ≠ w2.heap.size := by omega
  clear hb4 HN3 HB3 HB2 HZ2 HK2 HK3 hw3
  cases hre : rightE okN e with
  | false =>
    have hP : printE e = (⟨#[]⟩, 2) := by unfold printE; rw [hre]; rfl
    have HQ2 : Hid (parseR s = (nulE, 2)) := Lib.hid (by rw [HQ.out, hre]; simp)
    rw [hP]
    clear hP HQ hre
    obtain ⟨q0, q1, q2⟩ := three_cells HZ4.out
    have t0 := frozen_of_row _ w.heap.size 0 _ _ HZ4.out
    have t1 := frozen_of_row _ w.heap.size 1 _ _ HZ4.out
    have t2 := frozen_of_row _ w.heap.size 2 _ _ HZ4.out
    obtain ⟨d0, d1, d2⟩ := three_cells HN4.out
    have hzq := cell_lt q0
    have hzd := cell_lt d0
    go_wp2
    obtain ⟨x0, x1⟩ := rparse_nul HB4.out HZ4.out
    obtain ⟨y0, y1, y2⟩ := three_cells x0
    refine bodyPost_ret (v := .tuple #[.agg #[.int .u8 0, .string ⟨#[]⟩, .slice none 0 0], .int .i64 2]) (by simp [results, Tryd.results27, go_sem, y0, y1, y2]) rfl ?_
    rw [HQ2.out]
    exact x1
  | true =>
    have hP : printE e = (writeE e, 0) := by unfold printE; rw [hre]; rfl
    rw [hP]
    clear hP
    by_cases hes : writeE e = s
    · have HQ2 : Hid (parseR s = (e, 0)) := Lib.hid (by rw [HQ.out, if_pos ⟨hre, hes⟩])
      have hse : ((writeE e).toList == s.toList) = true := by rw [hes]; simp
      clear HQ hre hes
      generalize writeE e = S at *
      obtain ⟨q0, q1, q2⟩ := three_cells HZ4.out
      have t0 := frozen_of_row _ w.heap.size 0 _ _ HZ4.out
      have t1 := frozen_of_row _ w.heap.size 1 _ _ HZ4.out
      have t2 := frozen_of_row _ w.heap.size 2 _ _ HZ4.out
      obtain ⟨d0, d1, d2⟩ := three_cells HN4.out
      have hzq := cell_lt q0
      have hzd := cell_lt d0
      go_wp2
      obtain ⟨x0, x1⟩ := rparse_fin (e := e) HB4.out HZ4.out HK4.out 0
      obtain ⟨y0, y1, y2⟩ := three_cells x0
      refine bodyPost_ret (v := .tuple #[.agg #[.int .u8 (e.op : Int), .string e.name, .slice A k c], .int .i64 0]) (by simp [results, Tryd.results27, go_sem, y0, y1, y2]) rfl ?_
      rw [HQ2.out]
      exact x1
    · have HQ2 : Hid (parseR s = (nulE, 2)) := Lib.hid (by rw [HQ.out, if_neg (fun h => hes h.2)])
      have hse : ((writeE e).toList == s.toList) = false := by
        rw [beq_eq_false_iff_ne]
        intro h
        rw [Lib.toList_data, Lib.toList_data] at h
        exact hes (bytesE_of h)
      clear HQ hre hes
      generalize writeE e = S at *
      obtain ⟨q0, q1, q2⟩ := three_cells HZ4.out
      have t0 := frozen_of_row _ w.heap.size 0 _ _ HZ4.out
      have t1 := frozen_of_row _ w.heap.size 1 _ _ HZ4.out
      have t2 := frozen_of_row _ w.heap.size 2 _ _ HZ4.out
      obtain ⟨d0, d1, d2⟩ := three_cells HN4.out
      have hzq := cell_lt q0
      have hzd := cell_lt d0
      go_wp2
      obtain ⟨x0, x1⟩ := rparse_nul HB4.out HZ4.out
      obtain ⟨y0, y1, y2⟩ := three_cells x0
      refine bodyPost_ret (v := .tuple #[.agg #[.int .u8 0, .string ⟨#[]⟩, .slice none 0 0], .int .i64 2]) (by simp [results, Tryd.results27, go_sem, y0, y1, y2]) rfl ?_
      rw [HQ2.out]
      exact x1
end Go.Proofs.YtldmimekmjmkgaaDoor

namespace Go.Proofs.YtldmimekmjmkgaaDoor
open Go.RowKit Go.Sort Go.Maps Go.WideMaps

set_option maxRecDepth 100000 in
set_option maxHeartbeats 8000000 in
theorem exprParses_walk (s : ByteArray) (w : World) (hT : TabB w) (hs : s.size ≤ maxLen) :
    Calls Tryd.prog 4 #[.string s] w fun x w' => x = .returned (.bool true) ∧ Below w.heap.size w w' := by
  unfold maxLen at hs
  go_enter Tryd.func4, Tryd.ntmps4
  go_wp2_with fail
  refine (shown6_any w hT).mono ?_
  rintro x W1 ⟨rfl, hb1⟩
  have HB1 := Lib.hid hb1
  clear hb1 hT
  by_cases hlen : 900 < s.size
  · go_wp2
    go_ret
    exact ⟨rfl, HB1.out⟩
  · have HS5 : Hid (s.size ≤ 50000000) := Lib.hid (by omega)
    have HS1 : Hid (s.size ≤ 1000) := Lib.hid (by omega)
    go_wp2_with fail
    refine (parse_any s W1 HS5.out).mono ?_
    rintro x W2 ⟨A2, n2, c2, rfl, hk2, hb2⟩
    have HP : Hid (Calls Tryd.prog 27 #[.string s] (W2.alloc (.cells #[.int .u8 ((parseE s).1.op : Int), .string (parseE s).1.name, .slice A2 n2 c2] 24)) (PEPost (W2.alloc (.cells #[.int .u8 ((parseE s).1.op : Int), .string (parseE s).1.name, .slice A2 n2 c2] 24)) (parseE s))) := Lib.hid (by rw [← parse_same]; exact rparse_any s _ HS1.out)
    generalize parseE s = p at *
    obtain ⟨y, f⟩ := p
    simp only at hk2 HP ⊢
    have HB2 : Hid (Below w.heap.size w W2) := Lib.hid (HB1.out.trans (hb2.mono HB1.out.size))
    have HK2 := Lib.hid hk2
    have HN3 : Hid ((W2.alloc (.cells #[.int .u8 (y.op : Int), .string y.name, .slice A2 n2 c2] 24)).heap[W2.heap.size]? = some (.cells #[.int .u8 (y.op : Int), .string y.name, .slice A2 n2 c2] 24)) := Lib.hid (heap_new _ _)
    have HB3 : Hid (Below W2.heap.size W2 (W2.alloc (.cells #[.int .u8 (y.op : Int), .string y.name, .slice A2 n2 c2] 24))) := Lib.hid ((Below.refl _ _).alloc (Nat.le_refl _) _)
    have hz3 : (W2.alloc (.cells #[.int .u8 (y.op : Int), .string y.name, .slice A2 n2 c2] 24)).heap.size = W2.heap.size + 1 := by simp
    clear hk2 hb2 HB1
    go_wp2_with fail
    generalize W2.alloc (.cells #[.int .u8 (y.op : Int), .string y.name, .slice A2 n2 c2] 24) = W3 at *
    refine HP.out.mono ?_
    rintro x W4 ⟨A4, n4, c4, rfl, hk4, hb4⟩
    simp only at hk4 ⊢
    have HB4 : Hid (Below w.heap.size w W4) := Lib.hid (HB2.out.trans ((HB3.out.mono HB2.out.size).trans (hb4.mono (by have := HB2.out.size; omega))))
    have HN4 : Hid (W4.heap[W2.heap.size]? = some (.cells #[.int .u8 (y.op : Int), .string y.name, .slice A2 n2 c2] 24)) := Lib.hid ((hb4.block _ (by omega)).trans HN3.out)
    have HK24 : Hid (Exs W4 (Under W4.heap.size) (.slice A2 n2 c2) y.kids) := Lib.hid (HK2.out.keep (fun b hb => (show b < W4.heap.size by have := hb.2; have := hb4.size; omega)) fun b hb => (hb4.block b (by have := hb.2; omega)).trans (HB3.out.block b hb.2))
    have HK44 : Hid (Exs W4 (Under W4.heap.size) (.slice A4 n4 c4) y.kids) := Lib.hid (hk4.keep (fun b hb => hb.2) fun _ _ => rfl)
    have hz4 : W2.heap.size < W4.heap.size := by have := hb4.size; omega
    clear hb4 hk4 HN3 HB3 HB2 HK2 HP hz3
    have HB5 : Hid (Below W4.heap.size W4 (W4.alloc (.cells #[.int .u8 (y.op : Int), .string y.name, .slice A4 n4 c4] 30))) := Lib.hid ((Below.refl _ _).alloc (Nat.le_refl _) _)
    have HCS : Hid (Calls Tryd.prog 21 #[.agg #[.int .u8 (y.op : Int), .string y.name, .slice A2 n2 c2], .agg #[.int .u8 (y.op : Int), .string y.name, .slice A4 n4 c4]] (W4.alloc (.cells #[.int .u8 (y.op : Int), .string y.name, .slice A4 n4 c4] 30)) fun x w' => x = .returned (.bool true) ∧ Below (W4.alloc (.cells #[.int .u8 (y.op : Int), .string y.name, .slice A4 n4 c4] 30)).heap.size (W4.alloc (.cells #[.int .u8 (y.op : Int), .string y.name, .slice A4 n4 c4] 30)) w') := Lib.hid (same_walk y A2 A4 n2 c2 n4 c4 W4.heap.size _ (HK24.out.below HB5.out) (HK44.out.below HB5.out) HB5.out.size)
    obtain ⟨d0, d1, d2⟩ := three_cells HN4.out
    go_wp2_with fail
    refine HCS.out.mono ?_
    rintro x W6 ⟨rfl, hb6⟩
    have HB6 : Hid (Below w.heap.size w W6) := Lib.hid (HB4.out.trans ((HB5.out.trans (hb6.mono HB5.out.size)).mono HB4.out.size))
    clear hb6 d0 d1 d2 HN4
    go_wp2
    go_ret
    exact ⟨ret_bool (by simp), HB6.out⟩
end Go.Proofs.YtldmimekmjmkgaaDoor
