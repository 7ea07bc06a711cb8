/-
  Rows of nodes that are joined are right: plain facts (no program is named here).
  What a text that grows (strings.Builder) answers, and node.Words.
  What node.runLength answers.
  Joining, run by run: plain facts on trees (no program is named here).
  A text cut behind some of its code points: plain facts (no program is named here).
  Positions as plain data: paths, spots, and where they lead (no program is named here).
  Nodes split in two, as plain data (no program is named here).
  The code points of a text, and the text of code points: plain facts, and what both conversions give.
  Nodes parted into code points, and joined again; parts joined and joined again: plain facts.
  Rows that are split, and joined again: plain facts (no program is named here).
  How nodes are written, as plain functions on trees; two right nodes are written alike just if they are the same (no program is named here).
-/
import Derived.Test.YtaepolgmojkglaaDoorW8
import Derived.Lib.ValidLaws
import Derived.Test.YtaepolgmojkglaaDoorW6
import Derived.Shelf.Strings.BuilderK
import Derived.Lib.QuietBelow
import Derived.Lib.RuneCountTail
import Derived.Test.YtaepolgmojkglaaDoorPure
import Derived.Laws.Cover4
import Derived.Laws.IdiomStrings
import Derived.Lib.MapLaws
import Derived.Lib.TrimUEq
import Derived.Test.YtaepolgmojkglaaDoorW9
namespace Go.Proofs.YtaepolgmojkglaaDoor
open Go.RowKit Go.Sort

/-! ### well formed texts, one behind the other -/
theorem decodeN_more {n n' b0 b1 b2 b3 c1 c2 c3 : Nat} (hn : n ≤ n') (h1 : 1 < n → b1 = c1) (h2 : 2 < n → b2 = c2) (h3 : 3 < n → b3 = c3) (hv : ¬ ((Lib.decodeN n b0 b1 b2 b3).1 = 65533 ∧ (Lib.decodeN n b0 b1 b2 b3).2 = 1)) :
    Lib.decodeN n' b0 c1 c2 c3 = Lib.decodeN n b0 b1 b2 b3 := by
  rcases Lib.decodeN_shape n b0 b1 b2 b3 with ⟨c, e⟩ | ⟨d1, d2, d3, dv, e⟩ | ⟨d1, d2, d3, d4, dv, ds, e⟩ | ⟨d1, d2, d3, d4, d5, dv, dw, e⟩ | e
  · rw [e]; unfold Lib.decodeN; rw [if_pos c]
  · rw [e]; have := h1 (by omega); subst this
    unfold Lib.decodeN; rw [if_neg (by omega), if_pos ⟨by omega, by omega, by omega⟩, if_pos (by omega)]
  · rw [e]; have := h1 (by omega); subst this; have := h2 (by omega); subst this
    unfold Lib.decodeN; rw [if_neg (by omega), if_neg (by omega), if_pos ⟨by omega, ⟨by omega, by omega⟩, by omega, by omega⟩, if_pos (by omega)]
  · rw [e]; have := h1 (by omega); subst this; have := h2 (by omega); subst this; have := h3 (by omega); subst this
    unfold Lib.decodeN; rw [if_neg (by omega), if_neg (by omega), if_neg (by omega), if_pos ⟨by omega, ⟨by omega, by omega⟩, ⟨by omega, by omega⟩, by omega, by omega⟩, if_pos (by omega)]
  · rw [e] at hv; exact absurd ⟨rfl, rfl⟩ hv
theorem getD_app (a b : List UInt8) (i : Nat) (h : i < a.length) : (a ++ b).getD i 0 = a.getD i 0 := by
  simp [List.getD, List.getElem?_append_left h]
theorem decodeL_app (a b : List UInt8) (h : a ≠ []) (hv : ¬ ((Lib.decodeL a).1 = 65533 ∧ (Lib.decodeL a).2 = 1)) : Lib.decodeL (a ++ b) = Lib.decodeL a := by
  have hl : 0 < a.length := List.length_pos_iff.2 h
  rw [Lib.decodeL_N] at hv
  rw [Lib.decodeL_N, Lib.decodeL_N a, getD_app a b 0 hl]
  exact decodeN_more (by simp) (fun h => by rw [getD_app a b 1 h]) (fun h => by rw [getD_app a b 2 h]) (fun h => by rw [getD_app a b 3 h]) hv
theorem validD_app : ∀ (n : Nat) (a b : List UInt8), a.length ≤ n → Lib.validD a = true → Lib.validD b = true → Lib.validD (a ++ b) = true
  | 0, a, b, hn, _, hb => by
    have : a = [] := List.eq_nil_of_length_eq_zero (by omega)
    subst this; exact hb
  | n + 1, a, b, hn, ha, hb => by
    by_cases hne : a = []
    · subst hne; exact hb
    · rw [Lib.validD_step a hne] at ha
      split at ha
      · cases ha
      · rename_i hv
        have hw := Lib.decodeL_width a
        have hle := Lib.decodeL_le a hne
        have hl : 0 < a.length := List.length_pos_iff.2 hne
        rw [Lib.validD_step (a ++ b) (by simp [hne]), decodeL_app a b hne hv, if_neg hv, List.drop_append_of_le_length hle]
        exact validD_app n _ b (by rw [List.length_drop]; omega) ha hb

/-! ### rows -/
theorem sameL_eq {a b : List ByteArray} (h : sameL a b = true) : a = b := by
  simp only [sameL, Bool.and_eq_true, decide_eq_true_eq, List.all_eq_true, List.mem_range, beq_iff_eq] at h
  obtain ⟨hl, h⟩ := h
  apply List.ext_getElem hl
  intro i h1 h2
  have h3 := h i h1
  simp only [List.getD, List.getElem?_eq_getElem h1, List.getElem?_eq_getElem h2, Option.getD_some] at h3
  rw [Lib.toList_data, Lib.toList_data] at h3
  exact ByteArray.ext (Array.ext' h3)
theorem rowB_snoc : ∀ (l : List Tree) (p : Option Tree) (x : Tree), rowB p (l ++ [x]) = (rowB p l && (!alikeO (l.getLast?.or p) x && formedB x))
  | [], p, x => by simp [rowB]
  | y :: l, p, x => by
    simp only [List.cons_append, rowB, rowB_snoc l (some y) x]
    have : (y :: l).getLast?.or p = l.getLast?.or (some y) := by cases l <;> simp [List.getLast?_cons]
    rw [this]
    cases alikeO p y <;> cases formedB y <;> cases rowB (some y) l <;> simp

theorem empty_data {s : ByteArray} : s.toList.isEmpty = true ↔ s.data.toList = [] := by rw [Lib.toList_data s, List.isEmpty_iff]
theorem textB_parts {t : Tree} (h : textB t = true) : t.text.data.toList ≠ [] ∧ Lib.validD t.text.data.toList = true ∧ marksB t.marks = true ∧ t.attrs.length = 0 ∧ t.kids.length = 0 := by
  simp only [textB, Bool.and_eq_true, decide_eq_true_eq, Bool.not_eq_true'] at h
  obtain ⟨h0, h1, h2, h3, h4⟩ := h
  refine ⟨fun e => ?_, h1, h2, h3, h4⟩
  rw [empty_data.2 e] at h0; cases h0
theorem textB_of {t : Tree} (h0 : t.text.data.toList ≠ []) (h1 : Lib.validD t.text.data.toList = true) (h2 : marksB t.marks = true) (h3 : t.attrs.length = 0) (h4 : t.kids.length = 0) : textB t = true := by
  have : t.text.toList.isEmpty = false := by
    cases h : t.text.toList.isEmpty with
    | false => rfl
    | true => exact absurd (empty_data.1 h) h0
  simp [textB, this, h1, h2, h3, h4]
theorem formed_text {t : Tree} (h : isTxt t.kind = true) : formedB t = textB t := by obtain ⟨k, t, m, a, l⟩ := t; exact formedB_text h

theorem joinStep_row (out : List Tree) (n : Tree) (ho : rowB none out = true) (hn : formedB n = true) : rowB none (joinStep out n) = true := by
  unfold joinStep
  split
  · exact ho
  · split
    · rename_i z hz
      have hd := dropLast_getLast? hz
      split
      · rename_i hj
        rw [hd, rowB_snoc] at ho
        simp only [joinsOn, Bool.and_eq_true] at hj ho
        obtain ⟨hkn, hkz, hm⟩ := hj
        obtain ⟨ho1, ho2, ho3⟩ := ho
        have hm' := sameL_eq hm
        rw [rowB_snoc]
        have hf : formedB (setText n (z.text ++ n.text)) = true := by
          rw [formed_text hkn] at hn
          rw [formed_text hkz] at ho3
          have pn := textB_parts hn
          have pz := textB_parts ho3
          rw [formed_text (t := setText n (z.text ++ n.text)) hkn]
          refine textB_of (t := setText n (z.text ++ n.text)) ?_ ?_ pn.2.2.1 pn.2.2.2.1 pn.2.2.2.2
          · show (z.text ++ n.text).data.toList ≠ []
            rw [ByteArray.data_append, Array.toList_append]
            intro e; exact pz.1 (List.append_eq_nil_iff.1 e).1
          · show Lib.validD (z.text ++ n.text).data.toList = true
            rw [ByteArray.data_append, Array.toList_append]
            exact validD_app _ _ _ (Nat.le_refl _) pz.2.1 pn.2.1
        have ha : ∀ q, alikeO q (setText n (z.text ++ n.text)) = alikeO q z := by
          intro q
          cases q with
          | none => rfl
          | some y =>
            show (isTxt y.kind && (isTxt n.kind && sameL y.marks n.marks)) = (isTxt y.kind && (isTxt z.kind && sameL y.marks z.marks))
            rw [hkn, hkz, hm']
        simp only [ho1, ha, hf, Bool.true_and, Bool.and_true]
        exact ho2
      · rename_i hj
        rw [rowB_snoc, ho, hz, hn]
        show (true && (!(isTxt z.kind && (isTxt n.kind && sameL z.marks n.marks)) && true)) = true
        simp only [joinsOn] at hj
        revert hj
        generalize isTxt z.kind = x1
        generalize isTxt n.kind = x2
        generalize sameL z.marks n.marks = x3
        cases x1 <;> cases x2 <;> cases x3 <;> intro hj <;> first | rfl | exact absurd rfl hj
    · rename_i hz
      have : out = [] := List.getLast?_eq_none_iff.1 hz
      subst this
      simp [rowB, alikeO, hn]
theorem joinFold_row : ∀ (l out : List Tree), rowB none out = true → (∀ x ∈ l, formedB x = true) → rowB none (l.foldl joinStep out) = true
  | [], _, h, _ => h
  | x :: l, out, h, hl => joinFold_row l _ (joinStep_row out x h (hl x (by simp))) fun y hy => hl y (by simp [hy])
theorem joinB_row (l : List Tree) (h : ∀ x ∈ l, formedB x = true) : rowB none (joinB l) = true := joinFold_row l [] (by simp [rowB]) h

theorem depth_setText (n : Tree) (s : ByteArray) : depthB (setText n s) = depthB n := by obtain ⟨k, t, m, a, l⟩ := n; simp [setText, depthB, Tree.kind, Tree.kids]
theorem joinStep_deep (out : List Tree) (n : Tree) : deepB (joinStep out n) ≤ max (deepB out) (depthB n) := by
  unfold joinStep
  split
  · omega
  · split
    · rename_i z hz
      split
      · have h1 := congrArg deepB (dropLast_getLast? hz)
        rw [deepB_append] at h1 ⊢
        simp only [deepB, depth_setText] at h1 ⊢
        omega
      · rw [deepB_append]; simp only [deepB]; omega
    · rw [deepB_append]; simp only [deepB]; omega
theorem joinFold_deep : ∀ (l out : List Tree), deepB (l.foldl joinStep out) ≤ max (deepB out) (deepB l)
  | [], out => by simp [deepB]
  | x :: l, out => by
    have h := joinFold_deep l (joinStep out x)
    have h2 := joinStep_deep out x
    simp only [List.foldl_cons, deepB]; omega
theorem joinB_deep (l : List Tree) : deepB (joinB l) ≤ deepB l := by have := joinFold_deep l []; simp only [deepB] at this; unfold joinB; omega

end Go.Proofs.YtaepolgmojkglaaDoor

namespace Go.Proofs.YtaepolgmojkglaaDoor
open Go.RowKit Go.Sort

def renWrite : Go.Shelf.Ren := ⟨fun | 166 => 23 | 240 => 39 | 276 => 50 | n => n,
  fun | 0 => 0 | 3 => 3 | 4 => 4 | 9 => 9 | 20 => 20 | 37 => 55 | 70 => 54 | 72 => 57 | 75 => 62 | 164 => 87 | 5 => 5 | 80 => 66 | n => n, fun | n => n⟩
theorem laysWrite : Lays.n166 Tryd.prog renWrite := {
  mixed := by kernel_rfl
  f166 := Tryd.func23.trans (congrArg some (by kernel_rfl))
  f240 := Tryd.func39.trans (congrArg some (by kernel_rfl))
  f276 := Tryd.func50.trans (congrArg some (by kernel_rfl))
  t0 := Tryd.underlying0
  a0 := Tryd.isAgg0
  z0 := Tryd.sizeOf0
  v0 := Tryd.zeroValue0
  t3 := Tryd.underlying3
  a3 := Tryd.isAgg3
  z3 := Tryd.sizeOf3
  v3 := Tryd.zeroValue3
  t4 := Tryd.underlying4
  a4 := Tryd.isAgg4
  z4 := Tryd.sizeOf4
  v4 := Tryd.zeroValue4
  t9 := Tryd.underlying9
  a9 := Tryd.isAgg9
  z9 := Tryd.sizeOf9
  v9 := Tryd.zeroValue9
  t20 := Tryd.underlying20
  a20 := Tryd.isAgg20
  z20 := Tryd.sizeOf20
  v20 := Tryd.zeroValue20
  t37 := Tryd.underlying55
  a37 := Tryd.isAgg55
  z37 := Tryd.sizeOf55
  v37 := Tryd.zeroValue55
  t70 := Tryd.underlying54
  a70 := Tryd.isAgg54
  z70 := Tryd.sizeOf54
  v70 := Tryd.zeroValue54
  t72 := Tryd.underlying57
  a72 := Tryd.isAgg57
  z72 := Tryd.sizeOf57
  v72 := Tryd.zeroValue57
  t75 := Tryd.underlying62
  a75 := Tryd.isAgg62
  z75 := Tryd.sizeOf62
  v75 := Tryd.zeroValue62
  t164 := Tryd.underlying87
  a164 := Tryd.isAgg87
  z164 := Tryd.sizeOf87
  v164 := Tryd.zeroValue87 }
theorem extraWrite : Builder.Extra Tryd.prog renWrite := {
  sizeBuilder := by kernel_rfl
  liesBuilder := by kernel_rfl
  t5 := Tryd.underlying5
  a5 := Tryd.isAgg5
  z5 := Tryd.sizeOf5
  v5 := Tryd.zeroValue5
  infoByte := by kernel_rfl
  cellsByte := by kernel_rfl
  sizeByte := by kernel_rfl
  neB5 := by decide }
def renString : Go.Shelf.Ren := ⟨fun | 169 => 25 | n => n, fun | 70 => 54 | 72 => 57 | 37 => 55 | 127 => 80 | 5 => 5 | 0 => 0 | 3 => 3 | 9 => 9 | n => n, fun | n => n⟩
theorem laysString : Lays.n169 Tryd.prog renString := {
  mixed := by kernel_rfl
  f169 := Tryd.func25.trans (congrArg some (by kernel_rfl))
  t0 := Tryd.underlying0
  a0 := Tryd.isAgg0
  z0 := Tryd.sizeOf0
  v0 := Tryd.zeroValue0
  t3 := Tryd.underlying3
  a3 := Tryd.isAgg3
  z3 := Tryd.sizeOf3
  v3 := Tryd.zeroValue3
  t9 := Tryd.underlying9
  a9 := Tryd.isAgg9
  z9 := Tryd.sizeOf9
  v9 := Tryd.zeroValue9
  t37 := Tryd.underlying55
  a37 := Tryd.isAgg55
  z37 := Tryd.sizeOf55
  v37 := Tryd.zeroValue55
  t70 := Tryd.underlying54
  a70 := Tryd.isAgg54
  z70 := Tryd.sizeOf54
  v70 := Tryd.zeroValue54
  t72 := Tryd.underlying57
  a72 := Tryd.isAgg57
  z72 := Tryd.sizeOf57
  v72 := Tryd.zeroValue57
  t127 := Tryd.underlying80
  a127 := Tryd.isAgg80
  z127 := Tryd.sizeOf80
  v127 := Tryd.zeroValue80 }
theorem extraString : Builder.Extra Tryd.prog renString := {
  sizeBuilder := by kernel_rfl
  liesBuilder := by kernel_rfl
  t5 := Tryd.underlying5
  a5 := Tryd.isAgg5
  z5 := Tryd.sizeOf5
  v5 := Tryd.zeroValue5
  infoByte := by kernel_rfl
  cellsByte := by kernel_rfl
  sizeByte := by kernel_rfl
  neB5 := by decide }

/-- A builder in block b, that holds the bytes l. -/
def Buil (w : World) (B b : Nat) (l : List UInt8) : Prop := Lib.IsBuilderF 57 5 B b (Lib.byteCells l) w
def Rest (b : Nat) (w w' : World) : Prop := Lib.OthersKept 5 (some b) w w'
theorem Rest.trans {b : Nat} {a c d : World} (h : Rest b a c) (k : Rest b c d) : Rest b a d := Lib.OthersKept.trans h k
theorem Rest.refl (b : Nat) (w : World) : Rest b w w := Lib.OthersKept.refl _ _ _
theorem Rest.of_below {b : Nat} {w w' : World} (h : Below w.heap.size w w') : Rest b w w' :=
  fun k _ hk _ _ => (h.block k (Array.getElem?_eq_some_iff.1 hk).1).trans hk
theorem Buil.at_below {w w' : World} {B b : Nat} {p : Value} {xs : List Value} (h : Lib.BuilderAtF 57 5 B b p xs w) (hb : Below w.heap.size w w') : Lib.BuilderAtF 57 5 B b p xs w' := by
  obtain ⟨hB, v, hbk, hown, hne⟩ := h
  refine ⟨hB, v, (hb.block b (Array.getElem?_eq_some_iff.1 hbk).1).trans hbk, ⟨hown.1, ?_⟩, hne⟩
  rcases hown.2 with hn | ⟨g, cap, cur, fz, hv, hbg, hg, rest⟩
  · exact .inl hn
  · exact .inr ⟨g, cap, cur, fz, hv, hbg, (hb.block g (Array.getElem?_eq_some_iff.1 hg).1).trans hg, rest⟩
theorem Buil.below {w w' : World} {B b : Nat} {l : List UInt8} (h : Buil w B b l) (hb : Below w.heap.size w w') : Buil w' B b l :=
  Or.elim h (fun x => .inl (Buil.at_below x hb)) (fun x => .inr (Buil.at_below x hb))

theorem write_any (B b : Nat) (l : List UInt8) (s : ByteArray) (w : World) (h : Buil w B b l) (hlen : l.length + s.size ≤ 100000000) (hBw : B ≤ w.heap.size) :
    Calls Tryd.prog 23 #[.pointer (some ⟨b, 0, none⟩), .string s] w fun e w' => e = .returned (.tuple #[.int .i64 s.size, .nilIface]) ∧ Buil w' B b (l ++ s.data.toList) ∧ Below B w w' ∧ Rest b w w' := by
  refine (Any.Builder_WriteString_k laysWrite extraWrite B b (Lib.byteCells l) s w h (by rw [Lib.byteCells_length]; omega) hBw).mono ?_
  rintro e w' ⟨rfl, h1, hb, hk⟩
  refine ⟨rfl, ?_, hb, hk⟩
  rw [Lib.strCells_eq, ← Lib.byteCells_append] at h1
  exact Or.inr h1
theorem string_any (B b : Nat) (l : List UInt8) (w : World) (h : Buil w B b l) (hBw : B ≤ w.heap.size) :
    Calls Tryd.prog 25 #[.pointer (some ⟨b, 0, none⟩)] w fun e w' => e = .returned (.string ⟨l.toArray⟩) ∧ Buil w' B b l ∧ Below B w w' ∧ Rest b w w' :=
  (Any.Builder_String_any_k laysString extraString B b l w h hBw).mono fun _ _ ⟨he, h1, hb, hk⟩ => ⟨he, h1, hb, hk⟩

mutual
def wordsB : Tree → List UInt8
  | .mk k t _ _ l => if isTxt k then t.data.toList else wordsAll l
def wordsAll : List Tree → List UInt8
  | [] => []
  | x :: l => wordsB x ++ wordsAll l
end
theorem wordsAll_append (a b : List Tree) : wordsAll (a ++ b) = wordsAll a ++ wordsAll b := by
  induction a with
  | nil => simp [wordsAll]
  | cons x l ih => simp only [List.cons_append, wordsAll, ih, List.append_assoc]
mutual
theorem words_le_weigh : ∀ t : Tree, (wordsB t).length ≤ weigh t
  | .mk k t m a l => by
    have h1 := wordsAll_le_weigh l
    have h2 := Lib.size_eq t
    simp only [wordsB, weigh]; split <;> omega
theorem wordsAll_le_weigh : ∀ l : List Tree, (wordsAll l).length ≤ weighAll l
  | [] => by simp [wordsAll]
  | x :: l => by have h1 := words_le_weigh x; have h2 := wordsAll_le_weigh l; simp only [wordsAll, weighAll, List.length_append]; omega
end
end Go.Proofs.YtaepolgmojkglaaDoor

namespace Go.Proofs.YtaepolgmojkglaaDoor
open Go.RowKit Go.Sort

/-- How many nodes at the beginning are to be one. -/
def runB : List Tree → Nat
  | [] => 1
  | [_] => 1
  | x :: y :: l => if alikeB x y then runB (y :: l) + 1 else 1
theorem runB_step {l : List Tree} {k : Nat} {x y : Tree} (hx : l[k]? = some x) (hy : l[k + 1]? = some y) : runB (l.drop k) = if alikeB x y then runB (l.drop (k + 1)) + 1 else 1 := by
  have h1 := (List.getElem?_eq_some_iff.1 hx).1
  have h2 := (List.getElem?_eq_some_iff.1 hy).1
  have e1 := (List.getElem?_eq_some_iff.1 hx).2
  have e2 := (List.getElem?_eq_some_iff.1 hy).2
  rw [List.drop_eq_getElem_cons h1, List.drop_eq_getElem_cons h2, e1, e2, runB]
theorem runB_last {l : List Tree} {k : Nat} (h : k + 1 = l.length) : runB (l.drop k) = 1 := by
  rw [List.drop_eq_getElem_cons (by omega), List.drop_eq_nil_of_le (by omega)]; rfl
theorem runB_pos : ∀ l : List Tree, 1 ≤ runB l
  | [] => by simp [runB]
  | [_] => by simp [runB]
  | x :: y :: l => by rw [runB]; split <;> omega
theorem runB_le : ∀ l : List Tree, l ≠ [] → runB l ≤ l.length
  | [], h => absurd rfl h
  | [_], _ => by simp [runB]
  | x :: y :: l, _ => by
    have := runB_le (y :: l) (by simp)
    rw [runB]; split <;> simp at this ⊢ <;> omega

set_option maxHeartbeats 2000000 in
theorem runLength_any (v : Value) (l : List Tree) (w : World) (h : Kids w (Under w.heap.size) v l) (h0 : l ≠ []) (hw : weighAll l ≤ 1000000) :
    Calls Tryd.prog 31 #[v] w fun e w' => e = .returned (.int .i64 (runB l)) ∧ Below w.heap.size w w' := by
  have hlen : l.length ≤ 1000000 := by have := length_le_weigh l; omega
  have hpos : 0 < l.length := List.length_pos_iff.2 h0
  have HL := Lib.hid h
  obtain ⟨A, c, rfl, _⟩ := h.form
  clear h
  go_enter Tryd.func31, Tryd.ntmps31
  go_wp2
  go_loopw [3] (fun i wr => ∃ k : Nat, k < l.length ∧ i = .int .i64 ((k : Int) + 1) ∧ Hid (runB l = k + runB (l.drop k)) ∧ Below w.heap.size w wr) (fun i _ => l.length + 1 - (intOf i).toNat)
  case atStart => exact ⟨0, hpos, rfl, Lib.hid (by simp), Below.refl _ _⟩
  case round =>
    obtain ⟨k, hk, rfl, hrun, hbr⟩ := hrel
    by_cases hlt : k + 1 < l.length
    · obtain ⟨b, o, rfl, hub, hrow⟩ := HL.out.get hk
      have hlx : l[k]? = some l[k] := List.getElem?_eq_getElem hk
      have hly : l[k + 1]? = some l[k + 1] := List.getElem?_eq_getElem hlt
      generalize hx : l[k] = x at *
      generalize hy : l[k + 1] = y at *
      have HST := Lib.hid (runB_step hlx hly)
      have hwx := weigh_mem (List.mem_of_getElem? hlx)
      obtain ⟨xm, xa, xk, e0, e1, e2, e3, e4, exm, exa, exk⟩ := hrow.node hlx
      obtain ⟨ym, ya, yk, d0, d1, d2, d3, d4, dxm, dxa, dxk⟩ := hrow.node hly
      have HXN : Hid (Node wr (Under wr.heap.size) (.agg #[.string x.kind, .string x.text, xm, xa, xk]) x) := Lib.hid ((Node.below (B := w.heap.size) ⟨_, _, _, rfl, exm, exa, exk⟩ hbr).more hbr.size)
      have HYN : Hid (Node wr (Under wr.heap.size) (.agg #[.string y.kind, .string y.text, ym, ya, yk]) y) := Lib.hid ((Node.below (B := w.heap.size) ⟨_, _, _, rfl, dxm, dxa, dxk⟩ hbr).more hbr.size)
      obtain ⟨A1, c1, rfl, _⟩ := exm.form
      obtain ⟨A2, c2, rfl, _⟩ := exa.form
      obtain ⟨A3, c3, rfl, _⟩ := exk.form
      obtain ⟨A4, c4, rfl, _⟩ := dxm.form
      obtain ⟨A5, c5, rfl, _⟩ := dxa.form
      obtain ⟨A6, c6, rfl, _⟩ := dxk.form
      have k0 := cell_regrown (cell_kept e0 hbr)
      have k1 := cell_regrown (cell_kept e1 hbr)
      have k2 := cell_regrown (cell_kept e2 hbr)
      have k3 := cell_regrown (cell_kept e3 hbr)
      have k4 := cell_regrown (cell_kept e4 hbr)
      have m0 := cell_regrown (cell_kept d0 hbr)
      have m1 := cell_regrown (cell_kept d1 hbr)
      have m2 := cell_regrown (cell_kept d2 hbr)
      have m3 := cell_regrown (cell_kept d3 hbr)
      have m4 := cell_regrown (cell_kept d4 hbr)
      have g1 : ((k : Int) + 1 - 1).toNat = k := by omega
      have g2 : ((k : Int) + 1).toNat = k + 1 := by omega
      have g3 : decide ((k : Int) + 1 < (l.length : Int)) = true := by simp; omega
      clear e0 e1 e2 e3 e4 d0 d1 d2 d3 d4 exm exa exk dxm dxa dxk hx hy hlx hly hrow
      cases hal : alikeB x y with
      | true =>
        rw [hal] at HST
        have HAL := Lib.hid (regrown_any (w := wr) fun W hW => walk_res (alike_any _ _ x y W ((HXN.out.below hW).more hW.size) ((HYN.out.below hW).more hW.size) (by omega)) hal)
        clear hal
        go_wp2_with fail
        refine wp_region_quiet_below (by kernel_rfl) (by kernel_rfl) ?_
        repeat (first | go_big_quiet_step (exact HAL.out _ _) | quiet_step (exact HAL.out _ _))
        refine wpQuiet_nil ?_
        intro _ hw'
        obtain ⟨⟨dq, osq⟩, hw''⟩ := hw'
        subst hw''
        have HQ := Lib.hid (below_regrown wr dq osq)
        go_wp2
        exact ⟨⟨k + 1, hlt, by go_num, Lib.hid (by rw [hrun.out, HST.out]; simp; omega), belowNext hbr HQ.out⟩, by simp [intOf]; omega⟩
      | false =>
        rw [hal] at HST
        have HAL := Lib.hid (regrown_any (w := wr) fun W hW => walk_res (alike_any _ _ x y W ((HXN.out.below hW).more hW.size) ((HYN.out.below hW).more hW.size) (by omega)) hal)
        clear hal
        go_wp2_with fail
        refine wp_region_quiet_below (by kernel_rfl) (by kernel_rfl) ?_
        repeat (first | go_big_quiet_step (exact HAL.out _ _) | quiet_step (exact HAL.out _ _))
        refine wpQuiet_nil ?_
        intro _ hw'
        obtain ⟨⟨dq, osq⟩, hw''⟩ := hw'
        subst hw''
        have HQ := Lib.hid (below_regrown wr dq osq)
        go_wp2
        go_ret
        exact ⟨ret_num (by rw [hrun.out, HST.out]; simp), belowNext hbr HQ.out⟩
    · have HR : Hid (runB (l.drop k) = 1) := Lib.hid (runB_last (by omega))
      have g3 : decide ((k : Int) + 1 < (l.length : Int)) = false := by simp; omega
      go_wp2_with fail
      refine wp_region_quiet_below (by kernel_rfl) (by kernel_rfl) ?_
      repeat (first | go_big_quiet_step (fail) | quiet_step (fail))
      refine wpQuiet_nil ?_
      intro _ hw'
      obtain ⟨⟨dq, osq⟩, hw''⟩ := hw'
      subst hw''
      have HQ := Lib.hid (below_regrown wr dq osq)
      go_wp2
      go_ret
      exact ⟨ret_num (by rw [hrun.out, HR.out]; omega), belowNext hbr HQ.out⟩
end Go.Proofs.YtaepolgmojkglaaDoor

namespace Go.Proofs.YtaepolgmojkglaaDoor
open Go.RowKit Go.Sort

/-! ### code points of texts one behind the other -/
theorem rc_step (l : List UInt8) (h : l ≠ []) : Lib.runeCountL l = 1 + Lib.runeCountL (l.drop (Lib.decodeL l).2) := by
  have hl : 0 < l.length := List.length_pos_iff.2 h
  have hw := Lib.decodeL_width l
  unfold Lib.runeCountL Lib.runeCount
  generalize hs : (⟨l.toArray⟩ : ByteArray) = s
  have hsz : s.size = l.length := by subst hs; simp [ByteArray.size]
  have hd : Lib.decodeL l = Utf8.decode s 0 := by subst hs; rfl
  have hx : (⟨(l.drop (Lib.decodeL l).2).toArray⟩ : ByteArray) = s.extract (Lib.decodeL l).2 s.size := by
    apply ByteArray.ext
    apply Array.ext'
    subst hs
    simp [ByteArray.size, List.extract_eq_take_drop]
    rw [List.take_of_length_le (by simp)]
  rw [hx]
  have he : (s.extract (Lib.decodeL l).2 s.size).size = l.length - (Lib.decodeL l).2 := by simp [ByteArray.size_extract, hsz]
  rw [he, hsz]
  obtain ⟨n, hn⟩ : ∃ n, l.length = n + 1 := ⟨l.length - 1, by omega⟩
  have h1 : Lib.runeCountFrom s l.length 0 = 1 + Lib.runeCountFrom s n (0 + (Utf8.decode s 0).2) := by
    rw [hn, Lib.runeCountFrom, if_pos (by omega)]
  rw [h1, ← hd, Nat.zero_add, ← hsz, Lib.tail_count, Nat.add_zero, hsz]
  congr 1
  exact Lib.fuel_enough s _ _ _ (by omega) (by omega)
theorem rc_nil : Lib.runeCountL [] = 0 := rfl
theorem rc_app : ∀ (n : Nat) (a b : List UInt8), a.length ≤ n → Lib.validD a = true → Lib.runeCountL (a ++ b) = Lib.runeCountL a + Lib.runeCountL b
  | 0, a, b, hn, _ => by
    have : a = [] := List.eq_nil_of_length_eq_zero (by omega)
    subst this; rw [List.nil_append, rc_nil, Nat.zero_add]
  | n + 1, a, b, hn, ha => by
    by_cases hne : a = []
    · subst hne; rw [List.nil_append, rc_nil, Nat.zero_add]
    · rw [Lib.validD_step a hne] at ha
      split at ha
      · cases ha
      · rename_i hv
        have hw := Lib.decodeL_width a
        have hle := Lib.decodeL_le a hne
        have hl : 0 < a.length := List.length_pos_iff.2 hne
        rw [rc_step (a ++ b) (by simp [hne]), rc_step a hne, decodeL_app a b hne hv, List.drop_append_of_le_length hle, rc_app n _ b (by rw [List.length_drop]; omega) ha]
        omega
theorem runeCount_app (a b : ByteArray) (h : Lib.validD a.data.toList = true) : Lib.runeCount (a ++ b) = Lib.runeCount a + Lib.runeCount b := by
  rw [← Lib.runeCountL_eq, ← Lib.runeCountL_eq a, ← Lib.runeCountL_eq b, ByteArray.data_append, Array.toList_append]
  exact rc_app _ _ _ (Nat.le_refl _) h

/-! ### what a round of joining keeps -/
theorem words_step (out : List Tree) (n : Tree) : wordsAll (joinStep out n) = wordsAll out ++ wordsB n := by
  have hone : wordsAll [n] = wordsB n := by simp [wordsAll]
  unfold joinStep
  split
  · rename_i h
    simp only [Bool.and_eq_true] at h
    have h2 := empty_data.1 h.2
    obtain ⟨k, t, m, a, l⟩ := n
    simp only [Tree.kind, Tree.text] at *
    simp [wordsB, h.1, h2]
  · split
    · rename_i z hz
      split
      · rename_i h
        simp only [Bool.and_eq_true, joinsOn] at h
        have e := dropLast_getLast? hz
        obtain ⟨k, t, m, a, l⟩ := n
        obtain ⟨k', t', m', a', l'⟩ := z
        simp only [Tree.kind, Tree.text] at *
        have e2 := congrArg wordsAll e
        rw [wordsAll_append] at e2
        rw [e2, wordsAll_append]
        simp [wordsAll, wordsB, setText, h.1, h.2.1, Tree.kind]
      · rw [wordsAll_append, hone]
    · rw [wordsAll_append, hone]
theorem words_fold : ∀ (l out : List Tree), wordsAll (l.foldl joinStep out) = wordsAll out ++ wordsAll l
  | [], out => by simp [wordsAll]
  | x :: l, out => by rw [List.foldl_cons, words_fold l, words_step, List.append_assoc]; simp [wordsAll]
theorem joinB_words (l : List Tree) : wordsAll (joinB l) = wordsAll l := by unfold joinB; rw [words_fold]; simp [wordsAll]

theorem total_step (out : List Tree) (n : Tree) (ho : ∀ z ∈ out, isTxt z.kind = true → Lib.validD z.text.data.toList = true) : totalB (joinStep out n) = totalB out + sizeB n := by
  have hone : totalB [n] = sizeB n := by simp [totalB]
  unfold joinStep
  split
  · rename_i h
    simp only [Bool.and_eq_true] at h
    have h2 := empty_data.1 h.2
    obtain ⟨k, t, m, a, l⟩ := n
    simp only [Tree.kind, Tree.text] at *
    have : Lib.runeCount t = 0 := by rw [← Lib.runeCountL_eq, h2]; rfl
    simp [sizeB, h.1, this]
  · split
    · rename_i z hz
      split
      · rename_i h
        simp only [Bool.and_eq_true, joinsOn] at h
        have e := dropLast_getLast? hz
        have hv := ho z (List.mem_of_getLast? hz) h.2.1
        have e2 := congrArg totalB e
        rw [totalB_append] at e2
        rw [e2, totalB_append]
        obtain ⟨k, t, m, a, l⟩ := n
        obtain ⟨k', t', m', a', l'⟩ := z
        simp only [Tree.kind, Tree.text] at *
        simp only [totalB, sizeB, setText, Tree.kind, h.1, h.2.1, if_true, runeCount_app t' t hv]
        omega
      · rw [totalB_append, hone]
    · rw [totalB_append, hone]
theorem row_valid : ∀ (l : List Tree) (p : Option Tree), rowB p l = true → ∀ z ∈ l, isTxt z.kind = true → Lib.validD z.text.data.toList = true
  | [], _, _, z, hz, _ => by cases hz
  | x :: l, p, h, z, hz, ht => by
    simp only [rowB, Bool.and_eq_true] at h
    rcases List.mem_cons.1 hz with e | e
    · subst e
      have h1 := h.2.1
      rw [formed_text ht] at h1
      exact (textB_parts h1).2.1
    · exact row_valid l (some x) h.2.2 z e ht
theorem total_fold : ∀ (l out : List Tree), rowB none out = true → (∀ x ∈ l, formedB x = true) → totalB (l.foldl joinStep out) = totalB out + totalB l
  | [], out, _, _ => by simp [totalB]
  | x :: l, out, ho, h => by
    rw [List.foldl_cons, total_fold l _ (joinStep_row out x ho (h x (by simp))) (fun y hy => h y (by simp [hy])), total_step out x (row_valid out none ho)]
    simp only [totalB]; omega
theorem joinB_total (l : List Tree) (h : ∀ x ∈ l, formedB x = true) : totalB (joinB l) = totalB l := by
  unfold joinB; rw [total_fold l [] (by simp [rowB]) h]; simp [totalB]

/-! ### a row that is joined stays -/
theorem row_stays : ∀ (l out : List Tree), rowB out.getLast? l = true → l.foldl joinStep out = out ++ l
  | [], out, _ => by simp
  | x :: l, out, h => by
    simp only [rowB, Bool.and_eq_true, Bool.not_eq_true'] at h
    obtain ⟨ha, hf, hr⟩ := h
    have hs : joinStep out x = out ++ [x] := by
      cases hk : isTxt x.kind with
      | false => exact joinStep_plain hk
      | true =>
        rw [formed_text hk] at hf
        have hne := (textB_parts hf).1
        have he : x.text.toList.isEmpty = false := by
          cases h : x.text.toList.isEmpty with
          | false => rfl
          | true => exact absurd (empty_data.1 h) hne
        cases hz : out.getLast? with
        | none =>
          have : out = [] := List.getLast?_eq_none_iff.1 hz
          subst this; exact joinStep_first he
        | some z =>
          rw [hz] at ha
          simp only [alikeO, alikeB, hk, Bool.true_and] at ha
          exact joinStep_other hz he ha
    rw [List.foldl_cons, hs, row_stays l _ (by simpa using hr), List.append_assoc]; rfl
theorem joinB_stays (l : List Tree) (h : rowB none l = true) : joinB l = l := by
  have := row_stays l [] (by simpa using h)
  simpa [joinB] using this

/-! ### run by run -/
def keepB (x : Tree) : Bool := !(isTxt x.kind && x.text.toList.isEmpty)
theorem join_skip (out : List Tree) (x : Tree) (h : keepB x = false) : joinStep out x = out := by
  simp only [keepB, Bool.not_eq_false', Bool.and_eq_true] at h
  exact joinStep_empty h.1 h.2
theorem join_filter : ∀ (l out : List Tree), (l.filter keepB).foldl joinStep out = l.foldl joinStep out
  | [], _ => rfl
  | x :: l, out => by
    cases h : keepB x with
    | true => rw [List.filter_cons_of_pos h, List.foldl_cons, List.foldl_cons, join_filter l]
    | false => rw [List.filter_cons_of_neg (by simp [h]), List.foldl_cons, join_skip out x h, join_filter l]

/-- The nodes of a run, as one. -/
def joinRun (z : Tree) : List Tree → Tree
  | [] => z
  | y :: l => joinRun (setText y (z.text ++ y.text)) l
def textsB (l : List Tree) : List UInt8 := (l.map fun x => x.text.data.toList).flatten
def emptyTree : Tree := .mk ByteArray.empty ByteArray.empty [] [] []
def asOneB : List Tree → Tree
  | [] => emptyTree
  | x :: l => joinRun x l
theorem textsB_append (a b : List Tree) : textsB (a ++ b) = textsB a ++ textsB b := by simp [textsB]
theorem textsB_one (x : Tree) : textsB [x] = x.text.data.toList := by simp [textsB]
theorem textsB_le : ∀ l : List Tree, (textsB l).length ≤ weighAll l
  | [] => by simp [textsB]
  | x :: l => by
    have h1 := textsB_le l
    have h2 := text_le_weigh x
    have h3 := Lib.size_eq x.text
    have h4 : textsB (x :: l) = x.text.data.toList ++ textsB l := by simp [textsB]
    rw [h4, List.length_append]; simp only [weighAll]; omega

theorem joinRun_last : ∀ (l : List Tree) (z y : Tree), l.getLast? = some y → joinRun z l = setText y ⟨(z.text.data.toList ++ textsB l).toArray⟩
  | [], _, _, h => by simp at h
  | [x], z, y, h => by
    simp at h; subst h
    simp only [joinRun, textsB_one]
    exact congrArg (setText x) (ByteArray.ext (Array.ext' (by simp [ByteArray.data_append])))
  | x :: x' :: l, z, y, h => by
    rw [joinRun, joinRun_last (x' :: l) _ y (by simpa [List.getLast?_cons] using h)]
    congr 1
    apply ByteArray.ext; apply Array.ext'
    simp [textsB, setText, Tree.text, ByteArray.data_append]
theorem asOneB_one (x : Tree) : asOneB [x] = x := rfl
theorem asOneB_many (l : List Tree) (y : Tree) (h1 : l.length ≠ 1) (hy : l.getLast? = some y) : asOneB l = setText y ⟨(textsB l).toArray⟩ := by
  rcases l with _ | ⟨x, l⟩
  · simp at hy
  · rcases l with _ | ⟨x', l⟩
    · simp at h1
    · simp only [asOneB]
      rw [joinRun_last (x' :: l) x y (by simpa [List.getLast?_cons] using hy)]
      rfl

theorem alike_like {z y x : Tree} (hk : z.kind = y.kind) (hm : z.marks = y.marks) : alikeB z x = alikeB y x := by simp only [alikeB, hk, hm]
theorem keepB_text {x : Tree} (h : keepB x = true) (hk : isTxt x.kind = true) : x.text.toList.isEmpty = false := by
  simpa [keepB, hk] using h

theorem run_fold (J : List Tree) : ∀ (l : List Tree) (z y : Tree), z.kind = y.kind → z.marks = y.marks → (∀ x ∈ l, keepB x = true) →
    (l.take (runB (y :: l) - 1)).foldl joinStep (J ++ [z]) = J ++ [joinRun z (l.take (runB (y :: l) - 1))] ∧ ∀ x, (l.drop (runB (y :: l) - 1)).head? = some x → alikeB (joinRun z (l.take (runB (y :: l) - 1))) x = false
  | [], z, y, _, _, _ => by simp [runB, joinRun]
  | x :: l, z, y, hk, hm, h => by
    rw [runB]
    cases ha : alikeB y x with
    | false =>
      simp only [Bool.false_eq_true, if_false, Nat.sub_self, List.take_zero, List.foldl_nil, joinRun, List.drop_zero, List.head?_cons, Option.some.injEq]
      refine ⟨trivial, ?_⟩
      rintro x' rfl
      rw [alike_like hk hm]; exact ha
    | true =>
      have hp := runB_pos (x :: l)
      have e : runB (x :: l) + 1 - 1 = (runB (x :: l) - 1) + 1 := by omega
      have hx := h x (by simp)
      have ha' := ha
      simp only [alikeB, Bool.and_eq_true] at ha'
      have hj : joinStep (J ++ [z]) x = J ++ [setText x (z.text ++ x.text)] := by
        rw [joinStep_on (z := z) (by simp) ha'.2.1 (keepB_text hx ha'.2.1) (by simp [joinsOn, hk, hm, ha'.1, ha'.2.2])]
        simp
      have ih := run_fold J l (setText x (z.text ++ x.text)) x rfl rfl (fun x' hx' => h x' (by simp [hx']))
      simp only [if_true]
      rw [e, List.take_succ_cons, List.foldl_cons, hj, List.drop_succ_cons, joinRun]
      exact ih

theorem join_run (J r : List Tree) (hr : r ≠ []) (hk : ∀ x ∈ r, keepB x = true) (hb : ∀ z x, J.getLast? = some z → r.head? = some x → alikeB z x = false) :
    (r.take (runB r)).foldl joinStep J = J ++ [asOneB (r.take (runB r))] ∧ ∀ x, (r.drop (runB r)).head? = some x → alikeB (asOneB (r.take (runB r))) x = false := by
  rcases r with _ | ⟨x, l⟩
  · exact absurd rfl hr
  · have hp := runB_pos (x :: l)
    have e : runB (x :: l) = (runB (x :: l) - 1) + 1 := by omega
    have hx := hk x (by simp)
    have hj : joinStep J x = J ++ [x] := by
      cases ht : isTxt x.kind with
      | false => exact joinStep_plain ht
      | true =>
        have he := keepB_text hx ht
        cases hz : J.getLast? with
        | none =>
          have : J = [] := List.getLast?_eq_none_iff.1 hz
          subst this; exact joinStep_first he
        | some z =>
          have ha := hb z x hz (by simp)
          simp only [alikeB, ht, Bool.true_and] at ha
          exact joinStep_other hz he ha
    have ih := run_fold J l x x rfl rfl (fun x' hx' => hk x' (by simp [hx']))
    generalize runB (x :: l) - 1 = n at *
    rw [e, List.take_succ_cons, List.foldl_cons, hj, List.drop_succ_cons, asOneB]
    exact ih
end Go.Proofs.YtaepolgmojkglaaDoor

namespace Go.Proofs.YtaepolgmojkglaaDoor
open Go.RowKit Go.Sort

/-- Where so many code points end. -/
def atB : Nat → List UInt8 → Nat
  | 0, _ => 0
  | n + 1, l => if l = [] then 0 else (Lib.decodeL l).2 + atB n (l.drop (Lib.decodeL l).2)
/-- How many bytes the next code point has. -/
def widthB (l : List UInt8) : Nat := if l = [] then 0 else (Lib.decodeL l).2
theorem atB_nil : ∀ n, atB n [] = 0
  | 0 => rfl
  | n + 1 => by simp [atB]
theorem atB_succ : ∀ (n : Nat) (l : List UInt8), atB (n + 1) l = atB n l + widthB (l.drop (atB n l))
  | 0, l => by simp [atB, widthB]
  | n + 1, l => by
    by_cases h : l = []
    · subst h; simp [atB, widthB]
    · rw [atB, if_neg h, atB_succ n, show atB (n + 1) l = (Lib.decodeL l).2 + atB n (l.drop (Lib.decodeL l).2) by rw [atB, if_neg h], List.drop_drop]
      omega
theorem atB_le : ∀ (n : Nat) (l : List UInt8), atB n l ≤ l.length
  | 0, l => by simp [atB]
  | n + 1, l => by
    rw [atB]
    split
    · omega
    · rename_i h
      have h1 := Lib.decodeL_le l h
      have h2 := atB_le n (l.drop (Lib.decodeL l).2)
      rw [List.length_drop] at h2; omega
theorem decodeN_own {n b0 b1 b2 b3 c1 c2 c3 : Nat} (h1 : 1 < (Lib.decodeN n b0 b1 b2 b3).2 → b1 = c1) (h2 : 2 < (Lib.decodeN n b0 b1 b2 b3).2 → b2 = c2) (h3 : 3 < (Lib.decodeN n b0 b1 b2 b3).2 → b3 = c3) (hv : ¬ ((Lib.decodeN n b0 b1 b2 b3).1 = 65533 ∧ (Lib.decodeN n b0 b1 b2 b3).2 = 1)) :
    Lib.decodeN (Lib.decodeN n b0 b1 b2 b3).2 b0 c1 c2 c3 = Lib.decodeN n b0 b1 b2 b3 := by
  rcases Lib.decodeN_shape n b0 b1 b2 b3 with ⟨c, e⟩ | ⟨d1, d2, d3, dv, e⟩ | ⟨d1, d2, d3, d4, dv, ds, e⟩ | ⟨d1, d2, d3, d4, d5, dv, dw, e⟩ | e
  · rw [e]; unfold Lib.decodeN; rw [if_pos c]
  · rw [e] at h1 ⊢; have := h1 (by simp); subst this
    unfold Lib.decodeN; rw [if_neg (by omega), if_pos ⟨by omega, by omega, by omega⟩, if_pos (by omega)]
  · rw [e] at h1 h2 ⊢; have := h1 (by simp); subst this; have := h2 (by simp); subst this
    unfold Lib.decodeN; rw [if_neg (by omega), if_neg (by omega), if_pos ⟨by omega, ⟨by omega, by omega⟩, by omega, by omega⟩, if_pos (by omega)]
  · rw [e] at h1 h2 h3 ⊢; have := h1 (by simp); subst this; have := h2 (by simp); subst this; have := h3 (by simp); subst this
    unfold Lib.decodeN; rw [if_neg (by omega), if_neg (by omega), if_neg (by omega), if_pos ⟨by omega, ⟨by omega, by omega⟩, ⟨by omega, by omega⟩, by omega, by omega⟩, if_pos (by omega)]
  · rw [e] at hv; exact absurd ⟨rfl, rfl⟩ hv
theorem getD_take (a : List UInt8) (i n : Nat) (h : i < n) : (a.take n).getD i 0 = a.getD i 0 := by
  simp [List.getD, h]
theorem decodeL_own (l : List UInt8) (h : l ≠ []) (hv : ¬ ((Lib.decodeL l).1 = 65533 ∧ (Lib.decodeL l).2 = 1)) : Lib.decodeL (l.take (Lib.decodeL l).2) = Lib.decodeL l := by
  have hw := Lib.decodeL_width l
  have hle := Lib.decodeL_le l h
  have hl : (l.take (Lib.decodeL l).2).length = (Lib.decodeL l).2 := by rw [List.length_take]; omega
  rw [Lib.decodeL_N (l.take (Lib.decodeL l).2), hl, getD_take l 0 _ (by omega)]
  rw [Lib.decodeL_N l] at hv hw ⊢
  exact decodeN_own (fun h => by rw [getD_take l 1 _ h]) (fun h => by rw [getD_take l 2 _ h]) (fun h => by rw [getD_take l 3 _ h]) hv
theorem one_valid (l : List UInt8) (h : l ≠ []) (hv : ¬ ((Lib.decodeL l).1 = 65533 ∧ (Lib.decodeL l).2 = 1)) : Lib.validD (l.take (Lib.decodeL l).2) = true ∧ Lib.runeCountL (l.take (Lib.decodeL l).2) = 1 := by
  have hw := Lib.decodeL_width l
  have hle := Lib.decodeL_le l h
  have hd := decodeL_own l h hv
  have hl : (l.take (Lib.decodeL l).2).length = (Lib.decodeL l).2 := by rw [List.length_take]; omega
  have hn : l.take (Lib.decodeL l).2 ≠ [] := fun e => by rw [e] at hl; simp at hl; omega
  have hdr : (l.take (Lib.decodeL l).2).drop (Lib.decodeL l).2 = [] := List.drop_eq_nil_iff.2 (by omega)
  constructor
  · rw [Lib.validD_step _ hn, hd, if_neg hv, hdr]; rfl
  · rw [rc_step _ hn, hd, hdr, rc_nil]
/-- A well formed text, cut. -/
theorem cut_valid : ∀ (n : Nat) (l : List UInt8), Lib.validD l = true → n ≤ Lib.runeCountL l → Lib.validD (l.take (atB n l)) = true ∧ Lib.validD (l.drop (atB n l)) = true ∧ Lib.runeCountL (l.take (atB n l)) = n ∧ Lib.runeCountL (l.drop (atB n l)) + n = Lib.runeCountL l
  | 0, l, h, _ => by simp [atB, h, Lib.validD_nil, rc_nil]
  | n + 1, l, h, hn => by
    by_cases hne : l = []
    · subst hne; rw [rc_nil] at hn; omega
    · have hv : ¬ ((Lib.decodeL l).1 = 65533 ∧ (Lib.decodeL l).2 = 1) := fun hh => by rw [Lib.validD_step l hne, if_pos hh] at h; cases h
      have h1 : Lib.validD (l.drop (Lib.decodeL l).2) = true := by rw [Lib.validD_step l hne, if_neg hv] at h; exact h
      have h2 := rc_step l hne
      obtain ⟨i1, i2, i3, i4⟩ := cut_valid n (l.drop (Lib.decodeL l).2) h1 (by omega)
      obtain ⟨o1, o2⟩ := one_valid l hne hv
      rw [atB, if_neg hne]
      have ht : l.take ((Lib.decodeL l).2 + atB n (l.drop (Lib.decodeL l).2)) = l.take (Lib.decodeL l).2 ++ (l.drop (Lib.decodeL l).2).take (atB n (l.drop (Lib.decodeL l).2)) := List.take_add
      rw [ht, ← List.drop_drop]
      refine ⟨validD_app _ _ _ (Nat.le_refl _) o1 i1, i2, ?_, by omega⟩
      rw [rc_app _ _ _ (Nat.le_refl _) o1, o2, i3]; omega
end Go.Proofs.YtaepolgmojkglaaDoor

namespace Go.Proofs.YtaepolgmojkglaaDoor
open Go.RowKit

/-- A slice of whole numbers. -/
def Ints (w : World) (S : Nat → Prop) (v : Value) (l : List Int) : Prop :=
  ∃ A c, v = .slice A l.length c ∧ l.length ≤ c ∧ c ≤ maxLen ∧ (l = [] ∨ ∃ b o, A = some ⟨b, o, none⟩ ∧ S b ∧ ∀ i s, l[i]? = some s → w.cell? ⟨b, o + i, none⟩ = some (.int .i64 s))
theorem Ints.keep {w w' : World} {S S' : Nat → Prop} {v : Value} {l : List Int} (h : Ints w S v l) (hS : ∀ b, S b → S' b) (hk : ∀ b, S b → w'.heap[b]? = w.heap[b]?) : Ints w' S' v l := by
  obtain ⟨A, c, rfl, hc, hx, h⟩ := h
  refine ⟨A, c, rfl, hc, hx, ?_⟩
  rcases h with h | ⟨b, o, rfl, hb, h⟩
  · exact .inl h
  · exact .inr ⟨b, o, rfl, hS b hb, fun i s hi => (World.cell?_of_block (a := ⟨b, o + i, none⟩) (hk b hb)).trans (h i s hi)⟩
theorem Ints.form {w : World} {S : Nat → Prop} {v : Value} {l : List Int} (h : Ints w S v l) : ∃ A c, v = .slice A l.length c ∧ l.length ≤ c := by
  obtain ⟨A, c, rfl, hc, _⟩ := h; exact ⟨A, c, rfl, hc⟩
theorem Ints.get {w : World} {S : Nat → Prop} {A : Option Addr} {n c : Nat} {l : List Int} (h : Ints w S (.slice A n c) l) {k : Nat} {x : Int} (hk : l[k]? = some x) :
    ∃ b o, A = some ⟨b, o, none⟩ ∧ S b ∧ w.cell? ⟨b, o + k, none⟩ = some (.int .i64 x) := by
  obtain ⟨A', c', hv, _, _, h⟩ := h
  injection hv with hA _ _
  subst hA
  rcases h with h | ⟨b, o, rfl, hb, h⟩
  · subst h; simp at hk
  · exact ⟨b, o, rfl, hb, h k x hk⟩
theorem Ints.len {w : World} {S : Nat → Prop} {A : Option Addr} {n c : Nat} {l : List Int} (h : Ints w S (.slice A n c) l) : n = l.length ∧ l.length ≤ c ∧ c ≤ maxLen := by
  obtain ⟨A', c', hv, h1, h2, _⟩ := h
  injection hv with _ h3 h4
  subst h4
  exact ⟨h3, h1, h2⟩

/-- A spot: path, index, offset. -/
abbrev Spt := List Int × Nat × Nat
def kidAt (t : Tree) (i : Int) : Option Tree := if isTxt t.kind = true then none else if i < 0 then none else t.kids[i.toNat]?
def goB : Tree → List Int → Option Tree
  | t, [] => some t
  | t, i :: p => match kidAt t i with
    | none => none
    | some u => goB u p
def plainO (t : Tree) : Option Tree := if isTxt t.kind = true then none else some t
def followB (t : Tree) (p : List Int) : Option Tree := (goB t p).bind plainO
def startB : Tree → List Int → Nat
  | _, [] => 0
  | t, i :: p => match t.kids[i.toNat]? with
    | none => 0
    | some u => totalB (t.kids.take i.toNat) + 1 + startB u p
def thereAt (x : Option Tree) (o : Int) : Bool := match x with
  | some x => if isTxt x.kind = true then decide (0 ≤ o) && decide (o < (sizeB x : Int)) else o == 0
  | none => o == 0
def thereB (K : List Tree) (j o : Int) : Bool := !(decide (j < 0) || decide ((K.length : Int) < j)) && thereAt K[j.toNat]? o
def posB (t : Tree) (p : List Int) (j o : Int) : Option Int :=
  (followB t p).bind fun u => if thereB u.kids j o = true then some ((startB t p : Int) + (totalB (u.kids.take j.toNat) : Int) + o) else none

def deeper (i : Nat) (s : Spt) : Spt := ((i : Int) :: s.1, s.2)
mutual
def spotsT : Nat → Tree → List Spt
  | i, .mk k t _ _ l => if isTxt k = true then (List.range (Lib.runeCount t)).map (fun j => ([], i, j)) else ([], i, 0) :: (spotsB 0 l).map (deeper i)
def spotsB : Nat → List Tree → List Spt
  | i, [] => [([], i, 0)]
  | i, x :: l => spotsT i x ++ spotsB (i + 1) l
end
def resolveB (t : Tree) (pos : Int) : Option Spt := if isTxt t.kind = true then none else if pos < 0 then none else (spotsB 0 t.kids)[pos.toNat]?

theorem sizeB_text {x : Tree} (h : isTxt x.kind = true) : sizeB x = Lib.runeCount x.text := by
  obtain ⟨k, t, m, a, l⟩ := x; simp only [Tree.kind] at h; simp [sizeB, h, Tree.text]
theorem sizeB_node {x : Tree} (h : isTxt x.kind = false) : sizeB x = 2 + totalB x.kids := by
  obtain ⟨k, t, m, a, l⟩ := x; simp only [Tree.kind] at h; simp [sizeB, h, Tree.kids]
theorem spotsT_text {x : Tree} (i : Nat) (h : isTxt x.kind = true) : spotsT i x = (List.range (sizeB x)).map (fun j => ([], i, j)) := by
  rw [sizeB_text h]
  obtain ⟨k, t, m, a, l⟩ := x; simp only [Tree.kind] at h; simp [spotsT, h, Tree.text]
theorem spotsT_node {x : Tree} (i : Nat) (h : isTxt x.kind = false) : spotsT i x = ([], i, 0) :: (spotsB 0 x.kids).map (deeper i) := by
  obtain ⟨k, t, m, a, l⟩ := x; simp only [Tree.kind] at h; simp [spotsT, h, Tree.kids]
mutual
theorem spotsT_len : ∀ (i : Nat) (x : Tree), (spotsT i x).length = sizeB x
  | i, .mk k t m a l => by
    rw [spotsT, sizeB]
    split
    · simp
    · simp only [List.length_cons, List.length_map, spotsB_len 0 l]; omega
theorem spotsB_len : ∀ (i : Nat) (l : List Tree), (spotsB i l).length = totalB l + 1
  | i, [] => rfl
  | i, x :: l => by rw [spotsB, totalB, List.length_append, spotsT_len i x, spotsB_len (i + 1) l]; omega
end

/-! ### paths -/
theorem goB_app : ∀ (p q : List Int) (t : Tree), goB t (p ++ q) = (goB t p).bind fun u => goB u q
  | [], q, t => by simp [goB]
  | i :: p, q, t => by
    simp only [List.cons_append, goB]
    cases kidAt t i with
    | none => rfl
    | some u => exact goB_app p q u
theorem kidAt_some {t u : Tree} {i : Int} (h : kidAt t i = some u) : isTxt t.kind = false ∧ 0 ≤ i ∧ t.kids[i.toNat]? = some u := by
  unfold kidAt at h
  cases ht : isTxt t.kind with
  | true => simp [ht] at h
  | false =>
    simp only [ht, Bool.false_eq_true, if_false] at h
    by_cases hi : i < 0
    · simp [hi] at h
    · simp only [hi, if_false] at h; exact ⟨rfl, by omega, h⟩
theorem kidAt_of {t u : Tree} {i : Int} (ht : isTxt t.kind = false) (hi : 0 ≤ i) (h : t.kids[i.toNat]? = some u) : kidAt t i = some u := by
  unfold kidAt
  simp only [ht, Bool.false_eq_true, if_false]
  rw [if_neg (by omega)]; exact h
theorem followB_some {t u : Tree} {p : List Int} (h : followB t p = some u) : goB t p = some u ∧ isTxt u.kind = false := by
  unfold followB at h
  cases hg : goB t p with
  | none => rw [hg] at h; cases h
  | some v =>
    rw [hg] at h
    simp only [Option.bind_some, plainO] at h
    cases hv : isTxt v.kind with
    | true => simp [hv] at h
    | false => simp [hv] at h; subst h; exact ⟨rfl, hv⟩
theorem followB_of {t u : Tree} {p : List Int} (h : goB t p = some u) (hu : isTxt u.kind = false) : followB t p = some u := by
  unfold followB; rw [h]; simp [plainO, hu]
theorem weigh_kidAt {t u : Tree} {i : Nat} (h : t.kids[i]? = some u) : weigh u + weighAll (t.kids.take i) + 2 ≤ weigh t := by
  have h1 := kids_weigh t
  have h2 : t.kids = t.kids.take i ++ u :: t.kids.drop (i + 1) := by
    obtain ⟨hl, he⟩ := List.getElem?_eq_some_iff.1 h
    rw [← he, List.getElem_cons_drop, List.take_append_drop]
  rw [h2, weighAll_append] at h1
  simp only [weighAll] at h1
  omega
theorem goB_weigh : ∀ (p : List Int) (t u : Tree), goB t p = some u → weigh u ≤ weigh t
  | [], t, u, h => by simp only [goB, Option.some.injEq] at h; subst h; exact Nat.le_refl _
  | i :: p, t, u, h => by
    rw [goB] at h
    cases hk : kidAt t i with
    | none => rw [hk] at h; cases h
    | some v =>
      rw [hk] at h
      have h1 := goB_weigh p v u h
      have h2 := weigh_kidAt (kidAt_some hk).2.2
      omega
theorem startB_weigh : ∀ (p : List Int) (t : Tree), startB t p ≤ weigh t
  | [], t => by simp [startB]
  | i :: p, t => by
    rw [startB]
    cases hk : t.kids[i.toNat]? with
    | none => simp
    | some v =>
      have h1 := startB_weigh p v
      have h2 := weigh_kidAt hk
      have h3 := total_le_weigh (t.kids.take i.toNat)
      simp only
      omega
theorem startB_app : ∀ (p : List Int) (t u : Tree) (q : List Int), goB t p = some u → startB t (p ++ q) = startB t p + startB u q
  | [], t, u, q, h => by simp only [goB, Option.some.injEq] at h; subst h; simp [startB]
  | i :: p, t, u, q, h => by
    rw [goB] at h
    cases hk : kidAt t i with
    | none => rw [hk] at h; cases h
    | some v =>
      rw [hk] at h
      have h1 := startB_app p v u q h
      simp only [List.cons_append, startB, (kidAt_some hk).2.2]
      omega

/-! ### each spot leads somewhere -/
/-- What the k-th spot of a node is: where it leads, and that its position is k. -/
structure SpotOk (t : Tree) (k : Nat) (s : Spt) (u : Tree) : Prop where
  go : goB t s.1 = some u
  plain : isTxt u.kind = false
  le : s.2.1 ≤ u.kids.length
  there : thereAt u.kids[s.2.1]? s.2.2 = true
  pos : startB t s.1 + totalB (u.kids.take s.2.1) + s.2.2 = k
  fit : totalB (u.kids.take s.2.1) + s.2.2 ≤ totalB u.kids
theorem take_at {α : Type} {l : List α} {i : Nat} {x : α} (h : l[i]? = some x) : l.take (i + 1) = l.take i ++ [x] := by
  rw [List.take_add_one, h]; rfl
theorem total_take_le (l : List Tree) (i : Nat) : totalB (l.take i) ≤ totalB l := by
  have := totalB_append (l.take i) (l.drop i); rw [List.take_append_drop] at this; omega
theorem spots_from {t : Tree} (ht : isTxt t.kind = false) (ih : ∀ x, x ∈ t.kids → isTxt x.kind = false → ∀ k s, (spotsB 0 x.kids)[k]? = some s → ∃ u, SpotOk x k s u) :
    ∀ (l : List Tree) (i k : Nat) (s : Spt), t.kids.drop i = l → i ≤ t.kids.length → (spotsB i l)[k]? = some s → ∃ u, SpotOk t (totalB (t.kids.take i) + k) s u
  | [], i, k, s, hd, hi, h => by
    have hl : t.kids.length ≤ i := by rw [List.drop_eq_nil_iff] at hd; exact hd
    have he : i = t.kids.length := by omega
    subst he
    rw [spotsB] at h
    obtain ⟨rfl, rfl⟩ : k = 0 ∧ s = ([], t.kids.length, 0) := by
      cases k with
      | zero => simp at h; exact ⟨rfl, h.symm⟩
      | succ k => simp at h
    refine ⟨t, rfl, ht, Nat.le_refl _, ?_, by simp [startB], by simp⟩
    simp [thereAt]
  | x :: l, i, k, s, hd, hi, h => by
    have hx : t.kids[i]? = some x := by rw [← List.head?_drop, hd]; rfl
    have hil : i < t.kids.length := (List.getElem?_eq_some_iff.1 hx).1
    have hd' : t.kids.drop (i + 1) = l := by rw [← List.tail_drop, hd]; rfl
    have htk : totalB (t.kids.take (i + 1)) = totalB (t.kids.take i) + sizeB x := by rw [take_at hx, totalB_append]; simp [totalB]
    have htl := total_take_le t.kids (i + 1)
    rw [spotsB] at h
    by_cases hk : k < sizeB x
    · rw [List.getElem?_append_left (by rw [spotsT_len]; exact hk)] at h
      cases hT : isTxt x.kind with
      | true =>
        rw [spotsT_text i hT, List.getElem?_map, List.getElem?_range hk] at h
        simp only [Option.map_some, Option.some.injEq] at h
        subst h
        refine ⟨t, rfl, ht, by simpa using Nat.le_of_lt hil, ?_, by simp [startB], ?_⟩
        · rw [hx]; simp only [thereAt, hT, if_true]; simp; omega
        · simp only; omega
      | false =>
        rw [spotsT_node i hT] at h
        cases k with
        | zero =>
          simp at h
          subst h
          refine ⟨t, rfl, ht, by simpa using Nat.le_of_lt hil, ?_, by simp [startB], ?_⟩
          · rw [hx]; simp [thereAt, hT]
          · simp only; omega
        | succ k =>
          simp only [List.getElem?_cons_succ, List.getElem?_map] at h
          obtain ⟨s', hs', rfl⟩ := Option.map_eq_some_iff.1 h
          obtain ⟨u, hu⟩ := ih x (List.mem_of_getElem? hx) hT k s' hs'
          have hka : kidAt t (i : Int) = some x := kidAt_of ht (by omega) (by simpa using hx)
          refine ⟨u, by simp only [deeper, goB, hka]; exact hu.go, hu.plain, hu.le, hu.there, ?_, hu.fit⟩
          have := hu.pos
          simp only [deeper, startB, Int.toNat_natCast, hx]
          omega
    · rw [List.getElem?_append_right (by rw [spotsT_len]; omega), spotsT_len] at h
      obtain ⟨u, hu⟩ := spots_from ht ih l (i + 1) (k - sizeB x) s hd' (by omega) h
      refine ⟨u, hu.go, hu.plain, hu.le, hu.there, ?_, hu.fit⟩
      have := hu.pos
      omega
theorem spots_ok : ∀ (t : Tree), isTxt t.kind = false → ∀ (k : Nat) (s : Spt), (spotsB 0 t.kids)[k]? = some s → ∃ u, SpotOk t k s u := by
  intro t
  induction t using Tree.induct_one with
  | h kd tx m a l ih =>
    intro ht k s h
    have := spots_from ht (fun x hx => ih x hx) (Tree.mk kd tx m a l).kids 0 k s (by simp) (by simp) h
    simpa [totalB] using this
theorem SpotOk.follow {t u : Tree} {k : Nat} {s : Spt} (h : SpotOk t k s u) : followB t s.1 = some u := followB_of h.go h.plain
theorem SpotOk.is {t u : Tree} {k : Nat} {s : Spt} (h : SpotOk t k s u) : thereB u.kids s.2.1 s.2.2 = true := by
  have h1 := h.le
  have h2 := h.there
  unfold thereB
  rw [Int.toNat_natCast, h2, decide_eq_false (by omega), decide_eq_false (by omega)]; rfl
theorem SpotOk.back {t u : Tree} {k : Nat} {s : Spt} (h : SpotOk t k s u) : posB t s.1 s.2.1 s.2.2 = some (k : Int) := by
  unfold posB
  rw [h.follow]
  simp only [Option.bind_some, h.is, if_true, Int.toNat_natCast]
  have := h.pos
  congr 1
  omega

/-! ### the walk over all kids, down and up again -/
/-- A node that is open: which kid, of which row, and the slice that holds that row. -/
structure Frm where
  i : Nat
  K : List Tree
  v : Value
def pathOf (st : List Frm) : List Int := st.reverse.map fun f => (f.i : Int)
def pre (p : List Int) (s : Spt) : Spt := (p ++ s.1, s.2)
def restOf : List Frm → List Spt
  | [] => []
  | f :: st => (spotsB (f.i + 1) (f.K.drop (f.i + 1))).map (pre (pathOf st)) ++ restOf st
def remOf (st : List Frm) (K : List Tree) (i : Nat) : List Spt := (spotsB i (K.drop i)).map (pre (pathOf st)) ++ restOf st
theorem pathOf_cons (f : Frm) (st : List Frm) : pathOf (f :: st) = pathOf st ++ [(f.i : Int)] := by simp [pathOf]
theorem pathOf_len (st : List Frm) : (pathOf st).length = st.length := by simp [pathOf]
theorem drop_at' {α : Type} {l : List α} {i : Nat} {x : α} (h : l[i]? = some x) : l.drop i = x :: l.drop (i + 1) := by
  obtain ⟨hl, he⟩ := List.getElem?_eq_some_iff.1 h
  rw [← he, List.getElem_cons_drop]
theorem rem_text {st : List Frm} {K : List Tree} {i pos : Nat} {x : Tree} (h : K[i]? = some x) (ht : isTxt x.kind = true) (hp : pos < sizeB x) : (remOf st K i)[pos]? = some (pathOf st, i, pos) := by
  unfold remOf
  rw [drop_at' h, spotsB, List.map_append, List.append_assoc, List.getElem?_append_left (by rw [List.length_map, spotsT_len]; exact hp), spotsT_text i ht, List.getElem?_map, List.getElem?_map, List.getElem?_range hp]
  simp [pre]
theorem rem_skip {st : List Frm} {K : List Tree} {i pos : Nat} {x : Tree} (h : K[i]? = some x) (hp : sizeB x ≤ pos) : (remOf st K i)[pos]? = (remOf st K (i + 1))[pos - sizeB x]? := by
  unfold remOf
  rw [drop_at' h, spotsB, List.map_append, List.append_assoc, List.getElem?_append_right (by rw [List.length_map, spotsT_len]; exact hp), List.length_map, spotsT_len]
theorem rem_node {st : List Frm} {K : List Tree} {i : Nat} {x : Tree} (h : K[i]? = some x) (ht : isTxt x.kind = false) : (remOf st K i)[0]? = some (pathOf st, i, 0) := by
  unfold remOf
  rw [drop_at' h, spotsB, spotsT_node i ht]
  simp [pre]
theorem rem_push {st : List Frm} {K : List Tree} {i pos : Nat} {x : Tree} (v : Value) (h : K[i]? = some x) (ht : isTxt x.kind = false) : (remOf st K i)[pos + 1]? = (remOf (⟨i, K, v⟩ :: st) x.kids 0)[pos]? := by
  unfold remOf
  rw [drop_at' h, spotsB, spotsT_node i ht, restOf, pathOf_cons]
  simp only [List.cons_append, List.map_cons, List.getElem?_cons_succ, List.map_append, List.append_assoc, List.map_map, List.drop_zero]
  congr 3
  funext s
  simp [pre, deeper]
theorem rem_end (st : List Frm) (K : List Tree) : (remOf st K K.length)[0]? = some (pathOf st, K.length, 0) := by
  unfold remOf
  rw [List.drop_length, spotsB]; simp [pre]
theorem rem_last (K : List Tree) (pos : Nat) : (remOf [] K K.length)[pos + 1]? = none := by
  unfold remOf
  rw [List.drop_length, spotsB]; simp [restOf]
theorem rem_pop (f : Frm) (st : List Frm) (K : List Tree) (pos : Nat) : (remOf (f :: st) K K.length)[pos + 1]? = (remOf st f.K (f.i + 1))[pos]? := by
  unfold remOf
  rw [List.drop_length, spotsB, restOf]; simp
theorem rem_all (K : List Tree) : remOf [] K 0 = spotsB 0 K := by
  unfold remOf
  have : pre (pathOf []) = id := by funext s; simp [pre, pathOf]
  rw [this]; simp [restOf]
end Go.Proofs.YtaepolgmojkglaaDoor

namespace Go.Proofs.YtaepolgmojkglaaDoor
open Go.RowKit Go.Sort

def cutL (x : Tree) (n : Nat) : Tree := .mk x.kind (x.text.extract 0 (atB n x.text.data.toList)) x.marks x.attrs x.kids
def cutR (x : Tree) (n : Nat) : Tree := .mk x.kind (x.text.extract (atB n x.text.data.toList) x.text.size) x.marks x.attrs x.kids
def withKids (u : Tree) (k : List Tree) : Tree := .mk u.kind u.text u.marks u.attrs k
/-- What is wrong, what is ahead, what is behind. -/
abbrev Spl := Nat × List Tree × List Tree
def preB (a : List Tree) (r : Spl) : Spl := if r.1 = 0 then (0, a ++ r.2.1, r.2.2) else (r.1, [], [])
def splitB : List Tree → Nat → Spl
  | [], n => if n = 0 then (0, [], []) else (3, [], [])
  | x :: l, n => if sizeB x ≤ n then preB [x] (splitB l (n - sizeB x)) else if n = 0 then (0, [], x :: l) else if isTxt x.kind = true then (0, [cutL x n], cutR x n :: l) else (10, [], [])
theorem preB_pre (a b : List Tree) (r : Spl) : preB a (preB b r) = preB (a ++ b) r := by
  unfold preB
  by_cases h : r.1 = 0
  · simp [h]
  · simp [h]
theorem preB_nil (r : Spl) (h : r.1 ≠ 0 → r.2 = ([], [])) : preB [] r = r := by
  obtain ⟨c, a, b⟩ := r
  unfold preB
  by_cases hc : c = 0
  · subst hc; simp
  · have := h hc; simp only at this
    simp only [Prod.mk.injEq] at this
    obtain ⟨rfl, rfl⟩ := this
    simp [hc]
theorem splitB_err : ∀ (l : List Tree) (n : Nat), (splitB l n).1 ≠ 0 → (splitB l n).2 = ([], [])
  | [], n => by
    rw [splitB]; split <;> simp
  | x :: l, n => by
    rw [splitB]
    split
    · unfold preB
      split
      · intro h; simp at h
      · intro _; rfl
    · split
      · intro h; simp at h
      · split
        · intro h; simp at h
        · intro _; rfl
/-- One node more is ahead. -/
theorem split_step {l : List Tree} {n m i : Nat} {x : Tree} (h : splitB l n = preB (l.take i) (splitB (l.drop i) m)) (hx : l[i]? = some x) (hs : sizeB x ≤ m) : splitB l n = preB (l.take (i + 1)) (splitB (l.drop (i + 1)) (m - sizeB x)) := by
  obtain ⟨hl, he⟩ := List.getElem?_eq_some_iff.1 hx
  have hd : l.drop i = x :: l.drop (i + 1) := by rw [← he, List.getElem_cons_drop]
  have ht : l.take (i + 1) = l.take i ++ [x] := by rw [List.take_add_one, hx]; rfl
  rw [h, hd, splitB, if_pos hs, preB_pre, ht]
theorem split_here {l : List Tree} {n m i : Nat} {x : Tree} (h : splitB l n = preB (l.take i) (splitB (l.drop i) m)) (hx : l[i]? = some x) (hs : ¬ sizeB x ≤ m) :
    splitB l n = if m = 0 then (0, l.take i, l.drop i) else if isTxt x.kind = true then (0, l.take i ++ [cutL x m], cutR x m :: l.drop (i + 1)) else (10, [], []) := by
  obtain ⟨hl, he⟩ := List.getElem?_eq_some_iff.1 hx
  have hd : l.drop i = x :: l.drop (i + 1) := by rw [← he, List.getElem_cons_drop]
  rw [h, hd, splitB, if_neg hs]
  by_cases hm : m = 0
  · rw [if_pos hm, if_pos hm]; simp [preB]
  · rw [if_neg hm, if_neg hm]
    by_cases ht : isTxt x.kind = true
    · rw [if_pos ht, if_pos ht]; simp [preB]
    · rw [if_neg ht, if_neg ht]; simp [preB]
theorem split_end {l : List Tree} {n m : Nat} (h : splitB l n = preB (l.take l.length) (splitB (l.drop l.length) m)) : splitB l n = if m = 0 then (0, l, []) else (3, [], []) := by
  rw [h, List.drop_length, List.take_length, splitB]
  by_cases hm : m = 0
  · rw [if_pos hm, if_pos hm]; simp [preB]
  · rw [if_neg hm, if_neg hm]; simp [preB]
theorem cutL_weigh (x : Tree) (n : Nat) : weigh (cutL x n) ≤ weigh x := by
  obtain ⟨k, t, m, a, l⟩ := x
  have : (t.extract 0 (atB n t.data.toList)).size ≤ t.size := by rw [ByteArray.size_extract]; omega
  simp only [cutL, Tree.kind, Tree.text, Tree.marks, Tree.attrs, Tree.kids, weigh]; omega
theorem cutR_weigh (x : Tree) (n : Nat) : weigh (cutR x n) ≤ weigh x := by
  obtain ⟨k, t, m, a, l⟩ := x
  have : (t.extract (atB n t.data.toList) t.size).size ≤ t.size := by rw [ByteArray.size_extract]; omega
  simp only [cutR, Tree.kind, Tree.text, Tree.marks, Tree.attrs, Tree.kids, weigh]; omega
theorem splitB_weigh : ∀ (l : List Tree) (n : Nat), weighAll (splitB l n).2.1 ≤ weighAll l ∧ weighAll (splitB l n).2.2 ≤ weighAll l
  | [], n => by rw [splitB]; split <;> simp
  | x :: l, n => by
    have ih := splitB_weigh l (n - sizeB x)
    rw [splitB]
    split
    · unfold preB
      split
      · simp only [List.cons_append, List.nil_append, weighAll]; omega
      · simp [weighAll]
    · split
      · simp [weighAll]
      · split
        · have h1 := cutL_weigh x n
          have h2 := cutR_weigh x n
          simp only [weighAll]; omega
        · simp [weighAll]
end Go.Proofs.YtaepolgmojkglaaDoor

namespace Go.Proofs.YtaepolgmojkglaaDoor
open Go.RowKit Go.Sort

/-- The code points of bytes. -/
def ptsF : Nat → List UInt8 → List Nat
  | 0, _ => []
  | n + 1, l => if l = [] then [] else (Lib.decodeL l).1 :: ptsF n (l.drop (Lib.decodeL l).2)
def pts (l : List UInt8) : List Nat := ptsF l.length l
theorem ptsF_more : ∀ (n m : Nat) (l : List UInt8), l.length ≤ n → l.length ≤ m → ptsF n l = ptsF m l
  | 0, m, l, h, _ => by
    have : l = [] := List.eq_nil_of_length_eq_zero (by omega)
    subst this; cases m <;> simp [ptsF]
  | n + 1, 0, l, _, h => by
    have : l = [] := List.eq_nil_of_length_eq_zero (by omega)
    subst this; simp [ptsF]
  | n + 1, m + 1, l, h1, h2 => by
    simp only [ptsF]
    split
    · rfl
    · rename_i hne
      have hw := Lib.decodeL_width l
      have hl : 0 < l.length := List.length_pos_iff.2 hne
      rw [ptsF_more n m _ (by rw [List.length_drop]; omega) (by rw [List.length_drop]; omega)]
theorem pts_nil : pts [] = [] := rfl
theorem pts_step (l : List UInt8) (h : l ≠ []) : pts l = (Lib.decodeL l).1 :: pts (l.drop (Lib.decodeL l).2) := by
  have hw := Lib.decodeL_width l
  have hl : 0 < l.length := List.length_pos_iff.2 h
  obtain ⟨n, hn⟩ : ∃ n, l.length = n + 1 := ⟨l.length - 1, by omega⟩
  unfold pts
  rw [hn, ptsF, if_neg h, ptsF_more n _ _ (by rw [List.length_drop]; omega) (Nat.le_refl _)]
theorem ptsF_count : ∀ (n : Nat) (l : List UInt8), l.length ≤ n → (pts l).length = Lib.runeCountL l
  | 0, l, h => by
    have : l = [] := List.eq_nil_of_length_eq_zero (by omega)
    subst this; rfl
  | n + 1, l, h => by
    by_cases hne : l = []
    · subst hne; rfl
    · have hw := Lib.decodeL_width l
      have hl : 0 < l.length := List.length_pos_iff.2 hne
      rw [pts_step l hne, rc_step l hne, List.length_cons, ptsF_count n _ (by rw [List.length_drop]; omega)]; omega
theorem pts_count (l : List UInt8) : (pts l).length = Lib.runeCountL l := ptsF_count _ l (Nat.le_refl _)

/-- The model's own code points are these. -/
theorem runesFrom_eq (s : ByteArray) : ∀ (n i : Nat) (acc : Array Value), s.size - i ≤ n → Conv.runesFrom s n i acc = acc ++ ((pts (s.data.toList.drop i)).map fun r : Nat => Value.int .i32 (r : Int)).toArray
  | 0, i, acc, h => by
    have : s.data.toList.drop i = [] := List.drop_of_length_le (by have := Lib.size_eq s; omega)
    rw [this, pts_nil]; simp [Conv.runesFrom]
  | n + 1, i, acc, h => by
    unfold Conv.runesFrom
    have hsz := Lib.size_eq s
    split
    · rename_i hi
      have hne : s.data.toList.drop i ≠ [] := fun e => by
        have := congrArg List.length e
        rw [List.length_drop] at this; simp at this; omega
      have hw := Lib.decodeL_width (s.data.toList.drop i)
      rw [Lib.decodeL_drop] at hw
      show Conv.runesFrom s n (i + (Utf8.decode s i).2) (acc.push (.int .i32 (Int.ofNat (Utf8.decode s i).1))) = _
      rw [runesFrom_eq s n _ _ (by omega), pts_step _ hne, Lib.decodeL_drop, List.drop_drop]
      simp
    · rename_i hi
      have : s.data.toList.drop i = [] := List.drop_of_length_le (by omega)
      rw [this, pts_nil]; simp

/-! ### the text of code points -/
theorem runeError_eq : Utf8.runeError = 65533 := rfl
theorem encode_eq (r : Nat) (h : Utf8.valid (r : Int) = true) : (Utf8.encode (r : Int)).data.toList = Lib.encodeRune (r : Int) := by
  have hv : ((0 : Int) ≤ r ∧ (r : Int) < 55296) ∨ (57344 ≤ (r : Int) ∧ (r : Int) ≤ 1114111) := by simpa [Utf8.valid] using h
  unfold Utf8.encode Lib.encodeRune
  simp only [h, if_true, Int.toNat_natCast]
  by_cases h1 : r < 128
  · rw [if_pos h1, Lib.encodeRuneZ_one (by omega) (by omega)]; simp
  · rw [if_neg h1]
    by_cases h2 : r < 2048
    · rw [if_pos h2, Lib.encodeRuneZ_two (by omega) (by omega)]
      simp only [List.map_cons, List.map_nil]
      rw [show (192 + (r : Int) / 64).toNat = 192 + r / 64 by omega, show (128 + (r : Int) % 64).toNat = 128 + r % 64 by omega]
    · rw [if_neg h2]
      by_cases h3 : r < 65536
      · rw [if_pos h3, Lib.encodeRuneZ_three (by omega)]
        simp only [List.map_cons, List.map_nil]
        rw [show (224 + (r : Int) / 4096).toNat = 224 + r / 4096 by omega, show (128 + (r : Int) / 64 % 64).toNat = 128 + r / 64 % 64 by omega, show (128 + (r : Int) % 64).toNat = 128 + r % 64 by omega]
      · rw [if_neg h3, Lib.encodeRuneZ_four (by omega) (by omega)]
        simp only [List.map_cons, List.map_nil]
        rw [show (240 + (r : Int) / 262144).toNat = 240 + r / 262144 by omega, show (128 + (r : Int) / 4096 % 64).toNat = 128 + r / 4096 % 64 by omega, show (128 + (r : Int) / 64 % 64).toNat = 128 + r / 64 % 64 by omega, show (128 + (r : Int) % 64).toNat = 128 + r % 64 by omega]
theorem valid_of (r : Nat) (h : r < 55296 ∨ (57344 ≤ r ∧ r ≤ 1114111)) : Utf8.valid (r : Int) = true := by
  simp only [Utf8.valid, Bool.or_eq_true, Bool.and_eq_true, decide_eq_true_eq]
  omega
theorem ok1 (x : Nat) (h : x < 55296) : x < 55296 ∨ (57344 ≤ x ∧ x ≤ 1114111) := .inl h
theorem ok3 (x : Nat) (h : x ≤ 65535) (h2 : x < 55296 ∨ 57344 ≤ x) : x < 55296 ∨ (57344 ≤ x ∧ x ≤ 1114111) := by omega
theorem ok4 (x : Nat) (h : 65536 ≤ x) (h2 : x ≤ 1114111) : x < 55296 ∨ (57344 ≤ x ∧ x ≤ 1114111) := by omega
theorem ok5 (x : Nat) (h : x = 65533) : x < 55296 ∨ (57344 ≤ x ∧ x ≤ 1114111) := by omega
theorem decodeN_valid (n b0 b1 b2 b3 : Nat) : (Lib.decodeN n b0 b1 b2 b3).1 < 55296 ∨ (57344 ≤ (Lib.decodeN n b0 b1 b2 b3).1 ∧ (Lib.decodeN n b0 b1 b2 b3).1 ≤ 1114111) := by
  generalize hx : (Lib.decodeN n b0 b1 b2 b3).1 = x
  rcases Lib.decodeN_shape n b0 b1 b2 b3 with ⟨c, e⟩ | ⟨d1, d2, d3, dv, e⟩ | ⟨d1, d2, d3, d4, dv, ds, e⟩ | ⟨d1, d2, d3, d4, d5, dv, dw, e⟩ | e
  · exact ok1 x (by rw [e] at hx; simp only at hx; omega)
  · exact ok1 x (by rw [e] at hx; simp only at hx; omega)
  · rw [e] at hx; simp only at hx
    rw [hx] at ds dv
    exact ok3 x (by omega) ds
  · rw [e] at hx; simp only at hx
    rw [hx] at dv dw
    exact ok4 x dv dw
  · exact ok5 x (by rw [e] at hx; simp only at hx; exact hx.symm)
theorem decode_valid (l : List UInt8) : Utf8.valid ((Lib.decodeL l).1 : Int) = true := by
  rw [Lib.decodeL_N]
  exact valid_of _ (decodeN_valid _ _ _ _ _)
def encZ (r : Int) : List UInt8 := (Utf8.encode r).data.toList
theorem encZ_eq (r : Int) : encZ r = (Utf8.encode r).data.toList := rfl
def encL (r : Nat) : List UInt8 := encZ (r : Int)
theorem encL_eq (r : Nat) : encL r = encZ (r : Int) := rfl
theorem encL_dec (l : List UInt8) (h : l ≠ []) (hv : ¬ ((Lib.decodeL l).1 = 65533 ∧ (Lib.decodeL l).2 = 1)) : encL (Lib.decodeL l).1 = l.take (Lib.decodeL l).2 := by
  rw [encL_eq, encZ_eq, encode_eq _ (decode_valid l), Lib.encode_decode l h hv]
theorem encL_bad : (encL 65533).length = 3 := by decide +kernel
/-- The text of the code points of a text. -/
def backB (l : List UInt8) : List UInt8 := ((pts l).map encL).flatten
theorem back_step (l : List UInt8) (h : l ≠ []) : backB l = encL (Lib.decodeL l).1 ++ backB (l.drop (Lib.decodeL l).2) := by
  unfold backB; rw [pts_step l h]; simp
theorem back_le : ∀ (n : Nat) (l : List UInt8), l.length ≤ n → l.length ≤ (backB l).length
  | 0, l, h => by omega
  | n + 1, l, h => by
    by_cases hne : l = []
    · subst hne; simp
    · have hw := Lib.decodeL_width l
      have hle := Lib.decodeL_le l hne
      have hl : 0 < l.length := List.length_pos_iff.2 hne
      have ih := back_le n (l.drop (Lib.decodeL l).2) (by rw [List.length_drop]; omega)
      rw [List.length_drop] at ih
      rw [back_step l hne, List.length_append]
      by_cases hv : (Lib.decodeL l).1 = 65533 ∧ (Lib.decodeL l).2 = 1
      · rw [hv.1, encL_bad]; omega
      · rw [encL_dec l hne hv, List.length_take]; omega
theorem back_valid : ∀ (n : Nat) (l : List UInt8), l.length ≤ n → Lib.validD l = true → backB l = l
  | 0, l, h, _ => by
    have : l = [] := List.eq_nil_of_length_eq_zero (by omega)
    subst this; rfl
  | n + 1, l, h, hv => by
    by_cases hne : l = []
    · subst hne; rfl
    · rw [Lib.validD_step l hne] at hv
      split at hv
      · cases hv
      · rename_i he
        have hw := Lib.decodeL_width l
        have hl : 0 < l.length := List.length_pos_iff.2 hne
        rw [back_step l hne, encL_dec l hne he, back_valid n _ (by rw [List.length_drop]; omega) hv, List.take_append_drop]
theorem back_invalid : ∀ (n : Nat) (l : List UInt8), l.length ≤ n → Lib.validD l = false → l.length < (backB l).length
  | 0, l, h, hv => by
    have : l = [] := List.eq_nil_of_length_eq_zero (by omega)
    subst this; exact absurd hv (by decide +kernel)
  | n + 1, l, h, hv => by
    by_cases hne : l = []
    · subst hne; exact absurd hv (by decide +kernel)
    · have hw := Lib.decodeL_width l
      have hle := Lib.decodeL_le l hne
      have hl : 0 < l.length := List.length_pos_iff.2 hne
      have hd : (l.drop (Lib.decodeL l).2).length = l.length - (Lib.decodeL l).2 := List.length_drop
      rw [Lib.validD_step l hne] at hv
      rw [back_step l hne, List.length_append]
      split at hv
      · rename_i he
        have := back_le _ (l.drop (Lib.decodeL l).2) (Nat.le_refl _)
        rw [he.1, encL_bad]; omega
      · rename_i he
        have := back_invalid n (l.drop (Lib.decodeL l).2) (by omega) hv
        rw [encL_dec l hne he, List.length_take]; omega
theorem back_same (l : List UInt8) : (backB l == l) = Lib.validD l := by
  cases hv : Lib.validD l with
  | true => rw [back_valid _ l (Nat.le_refl _) hv]; simp
  | false =>
    have := back_invalid _ l (Nat.le_refl _) hv
    rw [beq_eq_false_iff_ne]
    intro e; rw [e] at this; omega

theorem foldl_runes : ∀ (ns : List Int) (s : ByteArray), (ns.foldl (fun r n => r ++ Utf8.encode n) s).data.toList = s.data.toList ++ (ns.map encZ).flatten
  | [], s => by simp
  | n :: ns, s => by rw [List.foldl_cons, foldl_runes ns, ByteArray.data_append, Array.toList_append, List.map_cons, List.flatten_cons, encZ_eq, List.append_assoc]
theorem runesBytes_data (ps : List Nat) : (runesBytes (ps.map fun r : Nat => (r : Int))).data.toList = (ps.map encL).flatten := by
  have h1 : (ps.map fun r : Nat => (r : Int)).map encZ = ps.map encL := by
    rw [List.map_map]
    exact List.map_congr_left fun r _ => by rw [Function.comp_apply, encL_eq]
  have h2 : ByteArray.empty.data.toList = [] := rfl
  unfold runesBytes
  rw [foldl_runes, h1, h2, List.nil_append]

/-! ### what the conversions give, in memory -/
/-- A slice of code points. -/
def Pts (w : World) (S : Nat → Prop) (v : Value) (ps : List Nat) : Prop :=
  ∃ g c, v = .slice (some ⟨g, 0, none⟩) ps.length c ∧ ps.length ≤ c ∧ S g ∧ ∀ i (r : Nat), ps[i]? = some r → w.cell? ⟨g, i, none⟩ = some (.int .i32 (r : Int))
end Go.Proofs.YtaepolgmojkglaaDoor

namespace Go.Proofs.YtaepolgmojkglaaDoor
open Go.RowKit Go.Sort

/-! ### joined parts, joined -/
theorem isTxt_eq {k : ByteArray} (h : isTxt k = true) : k = TEXT := by
  unfold isTxt at h
  rw [beq_iff_eq, Lib.toList_data] at h
  exact ByteArray.ext (Array.ext' h)
theorem text_app_ne {a b : ByteArray} (h : b.toList.isEmpty = false) : (a ++ b).toList.isEmpty = false := by
  cases h2 : (a ++ b).toList.isEmpty with
  | false => rfl
  | true =>
    have h3 := empty_data.1 h2
    rw [ByteArray.data_append, Array.toList_append] at h3
    rw [empty_data.2 (List.append_eq_nil_iff.1 h3).2] at h
    cases h
theorem set_kind (x : Tree) (s : ByteArray) : (setText x s).kind = x.kind := rfl
theorem set_text (x : Tree) (s : ByteArray) : (setText x s).text = s := rfl
theorem set_marks (x : Tree) (s : ByteArray) : (setText x s).marks = x.marks := rfl
theorem set_set (x : Tree) (s t : ByteArray) : setText (setText x s) t = setText x t := rfl
theorem keepB_of {x : Tree} (h : ¬ (isTxt x.kind && x.text.toList.isEmpty) = true) : keepB x = true := by
  unfold keepB
  cases hb : (isTxt x.kind && x.text.toList.isEmpty) with
  | false => rfl
  | true => exact absurd hb h
theorem keepB_ne {x : Tree} (h : x.text.toList.isEmpty = false) : keepB x = true := by unfold keepB; rw [h, Bool.and_false]; rfl
theorem step_keeps (out : List Tree) (x : Tree) (h : ∀ z ∈ out, keepB z = true) : ∀ z ∈ joinStep out x, keepB z = true := by
  unfold joinStep
  intro z hz
  split at hz
  · exact h z hz
  · rename_i hx
    have hxk : keepB x = true := keepB_of hx
    split at hz
    · rename_i y hy
      split at hz
      · rename_i hj
        simp only [Bool.and_eq_true] at hj
        rcases List.mem_append.1 hz with hz | hz
        · exact h z (List.dropLast_subset _ hz)
        · simp only [List.mem_singleton] at hz
          subst hz
          have h1 := keepB_text hxk hj.1
          exact keepB_ne (by rw [set_text]; exact text_app_ne h1)
      · rcases List.mem_append.1 hz with hz | hz
        · exact h z hz
        · simp only [List.mem_singleton] at hz; subst hz; exact hxk
    · rcases List.mem_append.1 hz with hz | hz
      · exact h z hz
      · simp only [List.mem_singleton] at hz; subst hz; exact hxk
theorem fold_keeps : ∀ (l out : List Tree), (∀ z ∈ out, keepB z = true) → ∀ z ∈ l.foldl joinStep out, keepB z = true
  | [], _, h => h
  | x :: l, out, h => fold_keeps l _ (step_keeps out x h)
theorem joinB_keeps (l : List Tree) : ∀ z ∈ joinB l, keepB z = true := fold_keeps l [] (by simp)

theorem sameL_trans {a b c : List ByteArray} (h : sameL b c = true) : sameL a b = sameL a c := by rw [sameL_eq h]
theorem step_step (O : List Tree) (z x : Tree) (hz : keepB z = true) (hx : keepB x = true) (hkx : isTxt x.kind = true) (hj : joinsOn z x = true) :
    joinStep (joinStep O z) x = joinStep O (setText x (z.text ++ x.text)) := by
  have hj' := hj
  simp only [joinsOn, Bool.and_eq_true] at hj'
  obtain ⟨hkz, hm⟩ := hj'
  have ez := keepB_text hz hkz
  have ex := keepB_text hx hkx
  have es : (setText x (z.text ++ x.text)).text.toList.isEmpty = false := text_app_ne ex
  cases hO : O.getLast? with
  | none =>
    have : O = [] := List.getLast?_eq_none_iff.1 hO
    subst this
    rw [joinStep_first ez, joinStep_first es, joinStep_on (z := z) (by simp) hkx ex hj]; rfl
  | some y =>
    cases hy : joinsOn y z with
    | false =>
      have hy' : joinsOn y (setText x (z.text ++ x.text)) = false := by
        rw [← hy]; unfold joinsOn; rw [set_marks, sameL_trans hm]
      rw [joinStep_other hO ez hy, joinStep_other hO es hy', joinStep_on (z := z) (by simp) hkx ex hj]; simp
    | true =>
      have hy' : joinsOn y (setText x (z.text ++ x.text)) = true := by
        rw [← hy]; unfold joinsOn; rw [set_marks, sameL_trans hm]
      rw [joinStep_on hO hkz ez hy, joinStep_on (n := setText x (z.text ++ x.text)) hO hkx es hy', joinStep_on (z := setText z (y.text ++ z.text)) (by simp) hkx ex (by unfold joinsOn at hj ⊢; rw [set_kind, set_marks]; exact hj)]
      rw [set_text, set_set, set_text, ByteArray.append_assoc]; simp

theorem fold_join_snoc (J b : List Tree) (x : Tree) (ih : (joinB b).foldl joinStep J = b.foldl joinStep J) : (joinB (b ++ [x])).foldl joinStep J = (b ++ [x]).foldl joinStep J := by
  rw [joinB_snoc, List.foldl_append, ← ih]
  simp only [List.foldl_cons, List.foldl_nil]
  cases hx : keepB x with
  | false => rw [join_skip _ x hx, join_skip _ x hx]
  | true =>
    cases hk : isTxt x.kind with
    | false => rw [joinStep_plain hk, List.foldl_append]; rfl
    | true =>
      have ex := keepB_text hx hk
      cases hB : (joinB b).getLast? with
      | none =>
        have : joinB b = [] := List.getLast?_eq_none_iff.1 hB
        rw [this, joinStep_first ex]; rfl
      | some z =>
        cases hj : joinsOn z x with
        | false => rw [joinStep_other hB ex hj, List.foldl_append]; rfl
        | true =>
          have hz := joinB_keeps b z (List.mem_of_getLast? hB)
          have e := dropLast_getLast? hB
          rw [joinStep_on hB hk ex hj, List.foldl_append]
          conv => rhs; rw [e, List.foldl_append]
          simp only [List.foldl_cons, List.foldl_nil]
          exact (step_step _ z x hz hx hk hj).symm
theorem fold_join (J : List Tree) : ∀ (n : Nat) (b : List Tree), b.length = n → (joinB b).foldl joinStep J = b.foldl joinStep J
  | 0, b, h => by
    have : b = [] := List.eq_nil_of_length_eq_zero h
    subst this; rfl
  | n + 1, b, h => by
    have hne : b ≠ [] := fun e => by subst e; simp at h
    rw [← List.dropLast_concat_getLast hne]
    exact fold_join_snoc J _ _ (fold_join J n _ (by rw [List.length_dropLast]; omega))
theorem joinB_parts (a b : List Tree) : joinB (joinB a ++ joinB b) = joinB (a ++ b) := by
  have h1 := fold_join [] _ a rfl
  have h2 := fold_join (joinB a) _ b rfl
  unfold joinB at *
  rw [List.foldl_append, h1, h2, List.foldl_append]

/-! ### code points -/
theorem encZ_ne (r : Int) : encZ r ≠ [] := by
  rw [encZ_eq]
  unfold Utf8.encode
  dsimp only
  repeat' split
  all_goals simp
theorem encL_ne (r : Nat) : encL r ≠ [] := by rw [encL_eq]; exact encZ_ne _
theorem encL_le (r : Nat) : (encL r).length ≤ 4 := by
  rw [encL_eq, encZ_eq]
  have h := encode_size_le (r : Int)
  have h2 := Lib.size_eq (Utf8.encode (r : Int))
  omega
def pieceT (m : List ByteArray) (r : Nat) : Tree := .mk TEXT ⟨(encL r).toArray⟩ m [] []
def cutOne (x : Tree) : List Tree := if isTxt x.kind then (pts x.text.data.toList).map (pieceT x.marks) else [x]
def cutB (ks : List Tree) : List Tree := ks.flatMap cutOne
theorem cutB_snoc (ks : List Tree) (x : Tree) : cutB (ks ++ [x]) = cutB ks ++ cutOne x := by simp [cutB]
theorem isTxt_TEXT : isTxt TEXT = true := by decide +kernel
theorem piece_marks (m : List ByteArray) (r : Nat) : (pieceT m r).marks = m := rfl
theorem back_arr (a b : List UInt8) (t : ByteArray) (h : a ++ b = t.data.toList) : (⟨((⟨a.toArray⟩ : ByteArray).data.toList ++ b).toArray⟩ : ByteArray) = t := ByteArray.ext (Array.ext' (by simpa using h))
theorem piece_text (m : List ByteArray) (r : Nat) : (pieceT m r).text.toList.isEmpty = false := by
  cases h : (pieceT m r).text.toList.isEmpty with
  | false => rfl
  | true => exact absurd (empty_data.1 h) (by simpa [pieceT, Tree.text] using encL_ne r)
theorem cut_fold (J : List Tree) (m : List ByteArray) : ∀ (ps : List Nat) (t : ByteArray), (ps.map (pieceT m)).foldl joinStep (J ++ [.mk TEXT t m [] []]) = J ++ [.mk TEXT ⟨(t.data.toList ++ (ps.map encL).flatten).toArray⟩ m [] []]
  | [], t => by simp
  | r :: ps, t => by
    have hs : joinStep (J ++ [.mk TEXT t m [] []]) (pieceT m r) = J ++ [.mk TEXT (t ++ ⟨(encL r).toArray⟩) m [] []] := by
      have hon : joinsOn (.mk TEXT t m [] []) (pieceT m r) = true := by
        show (isTxt TEXT && sameL m m) = true
        rw [isTxt_TEXT, sameL_all rfl fun _ _ => by simp]; rfl
      have hst := joinStep_on (out := J ++ [Tree.mk TEXT t m [] []]) (n := pieceT m r) (z := Tree.mk TEXT t m [] []) (by simp) isTxt_TEXT (piece_text m r) hon
      rw [hst, List.dropLast_concat]
      rfl
    rw [List.map_cons, List.foldl_cons, hs, cut_fold J m ps]
    simp [ByteArray.data_append]

theorem text_form {x : Tree} (hk : isTxt x.kind = true) (hf : formedB x = true) : ∃ t m, x = .mk TEXT t m [] [] ∧ t.data.toList ≠ [] ∧ Lib.validD t.data.toList = true := by
  rw [formed_text hk] at hf
  obtain ⟨h1, h2, _, h4, h5⟩ := textB_parts hf
  obtain ⟨k, t, m, a, l⟩ := x
  simp only [Tree.kind, Tree.text, Tree.attrs, Tree.kids] at *
  exact ⟨t, m, by rw [isTxt_eq hk, List.eq_nil_of_length_eq_zero h4, List.eq_nil_of_length_eq_zero h5], h1, h2⟩
theorem cut_stays : ∀ (l out : List Tree), rowB out.getLast? l = true → (cutB l).foldl joinStep out = out ++ l
  | [], out, _ => by simp [cutB]
  | x :: l, out, h => by
    have h' := h
    simp only [rowB, Bool.and_eq_true, Bool.not_eq_true'] at h
    obtain ⟨ha, hf, hr⟩ := h
    have hc : cutB (x :: l) = cutOne x ++ cutB l := by simp [cutB]
    have hs : (cutOne x).foldl joinStep out = out ++ [x] := by
      cases hk : isTxt x.kind with
      | false => simp only [cutOne, hk, Bool.false_eq_true, if_false, List.foldl_cons, List.foldl_nil]; exact joinStep_plain hk
      | true =>
        obtain ⟨t, m, rfl, hne, hv⟩ := text_form hk hf
        have hb : backB t.data.toList = t.data.toList := back_valid _ _ (Nat.le_refl _) hv
        simp only [cutOne, hk, if_true, Tree.text, Tree.marks]
        unfold backB at hb
        rw [pts_step _ hne] at hb ⊢
        have h1 : joinStep out (pieceT m (Lib.decodeL t.data.toList).1) = out ++ [pieceT m (Lib.decodeL t.data.toList).1] := by
          cases hz : out.getLast? with
          | none =>
            have : out = [] := List.getLast?_eq_none_iff.1 hz
            subst this; exact joinStep_first (piece_text m _)
          | some z =>
            rw [hz] at ha
            simp only [alikeO, alikeB, hk, Bool.true_and] at ha
            have hj : joinsOn z (pieceT m (Lib.decodeL t.data.toList).1) = false := by unfold joinsOn; rw [piece_marks]; exact ha
            exact joinStep_other hz (piece_text m _) hj
        rw [List.map_cons, List.foldl_cons, h1]
        have h3 := cut_fold out m (pts (t.data.toList.drop (Lib.decodeL t.data.toList).2)) ⟨(encL (Lib.decodeL t.data.toList).1).toArray⟩
        have h4 : pieceT m (Lib.decodeL t.data.toList).1 = .mk TEXT ⟨(encL (Lib.decodeL t.data.toList).1).toArray⟩ m [] [] := by rw [pieceT]
        rw [h4, h3]
        rw [List.map_cons, List.flatten_cons] at hb
        rw [back_arr _ _ t hb]
    rw [hc, List.foldl_append, hs, cut_stays l _ (by simpa using hr), List.append_assoc]; rfl
theorem cutB_join (ks : List Tree) (h : rowB none ks = true) : joinB (cutB ks) = ks := by
  have := cut_stays ks [] (by simpa using h)
  simpa [joinB] using this

/-! ### how much -/
theorem pieces_weigh (m : List ByteArray) (ps : List Nat) : weighAll (ps.map (pieceT m)) ≤ ps.length * (weighL m + 10) := by
  induction ps with
  | nil => simp [weighAll]
  | cons r ps ih =>
    have h4 : TEXT.size = 4 := by decide +kernel
    have h5 := encL_le r
    have h6 : (⟨(encL r).toArray⟩ : ByteArray).size = (encL r).length := by simp [ByteArray.size]
    have h7 : weigh (pieceT m r) ≤ weighL m + 10 := by
      simp only [pieceT, weigh, weighP, weighAll, List.map_nil, List.sum_nil, h4, h6]; omega
    simp only [List.map_cons, weighAll, List.length_cons]
    rw [Nat.succ_mul]; omega
theorem pts_le (l : List UInt8) : (pts l).length ≤ l.length := by
  rw [pts_count]
  have := Lib.runeCount_le ⟨l.toArray⟩
  unfold Lib.runeCountL
  simpa [ByteArray.size] using this
theorem cutOne_weigh (x : Tree) : weighAll (cutOne x) ≤ weigh x * (weigh x + 10) := by
  unfold cutOne
  split
  · have h1 := pieces_weigh x.marks (pts x.text.data.toList)
    have h2 := pts_le x.text.data.toList
    have h3 := Lib.size_eq x.text
    have h4 : x.text.size ≤ weigh x := text_le_weigh x
    have h5 : weighL x.marks ≤ weigh x := by obtain ⟨k, t, m, a, l⟩ := x; simp only [weigh, Tree.marks]; omega
    exact Nat.le_trans h1 (Nat.mul_le_mul (by omega) (by omega))
  · simp only [weighAll, Nat.add_zero]
    have : weigh x * 1 ≤ weigh x * (weigh x + 10) := Nat.mul_le_mul_left _ (by omega)
    omega
theorem cutB_weigh (W : Nat) : ∀ ks : List Tree, weighAll ks ≤ W → weighAll (cutB ks) ≤ weighAll ks * (W + 10)
  | [], _ => by simp [cutB, weighAll]
  | x :: l, h => by
    have hc : cutB (x :: l) = cutOne x ++ cutB l := by simp [cutB]
    simp only [weighAll] at h ⊢
    have h1 := cutOne_weigh x
    have h2 := cutB_weigh W l (by omega)
    have h3 : weigh x * (weigh x + 10) ≤ weigh x * (W + 10) := Nat.mul_le_mul_left _ (by omega)
    rw [hc, weighAll_append, Nat.add_mul]; omega
theorem cutB_take (ks : List Tree) (i : Nat) (x : Tree) (h : ks.take (i + 1) = ks.take i ++ [x]) : cutB (ks.take (i + 1)) = cutB (ks.take i) ++ cutOne x := by rw [h, cutB_snoc]
theorem cutB_take_le (ks : List Tree) (i : Nat) : weighAll (cutB (ks.take i)) ≤ weighAll (cutB ks) := by
  have h : cutB ks = cutB (ks.take i) ++ cutB (ks.drop i) := by
    unfold cutB; rw [← List.flatMap_append, List.take_append_drop]
  rw [h, weighAll_append]; omega
end Go.Proofs.YtaepolgmojkglaaDoor

namespace Go.Proofs.YtaepolgmojkglaaDoor
open Go.RowKit Go.Sort

/-! ### where code points end -/
theorem atB_app : ∀ (k : Nat) (a b : List UInt8), a.length ≤ k → Lib.validD a = true → atB (Lib.runeCountL a) (a ++ b) = a.length
  | 0, a, b, hk, _ => by
    have : a = [] := List.eq_nil_of_length_eq_zero (by omega)
    subst this; simp [rc_nil, atB]
  | k + 1, a, b, hk, h => by
    by_cases hne : a = []
    · subst hne; simp [rc_nil, atB]
    · have hv : ¬ ((Lib.decodeL a).1 = 65533 ∧ (Lib.decodeL a).2 = 1) := fun hh => by rw [Lib.validD_step a hne, if_pos hh] at h; cases h
      have h1 : Lib.validD (a.drop (Lib.decodeL a).2) = true := by rw [Lib.validD_step a hne, if_neg hv] at h; exact h
      have hw := Lib.decodeL_width a
      have hle := Lib.decodeL_le a hne
      have hl : 0 < a.length := List.length_pos_iff.2 hne
      have ih := atB_app k (a.drop (Lib.decodeL a).2) b (by rw [List.length_drop]; omega) h1
      rw [rc_step a hne, Nat.add_comm, atB, if_neg (by simp [hne]), decodeL_app a b hne hv, List.drop_append_of_le_length hle, ih, List.length_drop]
      omega
theorem text_cut (a b : ByteArray) (h : Lib.validD a.data.toList = true) : atB (Lib.runeCount a) (a ++ b).data.toList = a.size := by
  rw [← Lib.runeCountL_eq, ByteArray.data_append, Array.toList_append, atB_app _ _ _ (Nat.le_refl _) h, Lib.size_eq]

/-! ### sizes -/
theorem rc_pos {l : List UInt8} (h : l ≠ []) : 0 < Lib.runeCountL l := by rw [rc_step l h]; omega
theorem size_pos {x : Tree} (h : formedB x = true) : 0 < sizeB x := by
  cases hk : isTxt x.kind with
  | false => rw [sizeB_node hk]; omega
  | true =>
    rw [formed_text hk] at h
    rw [sizeB_text hk, ← Lib.runeCountL_eq]
    exact rc_pos (textB_parts h).1
theorem row_tail {p : Option Tree} {x : Tree} {l : List Tree} (h : rowB p (x :: l) = true) : alikeO p x = false ∧ formedB x = true ∧ rowB (some x) l = true := by
  simpa [rowB] using h
theorem row_of {p : Option Tree} {x : Tree} {l : List Tree} (h1 : alikeO p x = false) (h2 : formedB x = true) (h3 : rowB (some x) l = true) : rowB p (x :: l) = true := by
  simp [rowB, h1, h2, h3]
theorem row_none {p : Option Tree} {l : List Tree} (h : rowB p l = true) : rowB none l = true := by
  cases l with
  | nil => simp [rowB]
  | cons x l => obtain ⟨_, h2, h3⟩ := row_tail h; exact row_of rfl h2 h3
theorem row_like {z y : Tree} {l : List Tree} (hk : z.kind = y.kind) (hm : z.marks = y.marks) (h : rowB (some y) l = true) : rowB (some z) l = true := by
  cases l with
  | nil => simp [rowB]
  | cons x l => obtain ⟨h1, h2, h3⟩ := row_tail h; exact row_of (by simpa [alikeO, alike_like hk hm] using h1) h2 h3
theorem rowFormed {p : Option Tree} {l : List Tree} (h : rowB p l = true) : ∀ x ∈ l, formedB x = true := by
  induction l generalizing p with
  | nil => intro x hx; cases hx
  | cons y l ih =>
    obtain ⟨_, h2, h3⟩ := row_tail h
    intro x hx
    rcases List.mem_cons.1 hx with e | e
    · rw [e]; exact h2
    · exact ih h3 x e

/-! ### a text, cut -/
structure Cuts2 (x : Tree) (n : Nat) : Prop where
  lf : formedB (cutL x n) = true
  rf : formedB (cutR x n) = true
  ls : sizeB (cutL x n) = n
  rs : sizeB (cutR x n) + n = sizeB x
  tx : (cutL x n).text ++ (cutR x n).text = x.text
theorem cutL_kind (x : Tree) (n : Nat) : (cutL x n).kind = x.kind := rfl
theorem cutR_kind (x : Tree) (n : Nat) : (cutR x n).kind = x.kind := rfl
theorem cutL_marks (x : Tree) (n : Nat) : (cutL x n).marks = x.marks := rfl
theorem cutR_marks (x : Tree) (n : Nat) : (cutR x n).marks = x.marks := rfl
theorem ext0 (s : ByteArray) (k : Nat) : (s.extract 0 k).data.toList = s.data.toList.take k := by
  simp [List.extract_eq_take_drop]
theorem ext1 (s : ByteArray) (k : Nat) : (s.extract k s.size).data.toList = s.data.toList.drop k := by
  simp only [ByteArray.data_extract, Array.toList_extract, List.extract_eq_take_drop]
  rw [List.take_of_length_le]
  rw [List.length_drop, Lib.size_eq]; omega
theorem cuts2 {x : Tree} {n : Nat} (hk : isTxt x.kind = true) (h : formedB x = true) (h0 : n ≠ 0) (hn : n < sizeB x) : Cuts2 x n := by
  have hf := h
  rw [formed_text hk] at hf
  obtain ⟨h1, h2, h3, h4, h5⟩ := textB_parts hf
  have hs := sizeB_text hk
  rw [← Lib.runeCountL_eq] at hs
  obtain ⟨c1, c2, c3, c4⟩ := cut_valid n x.text.data.toList h2 (by omega)
  have tl : (cutL x n).text.data.toList = x.text.data.toList.take (atB n x.text.data.toList) := ext0 _ _
  have tr : (cutR x n).text.data.toList = x.text.data.toList.drop (atB n x.text.data.toList) := ext1 _ _
  have sl : sizeB (cutL x n) = n := by rw [sizeB_text (x := cutL x n) hk, ← Lib.runeCountL_eq, tl, c3]
  have sr : sizeB (cutR x n) = Lib.runeCountL (x.text.data.toList.drop (atB n x.text.data.toList)) := by rw [sizeB_text (x := cutR x n) hk, ← Lib.runeCountL_eq, tr]
  refine ⟨?_, ?_, sl, by omega, ?_⟩
  · rw [formed_text (t := cutL x n) hk]
    refine textB_of ?_ (by rw [tl]; exact c1) h3 h4 h5
    intro e; rw [tl] at e; rw [e, rc_nil] at c3; omega
  · rw [formed_text (t := cutR x n) hk]
    refine textB_of ?_ (by rw [tr]; exact c2) h3 h4 h5
    intro e; rw [tr] at e; rw [e, rc_nil] at c4; omega
  · apply ByteArray.ext; apply Array.ext'
    rw [ByteArray.data_append, Array.toList_append, tl, tr, List.take_append_drop]
theorem set_cut {x : Tree} {n : Nat} (h : (cutL x n).text ++ (cutR x n).text = x.text) : setText (cutR x n) ((cutL x n).text ++ (cutR x n).text) = x := by
  rw [h]; obtain ⟨k, t, m, a, l⟩ := x; rfl

/-! ### split, and joined -/
theorem step_new {out : List Tree} {x : Tree} (ha : alikeO out.getLast? x = false) (hf : formedB x = true) : joinStep out x = out ++ [x] := by
  cases hk : isTxt x.kind with
  | false => exact joinStep_plain hk
  | true =>
    rw [formed_text hk] at hf
    have he : x.text.toList.isEmpty = false := by
      cases h : x.text.toList.isEmpty with
      | false => rfl
      | true => exact absurd (empty_data.1 h) (textB_parts hf).1
    cases hz : out.getLast? with
    | none =>
      have : out = [] := List.getLast?_eq_none_iff.1 hz
      subst this; exact joinStep_first he
    | some z =>
      rw [hz] at ha
      simp only [alikeO, alikeB, hk, Bool.true_and] at ha
      exact joinStep_other hz he ha
theorem text_ne {x : Tree} (hk : isTxt x.kind = true) (hf : formedB x = true) : x.text.toList.isEmpty = false := by
  rw [formed_text hk] at hf
  cases h : x.text.toList.isEmpty with
  | false => rfl
  | true => exact absurd (empty_data.1 h) (textB_parts hf).1
theorem step_old {out : List Tree} {z x : Tree} (hz : out.getLast? = some z) (ha : alikeB z x = true) (hf : formedB x = true) : joinStep out x = out.dropLast ++ [setText x (z.text ++ x.text)] := by
  simp only [alikeB, Bool.and_eq_true] at ha
  exact joinStep_on hz ha.2.1 (text_ne ha.2.1 hf) (by simp [joinsOn, ha.1, ha.2.2])

/-- What is split of a row that is right. -/
structure Parts (p : Option Tree) (K : List Tree) (n : Nat) (A C : List Tree) : Prop where
  ahead : rowB p A = true
  behind : rowB none C = true
  total : totalB A = n
  all : totalB A + totalB C = totalB K
  deepA : deepB A ≤ deepB K
  deepC : deepB C ≤ deepB K
  join : ∀ out : List Tree, out.getLast? = p → (A ++ C).foldl joinStep out = out ++ K
theorem depth_text {x : Tree} (h : isTxt x.kind = true) : depthB x = 0 := by obtain ⟨k, t, m, a, l⟩ := x; simp only [Tree.kind] at h; simp [depthB, h]
theorem parts_of : ∀ (K : List Tree) (p : Option Tree) (n : Nat) (A C : List Tree), rowB p K = true → splitB K n = (0, A, C) → Parts p K n A C
  | [], p, n, A, C, hr, h => by
    rw [splitB] at h
    split at h
    · rename_i h0
      simp only [Prod.mk.injEq, true_and] at h
      obtain ⟨rfl, rfl⟩ := h
      subst h0; exact ⟨by simp [rowB], by simp [rowB], rfl, rfl, Nat.le_refl _, Nat.le_refl _, fun out _ => by simp⟩
    · simp at h
  | x :: l, p, n, A, C, hr, h => by
    obtain ⟨ha, hf, hl⟩ := row_tail hr
    rw [splitB] at h
    split at h
    · rename_i hs
      unfold preB at h
      split at h
      · rename_i hc
        simp only [Prod.mk.injEq, true_and] at h
        obtain ⟨rfl, rfl⟩ := h
        have ih := parts_of l (some x) (n - sizeB x) (splitB l (n - sizeB x)).2.1 (splitB l (n - sizeB x)).2.2 hl (Prod.ext hc rfl)
        refine ⟨row_of ha hf ih.ahead, ih.behind, ?_, ?_, ?_, ?_, ?_⟩
        · have := ih.total; simp only [List.cons_append, List.nil_append, totalB]; omega
        · have := ih.all; simp only [List.cons_append, List.nil_append, totalB]; omega
        · have := ih.deepA; simp only [List.cons_append, List.nil_append, deepB]; omega
        · have := ih.deepC; simp only [deepB]; omega
        · intro out ho
          subst ho
          rw [List.cons_append, List.nil_append, List.cons_append, List.foldl_cons, step_new ha hf, ih.join _ (by simp), List.append_assoc]; rfl
      · rename_i hc
        simp only [Prod.mk.injEq] at h
        exact absurd h.1 hc
    · rename_i hs
      split at h
      · rename_i h0
        simp only [Prod.mk.injEq, true_and] at h
        obtain ⟨rfl, rfl⟩ := h
        refine ⟨by simp [rowB], row_none hr, by simp [totalB, h0], by simp [totalB], by simp [deepB], Nat.le_refl _, ?_⟩
        intro out ho
        subst ho
        rw [List.nil_append]; exact row_stays _ _ hr
      · rename_i h0
        split at h
        · rename_i hk
          simp only [Prod.mk.injEq, true_and] at h
          obtain ⟨rfl, rfl⟩ := h
          have hc := cuts2 hk hf h0 (by omega)
          refine ⟨row_of ?_ hc.lf (by simp [rowB]), row_of rfl hc.rf (row_like (y := x) rfl rfl hl), ?_, ?_, ?_, ?_, ?_⟩
          · rw [← ha]
            cases p with
            | none => rfl
            | some y => rfl
          · have := hc.ls; simp only [totalB]; omega
          · have := hc.rs; have := hc.ls; simp only [totalB]; omega
          · simp [deepB, depth_text (x := cutL x n) hk]
          · simp only [deepB, depth_text (x := cutR x n) hk, depth_text hk]; omega
          · intro out ho
            subst ho
            have h1 : joinStep out (cutL x n) = out ++ [cutL x n] := step_new (by
              rw [← ha]
              cases out.getLast? with
              | none => rfl
              | some y => rfl) hc.lf
            have h2 : joinStep (out ++ [cutL x n]) (cutR x n) = out ++ [x] := by
              rw [step_old (z := cutL x n) (by simp) (by simp [alikeB, cutL_kind, cutR_kind, cutL_marks, cutR_marks, hk, sameL_all rfl fun _ _ => by simp]) hc.rf, set_cut hc.tx]
              simp
            rw [List.cons_append, List.nil_append, List.foldl_cons, List.foldl_cons, h1, h2, row_stays l _ (by simpa using hl), List.append_assoc]; rfl
        · simp at h
theorem Parts.joins {K : List Tree} {n : Nat} {A C : List Tree} (h : Parts none K n A C) : joinB (A ++ C) = K := by
  have := h.join [] rfl
  simpa [joinB] using this

/-- How a split ends. -/
theorem split_code : ∀ (K : List Tree) (n : Nat), n ≤ totalB K → (splitB K n).1 = 0 ∨ (splitB K n).1 = 10
  | [], n, h => by
    simp only [totalB] at h
    left; rw [splitB, if_pos (by omega)]
  | x :: l, n, h => by
    simp only [totalB] at h
    rw [splitB]
    split
    · have ih := split_code l (n - sizeB x) (by omega)
      unfold preB
      split
      · exact .inl rfl
      · exact ih
    · split
      · exact .inl rfl
      · split
        · exact .inl rfl
        · exact .inr rfl

/-! ### joined, and split -/
theorem split_pre : ∀ (A R : List Tree) (n : Nat), splitB (A ++ R) (totalB A + n) = preB A (splitB R n)
  | [], R, n => by
    rw [List.nil_append, totalB, Nat.zero_add, preB_nil]
    exact splitB_err R n
  | x :: A, R, n => by
    rw [List.cons_append, splitB, totalB, if_pos (by omega), show sizeB x + totalB A + n - sizeB x = totalB A + n by omega, split_pre A R n, preB_pre]; rfl
theorem split_zero {C : List Tree} (h : rowB none C = true) : splitB C 0 = (0, [], C) := by
  cases C with
  | nil => rw [splitB]; rfl
  | cons c C =>
    have := size_pos (row_tail h).2.1
    rw [splitB, if_neg (by omega), if_pos rfl]
theorem join_two {A C : List Tree} (hA : rowB none A = true) : joinB (A ++ C) = C.foldl joinStep A := by
  have := joinB_stays A hA
  unfold joinB at *
  rw [List.foldl_append, this]
/-- Two rows that are right, joined: one behind the other, or both texts that meet as one. -/
theorem join_forms {A C : List Tree} (hA : rowB none A = true) (hC : rowB none C = true) :
    joinB (A ++ C) = A ++ C ∨ ∃ A0 C0 tz tc m, A = A0 ++ [.mk TEXT tz m [] []] ∧ C = .mk TEXT tc m [] [] :: C0 ∧ joinB (A ++ C) = A0 ++ .mk TEXT (tz ++ tc) m [] [] :: C0 ∧
      tz.data.toList ≠ [] ∧ tc.data.toList ≠ [] ∧ Lib.validD tz.data.toList = true := by
  rw [join_two hA]
  cases C with
  | nil => left; simp
  | cons c C =>
    obtain ⟨_, h2, h3⟩ := row_tail hC
    cases hl : alikeO A.getLast? c with
    | false => exact .inl (row_stays _ A (row_of hl h2 h3))
    | true =>
      right
      cases hz : A.getLast? with
      | none => rw [hz] at hl; cases hl
      | some z =>
        rw [hz] at hl
        simp only [alikeO] at hl
        have hl' := hl
        simp only [alikeB, Bool.and_eq_true] at hl'
        have hzf := rowFormed hA z (List.mem_of_getLast? hz)
        obtain ⟨tz, mz, rfl, z1, z2⟩ := text_form hl'.1 hzf
        obtain ⟨tc, mc, rfl, c1, c2⟩ := text_form hl'.2.1 h2
        have hm : mz = mc := sameL_eq hl'.2.2
        subst hm
        refine ⟨A.dropLast, C, tz, tc, mz, dropLast_getLast? hz, rfl, ?_, z1, c1, z2⟩
        have hr : rowB (A.dropLast ++ [setText (Tree.mk TEXT tc mz [] []) (tz ++ tc)]).getLast? C = true := by
          rw [List.getLast?_concat]; exact row_like (y := Tree.mk TEXT tc mz [] []) rfl rfl h3
        rw [List.foldl_cons, step_old hz hl h2]
        have := row_stays C _ hr
        rw [List.append_assoc] at this
        exact this
theorem split_join {A C : List Tree} (hA : rowB none A = true) (hC : rowB none C = true) : splitB (joinB (A ++ C)) (totalB A) = (0, A, C) := by
  rcases join_forms hA hC with h | ⟨A0, C0, tz, tc, m, rfl, rfl, h, z1, c1, z2⟩
  · rw [h]
    have := split_pre A C 0
    rw [Nat.add_zero, split_zero hC] at this
    rw [this]; simp [preB]
  · rw [h]
    have ht : totalB (A0 ++ [Tree.mk TEXT tz m [] []]) = totalB A0 + Lib.runeCount tz := by
      rw [totalB_append]; simp [totalB, sizeB, isTxt_TEXT]
    have hp : 0 < Lib.runeCount tz := by rw [← Lib.runeCountL_eq]; exact rc_pos z1
    have hq : 0 < Lib.runeCount tc := by rw [← Lib.runeCountL_eq]; exact rc_pos c1
    have hs : sizeB (Tree.mk TEXT (tz ++ tc) m [] []) = Lib.runeCount tz + Lib.runeCount tc := by
      rw [sizeB_text (x := Tree.mk TEXT (tz ++ tc) m [] []) isTxt_TEXT]; exact runeCount_app tz tc z2
    rw [ht, split_pre, splitB, if_neg (by omega), if_neg (by omega), if_pos (show isTxt (Tree.mk TEXT (tz ++ tc) m [] []).kind = true from isTxt_TEXT)]
    have hat : atB (Lib.runeCount tz) (tz ++ tc).data.toList = tz.size := text_cut tz tc z2
    have e1 : cutL (Tree.mk TEXT (tz ++ tc) m [] []) (Lib.runeCount tz) = Tree.mk TEXT tz m [] [] := by
      show Tree.mk TEXT ((tz ++ tc).extract 0 (atB (Lib.runeCount tz) (tz ++ tc).data.toList)) m [] [] = _
      rw [hat]
      congr 1
      apply ByteArray.ext; apply Array.ext'
      rw [ext0, ByteArray.data_append, Array.toList_append, List.take_append_of_le_length (by rw [Lib.size_eq]; exact Nat.le_refl _), List.take_of_length_le (by rw [Lib.size_eq]; exact Nat.le_refl _)]
    have e2 : cutR (Tree.mk TEXT (tz ++ tc) m [] []) (Lib.runeCount tz) = Tree.mk TEXT tc m [] [] := by
      show Tree.mk TEXT ((tz ++ tc).extract (atB (Lib.runeCount tz) (tz ++ tc).data.toList) (tz ++ tc).size) m [] [] = _
      rw [hat]
      congr 1
      apply ByteArray.ext; apply Array.ext'
      rw [ext1, ByteArray.data_append, Array.toList_append, List.drop_append_of_le_length (by rw [Lib.size_eq]; exact Nat.le_refl _), List.drop_of_length_le (by rw [Lib.size_eq]; exact Nat.le_refl _), List.nil_append]
    rw [e1, e2, preB, if_pos rfl]
theorem split_in {A D : List Tree} {n : Nat} (hA : rowB none A = true) (hD : rowB none D = true) (h : (splitB D n).1 ≠ 0) : (splitB (joinB (A ++ D)) (totalB A + n)).1 ≠ 0 := by
  have hpre : ∀ (a : List Tree) (r : Spl), r.1 ≠ 0 → (preB a r).1 ≠ 0 := fun a r hr => by unfold preB; rw [if_neg hr]; exact hr
  rcases join_forms hA hD with e | ⟨A0, C0, tz, tc, m, rfl, rfl, e, z1, c1, z2⟩
  · rw [e, split_pre]; exact hpre _ _ h
  · have ht : totalB (A0 ++ [Tree.mk TEXT tz m [] []]) = totalB A0 + Lib.runeCount tz := by
      rw [totalB_append]; simp [totalB, sizeB, isTxt_TEXT]
    have hs : sizeB (Tree.mk TEXT (tz ++ tc) m [] []) = Lib.runeCount tz + Lib.runeCount tc := by
      rw [sizeB_text (x := Tree.mk TEXT (tz ++ tc) m [] []) isTxt_TEXT]; exact runeCount_app tz tc z2
    have hc : sizeB (Tree.mk TEXT tc m [] []) = Lib.runeCount tc := sizeB_text (x := Tree.mk TEXT tc m [] []) isTxt_TEXT
    rw [e, ht, Nat.add_assoc, split_pre]
    refine hpre _ _ ?_
    rw [splitB] at h
    split at h
    · rename_i hn
      have h2 : (splitB C0 (n - sizeB (Tree.mk TEXT tc m [] []))).1 ≠ 0 := fun e => h (by unfold preB; rw [if_pos e])
      rw [splitB, if_pos (by omega), show Lib.runeCount tz + n - sizeB (Tree.mk TEXT (tz ++ tc) m [] []) = n - sizeB (Tree.mk TEXT tc m [] []) by omega]
      exact hpre _ _ h2
    · split at h
      · exact absurd rfl h
      · rw [if_pos (show isTxt (Tree.mk TEXT tc m [] []).kind = true from isTxt_TEXT)] at h; exact absurd rfl h
/-- Split at two places: the later first, or the earlier. -/
theorem split_three {K A D B C : List Tree} {a b : Nat} (hK : rowB none K = true) (h1 : splitB K a = (0, A, D)) (h2 : splitB K b = (0, B, C)) (hab : a ≤ b) :
    ∃ M, splitB D (b - a) = (0, M, C) ∧ splitB B a = (0, A, M) ∧ rowB none M = true ∧ joinB (A ++ M) = B ∧ joinB (M ++ C) = D ∧ totalB M = b - a ∧ deepB M ≤ deepB K := by
  have pA := parts_of K none a A D hK h1
  have pB := parts_of K none b B C hK h2
  have tA := pA.total
  have aA := pA.all
  have tB := pB.total
  have aB := pB.all
  have key : (splitB D (b - a)).1 = 0 := by
    rcases split_code D (b - a) (by omega) with h | h
    · exact h
    · exfalso
      have := split_in pA.ahead pA.behind (n := b - a) (by rw [h]; decide)
      rw [pA.joins, show totalB A + (b - a) = b by omega, h2] at this
      exact this rfl
  have pM := parts_of D none (b - a) (splitB D (b - a)).2.1 (splitB D (b - a)).2.2 pA.behind (Prod.ext key rfl)
  have hs : splitB D (b - a) = (0, (splitB D (b - a)).2.1, (splitB D (b - a)).2.2) := Prod.ext key rfl
  generalize (splitB D (b - a)).2.1 = M at *
  generalize (splitB D (b - a)).2.2 = C' at *
  have tM := pM.total
  have hfm : ∀ x ∈ A ++ M, formedB x = true := fun x hx => by
    rcases List.mem_append.1 hx with e | e
    · exact rowFormed pA.ahead x e
    · exact rowFormed pM.ahead x e
  have hJ : joinB (joinB (A ++ M) ++ C') = K := by
    have e1 := joinB_parts (A ++ M) C'
    rw [joinB_stays C' pM.behind] at e1
    have e2 := joinB_parts A (M ++ C')
    rw [joinB_stays A pA.ahead, pM.joins] at e2
    rw [e1, List.append_assoc, ← e2]; exact pA.joins
  have hS := split_join (joinB_row _ hfm) pM.behind
  rw [hJ, joinB_total _ hfm, totalB_append, show totalB A + totalB M = b by omega, h2] at hS
  simp only [Prod.mk.injEq, true_and] at hS
  obtain ⟨hB, rfl⟩ := hS
  refine ⟨M, hs, ?_, pM.ahead, hB.symm, pM.joins, tM, Nat.le_trans pM.deepA pA.deepC⟩
  have := split_join pA.ahead pM.ahead
  rw [← hB, tA] at this; exact this
theorem kids_row {t : Tree} (hT : isTxt t.kind = false) (hf : formedB t = true) : rowB none t.kids = true := by
  obtain ⟨k, x, ms, a, l⟩ := t
  simp only [Tree.kind, Tree.kids] at *
  rw [formedB, if_neg (by simp [hT]), Bool.and_eq_true] at hf
  exact hf.2
end Go.Proofs.YtaepolgmojkglaaDoor

namespace Go.Proofs.YtaepolgmojkglaaDoor
open Go.RowKit Go.Sort

def escL : List UInt8 → List UInt8
  | [] => []
  | c :: l => if c == 34 || c == 92 then 92 :: c :: escL l else c :: escL l
def quoteL (l : List UInt8) : List UInt8 := 34 :: (escL l ++ [34])
def commaM : List ByteArray → List UInt8
  | [] => []
  | [s] => s.data.toList
  | s :: l => s.data.toList ++ 44 :: commaM l
def marksW (l : List ByteArray) : List UInt8 := if l.isEmpty then [] else 60 :: (commaM l ++ [62])
def attrW (p : ByteArray × ByteArray) : List UInt8 := p.1.data.toList ++ 61 :: quoteL p.2.data.toList
def blankA : List (ByteArray × ByteArray) → List UInt8
  | [] => []
  | [p] => attrW p
  | p :: l => attrW p ++ 32 :: blankA l
def attrsW (l : List (ByteArray × ByteArray)) : List UInt8 := if l.isEmpty then [] else 40 :: (blankA l ++ [41])
def headW (t : Tree) : List UInt8 := if isTxt t.kind then marksW t.marks else t.kind.data.toList ++ attrsW t.attrs
mutual
def writeB : Tree → List UInt8
  | .mk k t m a l => if isTxt k then quoteL t.data.toList ++ marksW m else (k.data.toList ++ attrsW a) ++ 91 :: (writeAllB l ++ [93])
def writeAllB : List Tree → List UInt8
  | [] => []
  | x :: l => writeB x ++ writeAllB l
end

theorem escL_snoc (l : List UInt8) (c : UInt8) : escL (l ++ [c]) = escL l ++ (if c == 34 || c == 92 then [92, c] else [c]) := by
  induction l with
  | nil => simp only [List.nil_append, escL]
  | cons d l ih => simp only [List.cons_append, escL, ih]; split <;> simp
theorem commaM_snoc (l : List ByteArray) (x : ByteArray) : commaM (l ++ [x]) = if l.isEmpty then x.data.toList else commaM l ++ 44 :: x.data.toList := by
  induction l with
  | nil => simp [commaM]
  | cons d l ih =>
    cases l with
    | nil => simp [commaM]
    | cons e l => simp only [List.cons_append, commaM] at ih ⊢; rw [ih]; simp
theorem blankA_snoc (l : List (ByteArray × ByteArray)) (x : ByteArray × ByteArray) : blankA (l ++ [x]) = if l.isEmpty then attrW x else blankA l ++ 32 :: attrW x := by
  induction l with
  | nil => simp [blankA]
  | cons d l ih =>
    cases l with
    | nil => simp [blankA]
    | cons e l => simp only [List.cons_append, blankA] at ih ⊢; rw [ih]; simp
theorem writeAllB_append (a b : List Tree) : writeAllB (a ++ b) = writeAllB a ++ writeAllB b := by
  induction a with
  | nil => simp [writeAllB]
  | cons x l ih => simp only [List.cons_append, writeAllB, ih, List.append_assoc]

/-! ### how long -/
theorem escL_le (l : List UInt8) : (escL l).length ≤ 2 * l.length := by
  induction l with
  | nil => simp [escL]
  | cons c l ih => simp only [escL]; split <;> simp only [List.length_cons] <;> omega
theorem escL_ge (l : List UInt8) : l.length ≤ (escL l).length := by
  induction l with
  | nil => simp [escL]
  | cons c l ih => simp only [escL]; split <;> simp only [List.length_cons] <;> omega
theorem quoteL_le (l : List UInt8) : (quoteL l).length ≤ 2 * l.length + 2 := by have := escL_le l; simp only [quoteL, List.length_cons, List.length_append, List.length_nil]; omega
theorem commaM_le : ∀ l : List ByteArray, (commaM l).length ≤ weighL l
  | [] => by simp [commaM]
  | [s] => by have := Lib.size_eq s; simp only [commaM, weighL, List.map_cons, List.map_nil, List.sum_cons, List.sum_nil]; omega
  | s :: s' :: l => by
    have := commaM_le (s' :: l); have := Lib.size_eq s
    simp only [commaM, weighL, List.map_cons, List.sum_cons, List.length_append, List.length_cons] at *; omega
theorem marksW_le (l : List ByteArray) : (marksW l).length ≤ weighL l + 2 := by
  have := commaM_le l
  unfold marksW; split <;> simp only [List.length_nil, List.length_cons, List.length_append] <;> omega
theorem blankA_le : ∀ l : List (ByteArray × ByteArray), (blankA l).length ≤ 4 * weighP l
  | [] => by simp [blankA]
  | [p] => by
    have := Lib.size_eq p.1; have := Lib.size_eq p.2; have := quoteL_le p.2.data.toList
    simp only [blankA, attrW, weighP, List.map_cons, List.map_nil, List.sum_cons, List.sum_nil, List.length_append, List.length_cons]; omega
  | p :: q :: l => by
    have := blankA_le (q :: l); have := Lib.size_eq p.1; have := Lib.size_eq p.2; have := quoteL_le p.2.data.toList
    simp only [blankA, attrW, weighP, List.map_cons, List.sum_cons, List.length_append, List.length_cons] at *; omega
theorem attrsW_le (l : List (ByteArray × ByteArray)) : (attrsW l).length ≤ 4 * weighP l + 2 := by
  have := blankA_le l
  unfold attrsW; split <;> simp only [List.length_nil, List.length_cons, List.length_append] <;> omega
mutual
theorem writeB_le : ∀ t : Tree, (writeB t).length ≤ 4 * weigh t
  | .mk k t m a l => by
    have h1 := writeAllB_le l
    have h2 := quoteL_le t.data.toList
    have h3 := Lib.size_eq t
    have h4 := Lib.size_eq k
    have h5 := marksW_le m
    have h6 := attrsW_le a
    simp only [writeB, weigh]; split <;> simp only [List.length_append, List.length_cons, List.length_nil] <;> omega
theorem writeAllB_le : ∀ l : List Tree, (writeAllB l).length ≤ 4 * weighAll l
  | [] => by simp [writeAllB]
  | x :: l => by have h1 := writeB_le x; have h2 := writeAllB_le l; simp only [writeAllB, weighAll, List.length_append]; omega
end

/-! ### written alike, the same -/
theorem esc_inj : ∀ (l l' r r' : List UInt8), escL l ++ 34 :: r = escL l' ++ 34 :: r' → l = l' ∧ r = r'
  | [], [], r, r', h => by simpa [escL] using h
  | [], c :: l', r, r', h => by
    simp only [escL] at h
    split at h
    · simp at h
    · rename_i hc
      simp only [List.nil_append, List.cons_append, List.cons.injEq] at h
      exact absurd (by rw [← h.1]; rfl) hc
  | c :: l, [], r, r', h => by
    simp only [escL] at h
    split at h
    · simp at h
    · rename_i hc
      simp only [List.nil_append, List.cons_append, List.cons.injEq] at h
      exact absurd (by rw [h.1]; rfl) hc
  | c :: l, c' :: l', r, r', h => by
    simp only [escL] at h
    split at h
    · split at h
      · simp only [List.cons_append, List.cons.injEq, true_and] at h
        obtain ⟨e, h⟩ := h
        obtain ⟨h1, h2⟩ := esc_inj l l' r r' h
        exact ⟨by rw [e, h1], h2⟩
      · rename_i hc'
        simp only [List.cons_append, List.cons.injEq] at h
        exact absurd (by rw [← h.1]; rfl) hc'
    · rename_i hc
      split at h
      · simp only [List.cons_append, List.cons.injEq] at h
        exact absurd (by rw [h.1]; rfl) hc
      · simp only [List.cons_append, List.cons.injEq] at h
        obtain ⟨e, h⟩ := h
        obtain ⟨h1, h2⟩ := esc_inj l l' r r' h
        exact ⟨by rw [e, h1], h2⟩
theorem quote_inj {l l' r r' : List UInt8} (h : quoteL l ++ r = quoteL l' ++ r') : l = l' ∧ r = r' := by
  simp only [quoteL, List.cons_append, List.append_assoc, List.cons.injEq, true_and, List.nil_append] at h
  exact esc_inj l l' r r' h
theorem letters_inj : ∀ (a b r r' : List UInt8) (x y : UInt8), (∀ c ∈ a, small c = true) → (∀ c ∈ b, small c = true) → small x = false → small y = false → a ++ x :: r = b ++ y :: r' → a = b ∧ x = y ∧ r = r'
  | [], [], r, r', x, y, _, _, _, _, h => by simp at h; exact ⟨rfl, h.1, h.2⟩
  | [], c :: b, r, r', x, y, _, hb, hx, _, h => by
    simp only [List.nil_append, List.cons_append, List.cons.injEq] at h
    have := hb c (by simp); rw [← h.1, hx] at this; cases this
  | c :: a, [], r, r', x, y, ha, _, _, hy, h => by
    simp only [List.nil_append, List.cons_append, List.cons.injEq] at h
    have := ha c (by simp); rw [h.1, hy] at this; cases this
  | c :: a, d :: b, r, r', x, y, ha, hb, hx, hy, h => by
    simp only [List.cons_append, List.cons.injEq] at h
    obtain ⟨h1, h2, h3⟩ := letters_inj a b r r' x y (fun c hc => ha c (by simp [hc])) (fun c hc => hb c (by simp [hc])) hx hy h.2
    exact ⟨by rw [h.1, h1], h2, h3⟩
theorem name_small {s : ByteArray} (h : nameB s = true) : ∀ c ∈ s.data.toList, small c = true := by
  simp only [nameB, Bool.and_eq_true, List.all_eq_true] at h
  exact h.2.2.2
theorem name_ne {s : ByteArray} (h : nameB s = true) : s.data.toList ≠ [] := by
  simp only [nameB, Bool.and_eq_true, decide_eq_true_eq] at h
  have := Lib.size_eq s
  intro e; rw [e, List.length_nil] at this; omega
theorem bytes_of {s t : ByteArray} (h : s.data.toList = t.data.toList) : s = t := ByteArray.ext (Array.ext' h)
theorem marks_names {m : List ByteArray} (h : marksB m = true) : ∀ s ∈ m, nameB s = true := by
  intro s hs
  obtain ⟨i, hi, rfl⟩ := List.getElem_of_mem hs
  simp only [marksB, List.all_eq_true, List.mem_range] at h
  have := h i hi
  simp only [markOk, Bool.and_eq_true, List.getD, List.getElem?_eq_getElem hi, Option.getD_some] at this
  exact this.1
theorem attrs_names {m : List (ByteArray × ByteArray)} (h : attrsB m = true) : ∀ p ∈ m, nameB p.1 = true := by
  intro s hs
  obtain ⟨i, hi, rfl⟩ := List.getElem_of_mem hs
  simp only [attrsB, List.all_eq_true, List.mem_range] at h
  have := h i hi
  simp only [attrOk, pairAt, Bool.and_eq_true, List.getD, List.getElem?_eq_getElem hi, Option.getD_some] at this
  exact this.1
theorem comma_inj : ∀ (m m' : List ByteArray) (r r' : List UInt8), m ≠ [] → m' ≠ [] → (∀ s ∈ m, nameB s = true) → (∀ s ∈ m', nameB s = true) → commaM m ++ 62 :: r = commaM m' ++ 62 :: r' → m = m' ∧ r = r'
  | [], _, _, _, h, _, _, _, _ => absurd rfl h
  | _ :: _, [], _, _, _, h, _, _, _ => absurd rfl h
  | [s], [s'], r, r', _, _, hm, hm', h => by
    obtain ⟨h1, _, h3⟩ := letters_inj _ _ _ _ _ _ (name_small (hm s (by simp))) (name_small (hm' s' (by simp))) (by decide) (by decide) h
    exact ⟨by rw [bytes_of h1], h3⟩
  | [s], s' :: t' :: l', r, r', _, _, hm, hm', h => by
    simp only [commaM, List.append_assoc, List.cons_append] at h
    obtain ⟨_, h2, _⟩ := letters_inj _ _ _ _ _ _ (name_small (hm s (by simp))) (name_small (hm' s' (by simp))) (by decide) (by decide) h
    exact absurd h2 (by decide)
  | s :: t :: l, [s'], r, r', _, _, hm, hm', h => by
    simp only [commaM, List.append_assoc, List.cons_append] at h
    obtain ⟨_, h2, _⟩ := letters_inj _ _ _ _ _ _ (name_small (hm s (by simp))) (name_small (hm' s' (by simp))) (by decide) (by decide) h
    exact absurd h2 (by decide)
  | s :: t :: l, s' :: t' :: l', r, r', _, _, hm, hm', h => by
    simp only [commaM, List.append_assoc, List.cons_append] at h
    obtain ⟨h1, _, h3⟩ := letters_inj _ _ _ _ _ _ (name_small (hm s (by simp))) (name_small (hm' s' (by simp))) (by decide) (by decide) h
    obtain ⟨h4, h5⟩ := comma_inj (t :: l) (t' :: l') r r' (by simp) (by simp) (fun x hx => hm x (by simp [hx])) (fun x hx => hm' x (by simp [hx])) h3
    exact ⟨by rw [bytes_of h1, h4], h5⟩
theorem blank_inj : ∀ (m m' : List (ByteArray × ByteArray)) (r r' : List UInt8), m ≠ [] → m' ≠ [] → (∀ s ∈ m, nameB s.1 = true) → (∀ s ∈ m', nameB s.1 = true) → blankA m ++ 41 :: r = blankA m' ++ 41 :: r' → m = m' ∧ r = r'
  | [], _, _, _, h, _, _, _, _ => absurd rfl h
  | _ :: _, [], _, _, _, h, _, _, _ => absurd rfl h
  | [s], [s'], r, r', _, _, hm, hm', h => by
    simp only [blankA, attrW, List.append_assoc, List.cons_append] at h
    obtain ⟨h1, _, h3⟩ := letters_inj _ _ _ _ _ _ (name_small (hm s (by simp))) (name_small (hm' s' (by simp))) (by decide) (by decide) h
    obtain ⟨h4, h5⟩ := quote_inj h3
    simp only [List.cons.injEq, true_and] at h5
    exact ⟨by rw [Prod.ext (bytes_of h1) (bytes_of h4)], h5⟩
  | [s], s' :: t' :: l', r, r', _, _, hm, hm', h => by
    simp only [blankA, attrW, List.append_assoc, List.cons_append] at h
    obtain ⟨h1, _, h3⟩ := letters_inj _ _ _ _ _ _ (name_small (hm s (by simp))) (name_small (hm' s' (by simp))) (by decide) (by decide) h
    obtain ⟨h4, h5⟩ := quote_inj h3
    simp only [List.cons.injEq] at h5
    exact absurd h5.1 (by decide)
  | s :: t :: l, [s'], r, r', _, _, hm, hm', h => by
    simp only [blankA, attrW, List.append_assoc, List.cons_append] at h
    obtain ⟨h1, _, h3⟩ := letters_inj _ _ _ _ _ _ (name_small (hm s (by simp))) (name_small (hm' s' (by simp))) (by decide) (by decide) h
    obtain ⟨h4, h5⟩ := quote_inj h3
    simp only [List.cons.injEq] at h5
    exact absurd h5.1 (by decide)
  | s :: t :: l, s' :: t' :: l', r, r', _, _, hm, hm', h => by
    simp only [blankA, attrW, List.append_assoc, List.cons_append] at h
    obtain ⟨h1, _, h3⟩ := letters_inj _ _ _ _ _ _ (name_small (hm s (by simp))) (name_small (hm' s' (by simp))) (by decide) (by decide) h
    obtain ⟨h4, h5⟩ := quote_inj h3
    simp only [List.cons.injEq, true_and] at h5
    obtain ⟨h6, h7⟩ := blank_inj (t :: l) (t' :: l') r r' (by simp) (by simp) (fun x hx => hm x (by simp [hx])) (fun x hx => hm' x (by simp [hx])) h5
    exact ⟨by rw [Prod.ext (bytes_of h1) (bytes_of h4), h6], h7⟩
/-- What may stand behind a node. -/
def Aft (r : List UInt8) : Prop := ∀ c, r.head? = some c → c ≠ 60
theorem marks_inj (m m' : List ByteArray) (r r' : List UInt8) (hm : ∀ s ∈ m, nameB s = true) (hm' : ∀ s ∈ m', nameB s = true) (hr : Aft r) (hr' : Aft r') (h : marksW m ++ r = marksW m' ++ r') : m = m' ∧ r = r' := by
  unfold marksW at h
  cases m with
  | nil =>
    cases m' with
    | nil => exact ⟨rfl, by simpa using h⟩
    | cons s' l' =>
      simp at h
      exact absurd rfl (hr 60 (by rw [h]; rfl))
  | cons s l =>
    cases m' with
    | nil =>
      simp at h
      exact absurd rfl (hr' 60 (by rw [← h]; rfl))
    | cons s' l' =>
      simp only [List.isEmpty_cons, Bool.false_eq_true, if_false, List.cons_append, List.append_assoc, List.nil_append, List.cons.injEq, true_and] at h
      exact comma_inj (s :: l) (s' :: l') r r' (by simp) (by simp) hm hm' h
theorem attrs_inj (m m' : List (ByteArray × ByteArray)) (r r' : List UInt8) (hm : ∀ s ∈ m, nameB s.1 = true) (hm' : ∀ s ∈ m', nameB s.1 = true) (h : attrsW m ++ 91 :: r = attrsW m' ++ 91 :: r') : m = m' ∧ r = r' := by
  unfold attrsW at h
  cases m with
  | nil =>
    cases m' with
    | nil => exact ⟨rfl, by simpa using h⟩
    | cons s' l' => simp at h
  | cons s l =>
    cases m' with
    | nil => simp at h
    | cons s' l' =>
      simp only [List.isEmpty_cons, Bool.false_eq_true, if_false, List.cons_append, List.append_assoc, List.nil_append, List.cons.injEq, true_and] at h
      obtain ⟨h1, h2⟩ := blank_inj (s :: l) (s' :: l') _ _ (by simp) (by simp) hm hm' h
      simp only [List.cons.injEq, true_and] at h2
      exact ⟨h1, h2⟩
/-! ### trees -/
theorem text_parts {k t : ByteArray} {m : List ByteArray} {a : List (ByteArray × ByteArray)} {l : List Tree} (hk : isTxt k = true) (h : formedB (.mk k t m a l) = true) : marksB m = true ∧ a = [] ∧ l = [] := by
  rw [formedB_text hk] at h
  obtain ⟨_, _, h3, h4, h5⟩ := textB_parts h
  exact ⟨h3, List.eq_nil_of_length_eq_zero h4, List.eq_nil_of_length_eq_zero h5⟩
theorem node_parts {k t : ByteArray} {m : List ByteArray} {a : List (ByteArray × ByteArray)} {l : List Tree} (hk : isTxt k = false) (h : formedB (.mk k t m a l) = true) : nameB k = true ∧ t.data.toList = [] ∧ m = [] ∧ attrsB a = true ∧ rowB none l = true := by
  rw [formedB_node hk] at h
  simp only [headB, Bool.and_eq_true, Tree.kind, Tree.text, Tree.marks, Tree.attrs] at h
  exact ⟨h.1.1, empty_data.1 h.1.2.1, List.eq_nil_of_length_eq_zero (of_decide_eq_true h.1.2.2.1), h.1.2.2.2, h.2⟩
theorem txt_eq {k k' : ByteArray} (h : isTxt k = true) (h' : isTxt k' = true) : k = k' := by
  unfold isTxt at h h'
  rw [beq_iff_eq, Lib.toList_data] at h h'
  exact bytes_of (h.trans h'.symm)
theorem row_all : ∀ (l : List Tree) (p : Option Tree), rowB p l = true → ∀ x ∈ l, formedB x = true
  | [], _, _, x, hx => by cases hx
  | y :: l, p, h, x, hx => by
    simp only [rowB, Bool.and_eq_true] at h
    rcases List.mem_cons.1 hx with e | e
    · subst e; exact h.2.1
    · exact row_all l (some y) h.2.2 x e
/-- The first sign of a node. -/
theorem write_head (x : Tree) (h : formedB x = true) : ∃ c r, writeB x = c :: r ∧ ((isTxt x.kind = true ∧ c = 34) ∨ (isTxt x.kind = false ∧ small c = true)) := by
  obtain ⟨k, t, m, a, l⟩ := x
  cases hk : isTxt k with
  | true => exact ⟨34, escL t.data.toList ++ [34] ++ marksW m, by simp only [writeB, hk, if_true, quoteL, List.cons_append], .inl ⟨hk, rfl⟩⟩
  | false =>
    obtain ⟨h1, _⟩ := node_parts hk h
    have hn := name_ne h1
    have hs := name_small h1
    cases hd : k.data.toList with
    | nil => exact absurd hd hn
    | cons c r =>
      refine ⟨c, r ++ attrsW a ++ 91 :: (writeAllB l ++ [93]), ?_, .inr ⟨hk, hs c (by rw [hd]; simp)⟩⟩
      simp only [writeB, hk, Bool.false_eq_true, if_false, hd, List.cons_append]
theorem small_ne {c : UInt8} (h : small c = true) : c ≠ 34 ∧ c ≠ 93 ∧ c ≠ 60 := by
  refine ⟨?_, ?_, ?_⟩ <;> (rintro rfl; exact absurd h (by decide))
theorem aft_all (l : List Tree) (r : List UInt8) (h : ∀ x ∈ l, formedB x = true) (hr : Aft r) : Aft (writeAllB l ++ r) := by
  cases l with
  | nil => simpa [writeAllB] using hr
  | cons x l =>
    obtain ⟨c, s, e, hc⟩ := write_head x (h x (by simp))
    intro d hd
    simp only [writeAllB, e, List.cons_append, List.head?_cons, Option.some.injEq] at hd
    subst hd
    rcases hc with ⟨_, rfl⟩ | ⟨_, hc⟩
    · decide
    · exact (small_ne hc).2.2
theorem aft_93 (r : List UInt8) : Aft (93 :: r) := by intro c hc; simp at hc; subst hc; decide

mutual
theorem write_inj : ∀ (t t' : Tree) (r r' : List UInt8), formedB t = true → formedB t' = true → Aft r → Aft r' → writeB t ++ r = writeB t' ++ r' → t = t' ∧ r = r'
  | .mk k t m a l, .mk k' t' m' a' l', r, r', h, h', hr, hr', e => by
    cases hk : isTxt k with
    | true =>
      cases hk' : isTxt k' with
      | true =>
        obtain ⟨p1, rfl, rfl⟩ := text_parts hk h
        obtain ⟨q1, rfl, rfl⟩ := text_parts hk' h'
        simp only [writeB, hk, hk', if_true, List.append_assoc] at e
        obtain ⟨e1, e2⟩ := quote_inj e
        obtain ⟨e3, e4⟩ := marks_inj m m' r r' (marks_names p1) (marks_names q1) hr hr' e2
        exact ⟨by rw [txt_eq hk hk', bytes_of e1, e3], e4⟩
      | false =>
        obtain ⟨c, s, e1, e2⟩ := write_head _ h
        obtain ⟨c', s', e3, e4⟩ := write_head _ h'
        rw [e1, e3, List.cons_append, List.cons_append] at e
        have e5 := (List.cons.inj e).1
        rcases e2 with ⟨_, rfl⟩ | ⟨e2, _⟩
        · rcases e4 with ⟨e4, _⟩ | ⟨_, e4⟩
          · rw [show (Tree.mk k' t' m' a' l').kind = k' from rfl, hk'] at e4; cases e4
          · exact absurd e5.symm (small_ne e4).1
        · rw [show (Tree.mk k t m a l).kind = k from rfl, hk] at e2; cases e2
    | false =>
      cases hk' : isTxt k' with
      | true =>
        obtain ⟨c, s, e1, e2⟩ := write_head _ h
        obtain ⟨c', s', e3, e4⟩ := write_head _ h'
        rw [e1, e3, List.cons_append, List.cons_append] at e
        have e5 := (List.cons.inj e).1
        rcases e4 with ⟨_, rfl⟩ | ⟨e4, _⟩
        · rcases e2 with ⟨e2, _⟩ | ⟨_, e2⟩
          · rw [show (Tree.mk k t m a l).kind = k from rfl, hk] at e2; cases e2
          · exact absurd e5 (small_ne e2).1
        · rw [show (Tree.mk k' t' m' a' l').kind = k' from rfl, hk'] at e4; cases e4
      | false =>
        obtain ⟨p1, p2, rfl, p4, p5⟩ := node_parts hk h
        obtain ⟨q1, q2, rfl, q4, q5⟩ := node_parts hk' h'
        simp only [writeB, hk, hk', Bool.false_eq_true, if_false, List.append_assoc, List.cons_append, List.nil_append] at e
        have key : ∀ (b : List (ByteArray × ByteArray)) (s : List UInt8), ∃ x y, small x = false ∧ attrsW b ++ 91 :: s = x :: y := fun b s => by
          unfold attrsW; split
          · exact ⟨91, s, by decide, rfl⟩
          · exact ⟨40, _, by decide, rfl⟩
        obtain ⟨x, y, hx, ex⟩ := key a (writeAllB l ++ 93 :: r)
        obtain ⟨x', y', hx', ex'⟩ := key a' (writeAllB l' ++ 93 :: r')
        have e' := e
        rw [ex, ex'] at e'
        obtain ⟨e1, e2, e3⟩ := letters_inj _ _ _ _ _ _ (name_small p1) (name_small q1) hx hx' e'
        rw [e1] at e
        have e4 := List.append_cancel_left e
        obtain ⟨e5, e6⟩ := attrs_inj a a' _ _ (attrs_names p4) (attrs_names q4) e4
        obtain ⟨e7, e8⟩ := writeAll_inj l l' r r' (row_all l none p5) (row_all l' none q5) e6
        exact ⟨by rw [bytes_of e1, bytes_of (p2.trans q2.symm), e5, e7], e8⟩
theorem writeAll_inj : ∀ (l l' : List Tree) (r r' : List UInt8), (∀ x ∈ l, formedB x = true) → (∀ x ∈ l', formedB x = true) → writeAllB l ++ 93 :: r = writeAllB l' ++ 93 :: r' → l = l' ∧ r = r'
  | [], [], r, r', _, _, e => by simpa [writeAllB] using e
  | [], y :: l', r, r', _, h', e => by
    obtain ⟨c, s, e1, e2⟩ := write_head y (h' y (by simp))
    simp only [writeAllB, e1, List.nil_append, List.cons_append, List.cons.injEq] at e
    rcases e2 with ⟨_, rfl⟩ | ⟨_, e2⟩
    · exact absurd e.1 (by decide)
    · exact absurd e.1.symm (small_ne e2).2.1
  | x :: l, [], r, r', h, _, e => by
    obtain ⟨c, s, e1, e2⟩ := write_head x (h x (by simp))
    simp only [writeAllB, e1, List.nil_append, List.cons_append, List.cons.injEq] at e
    rcases e2 with ⟨_, rfl⟩ | ⟨_, e2⟩
    · exact absurd e.1 (by decide)
    · exact absurd e.1 (small_ne e2).2.1
  | x :: l, y :: l', r, r', h, h', e => by
    simp only [writeAllB, List.append_assoc] at e
    obtain ⟨e1, e2⟩ := write_inj x y _ _ (h x (by simp)) (h' y (by simp)) (aft_all l _ (fun z hz => h z (by simp [hz])) (aft_93 r)) (aft_all l' _ (fun z hz => h' z (by simp [hz])) (aft_93 r')) e
    obtain ⟨e3, e4⟩ := writeAll_inj l l' r r' (fun z hz => h z (by simp [hz])) (fun z hz => h' z (by simp [hz])) e2
    exact ⟨by rw [e1, e3], e4⟩
end
theorem writeB_inj {t t' : Tree} (h : formedB t = true) (h' : formedB t' = true) (e : writeB t = writeB t') : t = t' :=
  (write_inj t t' [] [] h h' (by intro c hc; cases hc) (by intro c hc; cases hc) (by rw [e])).1
end Go.Proofs.YtaepolgmojkglaaDoor
