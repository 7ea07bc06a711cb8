/-
  What a text that grows (strings.Builder) answers, and node.Words.
  What the document's own Join answers.
  Rows of nodes that are joined are right: plain facts (no program is named here).
  How nodes are written, as plain functions on trees; two right nodes are written alike just if they are the same (no program is named here).
  Lists of nothing; a row of one node.
  What the codec's writing calls answer: Quote, Head, Print.
  What the codec's writing calls answer: writeMarks, writeAttrs, writeHead, writeAll, written, Print.
-/
import Derived.Test.YtggoebbfgkebcaaGreatDoorW6
import Derived.Shelf.Strings.BuilderK
import Derived.Test.YtggoebbfgkebcaaGreatDoorW7
import Derived.Deep.RegionLaw
import Derived.Deep.DeepCutAuto
import Derived.Lib.ValidLaws
namespace Go.Proofs.YtggoebbfgkebcaaGreatDoor
open Go.RowKit Go.Sort

def renWrite : Go.Shelf.Ren := ⟨fun | 166 => 16 | 240 => 34 | 276 => 56 | n => n,
  fun | 0 => 0 | 3 => 3 | 4 => 4 | 9 => 9 | 20 => 20 | 37 => 43 | 70 => 42 | 72 => 45 | 75 => 50 | 164 => 89 | 5 => 5 | 80 => 54 | n => n, fun | n => n⟩
theorem laysWrite : Lays.n166 Tryz.prog renWrite := {
  mixed := by kernel_rfl
  f166 := Tryz.func16.trans (congrArg some (by kernel_rfl))
  f240 := Tryz.func34.trans (congrArg some (by kernel_rfl))
  f276 := Tryz.func56.trans (congrArg some (by kernel_rfl))
  t0 := Tryz.underlying0
  a0 := Tryz.isAgg0
  z0 := Tryz.sizeOf0
  v0 := Tryz.zeroValue0
  t3 := Tryz.underlying3
  a3 := Tryz.isAgg3
  z3 := Tryz.sizeOf3
  v3 := Tryz.zeroValue3
  t4 := Tryz.underlying4
  a4 := Tryz.isAgg4
  z4 := Tryz.sizeOf4
  v4 := Tryz.zeroValue4
  t9 := Tryz.underlying9
  a9 := Tryz.isAgg9
  z9 := Tryz.sizeOf9
  v9 := Tryz.zeroValue9
  t20 := Tryz.underlying20
  a20 := Tryz.isAgg20
  z20 := Tryz.sizeOf20
  v20 := Tryz.zeroValue20
  t37 := Tryz.underlying43
  a37 := Tryz.isAgg43
  z37 := Tryz.sizeOf43
  v37 := Tryz.zeroValue43
  t70 := Tryz.underlying42
  a70 := Tryz.isAgg42
  z70 := Tryz.sizeOf42
  v70 := Tryz.zeroValue42
  t72 := Tryz.underlying45
  a72 := Tryz.isAgg45
  z72 := Tryz.sizeOf45
  v72 := Tryz.zeroValue45
  t75 := Tryz.underlying50
  a75 := Tryz.isAgg50
  z75 := Tryz.sizeOf50
  v75 := Tryz.zeroValue50
  t164 := Tryz.underlying89
  a164 := Tryz.isAgg89
  z164 := Tryz.sizeOf89
  v164 := Tryz.zeroValue89 }
theorem extraWrite : Builder.Extra Tryz.prog renWrite := {
  sizeBuilder := by kernel_rfl
  liesBuilder := by kernel_rfl
  t5 := Tryz.underlying5
  a5 := Tryz.isAgg5
  z5 := Tryz.sizeOf5
  v5 := Tryz.zeroValue5
  infoByte := by kernel_rfl
  cellsByte := by kernel_rfl
  sizeByte := by kernel_rfl
  neB5 := by decide }
def renString : Go.Shelf.Ren := ⟨fun | 169 => 18 | n => n, fun | 70 => 42 | 72 => 45 | 37 => 43 | 127 => 75 | 5 => 5 | 0 => 0 | 3 => 3 | 9 => 9 | n => n, fun | n => n⟩
theorem laysString : Lays.n169 Tryz.prog renString := {
  mixed := by kernel_rfl
  f169 := Tryz.func18.trans (congrArg some (by kernel_rfl))
  t0 := Tryz.underlying0
  a0 := Tryz.isAgg0
  z0 := Tryz.sizeOf0
  v0 := Tryz.zeroValue0
  t3 := Tryz.underlying3
  a3 := Tryz.isAgg3
  z3 := Tryz.sizeOf3
  v3 := Tryz.zeroValue3
  t9 := Tryz.underlying9
  a9 := Tryz.isAgg9
  z9 := Tryz.sizeOf9
  v9 := Tryz.zeroValue9
  t37 := Tryz.underlying43
  a37 := Tryz.isAgg43
  z37 := Tryz.sizeOf43
  v37 := Tryz.zeroValue43
  t70 := Tryz.underlying42
  a70 := Tryz.isAgg42
  z70 := Tryz.sizeOf42
  v70 := Tryz.zeroValue42
  t72 := Tryz.underlying45
  a72 := Tryz.isAgg45
  z72 := Tryz.sizeOf45
  v72 := Tryz.zeroValue45
  t127 := Tryz.underlying75
  a127 := Tryz.isAgg75
  z127 := Tryz.sizeOf75
  v127 := Tryz.zeroValue75 }
theorem extraString : Builder.Extra Tryz.prog renString := {
  sizeBuilder := by kernel_rfl
  liesBuilder := by kernel_rfl
  t5 := Tryz.underlying5
  a5 := Tryz.isAgg5
  z5 := Tryz.sizeOf5
  v5 := Tryz.zeroValue5
  infoByte := by kernel_rfl
  cellsByte := by kernel_rfl
  sizeByte := by kernel_rfl
  neB5 := by decide }

/-- A builder in block b, that holds the bytes l. -/
def Buil (w : World) (B b : Nat) (l : List UInt8) : Prop := Lib.IsBuilderF 45 5 B b (Lib.byteCells l) w
def Rest (b : Nat) (w w' : World) : Prop := Lib.OthersKept 5 (some b) w w'
theorem Rest.trans {b : Nat} {a c d : World} (h : Rest b a c) (k : Rest b c d) : Rest b a d := Lib.OthersKept.trans h k
theorem Rest.refl (b : Nat) (w : World) : Rest b w w := Lib.OthersKept.refl _ _ _
theorem Rest.of_below {b : Nat} {w w' : World} (h : Below w.heap.size w w') : Rest b w w' :=
  fun k _ hk _ _ => (h.block k (Array.getElem?_eq_some_iff.1 hk).1).trans hk
theorem Buil.at_below {w w' : World} {B b : Nat} {p : Value} {xs : List Value} (h : Lib.BuilderAtF 45 5 B b p xs w) (hb : Below w.heap.size w w') : Lib.BuilderAtF 45 5 B b p xs w' := by
  obtain ⟨hB, v, hbk, hown, hne⟩ := h
  refine ⟨hB, v, (hb.block b (Array.getElem?_eq_some_iff.1 hbk).1).trans hbk, ⟨hown.1, ?_⟩, hne⟩
  rcases hown.2 with hn | ⟨g, cap, cur, fz, hv, hbg, hg, rest⟩
  · exact .inl hn
  · exact .inr ⟨g, cap, cur, fz, hv, hbg, (hb.block g (Array.getElem?_eq_some_iff.1 hg).1).trans hg, rest⟩
theorem Buil.below {w w' : World} {B b : Nat} {l : List UInt8} (h : Buil w B b l) (hb : Below w.heap.size w w') : Buil w' B b l :=
  Or.elim h (fun x => .inl (Buil.at_below x hb)) (fun x => .inr (Buil.at_below x hb))

theorem write_any (B b : Nat) (l : List UInt8) (s : ByteArray) (w : World) (h : Buil w B b l) (hlen : l.length + s.size ≤ 100000000) (hBw : B ≤ w.heap.size) :
    Calls Tryz.prog 16 #[.pointer (some ⟨b, 0, none⟩), .string s] w fun e w' => e = .returned (.tuple #[.int .i64 s.size, .nilIface]) ∧ Buil w' B b (l ++ s.data.toList) ∧ Below B w w' ∧ Rest b w w' := by
  refine (Any.Builder_WriteString_k laysWrite extraWrite B b (Lib.byteCells l) s w h (by rw [Lib.byteCells_length]; omega) hBw).mono ?_
  rintro e w' ⟨rfl, h1, hb, hk⟩
  refine ⟨rfl, ?_, hb, hk⟩
  rw [Lib.strCells_eq, ← Lib.byteCells_append] at h1
  exact Or.inr h1
theorem string_any (B b : Nat) (l : List UInt8) (w : World) (h : Buil w B b l) (hBw : B ≤ w.heap.size) :
    Calls Tryz.prog 18 #[.pointer (some ⟨b, 0, none⟩)] w fun e w' => e = .returned (.string ⟨l.toArray⟩) ∧ Buil w' B b l ∧ Below B w w' ∧ Rest b w w' :=
  (Any.Builder_String_any_k laysString extraString B b l w h hBw).mono fun _ _ ⟨he, h1, hb, hk⟩ => ⟨he, h1, hb, hk⟩

mutual
def wordsB : Tree → List UInt8
  | .mk k t _ _ l => if isTxt k then t.data.toList else wordsAll l
def wordsAll : List Tree → List UInt8
  | [] => []
  | x :: l => wordsB x ++ wordsAll l
end
theorem wordsAll_append (a b : List Tree) : wordsAll (a ++ b) = wordsAll a ++ wordsAll b := by
  induction a with
  | nil => simp [wordsAll]
  | cons x l ih => simp only [List.cons_append, wordsAll, ih, List.append_assoc]
mutual
theorem words_le_weigh : ∀ t : Tree, (wordsB t).length ≤ weigh t
  | .mk k t m a l => by
    have h1 := wordsAll_le_weigh l
    have h2 := Lib.size_eq t
    simp only [wordsB, weigh]; split <;> omega
theorem wordsAll_le_weigh : ∀ l : List Tree, (wordsAll l).length ≤ weighAll l
  | [] => by simp [wordsAll]
  | x :: l => by have h1 := words_le_weigh x; have h2 := wordsAll_le_weigh l; simp only [wordsAll, weighAll, List.length_append]; omega
end
end Go.Proofs.YtggoebbfgkebcaaGreatDoor

namespace Go.Proofs.YtggoebbfgkebcaaGreatDoor
open Go.RowKit Go.Sort

def setText (t : Tree) (s : ByteArray) : Tree := .mk t.kind s t.marks t.attrs t.kids
def joinsOn (z n : Tree) : Bool := isTxt z.kind && sameL z.marks n.marks
def joinStep (out : List Tree) (n : Tree) : List Tree :=
  if isTxt n.kind && n.text.toList.isEmpty then out
  else match out.getLast? with
    | some z => if isTxt n.kind && joinsOn z n then out.dropLast ++ [setText n (z.text ++ n.text)] else out ++ [n]
    | none => out ++ [n]
def joinB (l : List Tree) : List Tree := l.foldl joinStep []

theorem joinB_snoc (l : List Tree) (x : Tree) : joinB (l ++ [x]) = joinStep (joinB l) x := by simp [joinB, List.foldl_append]
theorem weigh_setText (n : Tree) (s : ByteArray) : weigh (setText n s) + n.text.size = weigh n + s.size := by
  obtain ⟨k, t, m, a, l⟩ := n; simp only [setText, weigh, Tree.kind, Tree.text, Tree.marks, Tree.attrs, Tree.kids]; omega
theorem text_le_weigh (n : Tree) : n.text.size ≤ weigh n := by obtain ⟨k, t, m, a, l⟩ := n; simp only [weigh, Tree.text]; omega
theorem dropLast_getLast? {α : Type} {l : List α} {z : α} (h : l.getLast? = some z) : l = l.dropLast ++ [z] := by
  obtain ⟨l', rfl⟩ := List.getLast?_eq_some_iff.1 h
  simp
theorem joinStep_weigh (out : List Tree) (n : Tree) : weighAll (joinStep out n) ≤ weighAll out + weigh n := by
  unfold joinStep
  split
  · omega
  · split
    · rename_i z hz
      split
      · have h := dropLast_getLast? hz
        have h1 := congrArg weighAll h
        rw [weighAll_append] at h1 ⊢
        simp only [weighAll] at h1 ⊢
        have h2 := weigh_setText n (z.text ++ n.text)
        have h3 := text_le_weigh z
        have h4 : (z.text ++ n.text).size = z.text.size + n.text.size := ByteArray.size_append
        omega
      · rw [weighAll_append]; simp only [weighAll]; omega
    · rw [weighAll_append]; simp only [weighAll]; omega
theorem joinFold_weigh : ∀ (l out : List Tree), weighAll (l.foldl joinStep out) ≤ weighAll out + weighAll l
  | [], out => by simp [weighAll]
  | x :: l, out => by
    have h := joinFold_weigh l (joinStep out x)
    have h2 := joinStep_weigh out x
    simp only [List.foldl_cons, weighAll]; omega
theorem joinB_weigh (l : List Tree) : weighAll (joinB l) ≤ weighAll l := by have := joinFold_weigh l []; simp only [weighAll] at this; unfold joinB; omega

def JoinPost (w : World) (S : Nat → Prop) (l : List Tree) (e : Ending) (w' : World) : Prop := ∃ v', e = .returned v' ∧ Own w' w.heap.size S v' l ∧ Below w.heap.size w w'

/-- What a round of Join holds: the row so far. -/
def JoinRel (w : World) (S : Nat → Prop) (l : List Tree) (v : Value) (wr : World) : Prop := Own wr w.heap.size S v l ∧ Below w.heap.size w wr

theorem own_nil (w : World) (base : Nat) (S : Nat → Prop) : Own w base S (.slice none 0 0) [] := ⟨[], ⟨rfl, .inl ⟨rfl, rfl⟩⟩, rfl⟩
theorem Own.form {w : World} {base : Nat} {S : Nat → Prop} {v : Value} {l : List Tree} (h : Own w base S v l) :
    ∃ A c, v = .slice A l.length c ∧ l.length ≤ c ∧ (A = none ∧ l = [] ∨ ∃ g, A = some ⟨g, 0, none⟩ ∧ base ≤ g ∧ g < w.heap.size) := by
  obtain ⟨xs, ⟨_, ho⟩, hc⟩ := h
  rcases ho with ⟨rfl, hn⟩ | ⟨g, cap, cur, rfl, hb, hh, hnc, _⟩
  · have : l = [] := List.eq_nil_of_length_eq_zero hn
    subst this
    exact ⟨none, 0, rfl, Nat.le_refl _, .inl ⟨rfl, rfl⟩⟩
  · refine ⟨_, cap, rfl, hnc, .inr ⟨g, rfl, hb, ?_⟩⟩
    rcases Nat.lt_or_ge g w.heap.size with h | h
    · exact h
    · rw [Array.getElem?_eq_none h] at hh; cases hh

theorem Own.later {w w' : World} {base : Nat} {S : Nat → Prop} {v : Value} {l : List Tree} (h : Own w base S v l) (hb : Below w.heap.size w w') (hS : ∀ b, S b → b < w.heap.size) : Own w' base S v l := by
  obtain ⟨xs, ⟨hl, ho⟩, hc⟩ := h
  refine ⟨xs, ⟨hl, ?_⟩, hc.keep (fun _ h => h) fun b hb' => hb.block b (hS b hb')⟩
  rcases ho with h | ⟨g, cap, cur, rfl, hg, hh, hr⟩
  · exact .inl h
  · refine .inr ⟨g, cap, cur, rfl, hg, ?_, hr⟩
    rw [hb.block g, hh]
    rcases Nat.lt_or_ge g w.heap.size with h | h
    · exact h
    · rw [Array.getElem?_eq_none h] at hh; cases hh
theorem src_one {w : World} {S : Nat → Prop} {x : Tree} {vm va vk : Value} {g c : Nat} (hm : Strs w S vm x.marks) (ha : Pairs w S va x.attrs) (hk : Kids w S vk x.kids)
    (c0 : w.cell? ⟨g, 0, none⟩ = some (.string x.kind)) (c1 : w.cell? ⟨g, 1, none⟩ = some (.string x.text)) (c2 : w.cell? ⟨g, 2, none⟩ = some vm) (c3 : w.cell? ⟨g, 3, none⟩ = some va) (c4 : w.cell? ⟨g, 4, none⟩ = some vk) :
    Src w S (.slice (some ⟨g, 0, none⟩) 1 c) [x] :=
  ⟨_, c, _, rfl, Cells.one hm ha hk, .inr ⟨g, 0, rfl, fun j u hj => by
    match j, hj with
    | 0, hj => simp at hj; subst hj; exact c0
    | 1, hj => simp at hj; subst hj; exact c1
    | 2, hj => simp at hj; subst hj; exact c2
    | 3, hj => simp at hj; subst hj; exact c3
    | 4, hj => simp at hj; subst hj; exact c4
    | j + 5, hj => simp at hj⟩⟩

theorem joinStep_empty {out : List Tree} {n : Tree} (h : isTxt n.kind = true) (ht : n.text.toList.isEmpty = true) : joinStep out n = out := by
  unfold joinStep; rw [h, ht]; rfl
theorem joinStep_first {n : Tree} (ht : n.text.toList.isEmpty = false) : joinStep [] n = [n] := by
  unfold joinStep; rw [ht]; simp
theorem joinStep_other {out : List Tree} {n z : Tree} (hz : out.getLast? = some z) (ht : n.text.toList.isEmpty = false) (h : joinsOn z n = false) : joinStep out n = out ++ [n] := by
  unfold joinStep; rw [ht, hz]; simp [h]
theorem joinStep_on {out : List Tree} {n z : Tree} (hz : out.getLast? = some z) (hk : isTxt n.kind = true) (ht : n.text.toList.isEmpty = false) (h : joinsOn z n = true) : joinStep out n = out.dropLast ++ [setText n (z.text ++ n.text)] := by
  unfold joinStep; rw [ht, hz, hk]; simp [h]
theorem joinStep_plain {out : List Tree} {n : Tree} (h : isTxt n.kind = false) : joinStep out n = out ++ [n] := by
  unfold joinStep; rw [h]; cases out.getLast? <;> simp

theorem same_drawn {W : World} {S S' : Nat → Prop} {va vb : Value} {a b : List ByteArray} (ha : Strs W S va a) (hb : Strs W S' vb b) (hwa : weighL a ≤ 1000000) (n : Nat) :
    Calls Tryz.prog 46 #[va, vb] (W.drewN n) fun e w' => e = .returned (.bool (sameL a b)) ∧ ∃ m, w' = (W.drewN n).drewN m :=
  sameNames_any va vb a b S S' (W.drewN n) (ha.keep (fun _ h => h) fun _ _ => rfl) (hb.keep (fun _ h => h) fun _ _ => rfl) hwa
theorem sameNames_res {P : Program} {f : FuncId} {args : Array Value} {w : World} {x y : Bool} (h : Calls P f args w fun e w' => e = .returned (.bool x) ∧ ∃ m, w' = w.drewN m) (hx : x = y) :
    Calls P f args w fun e w' => e = .returned (.bool y) ∧ ∃ m, w' = w.drewN m := by subst hx; exact h

theorem cell_set {w : World} {g o : Nat} {v : Value} (h : w.cell? ⟨g, o, none⟩ = some v) (u : Value) : (w.setCell ⟨g, o, none⟩ u).cell? ⟨g, o, none⟩ = some u := by
  unfold World.cell? at h ⊢
  simp only [World.setCell, Array.getElem?_modify]
  cases hh : w.heap[g]? with
  | none => simp [hh] at h
  | some x =>
    cases x with
    | cells c e f =>
      simp [hh] at h
      have hlt : o < c.size := by
        rcases Nat.lt_or_ge o c.size with h' | h'
        · exact h'
        · rw [Array.getElem?_eq_none h'] at h; cases h
      simp [hlt]
    | _ => simp [hh] at h

/-- What stands at 'append(out, n)', n just laid as a literal. -/
theorem Strs.stay {B : Nat} {w w' : World} {S : Nat → Prop} {v : Value} {l : List ByteArray} (h : Strs w S v l) (hb : Below B w w') (hS : ∀ b, S b → b < B) : Strs w' S v l := h.keep (fun _ h => h) fun b h => hb.block b (hS b h)
theorem Pairs.stay {B : Nat} {w w' : World} {S : Nat → Prop} {v : Value} {l : List (ByteArray × ByteArray)} (h : Pairs w S v l) (hb : Below B w w') (hS : ∀ b, S b → b < B) : Pairs w' S v l := h.keep (fun _ h => h) fun b h => hb.block b (hS b h)
theorem Kids.stay {B : Nat} {w w' : World} {S : Nat → Prop} {v : Value} {l : List Tree} (h : Kids w S v l) (hb : Below B w w') (hS : ∀ b, S b → b < B) : Kids w' S v l := h.keep (fun _ h => h) fun b h => hb.block b (hS b h)
theorem own_push {S : Nat → Prop} {w wr W : World} (hS : ∀ b, S b → b < w.heap.size) {v : Value} {out : List Tree} {x : Tree} {vm va vk : Value} (ho : Own wr w.heap.size S v out) (hbr : Below w.heap.size w wr) (hb : Below wr.heap.size wr W)
    (hm : Strs wr S vm x.marks) (ha : Pairs wr S va x.attrs) (hk : Kids wr S vk x.kids) :
    Own (W.alloc (.cells #[.string x.kind, .string x.text, vm, va, vk] 41)) w.heap.size S v out ∧
    Src (W.alloc (.cells #[.string x.kind, .string x.text, vm, va, vk] 41)) S (.slice (some ⟨W.heap.size, 0, none⟩) 1 1) [x] ∧
    (∀ b, S b → b < (W.alloc (.cells #[.string x.kind, .string x.text, vm, va, vk] 41)).heap.size ∧ some b ≠ v.ownBlock) ∧
    w.heap.size ≤ (W.alloc (.cells #[.string x.kind, .string x.text, vm, va, vk] 41)).heap.size ∧
    (∀ (w' : World), (W.alloc (.cells #[.string x.kind, .string x.text, vm, va, vk] 41)).grownBy w' v.ownBlock → Below w.heap.size w w') := by
  have hB : Below wr.heap.size wr (W.alloc (.cells #[.string x.kind, .string x.text, vm, va, vk] 41)) := hb.alloc hb.size _
  have hBw : Below w.heap.size w (W.alloc (.cells #[.string x.kind, .string x.text, vm, va, vk] 41)) := belowNext hbr hB
  have hB' : Below w.heap.size wr (W.alloc (.cells #[.string x.kind, .string x.text, vm, va, vk] 41)) := hB.mono hbr.size
  obtain ⟨c0, c1, c2, c3, c4, _, _⟩ := box5 (w := W) (Below.refl _ (W.alloc (.cells #[.string x.kind, .string x.text, vm, va, vk] 41)))
  have hv : ∀ k, v.ownBlock = some k → w.heap.size ≤ k := fun k hk => by
    obtain ⟨A, c, rfl, _, hA⟩ := ho.form
    rcases hA with ⟨rfl, _⟩ | ⟨g, rfl, hg, _⟩
    · cases hk
    · simp [Value.ownBlock] at hk; omega
  refine ⟨ho.later hB (fun b hb' => Nat.lt_of_lt_of_le (hS b hb') hbr.size), src_one (hm.stay hB' hS) (ha.stay hB' hS) (hk.stay hB' hS) c0 c1 c2 c3 c4, fun b hb' => ⟨Nat.lt_of_lt_of_le (hS b hb') hBw.size, fun e => ?_⟩, hBw.size, fun w' hg => hBw.grown hg hBw.size hv⟩
  have := hv b e.symm
  have := hS b hb'; omega

theorem Cells.take {w : World} {S : Nat → Prop} : ∀ {l : List Tree} {xs : List Value} (k : Nat), Cells w S l xs → Cells w S (l.take k) (xs.take (k * 5))
  | [], _, k, h => by simp only [Cells] at h; subst h; simp [Cells]
  | t :: l, _, 0, _ => by simp [Cells]
  | t :: l, _, k + 1, ⟨vm, va, vk, ys, e, hm, ha, hk, h⟩ => by
    subst e
    rw [show (k + 1) * 5 = k * 5 + 5 by omega]
    exact ⟨vm, va, vk, ys.take (k * 5), rfl, hm, ha, hk, Cells.take k h⟩
theorem Own.pre {w : World} {base : Nat} {S : Nat → Prop} {g n co : Nat} {l : List Tree} (h : Own w base S (.slice (some ⟨g, 0, none⟩) n co) l) (k : Nat) (hk : k ≤ l.length) : Src w S (.slice (some ⟨g, 0, none⟩) k co) (l.take k) := by
  obtain ⟨xs, ⟨hl, ho⟩, hc⟩ := h
  rcases ho with ⟨h, _⟩ | ⟨g', cap, cur, hv, _, hh, _, _, _, htk⟩
  · cases h
  · injection hv with h1 h2 h3
    injection h1 with h1
    injection h1 with h1 _ _
    subst h1 h3
    refine ⟨_, co, xs.take (k * 5), by rw [List.length_take, Nat.min_eq_left hk], hc.take k, .inr ⟨g, 0, rfl, fun j u hj => ?_⟩⟩
    have hj1 : j < k * 5 := by
      have := (List.getElem?_eq_some_iff.1 hj).1
      simp at this; omega
    rw [List.getElem?_take_of_lt hj1] at hj
    subst htk
    rw [List.getElem?_take_of_lt (by have := Nat.mul_le_mul_right 5 hk; omega)] at hj
    simp only [World.cell?, hh]
    simpa using hj
theorem own_empty {W : World} {base e : Nat} {S : Nat → Prop} (hE : W.heap[e]? = some (.cells #[] 41)) (he : base ≤ e) : Own W base S (.slice (some ⟨e, 0, none⟩) 0 0) [] :=
  ⟨[], ⟨rfl, .inr ⟨e, 0, #[], rfl, he, hE, Nat.le_refl _, by unfold maxLen; omega, rfl, rfl⟩⟩, rfl⟩

section
variable {ops : Array Oper} {o : Oper} {a : Act} {K : Act → World → Prop} {Q : Exit → Act → World → Prop} {E : Prop}
/-- append([]Node, out[:last]...) -/
theorem step_first {S : Nat → Prop} {w wr W : World} {g e co : Nat} {out : List Tree} (hS : ∀ b, S b → b < w.heap.size) (hgd : o.guard = none) (s x : Operand) (ho : o.op = .call { callee := .builtin .append, args := #[s, x], argTypes := #[26, 26] })
    (hv : a.eval s = .slice (some ⟨e, 0, none⟩) 0 0) (hx : a.eval x = .slice (some ⟨g, 0, none⟩) (out.length - 1) co)
    (hE : W.heap[e]? = some (.cells #[] 41)) (he : wr.heap.size ≤ e) (hB : Below wr.heap.size wr W) (hbr : Below w.heap.size w wr)
    (hO : Own wr w.heap.size S (.slice (some ⟨g, 0, none⟩) out.length co) out) (hlen : out.length ≤ 1000000)
    (h : ∀ v' w', Own w' w.heap.size S v' out.dropLast → Below wr.heap.size wr w' → (∀ g o v, W.cell? ⟨g, o, none⟩ = some v → g ≠ e → w'.cell? ⟨g, o, none⟩ = some v) → K (a.put o.dst v') w') :
    if Region.wanted o (yielded ops a.tmps) = true then Oper.wp Tryz.prog o a W K Q else E := by
  have hsz := hbr.size
  have hBw := belowNext hbr hB
  refine step_append_nodes hgd s x ho w.heap.size S _ _ [] out.dropLast hv hx (own_empty hE (by omega)) ?_ (fun b hb => ⟨Nat.lt_of_lt_of_le (hS b hb) hBw.size, fun h => ?_⟩) ?_ hBw.size ?_
  · have := (hO.later hB (fun b hb => Nat.lt_of_lt_of_le (hS b hb) hsz)).pre (out.length - 1) (by omega)
    rwa [← List.dropLast_eq_take] at this
  · have := hS b hb; simp [Value.ownBlock] at h; omega
  · simp; omega
  · intro v' w' h1 h2 _
    have h2' : W.grownBy w' (some e) := h2
    refine h v' w' (by simpa using h1) (hB.grown h2' hB.size (fun k hk => by injection hk with hk; omega)) fun g o v hc hn => ?_
    exact (World.cell?_of_block (a := ⟨g, o, none⟩) (h2'.block g (cell_lt hc) (fun h => hn (Option.some.inj h)))).trans hc
/-- append(.., n) -/
theorem step_second {S : Nat → Prop} {w wr W : World} {xb : Nat} {v vm va vk : Value} {l : List Tree} {t : Tree} {kd tx : ByteArray} (hS : ∀ b, S b → b < w.heap.size) (hkd : t.kind = kd) (htx : t.text = tx) (hgd : o.guard = none) (s x : Operand) (ho : o.op = .call { callee := .builtin .append, args := #[s, x], argTypes := #[26, 26] })
    (hv : a.eval s = v) (hx : a.eval x = .slice (some ⟨xb, 0, none⟩) 1 1) (hO : Own W w.heap.size S v l) (hB : Below wr.heap.size wr W) (hbr : Below w.heap.size w wr)
    (hm : Strs wr S vm t.marks) (ha : Pairs wr S va t.attrs) (hk : Kids wr S vk t.kids)
    (c0 : W.cell? ⟨xb, 0, none⟩ = some (.string kd)) (c1 : W.cell? ⟨xb, 1, none⟩ = some (.string tx)) (c2 : W.cell? ⟨xb, 2, none⟩ = some vm) (c3 : W.cell? ⟨xb, 3, none⟩ = some va) (c4 : W.cell? ⟨xb, 4, none⟩ = some vk)
    (hlen : l.length + 1 ≤ 1000000) (h : ∀ v' w', Own w' w.heap.size S v' (l ++ [t]) → Below w.heap.size w w' → K (a.put o.dst v') w') :
    if Region.wanted o (yielded ops a.tmps) = true then Oper.wp Tryz.prog o a W K Q else E := by
  subst hkd htx
  have hBw := belowNext hbr hB
  have hB' : Below w.heap.size wr W := hB.mono hbr.size
  have hown : ∀ k, v.ownBlock = some k → w.heap.size ≤ k := fun k hk => by
    obtain ⟨A, c, rfl, _, hA⟩ := hO.form
    rcases hA with ⟨rfl, _⟩ | ⟨g, rfl, hg, _⟩
    · cases hk
    · simp [Value.ownBlock] at hk; omega
  refine step_append_nodes hgd s x ho w.heap.size S _ _ l [t] hv hx hO (src_one (hm.stay hB' hS) (ha.stay hB' hS) (hk.stay hB' hS) c0 c1 c2 c3 c4) (fun b hb => ⟨Nat.lt_of_lt_of_le (hS b hb) hBw.size, fun h => ?_⟩) (by simpa using hlen) hBw.size ?_
  · have := hown b h.symm; have := hS b hb; omega
  · intro v' w' h1 h2 _
    exact h v' w' h1 (hBw.grown h2 hBw.size hown)
end

section
variable {ops : Array Oper} {o : Oper} {a : Act} {K : Act → World → Prop} {Q : Exit → Act → World → Prop} {E : Prop}
/-- append(.., n), n just laid. -/
theorem step_second_new {S : Nat → Prop} {w wr W : World} {v vm va vk : Value} {l : List Tree} {t : Tree} {kd tx : ByteArray} (hS : ∀ b, S b → b < w.heap.size) (hkd : t.kind = kd) (htx : t.text = tx) (hgd : o.guard = none) (s x : Operand) (ho : o.op = .call { callee := .builtin .append, args := #[s, x], argTypes := #[26, 26] })
    (hv : a.eval s = v) (hx : a.eval x = .slice (some ⟨W.heap.size, 0, none⟩) 1 1) (hO : Own W w.heap.size S v l) (hB : Below wr.heap.size wr W) (hbr : Below w.heap.size w wr)
    (hm : Strs wr S vm t.marks) (ha : Pairs wr S va t.attrs) (hk : Kids wr S vk t.kids)
    (hlen : l.length + 1 ≤ 1000000) (h : ∀ v' w', Own w' w.heap.size S v' (l ++ [t]) → Below w.heap.size w w' → K (a.put o.dst v') w') :
    if Region.wanted o (yielded ops a.tmps) = true then Oper.wp Tryz.prog o a (W.alloc (.cells #[.string kd, .string tx, vm, va, vk] 41)) K Q else E := by
  obtain ⟨c0, c1, c2, c3, c4, hb, _⟩ := box5 (w := W) (Below.refl _ (W.alloc (.cells #[.string kd, .string tx, vm, va, vk] 41)))
  exact step_second hS hkd htx hgd s x ho hv hx (hO.later hb (fun b hb' => Nat.lt_of_lt_of_le (hS b hb') (Nat.le_trans hbr.size hB.size))) (hB.alloc hB.size _) hbr hm ha hk c0 c1 c2 c3 c4 hlen h
end

theorem boxAt {W : World} {g : Nat} {v0 v1 v2 v3 v4 : Value} {T : TypeId} (hg : W.heap.size = g) :
    (W.alloc (.cells #[v0, v1, v2, v3, v4] T)).cell? ⟨g, 0, none⟩ = some v0 ∧ (W.alloc (.cells #[v0, v1, v2, v3, v4] T)).cell? ⟨g, 1, none⟩ = some v1 ∧ (W.alloc (.cells #[v0, v1, v2, v3, v4] T)).cell? ⟨g, 2, none⟩ = some v2 ∧
      (W.alloc (.cells #[v0, v1, v2, v3, v4] T)).cell? ⟨g, 3, none⟩ = some v3 ∧ (W.alloc (.cells #[v0, v1, v2, v3, v4] T)).cell? ⟨g, 4, none⟩ = some v4 := by
  subst hg
  obtain ⟨c0, c1, c2, c3, c4, _, _⟩ := box5 (w := W) (Below.refl _ (W.alloc (.cells #[v0, v1, v2, v3, v4] T)))
  exact ⟨c0, c1, c2, c3, c4⟩
theorem boxAt_under {W : World} {g : Nat} {v0 v1 v2 v3 v4 : Value} {T : TypeId} (hg : W.heap.size = g) (ob : Obj) :
    ((W.alloc (.cells #[v0, v1, v2, v3, v4] T)).alloc ob).cell? ⟨g, 0, none⟩ = some v0 ∧ ((W.alloc (.cells #[v0, v1, v2, v3, v4] T)).alloc ob).cell? ⟨g, 1, none⟩ = some v1 ∧ ((W.alloc (.cells #[v0, v1, v2, v3, v4] T)).alloc ob).cell? ⟨g, 2, none⟩ = some v2 ∧
      ((W.alloc (.cells #[v0, v1, v2, v3, v4] T)).alloc ob).cell? ⟨g, 3, none⟩ = some v3 ∧ ((W.alloc (.cells #[v0, v1, v2, v3, v4] T)).alloc ob).cell? ⟨g, 4, none⟩ = some v4 := by
  obtain ⟨c0, c1, c2, c3, c4⟩ := boxAt (v0 := v0) (v1 := v1) (v2 := v2) (v3 := v3) (v4 := v4) (T := T) hg
  have hb : Below (W.alloc (.cells #[v0, v1, v2, v3, v4] T)).heap.size (W.alloc (.cells #[v0, v1, v2, v3, v4] T)) ((W.alloc (.cells #[v0, v1, v2, v3, v4] T)).alloc ob) := (Below.refl _ _).alloc (Nat.le_refl _) _
  exact ⟨cell_kept c0 hb, cell_kept c1 hb, cell_kept c2 hb, cell_kept c3 hb, cell_kept c4 hb⟩

theorem heap_new (W : World) (ob : Obj) : (W.alloc ob).heap[W.heap.size]? = some ob := by show (W.heap.push _)[W.heap.size]? = _; simp
theorem heap_new' (W : World) (ob : Obj) {g : Nat} (hg : W.heap.size = g) : (W.alloc ob).heap[g]? = some ob := by subst hg; exact heap_new W ob
theorem heap_old (W : World) (ob x : Obj) {g : Nat} (h : W.heap[g]? = some x) : (W.alloc ob).heap[g]? = some x :=
  (Below.heap_alloc W ob g (by rcases Nat.lt_or_ge g W.heap.size with h' | h'; exact h'; rw [Array.getElem?_eq_none h'] at h; cases h)).trans h

end Go.Proofs.YtggoebbfgkebcaaGreatDoor

namespace Go.Proofs.YtggoebbfgkebcaaGreatDoor
open Go.RowKit Go.Sort

/-! ### well formed texts, one behind the other -/
theorem decodeN_more {n n' b0 b1 b2 b3 c1 c2 c3 : Nat} (hn : n ≤ n') (h1 : 1 < n → b1 = c1) (h2 : 2 < n → b2 = c2) (h3 : 3 < n → b3 = c3) (hv : ¬ ((Lib.decodeN n b0 b1 b2 b3).1 = 65533 ∧ (Lib.decodeN n b0 b1 b2 b3).2 = 1)) :
    Lib.decodeN n' b0 c1 c2 c3 = Lib.decodeN n b0 b1 b2 b3 := by
  rcases Lib.decodeN_shape n b0 b1 b2 b3 with ⟨c, e⟩ | ⟨d1, d2, d3, dv, e⟩ | ⟨d1, d2, d3, d4, dv, ds, e⟩ | ⟨d1, d2, d3, d4, d5, dv, dw, e⟩ | e
  · rw [e]; unfold Lib.decodeN; rw [if_pos c]
  · rw [e]; have := h1 (by omega); subst this
    unfold Lib.decodeN; rw [if_neg (by omega), if_pos ⟨by omega, by omega, by omega⟩, if_pos (by omega)]
  · rw [e]; have := h1 (by omega); subst this; have := h2 (by omega); subst this
    unfold Lib.decodeN; rw [if_neg (by omega), if_neg (by omega), if_pos ⟨by omega, ⟨by omega, by omega⟩, by omega, by omega⟩, if_pos (by omega)]
  · rw [e]; have := h1 (by omega); subst this; have := h2 (by omega); subst this; have := h3 (by omega); subst this
    unfold Lib.decodeN; rw [if_neg (by omega), if_neg (by omega), if_neg (by omega), if_pos ⟨by omega, ⟨by omega, by omega⟩, ⟨by omega, by omega⟩, by omega, by omega⟩, if_pos (by omega)]
  · rw [e] at hv; exact absurd ⟨rfl, rfl⟩ hv
theorem getD_app (a b : List UInt8) (i : Nat) (h : i < a.length) : (a ++ b).getD i 0 = a.getD i 0 := by
  simp [List.getD, List.getElem?_append_left h]
theorem decodeL_app (a b : List UInt8) (h : a ≠ []) (hv : ¬ ((Lib.decodeL a).1 = 65533 ∧ (Lib.decodeL a).2 = 1)) : Lib.decodeL (a ++ b) = Lib.decodeL a := by
  have hl : 0 < a.length := List.length_pos_iff.2 h
  rw [Lib.decodeL_N] at hv
  rw [Lib.decodeL_N, Lib.decodeL_N a, getD_app a b 0 hl]
  exact decodeN_more (by simp) (fun h => by rw [getD_app a b 1 h]) (fun h => by rw [getD_app a b 2 h]) (fun h => by rw [getD_app a b 3 h]) hv
theorem validD_app : ∀ (n : Nat) (a b : List UInt8), a.length ≤ n → Lib.validD a = true → Lib.validD b = true → Lib.validD (a ++ b) = true
  | 0, a, b, hn, _, hb => by
    have : a = [] := List.eq_nil_of_length_eq_zero (by omega)
    subst this; exact hb
  | n + 1, a, b, hn, ha, hb => by
    by_cases hne : a = []
    · subst hne; exact hb
    · rw [Lib.validD_step a hne] at ha
      split at ha
      · cases ha
      · rename_i hv
        have hw := Lib.decodeL_width a
        have hle := Lib.decodeL_le a hne
        have hl : 0 < a.length := List.length_pos_iff.2 hne
        rw [Lib.validD_step (a ++ b) (by simp [hne]), decodeL_app a b hne hv, if_neg hv, List.drop_append_of_le_length hle]
        exact validD_app n _ b (by rw [List.length_drop]; omega) ha hb

/-! ### rows -/
theorem sameL_eq {a b : List ByteArray} (h : sameL a b = true) : a = b := by
  simp only [sameL, Bool.and_eq_true, decide_eq_true_eq, List.all_eq_true, List.mem_range, beq_iff_eq] at h
  obtain ⟨hl, h⟩ := h
  apply List.ext_getElem hl
  intro i h1 h2
  have h3 := h i h1
  simp only [List.getD, List.getElem?_eq_getElem h1, List.getElem?_eq_getElem h2, Option.getD_some] at h3
  rw [Lib.toList_data, Lib.toList_data] at h3
  exact ByteArray.ext (Array.ext' h3)
theorem rowB_snoc : ∀ (l : List Tree) (p : Option Tree) (x : Tree), rowB p (l ++ [x]) = (rowB p l && (!alikeO (l.getLast?.or p) x && formedB x))
  | [], p, x => by simp [rowB]
  | y :: l, p, x => by
    simp only [List.cons_append, rowB, rowB_snoc l (some y) x]
    have : (y :: l).getLast?.or p = l.getLast?.or (some y) := by cases l <;> simp [List.getLast?_cons]
    rw [this]
    cases alikeO p y <;> cases formedB y <;> cases rowB (some y) l <;> simp

theorem empty_data {s : ByteArray} : s.toList.isEmpty = true ↔ s.data.toList = [] := by rw [Lib.toList_data s, List.isEmpty_iff]
theorem textB_parts {t : Tree} (h : textB t = true) : t.text.data.toList ≠ [] ∧ Lib.validD t.text.data.toList = true ∧ marksB t.marks = true ∧ t.attrs.length = 0 ∧ t.kids.length = 0 := by
  simp only [textB, Bool.and_eq_true, decide_eq_true_eq, Bool.not_eq_true'] at h
  obtain ⟨h0, h1, h2, h3, h4⟩ := h
  refine ⟨fun e => ?_, h1, h2, h3, h4⟩
  rw [empty_data.2 e] at h0; cases h0
theorem textB_of {t : Tree} (h0 : t.text.data.toList ≠ []) (h1 : Lib.validD t.text.data.toList = true) (h2 : marksB t.marks = true) (h3 : t.attrs.length = 0) (h4 : t.kids.length = 0) : textB t = true := by
  have : t.text.toList.isEmpty = false := by
    cases h : t.text.toList.isEmpty with
    | false => rfl
    | true => exact absurd (empty_data.1 h) h0
  simp [textB, this, h1, h2, h3, h4]
theorem formed_text {t : Tree} (h : isTxt t.kind = true) : formedB t = textB t := by obtain ⟨k, t, m, a, l⟩ := t; exact formedB_text h

theorem joinStep_row (out : List Tree) (n : Tree) (ho : rowB none out = true) (hn : formedB n = true) : rowB none (joinStep out n) = true := by
  unfold joinStep
  split
  · exact ho
  · split
    · rename_i z hz
      have hd := dropLast_getLast? hz
      split
      · rename_i hj
        rw [hd, rowB_snoc] at ho
        simp only [joinsOn, Bool.and_eq_true] at hj ho
        obtain ⟨hkn, hkz, hm⟩ := hj
        obtain ⟨ho1, ho2, ho3⟩ := ho
        have hm' := sameL_eq hm
        rw [rowB_snoc]
        have hf : formedB (setText n (z.text ++ n.text)) = true := by
          rw [formed_text hkn] at hn
          rw [formed_text hkz] at ho3
          have pn := textB_parts hn
          have pz := textB_parts ho3
          rw [formed_text (t := setText n (z.text ++ n.text)) hkn]
          refine textB_of (t := setText n (z.text ++ n.text)) ?_ ?_ pn.2.2.1 pn.2.2.2.1 pn.2.2.2.2
          · show (z.text ++ n.text).data.toList ≠ []
            rw [ByteArray.data_append, Array.toList_append]
            intro e; exact pz.1 (List.append_eq_nil_iff.1 e).1
          · show Lib.validD (z.text ++ n.text).data.toList = true
            rw [ByteArray.data_append, Array.toList_append]
            exact validD_app _ _ _ (Nat.le_refl _) pz.2.1 pn.2.1
        have ha : ∀ q, alikeO q (setText n (z.text ++ n.text)) = alikeO q z := by
          intro q
          cases q with
          | none => rfl
          | some y =>
            show (isTxt y.kind && (isTxt n.kind && sameL y.marks n.marks)) = (isTxt y.kind && (isTxt z.kind && sameL y.marks z.marks))
            rw [hkn, hkz, hm']
        simp only [ho1, ha, hf, Bool.true_and, Bool.and_true]
        exact ho2
      · rename_i hj
        rw [rowB_snoc, ho, hz, hn]
        show (true && (!(isTxt z.kind && (isTxt n.kind && sameL z.marks n.marks)) && true)) = true
        simp only [joinsOn] at hj
        revert hj
        generalize isTxt z.kind = x1
        generalize isTxt n.kind = x2
        generalize sameL z.marks n.marks = x3
        cases x1 <;> cases x2 <;> cases x3 <;> intro hj <;> first | rfl | exact absurd rfl hj
    · rename_i hz
      have : out = [] := List.getLast?_eq_none_iff.1 hz
      subst this
      simp [rowB, alikeO, hn]
theorem joinFold_row : ∀ (l out : List Tree), rowB none out = true → (∀ x ∈ l, formedB x = true) → rowB none (l.foldl joinStep out) = true
  | [], _, h, _ => h
  | x :: l, out, h, hl => joinFold_row l _ (joinStep_row out x h (hl x (by simp))) fun y hy => hl y (by simp [hy])
theorem joinB_row (l : List Tree) (h : ∀ x ∈ l, formedB x = true) : rowB none (joinB l) = true := joinFold_row l [] (by simp [rowB]) h

theorem depth_setText (n : Tree) (s : ByteArray) : depthB (setText n s) = depthB n := by obtain ⟨k, t, m, a, l⟩ := n; simp [setText, depthB, Tree.kind, Tree.kids]
theorem joinStep_deep (out : List Tree) (n : Tree) : deepB (joinStep out n) ≤ max (deepB out) (depthB n) := by
  unfold joinStep
  split
  · omega
  · split
    · rename_i z hz
      split
      · have h1 := congrArg deepB (dropLast_getLast? hz)
        rw [deepB_append] at h1 ⊢
        simp only [deepB, depth_setText] at h1 ⊢
        omega
      · rw [deepB_append]; simp only [deepB]; omega
    · rw [deepB_append]; simp only [deepB]; omega
theorem joinFold_deep : ∀ (l out : List Tree), deepB (l.foldl joinStep out) ≤ max (deepB out) (deepB l)
  | [], out => by simp [deepB]
  | x :: l, out => by
    have h := joinFold_deep l (joinStep out x)
    have h2 := joinStep_deep out x
    simp only [List.foldl_cons, deepB]; omega
theorem joinB_deep (l : List Tree) : deepB (joinB l) ≤ deepB l := by have := joinFold_deep l []; simp only [deepB] at this; unfold joinB; omega

end Go.Proofs.YtggoebbfgkebcaaGreatDoor

namespace Go.Proofs.YtggoebbfgkebcaaGreatDoor
open Go.RowKit Go.Sort

def escL : List UInt8 → List UInt8
  | [] => []
  | c :: l => if c == 34 || c == 92 then 92 :: c :: escL l else c :: escL l
def quoteL (l : List UInt8) : List UInt8 := 34 :: (escL l ++ [34])
def commaM : List ByteArray → List UInt8
  | [] => []
  | [s] => s.data.toList
  | s :: l => s.data.toList ++ 44 :: commaM l
def marksW (l : List ByteArray) : List UInt8 := if l.isEmpty then [] else 60 :: (commaM l ++ [62])
def attrW (p : ByteArray × ByteArray) : List UInt8 := p.1.data.toList ++ 61 :: quoteL p.2.data.toList
def blankA : List (ByteArray × ByteArray) → List UInt8
  | [] => []
  | [p] => attrW p
  | p :: l => attrW p ++ 32 :: blankA l
def attrsW (l : List (ByteArray × ByteArray)) : List UInt8 := if l.isEmpty then [] else 40 :: (blankA l ++ [41])
def headW (t : Tree) : List UInt8 := if isTxt t.kind then marksW t.marks else t.kind.data.toList ++ attrsW t.attrs
mutual
def writeB : Tree → List UInt8
  | .mk k t m a l => if isTxt k then quoteL t.data.toList ++ marksW m else (k.data.toList ++ attrsW a) ++ 91 :: (writeAllB l ++ [93])
def writeAllB : List Tree → List UInt8
  | [] => []
  | x :: l => writeB x ++ writeAllB l
end

theorem escL_snoc (l : List UInt8) (c : UInt8) : escL (l ++ [c]) = escL l ++ (if c == 34 || c == 92 then [92, c] else [c]) := by
  induction l with
  | nil => simp only [List.nil_append, escL]
  | cons d l ih => simp only [List.cons_append, escL, ih]; split <;> simp
theorem commaM_snoc (l : List ByteArray) (x : ByteArray) : commaM (l ++ [x]) = if l.isEmpty then x.data.toList else commaM l ++ 44 :: x.data.toList := by
  induction l with
  | nil => simp [commaM]
  | cons d l ih =>
    cases l with
    | nil => simp [commaM]
    | cons e l => simp only [List.cons_append, commaM] at ih ⊢; rw [ih]; simp
theorem blankA_snoc (l : List (ByteArray × ByteArray)) (x : ByteArray × ByteArray) : blankA (l ++ [x]) = if l.isEmpty then attrW x else blankA l ++ 32 :: attrW x := by
  induction l with
  | nil => simp [blankA]
  | cons d l ih =>
    cases l with
    | nil => simp [blankA]
    | cons e l => simp only [List.cons_append, blankA] at ih ⊢; rw [ih]; simp
theorem writeAllB_append (a b : List Tree) : writeAllB (a ++ b) = writeAllB a ++ writeAllB b := by
  induction a with
  | nil => simp [writeAllB]
  | cons x l ih => simp only [List.cons_append, writeAllB, ih, List.append_assoc]

/-! ### how long -/
theorem escL_le (l : List UInt8) : (escL l).length ≤ 2 * l.length := by
  induction l with
  | nil => simp [escL]
  | cons c l ih => simp only [escL]; split <;> simp only [List.length_cons] <;> omega
theorem escL_ge (l : List UInt8) : l.length ≤ (escL l).length := by
  induction l with
  | nil => simp [escL]
  | cons c l ih => simp only [escL]; split <;> simp only [List.length_cons] <;> omega
theorem quoteL_le (l : List UInt8) : (quoteL l).length ≤ 2 * l.length + 2 := by have := escL_le l; simp only [quoteL, List.length_cons, List.length_append, List.length_nil]; omega
theorem commaM_le : ∀ l : List ByteArray, (commaM l).length ≤ weighL l
  | [] => by simp [commaM]
  | [s] => by have := Lib.size_eq s; simp only [commaM, weighL, List.map_cons, List.map_nil, List.sum_cons, List.sum_nil]; omega
  | s :: s' :: l => by
    have := commaM_le (s' :: l); have := Lib.size_eq s
    simp only [commaM, weighL, List.map_cons, List.sum_cons, List.length_append, List.length_cons] at *; omega
theorem marksW_le (l : List ByteArray) : (marksW l).length ≤ weighL l + 2 := by
  have := commaM_le l
  unfold marksW; split <;> simp only [List.length_nil, List.length_cons, List.length_append] <;> omega
theorem blankA_le : ∀ l : List (ByteArray × ByteArray), (blankA l).length ≤ 4 * weighP l
  | [] => by simp [blankA]
  | [p] => by
    have := Lib.size_eq p.1; have := Lib.size_eq p.2; have := quoteL_le p.2.data.toList
    simp only [blankA, attrW, weighP, List.map_cons, List.map_nil, List.sum_cons, List.sum_nil, List.length_append, List.length_cons]; omega
  | p :: q :: l => by
    have := blankA_le (q :: l); have := Lib.size_eq p.1; have := Lib.size_eq p.2; have := quoteL_le p.2.data.toList
    simp only [blankA, attrW, weighP, List.map_cons, List.sum_cons, List.length_append, List.length_cons] at *; omega
theorem attrsW_le (l : List (ByteArray × ByteArray)) : (attrsW l).length ≤ 4 * weighP l + 2 := by
  have := blankA_le l
  unfold attrsW; split <;> simp only [List.length_nil, List.length_cons, List.length_append] <;> omega
mutual
theorem writeB_le : ∀ t : Tree, (writeB t).length ≤ 4 * weigh t
  | .mk k t m a l => by
    have h1 := writeAllB_le l
    have h2 := quoteL_le t.data.toList
    have h3 := Lib.size_eq t
    have h4 := Lib.size_eq k
    have h5 := marksW_le m
    have h6 := attrsW_le a
    simp only [writeB, weigh]; split <;> simp only [List.length_append, List.length_cons, List.length_nil] <;> omega
theorem writeAllB_le : ∀ l : List Tree, (writeAllB l).length ≤ 4 * weighAll l
  | [] => by simp [writeAllB]
  | x :: l => by have h1 := writeB_le x; have h2 := writeAllB_le l; simp only [writeAllB, weighAll, List.length_append]; omega
end

/-! ### written alike, the same -/
theorem esc_inj : ∀ (l l' r r' : List UInt8), escL l ++ 34 :: r = escL l' ++ 34 :: r' → l = l' ∧ r = r'
  | [], [], r, r', h => by simpa [escL] using h
  | [], c :: l', r, r', h => by
    simp only [escL] at h
    split at h
    · simp at h
    · rename_i hc
      simp only [List.nil_append, List.cons_append, List.cons.injEq] at h
      exact absurd (by rw [← h.1]; rfl) hc
  | c :: l, [], r, r', h => by
    simp only [escL] at h
    split at h
    · simp at h
    · rename_i hc
      simp only [List.nil_append, List.cons_append, List.cons.injEq] at h
      exact absurd (by rw [h.1]; rfl) hc
  | c :: l, c' :: l', r, r', h => by
    simp only [escL] at h
    split at h
    · split at h
      · simp only [List.cons_append, List.cons.injEq, true_and] at h
        obtain ⟨e, h⟩ := h
        obtain ⟨h1, h2⟩ := esc_inj l l' r r' h
        exact ⟨by rw [e, h1], h2⟩
      · rename_i hc'
        simp only [List.cons_append, List.cons.injEq] at h
        exact absurd (by rw [← h.1]; rfl) hc'
    · rename_i hc
      split at h
      · simp only [List.cons_append, List.cons.injEq] at h
        exact absurd (by rw [h.1]; rfl) hc
      · simp only [List.cons_append, List.cons.injEq] at h
        obtain ⟨e, h⟩ := h
        obtain ⟨h1, h2⟩ := esc_inj l l' r r' h
        exact ⟨by rw [e, h1], h2⟩
theorem quote_inj {l l' r r' : List UInt8} (h : quoteL l ++ r = quoteL l' ++ r') : l = l' ∧ r = r' := by
  simp only [quoteL, List.cons_append, List.append_assoc, List.cons.injEq, true_and, List.nil_append] at h
  exact esc_inj l l' r r' h
theorem letters_inj : ∀ (a b r r' : List UInt8) (x y : UInt8), (∀ c ∈ a, small c = true) → (∀ c ∈ b, small c = true) → small x = false → small y = false → a ++ x :: r = b ++ y :: r' → a = b ∧ x = y ∧ r = r'
  | [], [], r, r', x, y, _, _, _, _, h => by simp at h; exact ⟨rfl, h.1, h.2⟩
  | [], c :: b, r, r', x, y, _, hb, hx, _, h => by
    simp only [List.nil_append, List.cons_append, List.cons.injEq] at h
    have := hb c (by simp); rw [← h.1, hx] at this; cases this
  | c :: a, [], r, r', x, y, ha, _, _, hy, h => by
    simp only [List.nil_append, List.cons_append, List.cons.injEq] at h
    have := ha c (by simp); rw [h.1, hy] at this; cases this
  | c :: a, d :: b, r, r', x, y, ha, hb, hx, hy, h => by
    simp only [List.cons_append, List.cons.injEq] at h
    obtain ⟨h1, h2, h3⟩ := letters_inj a b r r' x y (fun c hc => ha c (by simp [hc])) (fun c hc => hb c (by simp [hc])) hx hy h.2
    exact ⟨by rw [h.1, h1], h2, h3⟩
theorem name_small {s : ByteArray} (h : nameB s = true) : ∀ c ∈ s.data.toList, small c = true := by
  simp only [nameB, Bool.and_eq_true, List.all_eq_true] at h
  exact h.2.2.2
theorem name_ne {s : ByteArray} (h : nameB s = true) : s.data.toList ≠ [] := by
  simp only [nameB, Bool.and_eq_true, decide_eq_true_eq] at h
  have := Lib.size_eq s
  intro e; rw [e, List.length_nil] at this; omega
theorem bytes_of {s t : ByteArray} (h : s.data.toList = t.data.toList) : s = t := ByteArray.ext (Array.ext' h)
theorem marks_names {m : List ByteArray} (h : marksB m = true) : ∀ s ∈ m, nameB s = true := by
  intro s hs
  obtain ⟨i, hi, rfl⟩ := List.getElem_of_mem hs
  simp only [marksB, List.all_eq_true, List.mem_range] at h
  have := h i hi
  simp only [markOk, Bool.and_eq_true, List.getD, List.getElem?_eq_getElem hi, Option.getD_some] at this
  exact this.1
theorem attrs_names {m : List (ByteArray × ByteArray)} (h : attrsB m = true) : ∀ p ∈ m, nameB p.1 = true := by
  intro s hs
  obtain ⟨i, hi, rfl⟩ := List.getElem_of_mem hs
  simp only [attrsB, List.all_eq_true, List.mem_range] at h
  have := h i hi
  simp only [attrOk, pairAt, Bool.and_eq_true, List.getD, List.getElem?_eq_getElem hi, Option.getD_some] at this
  exact this.1
theorem comma_inj : ∀ (m m' : List ByteArray) (r r' : List UInt8), m ≠ [] → m' ≠ [] → (∀ s ∈ m, nameB s = true) → (∀ s ∈ m', nameB s = true) → commaM m ++ 62 :: r = commaM m' ++ 62 :: r' → m = m' ∧ r = r'
  | [], _, _, _, h, _, _, _, _ => absurd rfl h
  | _ :: _, [], _, _, _, h, _, _, _ => absurd rfl h
  | [s], [s'], r, r', _, _, hm, hm', h => by
    obtain ⟨h1, _, h3⟩ := letters_inj _ _ _ _ _ _ (name_small (hm s (by simp))) (name_small (hm' s' (by simp))) (by decide) (by decide) h
    exact ⟨by rw [bytes_of h1], h3⟩
  | [s], s' :: t' :: l', r, r', _, _, hm, hm', h => by
    simp only [commaM, List.append_assoc, List.cons_append] at h
    obtain ⟨_, h2, _⟩ := letters_inj _ _ _ _ _ _ (name_small (hm s (by simp))) (name_small (hm' s' (by simp))) (by decide) (by decide) h
    exact absurd h2 (by decide)
  | s :: t :: l, [s'], r, r', _, _, hm, hm', h => by
    simp only [commaM, List.append_assoc, List.cons_append] at h
    obtain ⟨_, h2, _⟩ := letters_inj _ _ _ _ _ _ (name_small (hm s (by simp))) (name_small (hm' s' (by simp))) (by decide) (by decide) h
    exact absurd h2 (by decide)
  | s :: t :: l, s' :: t' :: l', r, r', _, _, hm, hm', h => by
    simp only [commaM, List.append_assoc, List.cons_append] at h
    obtain ⟨h1, _, h3⟩ := letters_inj _ _ _ _ _ _ (name_small (hm s (by simp))) (name_small (hm' s' (by simp))) (by decide) (by decide) h
    obtain ⟨h4, h5⟩ := comma_inj (t :: l) (t' :: l') r r' (by simp) (by simp) (fun x hx => hm x (by simp [hx])) (fun x hx => hm' x (by simp [hx])) h3
    exact ⟨by rw [bytes_of h1, h4], h5⟩
theorem blank_inj : ∀ (m m' : List (ByteArray × ByteArray)) (r r' : List UInt8), m ≠ [] → m' ≠ [] → (∀ s ∈ m, nameB s.1 = true) → (∀ s ∈ m', nameB s.1 = true) → blankA m ++ 41 :: r = blankA m' ++ 41 :: r' → m = m' ∧ r = r'
  | [], _, _, _, h, _, _, _, _ => absurd rfl h
  | _ :: _, [], _, _, _, h, _, _, _ => absurd rfl h
  | [s], [s'], r, r', _, _, hm, hm', h => by
    simp only [blankA, attrW, List.append_assoc, List.cons_append] at h
    obtain ⟨h1, _, h3⟩ := letters_inj _ _ _ _ _ _ (name_small (hm s (by simp))) (name_small (hm' s' (by simp))) (by decide) (by decide) h
    obtain ⟨h4, h5⟩ := quote_inj h3
    simp only [List.cons.injEq, true_and] at h5
    exact ⟨by rw [Prod.ext (bytes_of h1) (bytes_of h4)], h5⟩
  | [s], s' :: t' :: l', r, r', _, _, hm, hm', h => by
    simp only [blankA, attrW, List.append_assoc, List.cons_append] at h
    obtain ⟨h1, _, h3⟩ := letters_inj _ _ _ _ _ _ (name_small (hm s (by simp))) (name_small (hm' s' (by simp))) (by decide) (by decide) h
    obtain ⟨h4, h5⟩ := quote_inj h3
    simp only [List.cons.injEq] at h5
    exact absurd h5.1 (by decide)
  | s :: t :: l, [s'], r, r', _, _, hm, hm', h => by
    simp only [blankA, attrW, List.append_assoc, List.cons_append] at h
    obtain ⟨h1, _, h3⟩ := letters_inj _ _ _ _ _ _ (name_small (hm s (by simp))) (name_small (hm' s' (by simp))) (by decide) (by decide) h
    obtain ⟨h4, h5⟩ := quote_inj h3
    simp only [List.cons.injEq] at h5
    exact absurd h5.1 (by decide)
  | s :: t :: l, s' :: t' :: l', r, r', _, _, hm, hm', h => by
    simp only [blankA, attrW, List.append_assoc, List.cons_append] at h
    obtain ⟨h1, _, h3⟩ := letters_inj _ _ _ _ _ _ (name_small (hm s (by simp))) (name_small (hm' s' (by simp))) (by decide) (by decide) h
    obtain ⟨h4, h5⟩ := quote_inj h3
    simp only [List.cons.injEq, true_and] at h5
    obtain ⟨h6, h7⟩ := blank_inj (t :: l) (t' :: l') r r' (by simp) (by simp) (fun x hx => hm x (by simp [hx])) (fun x hx => hm' x (by simp [hx])) h5
    exact ⟨by rw [Prod.ext (bytes_of h1) (bytes_of h4), h6], h7⟩
/-- What may stand behind a node. -/
def Aft (r : List UInt8) : Prop := ∀ c, r.head? = some c → c ≠ 60
theorem marks_inj (m m' : List ByteArray) (r r' : List UInt8) (hm : ∀ s ∈ m, nameB s = true) (hm' : ∀ s ∈ m', nameB s = true) (hr : Aft r) (hr' : Aft r') (h : marksW m ++ r = marksW m' ++ r') : m = m' ∧ r = r' := by
  unfold marksW at h
  cases m with
  | nil =>
    cases m' with
    | nil => exact ⟨rfl, by simpa using h⟩
    | cons s' l' =>
      simp at h
      exact absurd rfl (hr 60 (by rw [h]; rfl))
  | cons s l =>
    cases m' with
    | nil =>
      simp at h
      exact absurd rfl (hr' 60 (by rw [← h]; rfl))
    | cons s' l' =>
      simp only [List.isEmpty_cons, Bool.false_eq_true, if_false, List.cons_append, List.append_assoc, List.nil_append, List.cons.injEq, true_and] at h
      exact comma_inj (s :: l) (s' :: l') r r' (by simp) (by simp) hm hm' h
theorem attrs_inj (m m' : List (ByteArray × ByteArray)) (r r' : List UInt8) (hm : ∀ s ∈ m, nameB s.1 = true) (hm' : ∀ s ∈ m', nameB s.1 = true) (h : attrsW m ++ 91 :: r = attrsW m' ++ 91 :: r') : m = m' ∧ r = r' := by
  unfold attrsW at h
  cases m with
  | nil =>
    cases m' with
    | nil => exact ⟨rfl, by simpa using h⟩
    | cons s' l' => simp at h
  | cons s l =>
    cases m' with
    | nil => simp at h
    | cons s' l' =>
      simp only [List.isEmpty_cons, Bool.false_eq_true, if_false, List.cons_append, List.append_assoc, List.nil_append, List.cons.injEq, true_and] at h
      obtain ⟨h1, h2⟩ := blank_inj (s :: l) (s' :: l') _ _ (by simp) (by simp) hm hm' h
      simp only [List.cons.injEq, true_and] at h2
      exact ⟨h1, h2⟩
/-! ### trees -/
theorem text_parts {k t : ByteArray} {m : List ByteArray} {a : List (ByteArray × ByteArray)} {l : List Tree} (hk : isTxt k = true) (h : formedB (.mk k t m a l) = true) : marksB m = true ∧ a = [] ∧ l = [] := by
  rw [formedB_text hk] at h
  obtain ⟨_, _, h3, h4, h5⟩ := textB_parts h
  exact ⟨h3, List.eq_nil_of_length_eq_zero h4, List.eq_nil_of_length_eq_zero h5⟩
theorem node_parts {k t : ByteArray} {m : List ByteArray} {a : List (ByteArray × ByteArray)} {l : List Tree} (hk : isTxt k = false) (h : formedB (.mk k t m a l) = true) : nameB k = true ∧ t.data.toList = [] ∧ m = [] ∧ attrsB a = true ∧ rowB none l = true := by
  rw [formedB_node hk] at h
  simp only [headB, Bool.and_eq_true, Tree.kind, Tree.text, Tree.marks, Tree.attrs] at h
  exact ⟨h.1.1, empty_data.1 h.1.2.1, List.eq_nil_of_length_eq_zero (of_decide_eq_true h.1.2.2.1), h.1.2.2.2, h.2⟩
theorem txt_eq {k k' : ByteArray} (h : isTxt k = true) (h' : isTxt k' = true) : k = k' := by
  unfold isTxt at h h'
  rw [beq_iff_eq, Lib.toList_data] at h h'
  exact bytes_of (h.trans h'.symm)
theorem row_all : ∀ (l : List Tree) (p : Option Tree), rowB p l = true → ∀ x ∈ l, formedB x = true
  | [], _, _, x, hx => by cases hx
  | y :: l, p, h, x, hx => by
    simp only [rowB, Bool.and_eq_true] at h
    rcases List.mem_cons.1 hx with e | e
    · subst e; exact h.2.1
    · exact row_all l (some y) h.2.2 x e
/-- The first sign of a node. -/
theorem write_head (x : Tree) (h : formedB x = true) : ∃ c r, writeB x = c :: r ∧ ((isTxt x.kind = true ∧ c = 34) ∨ (isTxt x.kind = false ∧ small c = true)) := by
  obtain ⟨k, t, m, a, l⟩ := x
  cases hk : isTxt k with
  | true => exact ⟨34, escL t.data.toList ++ [34] ++ marksW m, by simp only [writeB, hk, if_true, quoteL, List.cons_append], .inl ⟨hk, rfl⟩⟩
  | false =>
    obtain ⟨h1, _⟩ := node_parts hk h
    have hn := name_ne h1
    have hs := name_small h1
    cases hd : k.data.toList with
    | nil => exact absurd hd hn
    | cons c r =>
      refine ⟨c, r ++ attrsW a ++ 91 :: (writeAllB l ++ [93]), ?_, .inr ⟨hk, hs c (by rw [hd]; simp)⟩⟩
      simp only [writeB, hk, Bool.false_eq_true, if_false, hd, List.cons_append]
theorem small_ne {c : UInt8} (h : small c = true) : c ≠ 34 ∧ c ≠ 93 ∧ c ≠ 60 := by
  refine ⟨?_, ?_, ?_⟩ <;> (rintro rfl; exact absurd h (by decide))
theorem aft_all (l : List Tree) (r : List UInt8) (h : ∀ x ∈ l, formedB x = true) (hr : Aft r) : Aft (writeAllB l ++ r) := by
  cases l with
  | nil => simpa [writeAllB] using hr
  | cons x l =>
    obtain ⟨c, s, e, hc⟩ := write_head x (h x (by simp))
    intro d hd
    simp only [writeAllB, e, List.cons_append, List.head?_cons, Option.some.injEq] at hd
    subst hd
    rcases hc with ⟨_, rfl⟩ | ⟨_, hc⟩
    · decide
    · exact (small_ne hc).2.2
theorem aft_93 (r : List UInt8) : Aft (93 :: r) := by intro c hc; simp at hc; subst hc; decide

mutual
theorem write_inj : ∀ (t t' : Tree) (r r' : List UInt8), formedB t = true → formedB t' = true → Aft r → Aft r' → writeB t ++ r = writeB t' ++ r' → t = t' ∧ r = r'
  | .mk k t m a l, .mk k' t' m' a' l', r, r', h, h', hr, hr', e => by
    cases hk : isTxt k with
    | true =>
      cases hk' : isTxt k' with
      | true =>
        obtain ⟨p1, rfl, rfl⟩ := text_parts hk h
        obtain ⟨q1, rfl, rfl⟩ := text_parts hk' h'
        simp only [writeB, hk, hk', if_true, List.append_assoc] at e
        obtain ⟨e1, e2⟩ := quote_inj e
        obtain ⟨e3, e4⟩ := marks_inj m m' r r' (marks_names p1) (marks_names q1) hr hr' e2
        exact ⟨by rw [txt_eq hk hk', bytes_of e1, e3], e4⟩
      | false =>
        obtain ⟨c, s, e1, e2⟩ := write_head _ h
        obtain ⟨c', s', e3, e4⟩ := write_head _ h'
        rw [e1, e3, List.cons_append, List.cons_append] at e
        have e5 := (List.cons.inj e).1
        rcases e2 with ⟨_, rfl⟩ | ⟨e2, _⟩
        · rcases e4 with ⟨e4, _⟩ | ⟨_, e4⟩
          · rw [show (Tree.mk k' t' m' a' l').kind = k' from rfl, hk'] at e4; cases e4
          · exact absurd e5.symm (small_ne e4).1
        · rw [show (Tree.mk k t m a l).kind = k from rfl, hk] at e2; cases e2
    | false =>
      cases hk' : isTxt k' with
      | true =>
        obtain ⟨c, s, e1, e2⟩ := write_head _ h
        obtain ⟨c', s', e3, e4⟩ := write_head _ h'
        rw [e1, e3, List.cons_append, List.cons_append] at e
        have e5 := (List.cons.inj e).1
        rcases e4 with ⟨_, rfl⟩ | ⟨e4, _⟩
        · rcases e2 with ⟨e2, _⟩ | ⟨_, e2⟩
          · rw [show (Tree.mk k t m a l).kind = k from rfl, hk] at e2; cases e2
          · exact absurd e5 (small_ne e2).1
        · rw [show (Tree.mk k' t' m' a' l').kind = k' from rfl, hk'] at e4; cases e4
      | false =>
        obtain ⟨p1, p2, rfl, p4, p5⟩ := node_parts hk h
        obtain ⟨q1, q2, rfl, q4, q5⟩ := node_parts hk' h'
        simp only [writeB, hk, hk', Bool.false_eq_true, if_false, List.append_assoc, List.cons_append, List.nil_append] at e
        have key : ∀ (b : List (ByteArray × ByteArray)) (s : List UInt8), ∃ x y, small x = false ∧ attrsW b ++ 91 :: s = x :: y := fun b s => by
          unfold attrsW; split
          · exact ⟨91, s, by decide, rfl⟩
          · exact ⟨40, _, by decide, rfl⟩
        obtain ⟨x, y, hx, ex⟩ := key a (writeAllB l ++ 93 :: r)
        obtain ⟨x', y', hx', ex'⟩ := key a' (writeAllB l' ++ 93 :: r')
        have e' := e
        rw [ex, ex'] at e'
        obtain ⟨e1, e2, e3⟩ := letters_inj _ _ _ _ _ _ (name_small p1) (name_small q1) hx hx' e'
        rw [e1] at e
        have e4 := List.append_cancel_left e
        obtain ⟨e5, e6⟩ := attrs_inj a a' _ _ (attrs_names p4) (attrs_names q4) e4
        obtain ⟨e7, e8⟩ := writeAll_inj l l' r r' (row_all l none p5) (row_all l' none q5) e6
        exact ⟨by rw [bytes_of e1, bytes_of (p2.trans q2.symm), e5, e7], e8⟩
theorem writeAll_inj : ∀ (l l' : List Tree) (r r' : List UInt8), (∀ x ∈ l, formedB x = true) → (∀ x ∈ l', formedB x = true) → writeAllB l ++ 93 :: r = writeAllB l' ++ 93 :: r' → l = l' ∧ r = r'
  | [], [], r, r', _, _, e => by simpa [writeAllB] using e
  | [], y :: l', r, r', _, h', e => by
    obtain ⟨c, s, e1, e2⟩ := write_head y (h' y (by simp))
    simp only [writeAllB, e1, List.nil_append, List.cons_append, List.cons.injEq] at e
    rcases e2 with ⟨_, rfl⟩ | ⟨_, e2⟩
    · exact absurd e.1 (by decide)
    · exact absurd e.1.symm (small_ne e2).2.1
  | x :: l, [], r, r', h, _, e => by
    obtain ⟨c, s, e1, e2⟩ := write_head x (h x (by simp))
    simp only [writeAllB, e1, List.nil_append, List.cons_append, List.cons.injEq] at e
    rcases e2 with ⟨_, rfl⟩ | ⟨_, e2⟩
    · exact absurd e.1 (by decide)
    · exact absurd e.1 (small_ne e2).2.1
  | x :: l, y :: l', r, r', h, h', e => by
    simp only [writeAllB, List.append_assoc] at e
    obtain ⟨e1, e2⟩ := write_inj x y _ _ (h x (by simp)) (h' y (by simp)) (aft_all l _ (fun z hz => h z (by simp [hz])) (aft_93 r)) (aft_all l' _ (fun z hz => h' z (by simp [hz])) (aft_93 r')) e
    obtain ⟨e3, e4⟩ := writeAll_inj l l' r r' (fun z hz => h z (by simp [hz])) (fun z hz => h' z (by simp [hz])) e2
    exact ⟨by rw [e1, e3], e4⟩
end
theorem writeB_inj {t t' : Tree} (h : formedB t = true) (h' : formedB t' = true) (e : writeB t = writeB t') : t = t' :=
  (write_inj t t' [] [] h h' (by intro c hc; cases hc) (by intro c hc; cases hc) (by rw [e])).1
end Go.Proofs.YtggoebbfgkebcaaGreatDoor

namespace Go.Proofs.YtggoebbfgkebcaaGreatDoor
open Go.RowKit Go.Sort

theorem strs_none {w : World} {S : Nat → Prop} : Strs w S (.slice none 0 0) [] := ⟨none, 0, rfl, Nat.le_refl _, by unfold maxLen; omega, .inl rfl⟩
theorem pairs_none {w : World} {S : Nat → Prop} : Pairs w S (.slice none 0 0) [] := ⟨none, 0, rfl, Nat.le_refl _, by unfold maxLen; omega, .inl rfl⟩
theorem kids_none {w : World} {S : Nat → Prop} : Kids w S (.slice none 0 0) [] := ⟨none, 0, rfl, Nat.le_refl _, by unfold maxLen; omega, .inl rfl⟩
theorem kids_row1 {w : World} {S : Nat → Prop} {g : Nat} {t : Tree} {vm va vk : Value} (c0 : w.cell? ⟨g, 0, none⟩ = some (.string t.kind)) (c1 : w.cell? ⟨g, 1, none⟩ = some (.string t.text)) (c2 : w.cell? ⟨g, 2, none⟩ = some vm) (c3 : w.cell? ⟨g, 3, none⟩ = some va) (c4 : w.cell? ⟨g, 4, none⟩ = some vk)
    (hm : Strs w S vm t.marks) (ha : Pairs w S va t.attrs) (hk : Kids w S vk t.kids) (hg : S g) : Kids w S (.slice (some ⟨g, 0, none⟩) 1 1) [t] :=
  kids_one rfl (Nat.le_refl _) (by unfold maxLen; omega) hg ((nodeAt_iff t g 0).2 ⟨vm, va, vk, c0, c1, c2, c3, c4, hm, ha, hk⟩)
end Go.Proofs.YtggoebbfgkebcaaGreatDoor

namespace Go.Proofs.YtggoebbfgkebcaaGreatDoor
open Go.RowKit Go.Sort

def renByte : Go.Shelf.Ren := ⟨fun | 167 => 75 | 240 => 34 | 276 => 56 | n => n, fun | 0 => 0 | 4 => 4 | 5 => 5 | 9 => 9 | 20 => 20 | 37 => 43 | 70 => 42 | 72 => 45 | 75 => 50 | 164 => 89 | 80 => 54 | n => n, fun | n => n⟩
theorem laysByte : Lays.n167 Tryz.prog renByte := {
  mixed := by kernel_rfl
  f167 := Tryz.func75.trans (congrArg some (by kernel_rfl))
  f240 := Tryz.func34.trans (congrArg some (by kernel_rfl))
  f276 := Tryz.func56.trans (congrArg some (by kernel_rfl))
  t0 := Tryz.underlying0
  a0 := Tryz.isAgg0
  z0 := Tryz.sizeOf0
  v0 := Tryz.zeroValue0
  t4 := Tryz.underlying4
  a4 := Tryz.isAgg4
  z4 := Tryz.sizeOf4
  v4 := Tryz.zeroValue4
  t5 := Tryz.underlying5
  a5 := Tryz.isAgg5
  z5 := Tryz.sizeOf5
  v5 := Tryz.zeroValue5
  t9 := Tryz.underlying9
  a9 := Tryz.isAgg9
  z9 := Tryz.sizeOf9
  v9 := Tryz.zeroValue9
  t20 := Tryz.underlying20
  a20 := Tryz.isAgg20
  z20 := Tryz.sizeOf20
  v20 := Tryz.zeroValue20
  t37 := Tryz.underlying43
  a37 := Tryz.isAgg43
  z37 := Tryz.sizeOf43
  v37 := Tryz.zeroValue43
  t70 := Tryz.underlying42
  a70 := Tryz.isAgg42
  z70 := Tryz.sizeOf42
  v70 := Tryz.zeroValue42
  t72 := Tryz.underlying45
  a72 := Tryz.isAgg45
  z72 := Tryz.sizeOf45
  v72 := Tryz.zeroValue45
  t75 := Tryz.underlying50
  a75 := Tryz.isAgg50
  z75 := Tryz.sizeOf50
  v75 := Tryz.zeroValue50
  t164 := Tryz.underlying89
  a164 := Tryz.isAgg89
  z164 := Tryz.sizeOf89
  v164 := Tryz.zeroValue89 }
theorem extraByte : Builder.Extra Tryz.prog renByte := {
  sizeBuilder := by kernel_rfl
  liesBuilder := by kernel_rfl
  t5 := Tryz.underlying5
  a5 := Tryz.isAgg5
  z5 := Tryz.sizeOf5
  v5 := Tryz.zeroValue5
  infoByte := by kernel_rfl
  cellsByte := by kernel_rfl
  sizeByte := by kernel_rfl
  neB5 := by decide }

/-- What a call that writes leaves. -/
def WPost (B b : Nat) (w : World) (l : List UInt8) (e : Ending) (w' : World) : Prop := e = .returned (.tuple #[]) ∧ Buil w' B b l ∧ Below B w w' ∧ Rest b w w'
theorem byte_any (B b : Nat) (l : List UInt8) (c : UInt8) (w : World) (h : Buil w B b l) (hlen : l.length ≤ 90000000) (hBw : B ≤ w.heap.size) :
    Calls Tryz.prog 75 #[.pointer (some ⟨b, 0, none⟩), .int .u8 (c.toNat : Int)] w fun e w' => e = .returned .nilIface ∧ Buil w' B b (l ++ [c]) ∧ Below B w w' ∧ Rest b w w' := by
  refine (Any.Builder_WriteByte_k laysByte extraByte B b (Lib.byteCells l) (c.toNat : Int) w h (by rw [Lib.byteCells_length]; omega) hBw).mono ?_
  rintro e w' ⟨rfl, h1, hb, hk⟩
  refine ⟨rfl, ?_, hb, hk⟩
  rw [show Lib.byteCells l ++ [.int .u8 (c.toNat : Int)] = Lib.byteCells (l ++ [c]) by simp [Lib.byteCells]] at h1
  exact Or.inr h1
theorem byteN_any (B b : Nat) (l : List UInt8) (n : Int) (c : UInt8) (w : World) (hc : (c.toNat : Int) = n) (h : Buil w B b l) (hlen : l.length ≤ 90000000) (hBw : B ≤ w.heap.size) :
    Calls Tryz.prog 75 #[.pointer (some ⟨b, 0, none⟩), .int .u8 n] w fun e w' => e = .returned .nilIface ∧ Buil w' B b (l ++ [c]) ∧ Below B w w' ∧ Rest b w w' := by
  subst hc; exact byte_any B b l c w h hlen hBw
theorem Buil.lt {w : World} {B b : Nat} {l : List UInt8} (h : Buil w B b l) : b < w.heap.size := by
  rcases h with ⟨_, v, hb, _⟩ | ⟨_, v, hb, _⟩
  · exact (Array.getElem?_eq_some_iff.1 hb).1
  · exact (Array.getElem?_eq_some_iff.1 hb).1
/-- A block of another type than bytes, kept. -/
theorem Rest.blk {b p : Nat} {w w' : World} {cs : Array Value} {T : TypeId} (h : Rest b w w') (hp : w.heap[p]? = some (.cells cs T)) (hn : p ≠ b) (hT : T ≠ 5) : w'.heap[p]? = some (.cells cs T) :=
  h p _ hp (fun e => hn (Option.some.inj e)) (fun _ _ e => by injection e with _ e _; exact hT e)

theorem take_snoc_b (s : ByteArray) (k : Nat) (h : k < s.size) : s.data.toList.take (k + 1) = s.data.toList.take k ++ [s[k]] := by
  rw [List.take_succ_eq_append_getElem (by simpa using h)]; rfl

set_option maxHeartbeats 1000000 in
theorem writeQuoted_any (B b : Nat) (acc : List UInt8) (s : ByteArray) (w : World) (h : Buil w B b acc) (hs : s.size ≤ 10000000) (hacc : acc.length ≤ 50000000) (hBw : B ≤ w.heap.size) :
    Calls Tryz.prog 55 #[.pointer (some ⟨b, 0, none⟩), .string s] w (WPost B b w (acc ++ quoteL s.data.toList)) := by
  have HB := Lib.hid h
  clear h
  go_enter Tryz.func55, Tryz.ntmps55
  go_wp2_with fail
  refine (byteN_any B b acc 34 34 w (by decide) HB.out (by omega) hBw).mono ?_
  rintro e w1 ⟨rfl, hb1, hB1, hr1⟩
  have HB1 := Lib.hid hb1
  have HW1 := Lib.hid (And.intro hB1 hr1)
  clear hb1 hB1 hr1
  go_wp2
  go_loopw [9] (fun i wr => ∃ k : Nat, k ≤ s.size ∧ i = .int .i64 k ∧ Hid (Buil wr B b (acc ++ 34 :: escL (s.data.toList.take k))) ∧ Below B w wr ∧ Hid (Rest b w wr)) (fun i _ => s.size - (intOf i).toNat)
  case atStart => exact ⟨0, by omega, rfl, Lib.hid (by simpa [escL] using HB1.out), HW1.out.1, Lib.hid HW1.out.2⟩
  case round =>
    obtain ⟨k, hk, rfl, hcr, hbr, hrr⟩ := hrel
    have hws := hbr.size
    have hel := escL_le (s.data.toList.take k)
    have htl : (s.data.toList.take k).length ≤ s.size := by rw [List.length_take, Lib.size_eq]; omega
    have hal : (acc ++ 34 :: escL (s.data.toList.take k)).length ≤ 80000000 := by rw [List.length_append, List.length_cons]; omega
    by_cases hlt : k < s.size
    · have HTK : Hid (escL (s.data.toList.take (k + 1)) = escL (s.data.toList.take k) ++ (if s[k] == 34 || s[k] == 92 then [92, s[k]] else [s[k]])) := Lib.hid (by rw [take_snoc_b s k hlt, escL_snoc])
      have HCL : Hid (acc ++ 34 :: escL (s.data.toList.take (k + 1)) = (acc ++ 34 :: escL (s.data.toList.take k)) ++ (if s[k] == 34 || s[k] == 92 then [92, s[k]] else [s[k]])) := Lib.hid (by rw [HTK.out]; simp)
      generalize acc ++ 34 :: escL (s.data.toList.take k) = A1 at *
      generalize hc : s[k] = c at *
      have hcl := UInt8.toNat_lt c
      cases q1 : ((c.toNat : Int) == 34) with
      | true =>
        have hE : (c == 34 || c == 92) = true := by
          have h1 : (c.toNat : Int) = 34 := beq_iff_eq.1 q1
          have h2 : c = 34 := UInt8.toNat_inj.1 (by show c.toNat = 34; omega)
          rw [h2]; rfl
        rw [hE] at HCL
        go_wp2_with fail
        refine (byteN_any B b A1 92 92 wr (by decide) hcr.out (by omega) (by omega)).mono ?_
        rintro e w2 ⟨rfl, hb2, hB2, hr2⟩
        have HB2 := Lib.hid hb2
        have HR2 := Lib.hid (hrr.out.trans hr2)
        have hW2 := hbr.trans hB2
        have hws2 := hW2.size
        clear hb2 hr2 hB2
        go_wp2_with fail
        refine (byteN_any B b (A1 ++ [92]) c.toNat c w2 rfl HB2.out (by rw [List.length_append, List.length_singleton]; omega) (by omega)).mono ?_
        rintro e w3 ⟨rfl, hb3, hB3, hr3⟩
        have HB3 := Lib.hid hb3
        have HR3 := Lib.hid (HR2.out.trans hr3)
        have hW3 := hW2.trans hB3
        clear hb3 hr3 hB3
        go_wp2
        exact ⟨⟨k + 1, by omega, by go_num, Lib.hid (by rw [HCL.out]; have h := HB3.out; rw [List.append_assoc] at h; exact h), hW3, HR3⟩, by simp [intOf]; omega⟩
      | false =>
        cases q2 : ((c.toNat : Int) == 92) with
        | true =>
          have hE : (c == 34 || c == 92) = true := by
            have h1 : (c.toNat : Int) = 92 := beq_iff_eq.1 q2
            have h2 : c = 92 := UInt8.toNat_inj.1 (by show c.toNat = 92; omega)
            rw [h2]; rfl
          rw [hE] at HCL
          go_wp2_with fail
          refine (byteN_any B b A1 92 92 wr (by decide) hcr.out (by omega) (by omega)).mono ?_
          rintro e w2 ⟨rfl, hb2, hB2, hr2⟩
          have HB2 := Lib.hid hb2
          have HR2 := Lib.hid (hrr.out.trans hr2)
          have hW2 := hbr.trans hB2
          have hws2 := hW2.size
          clear hb2 hr2 hB2
          go_wp2_with fail
          refine (byteN_any B b (A1 ++ [92]) c.toNat c w2 rfl HB2.out (by rw [List.length_append, List.length_singleton]; omega) (by omega)).mono ?_
          rintro e w3 ⟨rfl, hb3, hB3, hr3⟩
          have HB3 := Lib.hid hb3
          have HR3 := Lib.hid (HR2.out.trans hr3)
          have hW3 := hW2.trans hB3
          clear hb3 hr3 hB3
          go_wp2
          exact ⟨⟨k + 1, by omega, by go_num, Lib.hid (by rw [HCL.out]; have h := HB3.out; rw [List.append_assoc] at h; exact h), hW3, HR3⟩, by simp [intOf]; omega⟩
        | false =>
          have hE : (c == 34 || c == 92) = false := by
            have h1 : (c.toNat : Int) ≠ 34 := beq_eq_false_iff_ne.1 q1
            have h2 : (c.toNat : Int) ≠ 92 := beq_eq_false_iff_ne.1 q2
            have h3 : (c == 34) = false := beq_eq_false_iff_ne.2 (fun e => h1 (by rw [e]; rfl))
            have h4 : (c == 92) = false := beq_eq_false_iff_ne.2 (fun e => h2 (by rw [e]; rfl))
            rw [h3, h4]; rfl
          rw [hE] at HCL
          go_wp2_with fail
          refine (byteN_any B b A1 c.toNat c wr rfl hcr.out (by omega) (by omega)).mono ?_
          rintro e w3 ⟨rfl, hb3, hB3, hr3⟩
          have HB3 := Lib.hid hb3
          have HR3 := Lib.hid (hrr.out.trans hr3)
          have hW3 := hbr.trans hB3
          clear hb3 hr3 hB3
          go_wp2
          exact ⟨⟨k + 1, by omega, by go_num, Lib.hid (by rw [HCL.out]; exact HB3.out), hW3, HR3⟩, by simp [intOf]; omega⟩
    · have hfull : s.data.toList.take k = s.data.toList := List.take_of_length_le (by rw [← Lib.size_eq]; omega)
      rw [hfull] at hcr hal
      clear hel htl hfull
      go_wp2_with fail
      refine (byteN_any B b _ 34 34 wr (by decide) hcr.out (by omega) (by omega)).mono ?_
      rintro e w3 ⟨rfl, hb3, hB3, hr3⟩
      have HB3 := Lib.hid hb3
      have HR3 := Lib.hid (hrr.out.trans hr3)
      have hW3 := hbr.trans hB3
      clear hb3 hr3 hB3
      go_wp2
      go_end0
      refine ⟨rfl, ?_, hW3, HR3.out⟩
      have h := HB3.out
      rw [List.append_assoc] at h
      exact h

/-- A new builder. -/
theorem buil_new (w : World) : Buil (w.alloc (.cells #[.pointer none, .slice none 0 0] 45)) w.heap.size w.heap.size [] := Lib.IsBuilderF.of (Lib.fresh_isBuilder 45 5 w)
theorem list_bytes {l : List UInt8} : ([] : List UInt8) ++ l = l := rfl

set_option maxHeartbeats 1000000 in
theorem quote_any (s : ByteArray) (w : World) (hs : s.size ≤ 10000000) :
    Calls Tryz.prog 33 #[.string s] w fun e w' => e = .returned (.string ⟨(quoteL s.data.toList).toArray⟩) ∧ Below w.heap.size w w' := by
  go_enter Tryz.func33, Tryz.ntmps33
  go_wp2_with fail
  have HB := Lib.hid (buil_new w)
  have HW : Hid (Below w.heap.size w (w.alloc (.cells #[.pointer none, .slice none 0 0] 45))) := Lib.hid ((Below.refl _ _).alloc (Nat.le_refl _) _)
  generalize w.alloc (.cells #[.pointer none, .slice none 0 0] 45) = W1 at *
  refine (writeQuoted_any w.heap.size w.heap.size [] s W1 HB.out hs (by simp) HW.out.size).mono ?_
  rintro e w2 ⟨rfl, hb2, hB2, _⟩
  have HB2 := Lib.hid hb2
  have hW2 := HW.out.trans hB2
  clear hb2 hB2
  go_wp2_with fail
  refine (string_any w.heap.size w.heap.size _ w2 HB2.out hW2.size).mono ?_
  rintro e w3 ⟨rfl, _, hB3, _⟩
  have hW3 := hW2.trans hB3
  clear hB3
  go_wp2
  go_ret
  exact ⟨rfl, hW3⟩
end Go.Proofs.YtggoebbfgkebcaaGreatDoor

namespace Go.Proofs.YtggoebbfgkebcaaGreatDoor
open Go.RowKit Go.Sort

theorem marksW_cons {l : List ByteArray} (h : l ≠ []) : marksW l = 60 :: (commaM l ++ [62]) := by cases l with | nil => exact absurd rfl h | cons x l => rfl
theorem attrsW_cons {l : List (ByteArray × ByteArray)} (h : l ≠ []) : attrsW l = 40 :: (blankA l ++ [41]) := by cases l with | nil => exact absurd rfl h | cons x l => rfl
theorem commaM_take_le (l : List ByteArray) (k : Nat) : (commaM (l.take k)).length ≤ weighL l := by
  have h1 := commaM_le (l.take k)
  have h2 : weighL (l.take k) + weighL (l.drop k) = weighL l := by unfold weighL; rw [← List.sum_append, ← List.map_append, List.take_append_drop]
  omega
theorem blankA_take_le (l : List (ByteArray × ByteArray)) (k : Nat) : (blankA (l.take k)).length ≤ 4 * weighP l := by
  have h1 := blankA_le (l.take k)
  have h2 : weighP (l.take k) + weighP (l.drop k) = weighP l := by unfold weighP; rw [← List.sum_append, ← List.map_append, List.take_append_drop]
  omega

set_option maxHeartbeats 1000000 in
theorem writeMarks_any (B b : Nat) (acc : List UInt8) (v : Value) (l : List ByteArray) (w : World) (hB : Buil w B b acc) (h : Strs w (Under B) v l) (hw : weighL l ≤ 1000000) (hacc : acc.length ≤ 45000000) (hBw : B ≤ w.heap.size) :
    Calls Tryz.prog 72 #[.pointer (some ⟨b, 0, none⟩), v] w (WPost B b w (acc ++ marksW l)) := by
  have hlen := length_le_weighL l
  obtain ⟨A, c, rfl, hc⟩ := h.form
  have HB := Lib.hid hB
  have HL := Lib.hid h
  clear hB h
  rcases Nat.eq_zero_or_pos l.length with h0 | h0
  · have HE : Hid (acc ++ marksW l = acc) := Lib.hid (by rw [List.eq_nil_of_length_eq_zero h0]; simp [marksW])
    have q : ((l.length : Int) == 0) = true := by rw [beq_iff_eq]; omega
    clear h0
    go_enter Tryz.func72, Tryz.ntmps72
    go_wp2
    go_end0
    exact ⟨rfl, by rw [HE.out]; exact HB.out, Below.refl _ _, Rest.refl _ _⟩
  · have HE : Hid (acc ++ marksW l = (acc ++ 60 :: commaM l) ++ [62]) := Lib.hid (by rw [marksW_cons (fun e => by rw [e] at h0; simp at h0)]; simp)
    have q : ((l.length : Int) == 0) = false := by rw [beq_eq_false_iff_ne]; omega
    go_enter Tryz.func72, Tryz.ntmps72
    go_wp2_with fail
    refine (byteN_any B b acc 60 60 w (by decide) HB.out (by omega) hBw).mono ?_
    rintro e w1 ⟨rfl, hb1, hB1, hr1⟩
    have HB1 := Lib.hid hb1
    have HW1 := Lib.hid (And.intro hB1 hr1)
    clear hb1 hB1 hr1
    go_wp2
    go_loopw [13] (fun i wr => ∃ k : Nat, k ≤ l.length ∧ i = .int .i64 k ∧ Hid (Buil wr B b (acc ++ 60 :: commaM (l.take k))) ∧ Below B w wr ∧ Hid (Rest b w wr)) (fun i _ => l.length - (intOf i).toNat)
    case atStart => exact ⟨0, by omega, rfl, Lib.hid (by simpa [commaM] using HB1.out), HW1.out.1, Lib.hid HW1.out.2⟩
    case round =>
      obtain ⟨k, hk, rfl, hcr, hbr, hrr⟩ := hrel
      have hws := hbr.size
      have hel := commaM_take_le l k
      have hal : (acc ++ 60 :: commaM (l.take k)).length ≤ 80000000 := by rw [List.length_append, List.length_cons]; omega
      by_cases hlt : k < l.length
      · obtain ⟨g, o, rfl, hub, hcell⟩ := HL.out.get hlt
        have hc1 := (hbr.cell (p := ⟨g, o + k, none⟩) hub).trans (hcell k hlt)
        have hsz := weighL_get (getD_some ByteArray.empty hlt)
        have HTK : Hid (commaM (l.take (k + 1)) = if (l.take k).isEmpty then (l.getD k ByteArray.empty).data.toList else commaM (l.take k) ++ 44 :: (l.getD k ByteArray.empty).data.toList) := Lib.hid (by
          rw [show l.take (k + 1) = l.take k ++ [l.getD k ByteArray.empty] by rw [List.take_succ_eq_append_getElem hlt, List.getD_eq_getElem?_getD, List.getElem?_eq_getElem hlt]; rfl, commaM_snoc])
        generalize l.getD k ByteArray.empty = x at *
        clear hcell
        rcases Nat.eq_zero_or_pos k with hk0 | hk0
        · have HTK' : Hid (acc ++ 60 :: commaM (l.take (k + 1)) = (acc ++ 60 :: commaM (l.take k)) ++ x.data.toList) := Lib.hid (by rw [HTK.out, hk0]; simp [commaM])
          have g0 : decide (0 < k) = false := by simp; omega
          generalize acc ++ 60 :: commaM (l.take k) = A1 at *
          clear hk0
          go_wp2_with fail
          refine (write_any B b A1 x wr hcr.out (by omega) (by omega)).mono ?_
          rintro e w3 ⟨rfl, hb3, hB3, hr3⟩
          have HB3 := Lib.hid hb3
          have HR3 := Lib.hid (hrr.out.trans hr3)
          have hW3 := hbr.trans hB3
          clear hb3 hr3 hB3
          go_wp2
          exact ⟨⟨k + 1, by omega, by go_num, Lib.hid (by rw [HTK'.out]; exact HB3.out), hW3, HR3⟩, by simp [intOf]; omega⟩
        · have HTK' : Hid (acc ++ 60 :: commaM (l.take (k + 1)) = ((acc ++ 60 :: commaM (l.take k)) ++ [44]) ++ x.data.toList) := Lib.hid (by
            have : (l.take k).isEmpty = false := by rw [List.isEmpty_eq_false_iff]; intro e; have := congrArg List.length e; rw [List.length_take, List.length_nil] at this; omega
            rw [HTK.out, this]; simp)
          generalize acc ++ 60 :: commaM (l.take k) = A1 at *
          have g0 : decide (0 < k) = true := by simpa using hk0
          go_wp2_with fail
          refine (byteN_any B b A1 44 44 wr (by decide) hcr.out (by omega) (by omega)).mono ?_
          rintro e w2 ⟨rfl, hb2, hB2, hr2⟩
          have HB2 := Lib.hid hb2
          have HR2 := Lib.hid (hrr.out.trans hr2)
          have hW2 := hbr.trans hB2
          have hws2 := hW2.size
          clear hb2 hr2 hB2
          go_wp2_with fail
          refine (write_any B b (A1 ++ [44]) x w2 HB2.out (by rw [List.length_append, List.length_singleton]; omega) (by omega)).mono ?_
          rintro e w3 ⟨rfl, hb3, hB3, hr3⟩
          have HB3 := Lib.hid hb3
          have HR3 := Lib.hid (HR2.out.trans hr3)
          have hW3 := hW2.trans hB3
          clear hb3 hr3 hB3
          go_wp2
          exact ⟨⟨k + 1, by omega, by go_num, Lib.hid (by rw [HTK'.out]; exact HB3.out), hW3, HR3⟩, by simp [intOf]; omega⟩
      · rw [List.take_of_length_le (by omega)] at hcr hal
        clear hel
        go_wp2_with fail
        refine (byteN_any B b _ 62 62 wr (by decide) hcr.out (by omega) (by omega)).mono ?_
        rintro e w3 ⟨rfl, hb3, hB3, hr3⟩
        have HB3 := Lib.hid hb3
        have HR3 := Lib.hid (hrr.out.trans hr3)
        have hW3 := hbr.trans hB3
        clear hb3 hr3 hB3
        go_wp2
        go_end0
        exact ⟨rfl, by rw [HE.out]; exact HB3.out, hW3, HR3.out⟩

set_option maxHeartbeats 2000000 in
theorem writeAttrs_any (B b : Nat) (acc : List UInt8) (v : Value) (l : List (ByteArray × ByteArray)) (w : World) (hB : Buil w B b acc) (h : Pairs w (Under B) v l) (hw : weighP l ≤ 1000000) (hacc : acc.length ≤ 40000000) (hBw : B ≤ w.heap.size) :
    Calls Tryz.prog 73 #[.pointer (some ⟨b, 0, none⟩), v] w (WPost B b w (acc ++ attrsW l)) := by
  have hlen := length_le_weighP l
  obtain ⟨A, c, rfl, hc⟩ := h.form
  have HB := Lib.hid hB
  have HL := Lib.hid h
  clear hB h
  rcases Nat.eq_zero_or_pos l.length with h0 | h0
  · have HE : Hid (acc ++ attrsW l = acc) := Lib.hid (by rw [List.eq_nil_of_length_eq_zero h0]; simp [attrsW])
    have q : ((l.length : Int) == 0) = true := by rw [beq_iff_eq]; omega
    clear h0
    go_enter Tryz.func73, Tryz.ntmps73
    go_wp2
    go_end0
    exact ⟨rfl, by rw [HE.out]; exact HB.out, Below.refl _ _, Rest.refl _ _⟩
  · have HE : Hid (acc ++ attrsW l = (acc ++ 40 :: blankA l) ++ [41]) := Lib.hid (by rw [attrsW_cons (fun e => by rw [e] at h0; simp at h0)]; simp)
    have q : ((l.length : Int) == 0) = false := by rw [beq_eq_false_iff_ne]; omega
    go_enter Tryz.func73, Tryz.ntmps73
    go_wp2_with fail
    refine (byteN_any B b acc 40 40 w (by decide) HB.out (by omega) hBw).mono ?_
    rintro e w1 ⟨rfl, hb1, hB1, hr1⟩
    have HB1 := Lib.hid hb1
    have HW1 := Lib.hid (And.intro hB1 hr1)
    clear hb1 hB1 hr1
    go_wp2
    go_loopw [13] (fun i wr => ∃ k : Nat, k ≤ l.length ∧ i = .int .i64 k ∧ Hid (Buil wr B b (acc ++ 40 :: blankA (l.take k))) ∧ Below B w wr ∧ Hid (Rest b w wr)) (fun i _ => l.length - (intOf i).toNat)
    case atStart => exact ⟨0, by omega, rfl, Lib.hid (by simpa [blankA] using HB1.out), HW1.out.1, Lib.hid HW1.out.2⟩
    case round =>
      obtain ⟨k, hk, rfl, hcr, hbr, hrr⟩ := hrel
      have hws := hbr.size
      have hel := blankA_take_le l k
      have hal : (acc ++ 40 :: blankA (l.take k)).length ≤ 45000000 := by rw [List.length_append, List.length_cons]; omega
      by_cases hlt : k < l.length
      · obtain ⟨g, o, rfl, hub, hcell⟩ := HL.out.get hlt
        have hc1 := (hbr.cell (p := ⟨g, o + k * 2, none⟩) hub).trans (hcell k hlt).1
        have hc2 := (hbr.cell (p := ⟨g, o + k * 2 + 1, none⟩) hub).trans (hcell k hlt).2
        have hsz := weighP_get (getD_some (ByteArray.empty, ByteArray.empty) hlt)
        have HTK : Hid (blankA (l.take (k + 1)) = if (l.take k).isEmpty then attrW (pairAt l k) else blankA (l.take k) ++ 32 :: attrW (pairAt l k)) := Lib.hid (by
          rw [show l.take (k + 1) = l.take k ++ [pairAt l k] by rw [List.take_succ_eq_append_getElem hlt, pairAt, List.getD_eq_getElem?_getD, List.getElem?_eq_getElem hlt]; rfl, blankA_snoc])
        change (pairAt l k).1.size + (pairAt l k).2.size < _ at hsz
        generalize pairAt l k = x at *
        have hbl := hcr.out.lt
        have HCR := Lib.hid (hcr.out.below ((Below.refl _ wr).alloc (Nat.le_refl _) (.cells #[.string x.1, .string x.2] 80)))
        have HPB : Hid ((wr.alloc (.cells #[.string x.1, .string x.2] 80)).heap[wr.heap.size]? = some (.cells #[.string x.1, .string x.2] 80)) := Lib.hid (by show (wr.heap.push _)[wr.heap.size]? = _; simp)
        have hWA : Below B w (wr.alloc (.cells #[.string x.1, .string x.2] 80)) := hbr.alloc (by omega) _
        have HRA : Hid (Rest b w (wr.alloc (.cells #[.string x.1, .string x.2] 80))) := Lib.hid (hrr.out.trans (Rest.of_below ((Below.refl _ _).alloc (Nat.le_refl _) _)))
        have hzA : (wr.alloc (.cells #[.string x.1, .string x.2] 80)).heap.size = wr.heap.size + 1 := by simp
        clear hcell hcr
        have key : ∀ (A1 : List UInt8), Hid (acc ++ 40 :: blankA (l.take (k + 1)) = A1 ++ attrW x) → Hid (acc ++ 40 :: blankA (l.take (k + 1)) = ((A1 ++ x.1.data.toList) ++ [61]) ++ quoteL x.2.data.toList) := fun A1 h => Lib.hid (by rw [h.out]; simp [attrW])
        rcases Nat.eq_zero_or_pos k with hk0 | hk0
        · have HTK' := key (acc ++ 40 :: blankA (l.take k)) (Lib.hid (by rw [HTK.out, hk0]; simp [blankA]))
          clear key
          have g0 : decide (0 < k) = false := by simp; omega
          generalize acc ++ 40 :: blankA (l.take k) = A1 at *
          clear hk0
          go_wp2_with fail
          generalize wr.alloc (.cells #[.string x.1, .string x.2] 80) = W2 at *
          refine (write_any B b A1 x.1 W2 HCR.out (by omega) (by omega)).mono ?_
          rintro e w3 ⟨rfl, hb3, hB3, hr3⟩
          have HB3 := Lib.hid hb3
          have HR3 := Lib.hid (HRA.out.trans hr3)
          have HP3 := Lib.hid (hr3.blk HPB.out (by omega) (by decide))
          have hW3 := hWA.trans hB3
          have hws3 := hW3.size
          clear hb3 hr3 hB3
          go_wp2_with fail
          refine (byteN_any B b (A1 ++ x.1.data.toList) 61 61 w3 (by decide) HB3.out (by rw [List.length_append, ← Lib.size_eq]; omega) (by omega)).mono ?_
          rintro e w4 ⟨rfl, hb4, hB4, hr4⟩
          have HB4 := Lib.hid hb4
          have HR4 := Lib.hid (HR3.out.trans hr4)
          have hp4 := hr4.blk HP3.out (by omega) (by decide)
          have p1 : w4.cell? ⟨wr.heap.size, 1, none⟩ = some (.string x.2) := by simp only [World.cell?, hp4]; rfl
          have hW4 := hW3.trans hB4
          have hws4 := hW4.size
          clear hb4 hr4 hB4 hp4
          go_wp2_with fail
          refine (writeQuoted_any B b ((A1 ++ x.1.data.toList) ++ [61]) x.2 w4 HB4.out (by omega) (by rw [List.length_append, List.length_append, ← Lib.size_eq, List.length_singleton]; omega) (by omega)).mono ?_
          rintro e w5 ⟨rfl, hb5, hB5, hr5⟩
          have HB5 := Lib.hid hb5
          have HR5 := Lib.hid (HR4.out.trans hr5)
          have hW5 := hW4.trans hB5
          clear hb5 hr5 hB5 p1
          go_wp2
          exact ⟨⟨k + 1, by omega, by go_num, Lib.hid (by rw [HTK'.out]; exact HB5.out), hW5, HR5⟩, by simp [intOf]; omega⟩
        · have HTK' := key ((acc ++ 40 :: blankA (l.take k)) ++ [32]) (Lib.hid (by
            have : (l.take k).isEmpty = false := by rw [List.isEmpty_eq_false_iff]; intro e; have := congrArg List.length e; rw [List.length_take, List.length_nil] at this; omega
            rw [HTK.out, this]; simp))
          clear key
          generalize acc ++ 40 :: blankA (l.take k) = A0 at *
          have g0 : decide (0 < k) = true := by simpa using hk0
          go_wp2_with fail
          generalize wr.alloc (.cells #[.string x.1, .string x.2] 80) = W2 at *
          refine (byteN_any B b A0 32 32 W2 (by decide) HCR.out (by omega) (by omega)).mono ?_
          rintro e w2 ⟨rfl, hb2, hB2, hr2⟩
          have HB2 := Lib.hid hb2
          have HR2 := Lib.hid (HRA.out.trans hr2)
          have hp2 := hr2.blk HPB.out (by omega) (by decide)
          have p0 : w2.cell? ⟨wr.heap.size, 0, none⟩ = some (.string x.1) := by simp only [World.cell?, hp2]; rfl
          have HP2 := Lib.hid hp2
          have hW2 := hWA.trans hB2
          have hws2 := hW2.size
          have hA1 : (A0 ++ [32]).length ≤ 45000001 := by rw [List.length_append, List.length_singleton]; omega
          generalize A0 ++ [32] = A1 at *
          clear hb2 hr2 hB2 hp2
          go_wp2_with fail
          refine (write_any B b A1 x.1 w2 HB2.out (by omega) (by omega)).mono ?_
          rintro e w3 ⟨rfl, hb3, hB3, hr3⟩
          have HB3 := Lib.hid hb3
          have HR3 := Lib.hid (HR2.out.trans hr3)
          have HP3 := Lib.hid (hr3.blk HP2.out (by omega) (by decide))
          have hW3 := hW2.trans hB3
          have hws3 := hW3.size
          clear hb3 hr3 hB3 p0
          go_wp2_with fail
          refine (byteN_any B b (A1 ++ x.1.data.toList) 61 61 w3 (by decide) HB3.out (by rw [List.length_append, ← Lib.size_eq]; omega) (by omega)).mono ?_
          rintro e w4 ⟨rfl, hb4, hB4, hr4⟩
          have HB4 := Lib.hid hb4
          have HR4 := Lib.hid (HR3.out.trans hr4)
          have hp4 := hr4.blk HP3.out (by omega) (by decide)
          have p1 : w4.cell? ⟨wr.heap.size, 1, none⟩ = some (.string x.2) := by simp only [World.cell?, hp4]; rfl
          have hW4 := hW3.trans hB4
          have hws4 := hW4.size
          clear hb4 hr4 hB4 hp4
          go_wp2_with fail
          refine (writeQuoted_any B b ((A1 ++ x.1.data.toList) ++ [61]) x.2 w4 HB4.out (by omega) (by rw [List.length_append, List.length_append, ← Lib.size_eq, List.length_singleton]; omega) (by omega)).mono ?_
          rintro e w5 ⟨rfl, hb5, hB5, hr5⟩
          have HB5 := Lib.hid hb5
          have HR5 := Lib.hid (HR4.out.trans hr5)
          have hW5 := hW4.trans hB5
          clear hb5 hr5 hB5 p1
          go_wp2
          exact ⟨⟨k + 1, by omega, by go_num, Lib.hid (by rw [HTK'.out]; exact HB5.out), hW5, HR5⟩, by simp [intOf]; omega⟩
      · rw [List.take_of_length_le (by omega)] at hcr hal
        clear hel
        go_wp2_with fail
        refine (byteN_any B b _ 41 41 wr (by decide) hcr.out (by omega) (by omega)).mono ?_
        rintro e w3 ⟨rfl, hb3, hB3, hr3⟩
        have HB3 := Lib.hid hb3
        have HR3 := Lib.hid (hrr.out.trans hr3)
        have hW3 := hbr.trans hB3
        clear hb3 hr3 hB3
        go_wp2
        go_end0
        exact ⟨rfl, by rw [HE.out]; exact HB3.out, hW3, HR3.out⟩

set_option maxHeartbeats 1000000 in
theorem writeHead_any (B b : Nat) (acc : List UInt8) (v : Value) (t : Tree) (w : World) (hB : Buil w B b acc) (h : Node w (Under B) v t) (hw : weigh t ≤ 1000000) (hacc : acc.length ≤ 30000000) (hBw : B ≤ w.heap.size) :
    Calls Tryz.prog 52 #[.pointer (some ⟨b, 0, none⟩), v] w (WPost B b w (acc ++ headW t)) := by
  have HB := Lib.hid hB
  obtain ⟨vm, va, vk, rfl, hm, ha, hk⟩ := h
  have HM := Lib.hid hm
  have HA := Lib.hid ha
  obtain ⟨A1, c1, rfl, _⟩ := hm.form
  obtain ⟨A2, c2, rfl, _⟩ := ha.form
  have hbl := hB.lt
  have hwk : t.kind.size + weighL t.marks + weighP t.attrs + 2 ≤ weigh t := by obtain ⟨k, t, m, a, l⟩ := t; simp only [weigh, Tree.kind, Tree.marks, Tree.attrs]; omega
  have HW : Hid (Below B w (w.alloc (.cells #[.string t.kind, .string t.text, .slice A1 t.marks.length c1, .slice A2 t.attrs.length c2, vk] 41))) := Lib.hid ((Below.refl _ _).alloc hBw _)
  have HR : Hid (Rest b w (w.alloc (.cells #[.string t.kind, .string t.text, .slice A1 t.marks.length c1, .slice A2 t.attrs.length c2, vk] 41))) := Lib.hid (Rest.of_below ((Below.refl _ _).alloc (Nat.le_refl _) _))
  have HB1 := Lib.hid (HB.out.below ((Below.refl _ w).alloc (Nat.le_refl _) (.cells #[.string t.kind, .string t.text, .slice A1 t.marks.length c1, .slice A2 t.attrs.length c2, vk] 41)))
  have HP : Hid ((w.alloc (.cells #[.string t.kind, .string t.text, .slice A1 t.marks.length c1, .slice A2 t.attrs.length c2, vk] 41)).heap[w.heap.size]? = some (.cells #[.string t.kind, .string t.text, .slice A1 t.marks.length c1, .slice A2 t.attrs.length c2, vk] 41)) := Lib.hid (by show (w.heap.push _)[w.heap.size]? = _; simp)
  have hz : (w.alloc (.cells #[.string t.kind, .string t.text, .slice A1 t.marks.length c1, .slice A2 t.attrs.length c2, vk] 41)).heap.size = w.heap.size + 1 := by simp
  clear hm ha hk hB HB
  cases hk : isTxt t.kind with
  | true =>
    have hk' : (t.kind.toList == [116, 101, 120, 116]) = true := hk
    have HE : Hid (headW t = marksW t.marks) := Lib.hid (by simp [headW, hk])
    clear hk
    go_enter Tryz.func52, Tryz.ntmps52
    go_wp2_with fail
    generalize w.alloc (.cells #[.string t.kind, .string t.text, .slice A1 t.marks.length c1, .slice A2 t.attrs.length c2, vk] 41) = W1 at *
    refine (writeMarks_any B b acc _ t.marks W1 HB1.out (HM.out.below HW.out) (by omega) (by omega) (by omega)).mono ?_
    rintro e w2 ⟨rfl, hb2, hB2, hr2⟩
    have HB2 := Lib.hid hb2
    have HR2 := Lib.hid (HR.out.trans hr2)
    have hW2 := HW.out.trans hB2
    clear hb2 hB2 hr2
    go_wp2
    refine bodyPost_ret (results_none rfl _ _ _) rfl ?_
    exact ⟨rfl, by rw [HE.out]; exact HB2.out, hW2, HR2.out⟩
  | false =>
    have hk' : (t.kind.toList == [116, 101, 120, 116]) = false := hk
    have HE : Hid (acc ++ headW t = (acc ++ t.kind.data.toList) ++ attrsW t.attrs) := Lib.hid (by simp [headW, hk])
    clear hk
    go_enter Tryz.func52, Tryz.ntmps52
    go_wp2_with fail
    generalize w.alloc (.cells #[.string t.kind, .string t.text, .slice A1 t.marks.length c1, .slice A2 t.attrs.length c2, vk] 41) = W1 at *
    refine (write_any B b acc t.kind W1 HB1.out (by omega) (by omega)).mono ?_
    rintro e w2 ⟨rfl, hb2, hB2, hr2⟩
    have HB2 := Lib.hid hb2
    have HR2 := Lib.hid (HR.out.trans hr2)
    have hp2 := hr2.blk HP.out (by omega) (by decide)
    have p3 : w2.cell? ⟨w.heap.size, 3, none⟩ = some (.slice A2 t.attrs.length c2) := by simp only [World.cell?, hp2]; rfl
    have hW2 := HW.out.trans hB2
    have hws2 := hW2.size
    clear hb2 hB2 hr2 hp2
    go_wp2_with fail
    refine (writeAttrs_any B b (acc ++ t.kind.data.toList) _ t.attrs w2 HB2.out (HA.out.below hW2) (by omega) (by rw [List.length_append, ← Lib.size_eq]; omega) (by omega)).mono ?_
    rintro e w3 ⟨rfl, hb3, hB3, hr3⟩
    have HB3 := Lib.hid hb3
    have HR3 := Lib.hid (HR2.out.trans hr3)
    have hW3 := hW2.trans hB3
    clear hb3 hB3 hr3 p3
    go_wp2
    go_end0
    exact ⟨rfl, by rw [HE.out]; exact HB3.out, hW3, HR3.out⟩
end Go.Proofs.YtggoebbfgkebcaaGreatDoor
