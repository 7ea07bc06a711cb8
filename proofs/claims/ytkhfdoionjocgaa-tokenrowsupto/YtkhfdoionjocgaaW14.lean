/-
  What a text that grows (strings.Builder) answers, and node.Words.
-/
import Derived.Test.YtkhfdoionjocgaaW6
import Derived.Shelf.Strings.BuilderK
namespace Go.Proofs.Ytkhfdoionjocgaa
open Go.RowKit Go.Sort

def renWrite : Go.Shelf.Ren := ⟨fun | 166 => 24 | 240 => 27 | 276 => 29 | n => n,
  fun | 0 => 0 | 3 => 3 | 4 => 4 | 9 => 9 | 20 => 20 | 37 => 53 | 70 => 52 | 72 => 55 | 75 => 61 | 164 => 68 | 5 => 5 | 80 => 57 | n => n, fun | n => n⟩
theorem laysWrite : Lays.n166 Try.prog renWrite := {
  mixed := by kernel_rfl
  f166 := Try.func24.trans (congrArg some (by kernel_rfl))
  f240 := Try.func27.trans (congrArg some (by kernel_rfl))
  f276 := Try.func29.trans (congrArg some (by kernel_rfl))
  t0 := Try.underlying0
  a0 := Try.isAgg0
  z0 := Try.sizeOf0
  v0 := Try.zeroValue0
  t3 := Try.underlying3
  a3 := Try.isAgg3
  z3 := Try.sizeOf3
  v3 := Try.zeroValue3
  t4 := Try.underlying4
  a4 := Try.isAgg4
  z4 := Try.sizeOf4
  v4 := Try.zeroValue4
  t9 := Try.underlying9
  a9 := Try.isAgg9
  z9 := Try.sizeOf9
  v9 := Try.zeroValue9
  t20 := Try.underlying20
  a20 := Try.isAgg20
  z20 := Try.sizeOf20
  v20 := Try.zeroValue20
  t37 := Try.underlying53
  a37 := Try.isAgg53
  z37 := Try.sizeOf53
  v37 := Try.zeroValue53
  t70 := Try.underlying52
  a70 := Try.isAgg52
  z70 := Try.sizeOf52
  v70 := Try.zeroValue52
  t72 := Try.underlying55
  a72 := Try.isAgg55
  z72 := Try.sizeOf55
  v72 := Try.zeroValue55
  t75 := Try.underlying61
  a75 := Try.isAgg61
  z75 := Try.sizeOf61
  v75 := Try.zeroValue61
  t164 := Try.underlying68
  a164 := Try.isAgg68
  z164 := Try.sizeOf68
  v164 := Try.zeroValue68 }
theorem extraWrite : Builder.Extra Try.prog renWrite := {
  sizeBuilder := by kernel_rfl
  liesBuilder := by kernel_rfl
  t5 := Try.underlying5
  a5 := Try.isAgg5
  z5 := Try.sizeOf5
  v5 := Try.zeroValue5
  infoByte := by kernel_rfl
  cellsByte := by kernel_rfl
  sizeByte := by kernel_rfl
  neB5 := by decide }
def renString : Go.Shelf.Ren := ⟨fun | 169 => 21 | n => n, fun | 70 => 52 | 72 => 55 | 37 => 53 | 127 => 65 | 5 => 5 | 0 => 0 | 3 => 3 | 9 => 9 | n => n, fun | n => n⟩
theorem laysString : Lays.n169 Try.prog renString := {
  mixed := by kernel_rfl
  f169 := Try.func21.trans (congrArg some (by kernel_rfl))
  t0 := Try.underlying0
  a0 := Try.isAgg0
  z0 := Try.sizeOf0
  v0 := Try.zeroValue0
  t3 := Try.underlying3
  a3 := Try.isAgg3
  z3 := Try.sizeOf3
  v3 := Try.zeroValue3
  t9 := Try.underlying9
  a9 := Try.isAgg9
  z9 := Try.sizeOf9
  v9 := Try.zeroValue9
  t37 := Try.underlying53
  a37 := Try.isAgg53
  z37 := Try.sizeOf53
  v37 := Try.zeroValue53
  t70 := Try.underlying52
  a70 := Try.isAgg52
  z70 := Try.sizeOf52
  v70 := Try.zeroValue52
  t72 := Try.underlying55
  a72 := Try.isAgg55
  z72 := Try.sizeOf55
  v72 := Try.zeroValue55
  t127 := Try.underlying65
  a127 := Try.isAgg65
  z127 := Try.sizeOf65
  v127 := Try.zeroValue65 }
theorem extraString : Builder.Extra Try.prog renString := {
  sizeBuilder := by kernel_rfl
  liesBuilder := by kernel_rfl
  t5 := Try.underlying5
  a5 := Try.isAgg5
  z5 := Try.sizeOf5
  v5 := Try.zeroValue5
  infoByte := by kernel_rfl
  cellsByte := by kernel_rfl
  sizeByte := by kernel_rfl
  neB5 := by decide }

/-- A builder in block b, that holds the bytes l. -/
def Buil (w : World) (B b : Nat) (l : List UInt8) : Prop := Lib.IsBuilderF 55 5 B b (Lib.byteCells l) w
def Rest (b : Nat) (w w' : World) : Prop := Lib.OthersKept 5 (some b) w w'
theorem Rest.trans {b : Nat} {a c d : World} (h : Rest b a c) (k : Rest b c d) : Rest b a d := Lib.OthersKept.trans h k
theorem Rest.refl (b : Nat) (w : World) : Rest b w w := Lib.OthersKept.refl _ _ _
theorem Rest.of_below {b : Nat} {w w' : World} (h : Below w.heap.size w w') : Rest b w w' :=
  fun k _ hk _ _ => (h.block k (Array.getElem?_eq_some_iff.1 hk).1).trans hk
theorem Buil.at_below {w w' : World} {B b : Nat} {p : Value} {xs : List Value} (h : Lib.BuilderAtF 55 5 B b p xs w) (hb : Below w.heap.size w w') : Lib.BuilderAtF 55 5 B b p xs w' := by
  obtain ⟨hB, v, hbk, hown, hne⟩ := h
  refine ⟨hB, v, (hb.block b (Array.getElem?_eq_some_iff.1 hbk).1).trans hbk, ⟨hown.1, ?_⟩, hne⟩
  rcases hown.2 with hn | ⟨g, cap, cur, fz, hv, hbg, hg, rest⟩
  · exact .inl hn
  · exact .inr ⟨g, cap, cur, fz, hv, hbg, (hb.block g (Array.getElem?_eq_some_iff.1 hg).1).trans hg, rest⟩
theorem Buil.below {w w' : World} {B b : Nat} {l : List UInt8} (h : Buil w B b l) (hb : Below w.heap.size w w') : Buil w' B b l :=
  Or.elim h (fun x => .inl (Buil.at_below x hb)) (fun x => .inr (Buil.at_below x hb))

theorem write_any (B b : Nat) (l : List UInt8) (s : ByteArray) (w : World) (h : Buil w B b l) (hlen : l.length + s.size ≤ 100000000) (hBw : B ≤ w.heap.size) :
    Calls Try.prog 24 #[.pointer (some ⟨b, 0, none⟩), .string s] w fun e w' => e = .returned (.tuple #[.int .i64 s.size, .nilIface]) ∧ Buil w' B b (l ++ s.data.toList) ∧ Below B w w' ∧ Rest b w w' := by
  refine (Any.Builder_WriteString_k laysWrite extraWrite B b (Lib.byteCells l) s w h (by rw [Lib.byteCells_length]; omega) hBw).mono ?_
  rintro e w' ⟨rfl, h1, hb, hk⟩
  refine ⟨rfl, ?_, hb, hk⟩
  rw [Lib.strCells_eq, ← Lib.byteCells_append] at h1
  exact Or.inr h1
theorem string_any (B b : Nat) (l : List UInt8) (w : World) (h : Buil w B b l) (hBw : B ≤ w.heap.size) :
    Calls Try.prog 21 #[.pointer (some ⟨b, 0, none⟩)] w fun e w' => e = .returned (.string ⟨l.toArray⟩) ∧ Buil w' B b l ∧ Below B w w' ∧ Rest b w w' :=
  (Any.Builder_String_any_k laysString extraString B b l w h hBw).mono fun _ _ ⟨he, h1, hb, hk⟩ => ⟨he, h1, hb, hk⟩

mutual
def wordsB : Tree → List UInt8
  | .mk k t _ _ l => if isTxt k then t.data.toList else wordsAll l
def wordsAll : List Tree → List UInt8
  | [] => []
  | x :: l => wordsB x ++ wordsAll l
end
theorem wordsAll_append (a b : List Tree) : wordsAll (a ++ b) = wordsAll a ++ wordsAll b := by
  induction a with
  | nil => simp [wordsAll]
  | cons x l ih => simp only [List.cons_append, wordsAll, ih, List.append_assoc]
mutual
theorem words_le_weigh : ∀ t : Tree, (wordsB t).length ≤ weigh t
  | .mk k t m a l => by
    have h1 := wordsAll_le_weigh l
    have h2 := Lib.size_eq t
    simp only [wordsB, weigh]; split <;> omega
theorem wordsAll_le_weigh : ∀ l : List Tree, (wordsAll l).length ≤ weighAll l
  | [] => by simp [wordsAll]
  | x :: l => by have h1 := words_le_weigh x; have h2 := wordsAll_le_weigh l; simp only [wordsAll, weighAll, List.length_append]; omega
end
end Go.Proofs.Ytkhfdoionjocgaa
