/-
  What a text that grows (strings.Builder) answers, and node.Words.
-/
import Derived.Test.YtdbpnfabcmndjaaDoorW6
import Derived.Shelf.Strings.BuilderK
namespace Go.Proofs.YtdbpnfabcmndjaaDoor
open Go.RowKit Go.Sort

def renWrite : Go.Shelf.Ren := ⟨fun | 166 => 40 | 240 => 57 | 276 => 65 | n => n,
  fun | 0 => 0 | 3 => 3 | 4 => 4 | 9 => 9 | 20 => 20 | 37 => 48 | 70 => 47 | 72 => 50 | 75 => 53 | 164 => 79 | 5 => 5 | 80 => 56 | n => n, fun | n => n⟩
theorem laysWrite : Lays.n166 Tryd.prog renWrite := {
  mixed := by kernel_rfl
  f166 := Tryd.func40.trans (congrArg some (by kernel_rfl))
  f240 := Tryd.func57.trans (congrArg some (by kernel_rfl))
  f276 := Tryd.func65.trans (congrArg some (by kernel_rfl))
  t0 := Tryd.underlying0
  a0 := Tryd.isAgg0
  z0 := Tryd.sizeOf0
  v0 := Tryd.zeroValue0
  t3 := Tryd.underlying3
  a3 := Tryd.isAgg3
  z3 := Tryd.sizeOf3
  v3 := Tryd.zeroValue3
  t4 := Tryd.underlying4
  a4 := Tryd.isAgg4
  z4 := Tryd.sizeOf4
  v4 := Tryd.zeroValue4
  t9 := Tryd.underlying9
  a9 := Tryd.isAgg9
  z9 := Tryd.sizeOf9
  v9 := Tryd.zeroValue9
  t20 := Tryd.underlying20
  a20 := Tryd.isAgg20
  z20 := Tryd.sizeOf20
  v20 := Tryd.zeroValue20
  t37 := Tryd.underlying48
  a37 := Tryd.isAgg48
  z37 := Tryd.sizeOf48
  v37 := Tryd.zeroValue48
  t70 := Tryd.underlying47
  a70 := Tryd.isAgg47
  z70 := Tryd.sizeOf47
  v70 := Tryd.zeroValue47
  t72 := Tryd.underlying50
  a72 := Tryd.isAgg50
  z72 := Tryd.sizeOf50
  v72 := Tryd.zeroValue50
  t75 := Tryd.underlying53
  a75 := Tryd.isAgg53
  z75 := Tryd.sizeOf53
  v75 := Tryd.zeroValue53
  t164 := Tryd.underlying79
  a164 := Tryd.isAgg79
  z164 := Tryd.sizeOf79
  v164 := Tryd.zeroValue79 }
theorem extraWrite : Builder.Extra Tryd.prog renWrite := {
  sizeBuilder := by kernel_rfl
  liesBuilder := by kernel_rfl
  t5 := Tryd.underlying5
  a5 := Tryd.isAgg5
  z5 := Tryd.sizeOf5
  v5 := Tryd.zeroValue5
  infoByte := by kernel_rfl
  cellsByte := by kernel_rfl
  sizeByte := by kernel_rfl
  neB5 := by decide }
def renString : Go.Shelf.Ren := ⟨fun | 169 => 41 | n => n, fun | 70 => 47 | 72 => 50 | 37 => 48 | 127 => 72 | 5 => 5 | 0 => 0 | 3 => 3 | 9 => 9 | n => n, fun | n => n⟩
theorem laysString : Lays.n169 Tryd.prog renString := {
  mixed := by kernel_rfl
  f169 := Tryd.func41.trans (congrArg some (by kernel_rfl))
  t0 := Tryd.underlying0
  a0 := Tryd.isAgg0
  z0 := Tryd.sizeOf0
  v0 := Tryd.zeroValue0
  t3 := Tryd.underlying3
  a3 := Tryd.isAgg3
  z3 := Tryd.sizeOf3
  v3 := Tryd.zeroValue3
  t9 := Tryd.underlying9
  a9 := Tryd.isAgg9
  z9 := Tryd.sizeOf9
  v9 := Tryd.zeroValue9
  t37 := Tryd.underlying48
  a37 := Tryd.isAgg48
  z37 := Tryd.sizeOf48
  v37 := Tryd.zeroValue48
  t70 := Tryd.underlying47
  a70 := Tryd.isAgg47
  z70 := Tryd.sizeOf47
  v70 := Tryd.zeroValue47
  t72 := Tryd.underlying50
  a72 := Tryd.isAgg50
  z72 := Tryd.sizeOf50
  v72 := Tryd.zeroValue50
  t127 := Tryd.underlying72
  a127 := Tryd.isAgg72
  z127 := Tryd.sizeOf72
  v127 := Tryd.zeroValue72 }
theorem extraString : Builder.Extra Tryd.prog renString := {
  sizeBuilder := by kernel_rfl
  liesBuilder := by kernel_rfl
  t5 := Tryd.underlying5
  a5 := Tryd.isAgg5
  z5 := Tryd.sizeOf5
  v5 := Tryd.zeroValue5
  infoByte := by kernel_rfl
  cellsByte := by kernel_rfl
  sizeByte := by kernel_rfl
  neB5 := by decide }

/-- A builder in block b, that holds the bytes l. -/
def Buil (w : World) (B b : Nat) (l : List UInt8) : Prop := Lib.IsBuilderF 50 5 B b (Lib.byteCells l) w
def Rest (b : Nat) (w w' : World) : Prop := Lib.OthersKept 5 (some b) w w'
theorem Rest.trans {b : Nat} {a c d : World} (h : Rest b a c) (k : Rest b c d) : Rest b a d := Lib.OthersKept.trans h k
theorem Rest.refl (b : Nat) (w : World) : Rest b w w := Lib.OthersKept.refl _ _ _
theorem Rest.of_below {b : Nat} {w w' : World} (h : Below w.heap.size w w') : Rest b w w' :=
  fun k _ hk _ _ => (h.block k (Array.getElem?_eq_some_iff.1 hk).1).trans hk
theorem Buil.at_below {w w' : World} {B b : Nat} {p : Value} {xs : List Value} (h : Lib.BuilderAtF 50 5 B b p xs w) (hb : Below w.heap.size w w') : Lib.BuilderAtF 50 5 B b p xs w' := by
  obtain ⟨hB, v, hbk, hown, hne⟩ := h
  refine ⟨hB, v, (hb.block b (Array.getElem?_eq_some_iff.1 hbk).1).trans hbk, ⟨hown.1, ?_⟩, hne⟩
  rcases hown.2 with hn | ⟨g, cap, cur, fz, hv, hbg, hg, rest⟩
  · exact .inl hn
  · exact .inr ⟨g, cap, cur, fz, hv, hbg, (hb.block g (Array.getElem?_eq_some_iff.1 hg).1).trans hg, rest⟩
theorem Buil.below {w w' : World} {B b : Nat} {l : List UInt8} (h : Buil w B b l) (hb : Below w.heap.size w w') : Buil w' B b l :=
  Or.elim h (fun x => .inl (Buil.at_below x hb)) (fun x => .inr (Buil.at_below x hb))

theorem write_any (B b : Nat) (l : List UInt8) (s : ByteArray) (w : World) (h : Buil w B b l) (hlen : l.length + s.size ≤ 100000000) (hBw : B ≤ w.heap.size) :
    Calls Tryd.prog 40 #[.pointer (some ⟨b, 0, none⟩), .string s] w fun e w' => e = .returned (.tuple #[.int .i64 s.size, .nilIface]) ∧ Buil w' B b (l ++ s.data.toList) ∧ Below B w w' ∧ Rest b w w' := by
  refine (Any.Builder_WriteString_k laysWrite extraWrite B b (Lib.byteCells l) s w h (by rw [Lib.byteCells_length]; omega) hBw).mono ?_
  rintro e w' ⟨rfl, h1, hb, hk⟩
  refine ⟨rfl, ?_, hb, hk⟩
  rw [Lib.strCells_eq, ← Lib.byteCells_append] at h1
  exact Or.inr h1
theorem string_any (B b : Nat) (l : List UInt8) (w : World) (h : Buil w B b l) (hBw : B ≤ w.heap.size) :
    Calls Tryd.prog 41 #[.pointer (some ⟨b, 0, none⟩)] w fun e w' => e = .returned (.string ⟨l.toArray⟩) ∧ Buil w' B b l ∧ Below B w w' ∧ Rest b w w' :=
  (Any.Builder_String_any_k laysString extraString B b l w h hBw).mono fun _ _ ⟨he, h1, hb, hk⟩ => ⟨he, h1, hb, hk⟩

mutual
def wordsB : Tree → List UInt8
  | .mk k t _ _ l => if isTxt k then t.data.toList else wordsAll l
def wordsAll : List Tree → List UInt8
  | [] => []
  | x :: l => wordsB x ++ wordsAll l
end
theorem wordsAll_append (a b : List Tree) : wordsAll (a ++ b) = wordsAll a ++ wordsAll b := by
  induction a with
  | nil => simp [wordsAll]
  | cons x l ih => simp only [List.cons_append, wordsAll, ih, List.append_assoc]
mutual
theorem words_le_weigh : ∀ t : Tree, (wordsB t).length ≤ weigh t
  | .mk k t m a l => by
    have h1 := wordsAll_le_weigh l
    have h2 := Lib.size_eq t
    simp only [wordsB, weigh]; split <;> omega
theorem wordsAll_le_weigh : ∀ l : List Tree, (wordsAll l).length ≤ weighAll l
  | [] => by simp [wordsAll]
  | x :: l => by have h1 := words_le_weigh x; have h2 := wordsAll_le_weigh l; simp only [wordsAll, weighAll, List.length_append]; omega
end
end Go.Proofs.YtdbpnfabcmndjaaDoor
