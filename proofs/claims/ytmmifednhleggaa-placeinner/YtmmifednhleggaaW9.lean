/-
  What the statements' own made and doc answer: nodes, by raw numbers.
-/
import Derived.Test.YtmmifednhleggaaW8
import Derived.Test.YtmmifednhleggaaNil
import Derived.Deep.CutBlock
namespace Go.Proofs.Ytmmifednhleggaa
open Go.RowKit Go.Sort

def textsL : List ByteArray := [⟨#[97]⟩, ⟨#[98, 99]⟩, ⟨#[195, 169]⟩, ⟨#[120, 32, 121]⟩, ⟨#[230, 151, 165, 230, 156, 172]⟩]
def kindsL : List ByteArray := [⟨#[112, 97, 114, 97]⟩, ⟨#[105, 116, 101, 109]⟩, ⟨#[108, 105, 115, 116]⟩, ⟨#[110, 111, 116, 101]⟩]
def ALIGN : ByteArray := ⟨#[97, 108, 105, 103, 110]⟩
def BB : ByteArray := ⟨#[98]⟩
def II : ByteArray := ⟨#[105]⟩

structure Cel where
  op : Int
  a : Int
  b : Int

def attrsOf (c : Cel) : List (ByteArray × ByteArray) := if pickN c.b 3 = 1 then [(ALIGN, textsL.getD (pickN (c.b.tdiv 3) 5).toNat ByteArray.empty)] else []
def marksOf (c : Cel) : List ByteArray := if pickN c.b 3 = 1 then [BB] else if pickN c.b 3 = 2 then [BB, II] else []
def kindOf (c : Cel) : ByteArray := kindsL.getD (pickN c.a 4).toNat ByteArray.empty
def textOf (c : Cel) : ByteArray := textsL.getD (pickN c.a 5).toNat ByteArray.empty
def manyOf (c : Cel) (n : Nat) : Nat := (pickN (c.b.tdiv 3) ((min n 6 : Nat) + 1)).toNat
def madeStep (out : List Tree) (c : Cel) : List Tree :=
  if pickN c.op 8 ≤ 3 then out ++ [.mk TEXT (textOf c) (marksOf c) [] []]
  else if pickN c.op 8 ≤ 6 then out.take (out.length - manyOf c out.length) ++ [.mk (kindOf c) ByteArray.empty [] (attrsOf c) (joinB (out.drop (out.length - manyOf c out.length)))]
  else out ++ [.mk (kindOf c) ByteArray.empty [] (attrsOf c) []]
def madeTo (l : List Cel) (k : Nat) : List Tree := (l.take k).foldl madeStep []
def madeB (l : List Cel) : List Tree := joinB (madeTo l 19)

/-- The statement's raw numbers, in memory. -/
def Cels (w : World) (S : Nat → Prop) (v : Value) (l : List Cel) : Prop :=
  ∃ A c, v = .slice A l.length c ∧ l.length ≤ c ∧ c ≤ maxLen ∧ (l = [] ∨ ∃ b o, A = some ⟨b, o, none⟩ ∧ S b ∧
    ∀ i x, l[i]? = some x → w.cell? ⟨b, o + i * 3, none⟩ = some (.int .i64 x.op) ∧ w.cell? ⟨b, o + i * 3 + 1, none⟩ = some (.int .i64 x.a) ∧ w.cell? ⟨b, o + i * 3 + 2, none⟩ = some (.int .i64 x.b)) ∧
    ∀ x ∈ l, (-9223372036854775808 ≤ x.op ∧ x.op ≤ 9223372036854775807) ∧ (-9223372036854775808 ≤ x.a ∧ x.a ≤ 9223372036854775807) ∧ (-9223372036854775808 ≤ x.b ∧ x.b ≤ 9223372036854775807)

theorem Cels.get {w : World} {S : Nat → Prop} {A : Option Addr} {n c : Nat} {l : List Cel} (h : Cels w S (.slice A n c) l) {k : Nat} (hk : k < l.length) :
    ∃ b o x, A = some ⟨b, o, none⟩ ∧ S b ∧ l[k]? = some x ∧ w.cell? ⟨b, o + k * 3, none⟩ = some (.int .i64 x.op) ∧ w.cell? ⟨b, o + k * 3 + 1, none⟩ = some (.int .i64 x.a) ∧ w.cell? ⟨b, o + k * 3 + 2, none⟩ = some (.int .i64 x.b) ∧
      (-9223372036854775808 ≤ x.op ∧ x.op ≤ 9223372036854775807) ∧ (-9223372036854775808 ≤ x.a ∧ x.a ≤ 9223372036854775807) ∧ (-9223372036854775808 ≤ x.b ∧ x.b ≤ 9223372036854775807) := by
  obtain ⟨A', c', hv, _, _, h, hr⟩ := h
  injection hv with hA _ _
  subst hA
  have hx : l[k]? = some l[k] := List.getElem?_eq_getElem hk
  rcases h with h | ⟨b, o, rfl, hb, h⟩
  · subst h; simp at hk
  · obtain ⟨h0, h1, h2⟩ := h k _ hx
    obtain ⟨r0, r1, r2⟩ := hr _ (List.mem_of_getElem? hx)
    exact ⟨b, o, l[k], rfl, hb, hx, h0, h1, h2, r0, r1, r2⟩

theorem textsL_size (n : Nat) : (textsL.getD n ByteArray.empty).size ≤ 6 := by
  match n with
  | 0 => decide
  | 1 => decide
  | 2 => decide
  | 3 => decide
  | 4 => decide
  | n + 5 => simp [textsL, List.getD]
theorem kindsL_size (n : Nat) : (kindsL.getD n ByteArray.empty).size ≤ 4 := by
  match n with
  | 0 => decide
  | 1 => decide
  | 2 => decide
  | 3 => decide
  | n + 4 => simp [kindsL, List.getD]
theorem marksOf_weigh (c : Cel) : weighL (marksOf c) ≤ 4 := by
  unfold marksOf; split
  · decide
  · split <;> decide
theorem attrsOf_weigh (c : Cel) : weighP (attrsOf c) ≤ 12 := by
  unfold attrsOf; split
  · have := textsL_size (pickN (c.b.tdiv 3) 5).toNat
    have h5 : ALIGN.size = 5 := by decide
    simp only [weighP, List.map_cons, List.map_nil, List.sum_cons, List.sum_nil, h5]; omega
  · decide
theorem madeStep_weigh (out : List Tree) (c : Cel) : weighAll (madeStep out c) ≤ weighAll out + 40 := by
  have h1 := textsL_size (pickN c.a 5).toNat
  have h2 := kindsL_size (pickN c.a 4).toNat
  have h3 := marksOf_weigh c
  have h4 := attrsOf_weigh c
  have h5 : TEXT.size = 4 := by decide
  have h6 : ByteArray.empty.size = 0 := by decide
  have h7 : weighL [] = 0 := by decide
  have h8 : weighP [] = 0 := by decide
  unfold madeStep
  split
  · rw [weighAll_append]; simp only [weighAll, weigh, textOf, h5, h8]; omega
  · split
    · have hj := joinB_weigh (out.drop (out.length - manyOf c out.length))
      have hs := weighAll_append (out.take (out.length - manyOf c out.length)) (out.drop (out.length - manyOf c out.length))
      rw [List.take_append_drop] at hs
      rw [weighAll_append]; simp only [weighAll, weigh, kindOf, h6, h7]; omega
    · rw [weighAll_append]; simp only [weighAll, weigh, kindOf, h6, h7]; omega
theorem madeTo_succ (l : List Cel) (k : Nat) (x : Cel) (h : l[k]? = some x) : madeTo l (k + 1) = madeStep (madeTo l k) x := by
  have hk : k < l.length := (List.getElem?_eq_some_iff.1 h).1
  have hx : l[k] = x := (List.getElem?_eq_some_iff.1 h).2
  unfold madeTo
  rw [List.take_succ_eq_append_getElem hk, List.foldl_append, hx]; rfl
theorem madeTo_weigh (l : List Cel) : ∀ k, weighAll (madeTo l k) ≤ 40 * k
  | 0 => by simp [madeTo, weighAll]
  | k + 1 => by
    have ih := madeTo_weigh l k
    rcases h : l[k]? with _ | x
    · have hk : l.length ≤ k := List.getElem?_eq_none_iff.1 h
      have : madeTo l (k + 1) = madeTo l k := by unfold madeTo; rw [List.take_of_length_le hk, List.take_of_length_le (by omega)]
      rw [this]; omega
    · rw [madeTo_succ l k x h]
      have := madeStep_weigh (madeTo l k) x
      omega
end Go.Proofs.Ytmmifednhleggaa
