/-
  The reader of expressions as plain functions; the chapter's example (no program's function is named here).
-/
import Derived.Test.YtldmimekmjmkgaaDoorFs
namespace Go.Proofs.YtldmimekmjmkgaaDoor
open Go.RowKit Go.Sort

def nulE : Ex := .mk 0 ByteArray.empty []
/-- What is left of the text, and how many units may still be read. -/
abbrev RdS := List UInt8 × Int
def skipL (s : RdS) (p : List UInt8) : RdS := (Lib.trimPrefix s.1 p, s.2)
/-- several's loop, in so many rounds at most. -/
def moreP (sep : List UInt8) (part : RdS → Ex × RdS) : Nat → RdS → List Ex × RdS
  | 0, s => ([], s)
  | k + 1, s => if 0 < s.2 ∧ Lib.hasPrefix s.1 sep = true then ((part (skipL s sep)).1 :: (moreP sep part k (part (skipL s sep)).2).1, (moreP sep part k (part (skipL s sep)).2).2) else ([], s)
def severalP (op : Nat) (sep : List UInt8) (part : RdS → Ex × RdS) (s : RdS) : Ex × RdS :=
  if (moreP sep part (part s).2.2.toNat (part s).2).1.length = 0 then ((part s).1, (moreP sep part (part s).2.2.toNat (part s).2).2)
  else (.mk op ByteArray.empty ((part s).1 :: (moreP sep part (part s).2.2.toNat (part s).2).1), (moreP sep part (part s).2.2.toNat (part s).2).2)
def repeatedP (unit : RdS → Ex × RdS) (s : RdS) : Ex × RdS :=
  match (unit s).2.1 with
  | [] => unit s
  | c :: r => if repE c.toNat then (.mk c.toNat ByteArray.empty [(unit s).1], (r, (unit s).2.2)) else unit s
def nameP (s : RdS) : Ex × RdS := (.mk 110 ⟨(s.1.takeWhile small).toArray⟩ [], (s.1.dropWhile small, s.2))
/-- A unit, with so many units in one another at most. -/
def unitP : Nat → RdS → Ex × RdS
  | 0, s => (nulE, (s.1, s.2 - 1))
  | n + 1, s =>
    if s.2 - 1 < 0 then (nulE, (s.1, s.2 - 1))
    else if Lib.hasPrefix s.1 [40, 41] then (.mk 115 ByteArray.empty [], (Lib.trimPrefix s.1 [40, 41], s.2 - 1))
    else if Lib.hasPrefix s.1 [40] then
      let c := severalP 97 [124] (severalP 115 [32] (repeatedP (unitP n))) (Lib.trimPrefix s.1 [40], s.2 - 1)
      if Lib.hasPrefix c.2.1 [41] then (c.1, (Lib.trimPrefix c.2.1 [41], c.2.2)) else (nulE, c.2)
    else nameP (s.1, s.2 - 1)
def rowP (n : Nat) : RdS → Ex × RdS := severalP 115 [32] (repeatedP (unitP n))
def choiceP (n : Nat) : RdS → Ex × RdS := severalP 97 [124] (rowP n)
def readE (l : List UInt8) : Ex := (choiceP 24 (l, 24)).1

def PARA : ByteArray := ⟨#[112, 97, 114, 97]⟩
def LIST : ByteArray := ⟨#[108, 105, 115, 116]⟩
def exE : Ex := .mk 43 ByteArray.empty [.mk 97 ByteArray.empty [.mk 110 PARA [], .mk 110 LIST []]]
theorem exE_right : rightE okN exE = true := by kernel_rfl
theorem exE_read : readE [40, 112, 97, 114, 97, 124, 108, 105, 115, 116, 41, 43] = exE := by kernel_rfl
theorem exE_write : writeE exE = ⟨#[40, 112, 97, 114, 97, 124, 108, 105, 115, 116, 41, 43]⟩ := by kernel_rfl
theorem exE_lang (w : List ByteArray) : lang exE w ↔ lCat (fun w => w = [PARA] ∨ w = [LIST] ∨ False) (lStar (fun w => w = [PARA] ∨ w = [LIST] ∨ False)) w := by
  have e : langOne [Ex.mk 97 ByteArray.empty [.mk 110 PARA [], .mk 110 LIST []]] = fun w => w = [PARA] ∨ w = [LIST] ∨ False := by
    rw [langOne, lang]
    simp only [show ¬ (97 = 110) from by omega, show ¬ (97 = 115) from by omega, if_false, if_true]
    funext w
    rw [langAlt, langAlt, langAlt, lang, lang]
    simp
  unfold exE
  rw [lang, e]
  simp
theorem exE_one : lang exE [PARA] := (exE_lang _).2 ⟨[PARA], [], rfl, .inl rfl, .nil⟩
theorem exE_two : lang exE [LIST, PARA] := (exE_lang _).2 ⟨[LIST], [PARA], rfl, .inr (.inl rfl), lStar_one (.inl rfl)⟩
theorem exE_none : ¬ lang exE [] := fun h => by
  obtain ⟨u, v, h1, h2, _⟩ := (exE_lang _).1 h
  rcases h2 with rfl | rfl | h2
  · cases h1
  · cases h1
  · exact h2
end Go.Proofs.YtldmimekmjmkgaaDoor
