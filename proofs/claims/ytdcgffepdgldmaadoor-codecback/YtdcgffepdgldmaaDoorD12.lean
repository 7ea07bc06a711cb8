/-
  Parse as a plain function; Parse of what Print wrote.
-/
import Derived.Test.YtdcgffepdgldmaaDoorD11
namespace Go.Proofs.YtdcgffepdgldmaaDoor
open Go.RowKit Go.Sort Go.Maps

/-- The node by which a list of nodes is judged. -/
def around (l : List Tree) : Tree := .mk ⟨#[120]⟩ ⟨#[]⟩ [] [] l
def noTree : Tree := .mk ⟨#[]⟩ ⟨#[]⟩ [] [] []
/-- read: the nodes, and whether all stood right. -/
def readL (s : List UInt8) : List Tree × Bool :=
  (((readN s.length s false [around []]).1.getLast?.map Tree.kids).getD [], !(readN s.length s false [around []]).2 && (readN s.length s false [around []]).1.length == 1)
def parseB (s : List UInt8) : Tree × Int :=
  match readL s with
  | ([t], true) => if checkB t = 0 then (t, 0) else (noTree, checkB t)
  | _ => (noTree, 2)
def parseAllB (s : List UInt8) : List Tree × Int :=
  match readL s with
  | (l, true) => if checkB (around l) = 0 then (l, 0) else ([], checkB (around l))
  | _ => ([], 2)

theorem readN_nil (n : Nat) (x : Bool) (st : List Tree) : readN n [] x st = (st, x) := by cases n <;> rfl
theorem check_zero {t : Tree} (h : checkB t = 0) : formedB t = true ∧ depthB t ≤ 40 := by
  unfold checkB at h
  split at h
  · rename_i hf
    split at h
    · cases h
    · exact ⟨hf, by omega⟩
  · cases h
theorem aft_nil : Aft [] := by intro c hc; cases hc
theorem read_back (t : Tree) (hf : formedB t = true) (hd : depthB t ≤ 40) : readL (writeB t) = ([t], true) := by
  obtain ⟨m, _, h⟩ := back_one t [] false (around []) [] (writeB t).length hf aft_nil (by simpa using hd) (by simp)
  rw [List.append_nil, readN_nil] at h
  unfold readL
  rw [h]; rfl
theorem parse_back (t : Tree) (h : checkB t = 0) : parseB (writeB t) = (t, 0) := by
  obtain ⟨hf, hd⟩ := check_zero h
  unfold parseB
  rw [read_back t hf hd]
  exact if_pos h
theorem readAll_back (l : List Tree) (hf : ∀ t ∈ l, formedB t = true) (hd : deepB l ≤ 40) : readL (writeAllB l) = (l, true) := by
  obtain ⟨m, _, h⟩ := back_all l (fun t _ => back_one t) [] false (around []) [] (writeAllB l).length hf aft_nil (by simpa using hd) (by simp)
  rw [List.append_nil, readN_nil] at h
  unfold readL
  rw [h]; rfl
end Go.Proofs.YtdcgffepdgldmaaDoor
