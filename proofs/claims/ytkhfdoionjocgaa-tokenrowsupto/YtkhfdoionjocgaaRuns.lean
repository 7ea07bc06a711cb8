/-
  One code point of a row of them, as a text.
-/
import Derived.Test.YtkhfdoionjocgaaK1
namespace Go.Proofs.Ytkhfdoionjocgaa
open Go.RowKit Go.Sort Go.Maps

/-- string(r[j:j+1]) -/
theorem run_piece (w : World) (g j c r : Nat) (h : w.cell? ⟨g, j, none⟩ = some (.int .i32 (r : Int))) :
    (convert 49 9 (.slice (some ⟨g, j, none⟩) 1 c)).run Try.prog w = .ok (.string ⟨(encL r).toArray⟩) w := by
  rw [run_convert_runes_string w 49 9 21 (some ⟨g, j, none⟩) 1 c Try.underlying49 Try.underlying21 Try.underlying9]
  have hl : (loadCells ⟨g, j, none⟩ 1).run Try.prog w = .ok ([(r : Int)].map (Value.int .i32)).toArray w := by
    simp [loadCells, loadCellsFrom, add_cell, h]
  rw [run_runesToString w ⟨g, j, none⟩ 1 c [(r : Int)] hl]
  have hd : (runesBytes [(r : Int)]).data.toList = encL r := by
    have := runesBytes_data [r]
    simpa using this
  rw [show runesBytes [(r : Int)] = ⟨(encL r).toArray⟩ from ByteArray.ext (Array.ext' (by simpa using hd))]
theorem arr_of (b : ByteArray) (l : List UInt8) (h : l = b.data.toList) : b = ⟨l.toArray⟩ := by
  subst h; exact ByteArray.ext (by simp)
theorem encB_arr (r : Nat) : encB r = ⟨(encL r).toArray⟩ :=
  (encB_eq r).trans (arr_of (Utf8.encode (r : Int)) (encL r) ((encL_eq r).trans (encZ_eq (r : Int))))
end Go.Proofs.Ytkhfdoionjocgaa
