/-
  What copies answers: nodes in memory of their own, and a text of the first one changed.
-/
import Derived.Test.YtamoklceekeheaaDoorW23
namespace Go.Proofs.YtamoklceekeheaaDoor
open Go.RowKit Go.Sort

/-- A row of nodes of the call's own: its block, and what is in the nodes behind it, all from lo on, below hi. -/
def RowV (w : World) (lo hi : Nat) (v : Value) (l : List Tree) : Prop :=
  ∃ A c, v = .slice A l.length c ∧ l.length ≤ c ∧ c ≤ maxLen ∧ (l = [] ∨ ∃ g cur, A = some ⟨g, 0, none⟩ ∧ lo ≤ g ∧ g < hi ∧ w.heap[g]? = some (.cells cur 28) ∧ l.length * 5 ≤ cur.size ∧ RowP w l (g + 1) hi cur 0)
theorem RowV.kids {w : World} {lo hi : Nat} {v : Value} {l : List Tree} (h : RowV w lo hi v l) : Kids w (From lo hi) v l := by
  obtain ⟨A, c, rfl, hc, hm, h⟩ := h
  refine ⟨A, c, rfl, hc, hm, ?_⟩
  rcases h with h | ⟨g, cur, rfl, h1, h2, h3, h4, h5⟩
  · exact .inl h
  · exact .inr ⟨g, 0, rfl, ⟨h1, h2⟩, RowP.row l (g + 1) hi lo cur 0 g (by omega) h3 h5⟩
theorem RowV.keep {w w' : World} {lo hi lo' hi' : Nat} {v : Value} {l : List Tree} (h : RowV w lo hi v l) (h1 : lo' ≤ lo) (h2 : hi ≤ hi') (hk : ∀ b, From lo hi b → w'.heap[b]? = w.heap[b]?) : RowV w' lo' hi' v l := by
  obtain ⟨A, c, rfl, hc, hm, h⟩ := h
  refine ⟨A, c, rfl, hc, hm, ?_⟩
  rcases h with h | ⟨g, cur, rfl, a1, a2, a3, a4, a5⟩
  · exact .inl h
  · exact .inr ⟨g, cur, rfl, by omega, by omega, (hk g ⟨a1, a2⟩).trans a3, a4, RowP.keep _ _ _ _ _ _ h2 (fun b hb => hk b ⟨by have := hb.1; omega, hb.2⟩) a5⟩
theorem RowV.form {w : World} {lo hi : Nat} {v : Value} {l : List Tree} (h : RowV w lo hi v l) : ∃ A c, v = .slice A l.length c ∧ l.length ≤ c := by
  obtain ⟨A, c, rfl, hc, _⟩ := h; exact ⟨A, c, rfl, hc⟩

theorem run_kids (k t : ByteArray) (A1 A2 A3 : Option Addr) (n1 c1 n2 c2 n3 c3 : Nat) (w : World) : (Instr.field 28 (.agg #[.string k, .string t, .slice A1 n1 c1, .slice A2 n2 c2, .slice A3 n3 c3]) 4).run Tryd.prog w = .ok (.slice A3 n3 c3) w := by kernel_rfl

set_option maxHeartbeats 2000000 in
set_option maxRecDepth 100000 in
theorem copies_any (v : Value) (l : List Tree) (w : World) (h : Kids w (Under w.heap.size) v l) (hw : weighAll l ≤ 900000) :
    Calls Tryd.prog 46 #[v] w fun e w' => ∃ v', e = .returned v' ∧ RowV w' w.heap.size w'.heap.size v' l ∧ Below w.heap.size w w' := by
  have HN : Hid (Node w (Under w.heap.size) (.agg #[.string ⟨#[]⟩, .string ⟨#[]⟩, .slice none 0 0, .slice none 0 0, v]) (.mk ⟨#[]⟩ ⟨#[]⟩ [] [] l)) := Lib.hid ⟨_, _, _, rfl, strs_nil, pairs_nil, h⟩
  have HW : Hid (weigh (.mk ⟨#[]⟩ ⟨#[]⟩ [] [] l) ≤ 1000000) := Lib.hid (by
    have : (⟨#[]⟩ : ByteArray).size = 0 := rfl
    simp only [weigh, weighL, weighP, List.map_nil, List.sum_nil]; omega)
  obtain ⟨A, c, rfl, _⟩ := h.form
  clear h
  go_enter Tryd.func46, Tryd.ntmps46
  go_wp2_with fail
  refine (copyP_any _ _ w HN.out HW.out).mono ?_
  rintro e w1 ⟨v1, rfl, hn, hb⟩
  rw [NodeP] at hn
  obtain ⟨vm, va, A1, c1, rfl, h1, h2, z, h3, h4, hm, ha, hl⟩ := hn
  have HR : Hid (RowV w1 w.heap.size w1.heap.size (.slice A1 l.length c1) l) := Lib.hid ⟨A1, c1, rfl, h1, h2, hl.imp id (fun ⟨g, cur, a1, a2, a3, a4, a5, a6⟩ => ⟨g, cur, a1, by omega, a3, a4, a5, a6⟩)⟩
  have HB := Lib.hid hb
  obtain ⟨A2, c2, rfl, _⟩ := hm.form
  obtain ⟨A3, c3, rfl, _⟩ := ha.form
  have hfd := run_kids ⟨#[]⟩ ⟨#[]⟩ A2 A3 A1 0 c2 0 c3 l.length c1
  clear hb hl hm ha h1 h2 h3 h4
  go_wp2
  go_ret
  exact ⟨_, rfl, HR.out, HB.out⟩
end Go.Proofs.YtamoklceekeheaaDoor
