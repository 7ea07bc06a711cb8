/-
  The statements' arguments as they are read: raw numbers; the library's tables.
-/
import Derived.Test.YtmmifednhleggaaW10
import Derived.Test.YtmmifednhleggaaRows
import Derived.Lib.LaidIn
import Derived.Lib.LaidU8T
import Derived.Deep.DeepHandedRow
import Derived.Deep.DeepWitnessRowRef
import Derived.ProofKit
import Derived.OpenShut
import Derived.Deep.Strs
import Derived.Deep.Slices
namespace Go.Proofs.Ytmmifednhleggaa
open Go.ChangeShapes Go.WideShapes Go.ChangeAt Go.RowKit Go.Deep

theorem cel_cells : Try.prog.cellsOf 70 = 3 := by kernel_rfl
theorem int_cells : Try.prog.cellsOf 3 = 1 := by kernel_rfl

theorem cel_at {H : Type} {enc : TypeId × Value → H} {W : World} {base : Nat} {spare : Nat → Bool} {held : Bool} {fuel : Nat} {a : Addr} {cs : List Value} {x : DataW H × List MemPlace}
    (hc : W.cells? base a 3 = some cs) (h : DataW.trod enc Try.prog W base spare held fuel 70 cs = some x) :
    ∃ c : Cel, W.cell? a = some (.int .i64 c.op) ∧ W.cell? (a.add 1) = some (.int .i64 c.a) ∧ W.cell? (a.add 2) = some (.int .i64 c.b) ∧
      (-9223372036854775808 ≤ c.op ∧ c.op ≤ 9223372036854775807) ∧ (-9223372036854775808 ≤ c.a ∧ c.a ≤ 9223372036854775807) ∧ (-9223372036854775808 ≤ c.b ∧ c.b ≤ 9223372036854775807) := by
  obtain ⟨y0, y1, y2, n, _, hl, h0, h1, h2⟩ := trod_struct3 Try.underlying70 h
  obtain ⟨_, _, hat⟩ := World.cells?_some hc
  rw [cel_cells] at hl
  simp only [int_cells] at h0 h1 h2
  match cs, hl with
  | [c0, c1, c2], _ =>
    obtain ⟨i0, e0, _, w0⟩ := DataW.trod_int Try.underlying3 h0
    obtain ⟨i1, e1, _, w1⟩ := DataW.trod_int Try.underlying3 h1
    obtain ⟨i2, e2, _, w2⟩ := DataW.trod_int Try.underlying3 h2
    simp at e0 e1 e2
    subst e0 e1 e2
    have a0 := hat 0 (by omega)
    have a1 := hat 1 (by omega)
    have a2 := hat 2 (by omega)
    exact ⟨⟨i0, i1, i2⟩, by simpa [Addr.add] using a0, by simpa using a1, by simpa using a2, bounds_i64 w0, bounds_i64 w1, bounds_i64 w2⟩

theorem addr_plain {W : World} {a : Addr} {v : Value} (h : W.cell? a = some v) : a = ⟨a.block, a.off, none⟩ := by
  obtain ⟨b, o, s⟩ := a
  cases s with
  | none => rfl
  | some s =>
    unfold World.cell? at h
    split at h
    · simp at h
    · cases h

theorem cels_of {H : Type} {enc : TypeId × Value → H} {W : World} {fuel : Nat} {v : Value} {x : DataW H × List MemPlace} (h : DataW.trod enc Try.prog W 0 (fun _ => true) true fuel 22 [v] = some x) :
    ∃ l, Cels W (Under W.heap.size) v l := by
  rcases open_slice Try.underlying22 h with ⟨hcs, _⟩ | ⟨a, len, cap, m, n, D, Pl, hcs, _, hl, hm, hmm, _, hi⟩
  · injection hcs with hv _
    subst hv
    exact ⟨[], none, 0, rfl, Nat.le_refl _, by unfold maxLen; omega, .inl rfl, fun x hx => by cases hx⟩
  · injection hcs with hv _
    subst hv
    rw [if_pos rfl] at hmm
    subst hmm
    simp only [cel_cells] at hi
    have each : ∀ i, i < len → ∃ c : Cel, W.cell? (a.add (i * 3)) = some (.int .i64 c.op) ∧ W.cell? ((a.add (i * 3)).add 1) = some (.int .i64 c.a) ∧ W.cell? ((a.add (i * 3)).add 2) = some (.int .i64 c.b) ∧
        (-9223372036854775808 ≤ c.op ∧ c.op ≤ 9223372036854775807) ∧ (-9223372036854775808 ≤ c.a ∧ c.a ≤ 9223372036854775807) ∧ (-9223372036854775808 ≤ c.b ∧ c.b ≤ 9223372036854775807) := fun i hil => by
      obtain ⟨cs', hc, ht⟩ := hi i (by omega)
      exact cel_at hc ht
    rcases Nat.eq_zero_or_pos len with h0 | h0
    · subst h0
      exact ⟨[], some a, _, rfl, Nat.zero_le _, hm, .inl rfl, fun x hx => by cases hx⟩
    · obtain ⟨c, hc, _⟩ := each 0 h0
      have ha : a = ⟨a.block, a.off, none⟩ := addr_plain (by simpa [Addr.add] using hc)
      generalize a.block = b at ha
      generalize a.off = o at ha
      subst ha
      have hb : b < W.heap.size := cell_lt (g := b) (o := o) (by simpa [Addr.add] using hc)
      have build : ∀ k, k ≤ len → ∃ l : List Cel, l.length = k ∧ ∀ i x, l[i]? = some x → W.cell? ⟨b, o + i * 3, none⟩ = some (.int .i64 x.op) ∧ W.cell? ⟨b, o + i * 3 + 1, none⟩ = some (.int .i64 x.a) ∧ W.cell? ⟨b, o + i * 3 + 2, none⟩ = some (.int .i64 x.b) ∧
          (-9223372036854775808 ≤ x.op ∧ x.op ≤ 9223372036854775807) ∧ (-9223372036854775808 ≤ x.a ∧ x.a ≤ 9223372036854775807) ∧ (-9223372036854775808 ≤ x.b ∧ x.b ≤ 9223372036854775807) := by
        intro k
        induction k with
        | zero => exact fun _ => ⟨[], rfl, fun i x h => by simp at h⟩
        | succ k ih =>
          intro hk
          obtain ⟨l, hlen, hl⟩ := ih (by omega)
          obtain ⟨c, e0, e1, e2, r⟩ := each k (by omega)
          rw [add_cell] at e0 e1 e2
          rw [add_cell] at e1 e2
          refine ⟨l ++ [c], by simp [hlen], fun i x hi => ?_⟩
          rcases Nat.lt_or_ge i l.length with hlt | hge
          · rw [List.getElem?_append_left hlt] at hi; exact hl i x hi
          · rw [List.getElem?_append_right hge] at hi
            obtain rfl : i = l.length := by
              rcases Nat.eq_zero_or_pos (i - l.length) with h' | h'
              · omega
              · rw [List.getElem?_eq_none (by simp; omega)] at hi; cases hi
            simp at hi
            subst hi
            rw [hlen]
            exact ⟨e0, e1, e2, r⟩
      obtain ⟨l, hlen, hall⟩ := build len (Nat.le_refl _)
      subst hlen
      refine ⟨l, some ⟨b, o, none⟩, _, rfl, by omega, hm, .inr ⟨b, o, rfl, hb, fun i x hx => ?_⟩, fun x hx => ?_⟩
      · obtain ⟨e0, e1, e2, _⟩ := hall i x hx
        exact ⟨e0, e1, e2⟩
      · obtain ⟨i, hi, rfl⟩ := List.getElem_of_mem hx
        exact (hall i _ (List.getElem?_eq_getElem hi)).2.2.2

theorem own : ownKnob Try.prog.godebug = none := by kernel_rfl
theorem laidOut : laidOutB Try.prog = true := by kernel_rfl
end Go.Proofs.Ytmmifednhleggaa
