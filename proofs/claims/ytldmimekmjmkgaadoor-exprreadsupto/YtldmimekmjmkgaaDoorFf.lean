/-
  The memory of a meaning: a map from names to places, the row of what may come next; math/bits.TrailingZeros32.
-/
import Derived.Test.YtldmimekmjmkgaaDoorFe
import Derived.Test.YtldmimekmjmkgaaDoorEf
import Derived.Test.YtldmimekmjmkgaaDoorShelfT
import Derived.Maps.OwnOps
import Derived.Maps.Views
import Derived.Laws.BitsAllLaws
import Derived.Laws.AppendOwn
namespace Go.Proofs.YtldmimekmjmkgaaDoor
open Go.RowKit Go.Sort Go.Maps Go.WideMaps

/-- The library's table, as its initialiser lays it. -/
def TabB (w : World) : Prop := TabAt 0 Lib.deBruijn32tab w
theorem tz_any (x : Nat) (w : World) (hx : x < 4294967296) (hT : TabB w) : Calls Tryd.prog 72 #[.int .u32 x] w fun e w' => e = .returned (.int .i64 (Lib.ctz 32 x)) ∧ w' = w :=
  Any7.bits_TrailingZeros32 Tryd.laysTz x hx w fun _ => hT

theorem keyS : Keyed Tryd.prog 9 := string_keyed Tryd.underlying9
theorem zeroU (w : World) : (zeroValue 69).run Tryd.prog w = .ok (.int .u32 0) w := by kernel_rfl

/-- These bits are just the places at which this name stands. -/
def BitsAt (nm : List ByteArray) (s : ByteArray) (c : Nat) : Prop := c < 4294967296 ∧ ∀ i, c.testBit i = true ↔ nm[i]? = some s
theorem bitsAt_same {nm : List ByteArray} {s : ByteArray} {c : Nat} (h : BitsAt nm s c) (hn : nm.length < 32) : BitsAt (nm ++ [s]) s (c ||| 2 ^ nm.length) := by
  have hp : 2 ^ nm.length < 2 ^ 32 := Nat.pow_lt_pow_right (by omega) hn
  refine ⟨by have := Nat.or_lt_two_pow (n := 32) h.1 hp; omega, fun i => ?_⟩
  rw [Nat.testBit_or, Bool.or_eq_true, h.2, Nat.testBit_two_pow]
  rcases Nat.lt_trichotomy i nm.length with hi | hi | hi
  · rw [List.getElem?_append_left hi]
    simp; omega
  · subst hi; simp
  · rw [List.getElem?_eq_none (l := nm) (by omega), List.getElem?_eq_none (by simp; omega)]
    simp; omega
theorem bitsAt_other {nm : List ByteArray} {s t : ByteArray} {c : Nat} (h : BitsAt nm s c) (hne : t ≠ s) : BitsAt (nm ++ [t]) s c := by
  refine ⟨h.1, fun i => ?_⟩
  rw [h.2]
  rcases Nat.lt_trichotomy i nm.length with hi | hi | hi
  · rw [List.getElem?_append_left hi]
  · subst hi
    rw [List.getElem?_eq_none (Nat.le_refl _)]
    simp [hne]
  · rw [List.getElem?_eq_none (l := nm) (by omega), List.getElem?_eq_none (by simp; omega)]

/-- Block b is the map of these names. -/
def MapAt (w : World) (b : Nat) (nm : List ByteArray) : Prop :=
  ∃ (n : Nat) (D : DataW Unit), n ≤ nm.length ∧ w.ownsMap Tryd.prog 9 (plainElem Tryd.prog 69) b n D ∧ IsMap D ∧
    ∀ s : ByteArray, s.size ≤ maxLen → ∃ c : Nat, D.atKey (.string s.data.toList) (.lit (.int .u32 0)) = .lit (.int .u32 (c : Int)) ∧ BitsAt nm s c
theorem mapAt_made (w : World) : MapAt (w.alloc (.map #[] 0)) w.heap.size [] :=
  ⟨0, .map [], Nat.le_refl _, World.ownsMap_made _ _ _ _, ⟨_, rfl⟩, fun s _ => ⟨0, rfl, by omega, fun i => by simp⟩⟩
theorem MapAt.lt {w : World} {b : Nat} {nm : List ByteArray} (h : MapAt w b nm) : b < w.heap.size := by obtain ⟨n, D, _, h, _⟩ := h; exact h.lt
theorem MapAt.keep {w w' : World} {b : Nat} {nm : List ByteArray} (h : MapAt w b nm) (hk : w'.heap[b]? = w.heap[b]?) : MapAt w' b nm := by
  obtain ⟨n, D, h1, ⟨es, cl, hb, h2⟩, h3⟩ := h
  exact ⟨n, D, h1, ⟨es, cl, hk.trans hb, h2⟩, h3⟩
theorem str_lit {s t : ByteArray} (h : s ≠ t) : Lit.string s.data.toList ≠ Lit.string t.data.toList := fun e => h (by
  injection e with e
  exact ByteArray.ext (Array.ext' e))
/-- Looked up: the places of a name. -/
theorem MapAt.look {w : World} {b : Nat} {nm : List ByteArray} (h : MapAt w b nm) (s : ByteArray) (hs : s.size ≤ maxLen) :
    ∃ c : Nat, (Instr.lookup 64 (.map (some b)) (.string s) false).run Tryd.prog w = .ok (.int .u32 (c : Int)) w ∧ BitsAt nm s c := by
  obtain ⟨n, D, h1, h2, h3, h4⟩ := h
  obtain ⟨c, hc, hb⟩ := h4 s hs
  obtain ⟨i, hrun, hat, _⟩ := h2.lookup_int keyS Tryd.underlying64 Tryd.underlying69 (zeroU _) (keyOf_string_mk Tryd.underlying9 hs)
  rw [hc] at hat
  injection hat with hat
  injection hat with _ hat
  exact ⟨c, by rw [hrun, hat], hb⟩
/-- Stored: the name stands at one place more. -/
theorem mapAt_put {w' : World} {b n : Nat} {nm : List ByteArray} {D : DataW Unit} {s : ByteArray} {v : Nat} (h1 : n ≤ nm.length) (h3 : IsMap D) (h4 : ∀ s : ByteArray, s.size ≤ maxLen → ∃ c : Nat, D.atKey (.string s.data.toList) (.lit (.int .u32 0)) = .lit (.int .u32 (c : Int)) ∧ BitsAt nm s c)
    (hv : BitsAt (nm ++ [s]) s v) (h : w'.ownsMap Tryd.prog 9 (plainElem Tryd.prog 69) b (n + 1) (D.put (.string s.data.toList) (.lit (.int .u32 (v : Int))))) : MapAt w' b (nm ++ [s]) := by
  refine ⟨n + 1, _, by simp; omega, h, ?_, fun t ht => ?_⟩
  · obtain ⟨es, rfl⟩ := h3; exact ⟨_, rfl⟩
  · by_cases e : t = s
    · subst e
      exact ⟨v, atKey_put_same h3 (show WideAt.IsKeyLit (.string t.data.toList) from trivial) _ _, hv⟩
    · obtain ⟨c, hc, hb⟩ := h4 t ht
      exact ⟨c, (atKey_put_other (str_lit e) _ _).trans hc, bitsAt_other hb (Ne.symm e)⟩

/-- A meaning in block M: its map in block bm, its row v, from B on. -/
structure Mn (w : World) (B M bm : Nat) (v : Value) (nm : List ByteArray) (nx : List Nat) : Prop where
  box : w.heap[M]? = some (.cells #[.map (some bm), v] 67)
  map : MapAt w bm nm
  row : w.ownsRow B 69 1 v nx.length (nx.map fun x : Nat => .int .u32 (x : Int))
  loM : B ≤ M
  lob : B ≤ bm
  ne : bm ≠ M
  apM : v.ownBlock ≠ some M
  apb : v.ownBlock ≠ some bm
/-- Only the meaning may have turned, and its row may have moved to a new block. -/
structure Grw (M bm : Nat) (v v' : Value) (w w' : World) : Prop where
  os : w'.os = w.os
  tape : w'.tape = w.tape
  output : w'.output = w.output
  size : w.heap.size ≤ w'.heap.size
  block : ∀ k, k < w.heap.size → k ≠ M → k ≠ bm → v.ownBlock ≠ some k → w'.heap[k]? = w.heap[k]?
  own : v'.ownBlock = v.ownBlock ∨ ∀ b, v'.ownBlock = some b → w.heap.size ≤ b
theorem Grw.refl (M bm : Nat) (v : Value) (w : World) : Grw M bm v v w w := ⟨rfl, rfl, rfl, Nat.le_refl _, fun _ _ _ _ _ => rfl, .inl rfl⟩
theorem Grw.trans {M bm : Nat} {u v x : Value} {a b c : World} (h : Grw M bm u v a b) (k : Grw M bm v x b c) : Grw M bm u x a c := by
  refine ⟨k.os.trans h.os, k.tape.trans h.tape, k.output.trans h.output, Nat.le_trans h.size k.size, fun i hi h1 h2 h3 => ?_, ?_⟩
  · refine (k.block i (Nat.lt_of_lt_of_le hi h.size) h1 h2 fun e => ?_).trans (h.block i hi h1 h2 h3)
    rcases h.own with h4 | h4
    · exact h3 (h4.symm.trans e)
    · exact absurd (h4 i e) (by omega)
  · rcases k.own with h4 | h4
    · rcases h.own with h5 | h5
      · exact .inl (h4.trans h5)
      · exact .inr fun j hj => h5 j (h4.symm.trans hj)
    · exact .inr fun j hj => Nat.le_trans h.size (h4 j hj)
theorem Grw.of_below (M bm : Nat) (v : Value) {w w' : World} (h : Below w.heap.size w w') : Grw M bm v v w w' := ⟨h.os, h.tape, h.output, h.size, fun k hk _ _ _ => h.block k hk, .inl rfl⟩
theorem Grw.below {w w' : World} {B M bm : Nat} {v v' : Value} {nm : List ByteArray} {nx : List Nat} (h : Grw M bm v v' w w') (hm : Mn w B M bm v nm nx) (hB : B ≤ w.heap.size) : Below B w w' :=
  ⟨h.os, h.tape, h.output, h.size, fun k hk => h.block k (by omega) (by have := hm.loM; omega) (by have := hm.lob; omega) fun e => absurd (hm.row.lt k e).1 (by omega)⟩
theorem Mn.mlt {w : World} {B M bm : Nat} {v : Value} {nm : List ByteArray} {nx : List Nat} (h : Mn w B M bm v nm nx) : M < w.heap.size := (Array.getElem?_eq_some_iff.1 h.box).1
theorem Mn.cell0 {w : World} {B M bm : Nat} {v : Value} {nm : List ByteArray} {nx : List Nat} (h : Mn w B M bm v nm nx) : w.cell? ⟨M, 0, none⟩ = some (.map (some bm)) := by simp [World.cell?, h.box]
theorem Mn.cell1 {w : World} {B M bm : Nat} {v : Value} {nm : List ByteArray} {nx : List Nat} (h : Mn w B M bm v nm nx) : w.cell? ⟨M, 1, none⟩ = some v := by simp [World.cell?, h.box]
theorem Mn.free {w : World} {B M bm : Nat} {v : Value} {nm : List ByteArray} {nx : List Nat} (h : Mn w B M bm v nm nx) (i : Nat) : w.frozen? ⟨M, i, none⟩ = false := frozen_of_row w M i _ _ h.box
theorem ownsRow_keep {w w' : World} {B n size : Nat} {e : TypeId} {v : Value} {xs : List Value} (h : w.ownsRow B e size v n xs) (hk : ∀ k, v.ownBlock = some k → w'.heap[k]? = w.heap[k]?) : w'.ownsRow B e size v n xs := by
  obtain ⟨h1, h2⟩ := h
  refine ⟨h1, h2.imp id ?_⟩
  rintro ⟨g, cap, cur, rfl, hb, hg, h3⟩
  exact ⟨g, cap, cur, rfl, hb, (hk g rfl).trans hg, h3⟩
/-- A meaning stays what it is while other blocks turn. -/
theorem Mn.keep {w w' : World} {B M bm : Nat} {v : Value} {nm : List ByteArray} {nx : List Nat} (h : Mn w B M bm v nm nx) (hk : ∀ k, k < w.heap.size → w'.heap[k]? = w.heap[k]?) : Mn w' B M bm v nm nx :=
  ⟨(hk M h.mlt).trans h.box, h.map.keep (hk bm h.map.lt), ownsRow_keep h.row fun k e => hk k (h.row.lt k e).2, h.loM, h.lob, h.ne, h.apM, h.apb⟩
theorem Mn.below {w w' : World} {B M bm : Nat} {v : Value} {nm : List ByteArray} {nx : List Nat} (h : Mn w B M bm v nm nx) (hb : Below w.heap.size w w') : Mn w' B M bm v nm nx := h.keep hb.block
/-- The row, where there is a place. -/
theorem Mn.at {w : World} {B M bm : Nat} {v : Value} {nm : List ByteArray} {nx : List Nat} (h : Mn w B M bm v nm nx) {k : Nat} (hk : k < nx.length) :
    ∃ g c, v = .slice (some ⟨g, 0, none⟩) nx.length c ∧ nx.length ≤ c ∧ c ≤ maxLen ∧ g < w.heap.size ∧ w.cell? ⟨g, k, none⟩ = some (.int .u32 (nx.getD k 0 : Nat)) ∧ ∀ i, w.frozen? ⟨g, i, none⟩ = false := by
  obtain ⟨_, ⟨_, h0⟩ | ⟨g, c, cur, rfl, _, hg, hc, hm, hs, ht⟩⟩ := h.row
  · omega
  · refine ⟨g, c, rfl, hc, hm, (Array.getElem?_eq_some_iff.1 hg).1, ?_, fun i => frozen_of_row w g i _ _ hg⟩
    have h1 : (cur.toList.take (nx.length * 1))[k]? = (nx.map fun x : Nat => Value.int .u32 (x : Int))[k]? := by rw [ht]
    rw [List.getElem?_take_of_lt (by omega), List.getElem?_map, List.getElem?_eq_getElem hk] at h1
    simp only [World.cell?, hg]
    rw [← Array.getElem?_toList, h1, List.getD_eq_getElem?_getD, List.getElem?_eq_getElem hk]
    rfl
end Go.Proofs.YtldmimekmjmkgaaDoor
