/-
  The walk of Resolve, as facts: what its rows hold, and how a round changes them.
-/
import Derived.Test.YtmmifednhleggaaPlC
import Derived.Test.YtmmifednhleggaaAp
namespace Go.Proofs.Ytmmifednhleggaa
open Go.RowKit Go.Sort Go.Maps

theorem int_info : (Try.prog.info? 3).map (fun i => (i.zero, i.size, i.bytes)) = some (some (.int .i64 0), 1, 8) := by kernel_rfl
theorem row_info : (Try.prog.info? 29).map (fun i => (i.zero, i.size, i.bytes)) = some (some (.slice none 0 0), 1, 24) := by kernel_rfl

theorem row_hold {w w' : World} {base : Nat} {e : TypeId} {size : Nat} {v : Value} {n : Nat} {xs : List Value} (h : w.ownsRow base e size v n xs) (k : ∀ g, v.ownBlock = some g → w'.heap[g]? = w.heap[g]?) : w'.ownsRow base e size v n xs := by
  refine ⟨h.1, ?_⟩
  rcases h.2 with hn | ⟨g, cap, cur, hv, hb, hg, rest⟩
  · exact .inl hn
  · exact .inr ⟨g, cap, cur, hv, hb, (k g (by rw [hv]; rfl)).trans hg, rest⟩
theorem row_ty {w : World} {base : Nat} {e : TypeId} {size : Nat} {v : Value} {n : Nat} {xs : List Value} (h : w.ownsRow base e size v n xs) {g : Nat} (hg : v.ownBlock = some g) : base ≤ g ∧ g < w.heap.size ∧ ∃ cur, w.heap[g]? = some (.cells cur e) := by
  rcases h.2 with ⟨rfl, _⟩ | ⟨g', cap, cur, rfl, hb, hg', _⟩
  · cases hg
  · injection hg with hg; subst hg; exact ⟨hb, (Array.getElem?_eq_some_iff.1 hg').1, cur, hg'⟩
/-- A block of another type is not the row's. -/
theorem row_ne {w : World} {base : Nat} {e e' : TypeId} {size : Nat} {v : Value} {n : Nat} {xs : List Value} (h : w.ownsRow base e size v n xs) {b : Nat} {cs : Array Value} (hb : w.heap[b]? = some (.cells cs e')) (hne : e ≠ e') : some b ≠ v.ownBlock := fun hh => by
  obtain ⟨_, _, cur, hc⟩ := row_ty h hh.symm
  have := hb.symm.trans hc
  injection this with this
  injection this with _ this
  exact hne this.symm
theorem row_below {w w' : World} {base : Nat} {e : TypeId} {size : Nat} {v : Value} {n : Nat} {xs : List Value} (h : w.ownsRow base e size v n xs) (hb : Below w.heap.size w w') : w'.ownsRow base e size v n xs :=
  row_hold h fun g hg => hb.block g (row_ty h hg).2.1
theorem row_form {w : World} {base : Nat} {e : TypeId} {size : Nat} {v : Value} {n : Nat} {xs : List Value} (h : w.ownsRow base e size v n xs) : ∃ A c, v = .slice A n c ∧ n ≤ c ∧ (0 < n → ∃ g, A = some ⟨g, 0, none⟩) := by
  rcases h.2 with ⟨rfl, rfl⟩ | ⟨g, cap, cur, rfl, _, _, hn, _⟩
  · exact ⟨_, _, rfl, Nat.le_refl _, fun h => absurd h (Nat.lt_irrefl _)⟩
  · exact ⟨_, _, rfl, hn, fun _ => ⟨g, rfl⟩⟩
/-- The row without its last thing. -/
theorem row_less {w : World} {base : Nat} {e : TypeId} {g m n cap : Nat} {xs : List Value} {x : Value} (h : w.ownsRow base e 1 (.slice (some ⟨g, 0, none⟩) m cap) (n + 1) (xs ++ [x])) : w.ownsRow base e 1 (.slice (some ⟨g, 0, none⟩) n cap) n xs := by
  obtain ⟨hl, h⟩ := h
  have hxl : xs.length = n := by simp at hl; exact hl
  refine ⟨by omega, ?_⟩
  rcases h with ⟨h, _⟩ | ⟨g', cap', cur, hv, hb, hg, hn, hc, hs, ht⟩
  · cases h
  · injection hv with h1 h2 h3
    injection h1 with h1
    injection h1 with h1
    subst h1; subst h3
    refine .inr ⟨g, cap, cur, rfl, hb, hg, by omega, hc, hs, ?_⟩
    have := congrArg (List.take n) ht
    rw [List.take_take, Nat.min_eq_left (by omega), List.take_append_of_le_length (by omega), List.take_of_length_le (l := xs) (by omega)] at this
    simpa using this
theorem row_ints {w : World} {base : Nat} {v : Value} {n : Nat} {l : List Int} (h : w.ownsRow base 3 1 v n (l.map (Value.int .i64))) : Ints w (From base w.heap.size) v l := by
  obtain ⟨hl, h⟩ := h
  have hn : n = l.length := by simp at hl; omega
  subst hn
  rcases h with ⟨rfl, h0⟩ | ⟨g, cap, cur, rfl, hb, hg, hn, hc, hs, ht⟩
  · have : l = [] := List.eq_nil_of_length_eq_zero h0
    subst this
    exact ⟨none, 0, rfl, Nat.le_refl _, by unfold maxLen; omega, .inl rfl⟩
  · refine ⟨_, cap, rfl, hn, hc, .inr ⟨g, 0, rfl, ⟨hb, (Array.getElem?_eq_some_iff.1 hg).1⟩, fun i s hi => ?_⟩⟩
    have hil := (List.getElem?_eq_some_iff.1 hi).1
    have h1 : (cur.toList.take (l.length * 1))[i]? = some (.int .i64 s) := by rw [ht, List.getElem?_map, hi]; rfl
    rw [List.getElem?_take_of_lt (by omega)] at h1
    simp only [World.cell?, hg]
    simpa using h1

/-- The open nodes' rows lie in the old blocks, and are not too many. -/
def OkSt (w : World) : List Frm → Prop
  | [] => True
  | f :: st => Kids w (Under w.heap.size) f.v f.K ∧ weighAll f.K + st.length ≤ 1000000 ∧ f.i < f.K.length ∧ OkSt w st
abbrev noSpot : Obj := .cells #[.slice none 0 0, .int .i64 0, .int .i64 0] 25
/-- Where the walk is. -/
structure ResAt (w : World) (want : Option Spt) (st : List Frm) (K : List Tree) (i pos : Nat) (v6 v7 v8 : Value) (wx : World) : Prop where
  kids : Kids w (Under w.heap.size) v8 K
  le : i ≤ K.length
  few : weighAll K + st.length ≤ 1000000
  ok : OkSt w st
  path : wx.ownsRow w.heap.size 3 1 v6 st.length ((pathOf st).map (Value.int .i64))
  around : wx.ownsRow w.heap.size 29 1 v7 st.length (st.reverse.map (·.v))
  rem : (remOf st K i)[pos]? = want
  below : Below w.heap.size w wx
  res : wx.heap[w.heap.size + 1]? = some noSpot

section
variable {w wx w' : World} {want : Option Spt} {st : List Frm} {K : List Tree} {i pos : Nat} {v6 v7 v8 : Value}
theorem ResAt.later (h : ResAt w want st K i pos v6 v7 v8 wx) (hb : Below wx.heap.size wx w') : ResAt w want st K i pos v6 v7 v8 w' :=
  ⟨h.kids, h.le, h.few, h.ok, row_below h.path hb, row_below h.around hb, h.rem, belowNext h.below hb, (hb.block _ (Array.getElem?_eq_some_iff.1 h.res).1).trans h.res⟩
theorem ResAt.skip (h : ResAt w want st K i pos v6 v7 v8 wx) {x : Tree} (hx : K[i]? = some x) (hp : sizeB x ≤ pos) : ResAt w want st K (i + 1) (pos - sizeB x) v6 v7 v8 wx :=
  ⟨h.kids, (List.getElem?_eq_some_iff.1 hx).1, h.few, h.ok, h.path, h.around, (rem_skip hx hp).symm.trans h.rem, h.below, h.res⟩
theorem ResAt.push (h : ResAt w want st K i (pos + 1) v6 v7 v8 wx) {x : Tree} (hx : K[i]? = some x) (ht : isTxt x.kind = false) {L1 L2 : Obj} {w3 w5 : World} {v6' v7' vk : Value}
    (h3 : w3.ownsRow w.heap.size 3 1 v6' (st.length + 1) ((pathOf st).map (Value.int .i64) ++ [.int .i64 (i : Int)])) (hg3 : (wx.alloc L1).grownBy w3 v6.ownBlock)
    (h5 : w5.ownsRow w.heap.size 29 1 v7' (st.length + 1) (st.reverse.map (·.v) ++ [v8])) (hg5 : (w3.alloc L2).grownBy w5 v7.ownBlock)
    (hk : Kids w (Under w.heap.size) vk x.kids) : ResAt w want (⟨i, K, v8⟩ :: st) x.kids 0 pos v6' v7' vk w5 := by
  have hwx := weigh_mem (List.mem_of_getElem? hx)
  have hwk := kids_weigh x
  have hf := h.few
  have hs1 : (wx.alloc L1).heap.size = wx.heap.size + 1 := by simp
  have hs3 : (w3.alloc L2).heap.size = w3.heap.size + 1 := by simp
  have hz3 := hg3.size
  have hz5 := hg5.size
  have old : ∀ b o, wx.heap[b]? = some o → some b ≠ v6.ownBlock → some b ≠ v7.ownBlock → w5.heap[b]? = some o := fun b o hb h6 h7 => by
    have hl := (Array.getElem?_eq_some_iff.1 hb).1
    have a1 : (wx.alloc L1).heap[b]? = some o := heap_old _ _ _ hb
    have a2 : w3.heap[b]? = some o := (hg3.block b (by omega) h6).trans a1
    exact (hg5.block b (by omega) h7).trans (heap_old _ _ _ a2)
  refine ⟨hk, Nat.zero_le _, by simp only [List.length_cons]; omega, ⟨h.kids, hf, (List.getElem?_eq_some_iff.1 hx).1, h.ok⟩, ?_, ?_, (rem_push v8 hx ht).symm.trans h.rem, ?_, ?_⟩
  · have : (pathOf (⟨i, K, v8⟩ :: st)).map (Value.int .i64) = (pathOf st).map (Value.int .i64) ++ [.int .i64 (i : Int)] := by rw [pathOf_cons]; simp
    rw [this]
    refine row_hold h3 fun g hg => ?_
    obtain ⟨h1, h2, cur, hc⟩ := row_ty h3 hg
    have a1 : (w3.alloc L2).heap[g]? = w3.heap[g]? := by rw [hc]; exact heap_old _ _ _ hc
    refine (hg5.block g (by omega) fun e => ?_).trans a1
    -- the block of v7 is of another type
    obtain ⟨c1, c2, cur7, hc7⟩ := row_ty h.around e.symm
    by_cases e6 : v6.ownBlock = some g
    · obtain ⟨_, _, cur6, hc6⟩ := row_ty h.path e6
      rw [hc7] at hc6
      injection hc6 with hc6; injection hc6 with _ hc6
      exact absurd hc6 (by decide)
    · have a2 : w3.heap[g]? = some (.cells cur7 29) := (hg3.block g (by omega) fun e => e6 e.symm).trans (heap_old _ _ _ hc7)
      rw [hc] at a2
      injection a2 with a2; injection a2 with _ a2
      exact absurd a2 (by decide)
  · have : (List.reverse (⟨i, K, v8⟩ :: st)).map (·.v) = st.reverse.map (·.v) ++ [v8] := by simp
    rw [this]; exact h5
  · have b1 : Below w.heap.size w (wx.alloc L1) := h.below.alloc h.below.size _
    have b2 : Below w.heap.size w w3 := b1.trans ((Below.refl _ _).grown hg3 b1.size fun k hk => (row_ty h.path hk).1)
    have b3 : Below w.heap.size w (w3.alloc L2) := b2.alloc b2.size _
    exact b3.trans ((Below.refl _ _).grown hg5 b3.size fun k hk => (row_ty h.around hk).1)
  · exact old _ _ h.res (row_ne h.path h.res (by decide)) (row_ne h.around h.res (by decide))
/-- A node's row and index are taken up again. -/
theorem ResAt.pop {f : Frm} {g6 c6 g7 c7 : Nat} (h : ResAt w want (f :: st) K K.length (pos + 1) (.slice (some ⟨g6, 0, none⟩) (st.length + 1) c6) (.slice (some ⟨g7, 0, none⟩) (st.length + 1) c7) v8 wx) :
    ResAt w want st f.K (f.i + 1) pos (.slice (some ⟨g6, 0, none⟩) st.length c6) (.slice (some ⟨g7, 0, none⟩) st.length c7) f.v wx := by
  obtain ⟨o1, o2, o3, o4⟩ := h.ok
  refine ⟨o1, o3, o2, o4, ?_, ?_, (rem_pop f st K pos).symm.trans h.rem, h.below, h.res⟩
  · have h6 := h.path
    have : (pathOf (f :: st)).map (Value.int .i64) = (pathOf st).map (Value.int .i64) ++ [.int .i64 (f.i : Int)] := by rw [pathOf_cons]; simp
    rw [this] at h6
    exact row_less h6
  · have h7 := h.around
    have : (List.reverse (f :: st)).map (·.v) = st.reverse.map (·.v) ++ [f.v] := by simp
    rw [this] at h7
    exact row_less h7
theorem ResAt.lastI {f : Frm} {g6 c6 : Nat} {v7 : Value} (h : ResAt w want (f :: st) K i pos (.slice (some ⟨g6, 0, none⟩) (st.length + 1) c6) v7 v8 wx) : wx.cell? ⟨g6, st.length, none⟩ = some (.int .i64 (f.i : Int)) := by
  have h6 := h.path
  rw [h6.cellAt _ (by omega), pathOf_cons]
  simp [pathOf_len]
theorem ResAt.lastV {f : Frm} {g7 c7 : Nat} {v6 : Value} (h : ResAt w want (f :: st) K i pos v6 (.slice (some ⟨g7, 0, none⟩) (st.length + 1) c7) v8 wx) : wx.cell? ⟨g7, st.length, none⟩ = some f.v := by
  have h7 := h.around
  rw [h7.cellAt _ (by omega)]
  simp
end

/-- What Resolve answers. -/
def ResPost (w : World) (want : Option Spt) (e : Ending) (w' : World) : Prop :=
  Below w.heap.size w w' ∧ ((want = none ∧ e = .returned (.tuple #[.agg #[.slice none 0 0, .int .i64 0, .int .i64 0], .int .i64 3])) ∨
    ∃ p j o A c, want = some (p, j, o) ∧ e = .returned (.tuple #[.agg #[.slice A p.length c, .int .i64 (j : Nat), .int .i64 (o : Nat)], .int .i64 0]) ∧ Ints w' (From w.heap.size w'.heap.size) (.slice A p.length c) p)
/-- Three cells put into a block of three. -/
def put3z (w : World) (g : Nat) (v0 v1 v2 : Value) : World := ((w.setCell ⟨g, 0, none⟩ v0).setCell ⟨g, 1, none⟩ v1).setCell ⟨g, 2, none⟩ v2
theorem put3z_block {w : World} {g : Nat} {u0 u1 u2 v0 v1 v2 : Value} {T : TypeId} (h : w.heap[g]? = some (.cells #[u0, u1, u2] T)) : (put3z w g v0 v1 v2).heap[g]? = some (.cells #[v0, v1, v2] T) :=
  have h0 : (w.setCell ⟨g, 0, none⟩ v0).heap[g]? = some (.cells #[v0, u1, u2] T) := heap_setCell_same _ g 0 _ T v0 h
  have h1 : ((w.setCell ⟨g, 0, none⟩ v0).setCell ⟨g, 1, none⟩ v1).heap[g]? = some (.cells #[v0, v1, u2] T) := heap_setCell_same _ g 1 _ T v1 h0
  heap_setCell_same _ g 2 _ T v2 h1
theorem put3z_other {w : World} {g b : Nat} {v0 v1 v2 : Value} (h : b ≠ g) : (put3z w g v0 v1 v2).heap[b]? = w.heap[b]? := by
  unfold put3z
  rw [Below.heap_setCell _ _ _ _ h, Below.heap_setCell _ _ _ _ h, Below.heap_setCell _ _ _ _ h]
theorem put3z_size {w : World} {g : Nat} {v0 v1 v2 : Value} : (put3z w g v0 v1 v2).heap.size = w.heap.size := by
  have e : ∀ (W : World) (o : Nat) (u : Value), (W.setCell ⟨g, o, none⟩ u).heap.size = W.heap.size := fun W o u => by simp [World.setCell]
  unfold put3z; rw [e, e, e]
theorem put3z_below {B : Nat} {a w : World} {g : Nat} {v0 v1 v2 : Value} (hg : B ≤ g) (h : Below B a w) : Below B a (put3z w g v0 v1 v2) :=
  set_below hg (set_below hg (set_below hg h))
theorem cells3 {w : World} {g : Nat} {u0 u1 u2 : Value} {T : TypeId} (h : w.heap[g]? = some (.cells #[u0, u1, u2] T)) :
    w.cell? ⟨g, 0, none⟩ = some u0 ∧ w.cell? ⟨g, 1, none⟩ = some u1 ∧ w.cell? ⟨g, 2, none⟩ = some u2 := by
  simp [World.cell?, h]
/-- The end of the walk at a spot. -/
theorem ResAt.fin {w wx : World} {want : Option Spt} {st : List Frm} {K : List Tree} {i pos : Nat} {A : Option Addr} {c : Nat} {v7 v8 : Value} (h : ResAt w want st K i pos (.slice A st.length c) v7 v8 wx) (hr : (remOf st K i)[pos]? = some (pathOf st, i, pos)) :
    ResPost w want (.returned (.tuple #[.agg #[.slice A st.length c, .int .i64 (i : Nat), .int .i64 (pos : Nat)], .int .i64 0])) (put3z wx (w.heap.size + 1) (.slice A st.length c) (.int .i64 (i : Nat)) (.int .i64 (pos : Nat))) := by
  refine ⟨put3z_below (Nat.le_succ _) h.below, .inr ⟨pathOf st, i, pos, A, c, h.rem.symm.trans hr, by rw [pathOf_len], ?_⟩⟩
  have h1 := row_ints h.path
  have hne : ∀ b, (Value.slice A st.length c).ownBlock = some b → b ≠ w.heap.size + 1 := fun b hb e => by subst e; exact row_ne h.path h.res (by decide) hb.symm
  have h2 : (put3z wx (w.heap.size + 1) (.slice A st.length c) (.int .i64 (i : Nat)) (.int .i64 (pos : Nat))).ownsRow w.heap.size 3 1 (.slice A st.length c) st.length ((pathOf st).map (Value.int .i64)) :=
    row_hold h.path fun g hg => put3z_other (hne g hg)
  have h3 := row_ints h2
  rw [pathOf_len]
  exact h3
end Go.Proofs.Ytmmifednhleggaa
