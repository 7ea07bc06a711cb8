/-
  The walk of the document's Spots: facts on its rows, and its steps.
-/
import Derived.Test.YtmmifednhleggaaRgA
import Derived.Test.YtmmifednhleggaaRfA
import Derived.Test.YtmmifednhleggaaPlH
namespace Go.Proofs.Ytmmifednhleggaa
open Go.RowKit Go.Sort Go.Maps

theorem sp_text {K : List Tree} {p : List Int} {k : Nat} {x : Tree} {lo R : List Spt} (hx : K[k]? = some x) (ht : isTxt x.kind = true) (hall : lo ++ (spotsB k (K.drop k)).map (pre p) = R) :
    (lo ++ (List.range (sizeB x)).map (fun j => (p, k, j))) ++ (spotsB (k + 1) (K.drop (k + 1))).map (pre p) = R := by
  rw [← hall, drop_at' hx, spotsB, List.map_append, spotsT_text k ht, List.map_map, List.append_assoc]
  simp [pre, Function.comp_def]
theorem sp_node {K : List Tree} {p : List Int} {k : Nat} {x : Tree} {lo R : List Spt} (hx : K[k]? = some x) (ht : isTxt x.kind = false) (hall : lo ++ (spotsB k (K.drop k)).map (pre p) = R) :
    ((lo ++ [(p, k, 0)]) ++ (spotsB 0 x.kids).map (pre (p ++ [(k : Int)]))) ++ (spotsB (k + 1) (K.drop (k + 1))).map (pre p) = R := by
  rw [← hall, drop_at' hx, spotsB, List.map_append, spotsT_node k ht]
  have : (fun s => pre p (deeper k s)) = pre (p ++ [(k : Int)]) := by funext s; simp [pre, deeper]
  simp [pre, ← this, Function.comp_def]
theorem sp_end {K : List Tree} {p : List Int} {lo R : List Spt} (hall : lo ++ (spotsB K.length (K.drop K.length)).map (pre p) = R) : lo ++ [(p, K.length, 0)] = R := by
  rw [← hall, List.drop_length, spotsB]; simp [pre]
theorem sp_len {K : List Tree} {p : List Int} {k : Nat} {lo : List Spt} (hall : lo ++ (spotsB k (K.drop k)).map (pre p) = (spotsB 0 K).map (pre p)) : lo.length ≤ totalB K + 1 := by
  have := congrArg List.length hall
  rw [List.length_append, List.length_map, List.length_map, spotsB_len 0 K] at this
  omega

theorem row_ib {w : World} {base : Nat} {v : Value} {n : Nat} {l : List Int} (h : w.ownsRow base 3 1 v n (l.map (Value.int .i64))) : Ints w (IB w) v l := by
  have h1 := row_ints h
  obtain ⟨A, c, rfl, hc, hx, h2⟩ := h1
  refine ⟨A, c, rfl, hc, hx, ?_⟩
  rcases h2 with h2 | ⟨b, o, rfl, _, hcell⟩
  · exact .inl h2
  · obtain ⟨_, _, cur, hcur⟩ := row_ty h (g := b) rfl
    exact .inr ⟨b, o, rfl, ⟨cur, hcur⟩, hcell⟩
theorem own_int0 {W : World} {base e : Nat} (hE : W.heap[e]? = some (.cells #[] 3)) (he : base ≤ e) : W.ownsRow base 3 1 (.slice (some ⟨e, 0, none⟩) 0 0) ([] : List Int).length (([] : List Int).map (Value.int .i64)) :=
  ⟨rfl, .inr ⟨e, 0, #[], rfl, he, hE, Nat.le_refl _, by unfold maxLen; omega, rfl, rfl⟩⟩
theorem ints_lit {W : World} {g : Nat} {k : Int} (h : W.heap[g]? = some (.cells #[.int .i64 k] 3)) : Ints W (fun _ => True) (.slice (some ⟨g, 0, none⟩) 1 1) [k] :=
  ⟨_, 1, rfl, Nat.le_refl _, by unfold maxLen; omega, .inr ⟨g, 0, rfl, trivial, fun i s hi => by
    cases i with
    | zero => simp at hi; subst hi; simp [World.cell?, h]
    | succ i => simp at hi⟩⟩
/-- One spot, laid in a block of its own. -/
theorem spot_lit {w : World} {vp : Value} {p : List Int} {i j : Nat} (hp : Ints w (IB w) vp p) : SSrc (w.alloc (.cells #[vp, .int .i64 (i : Int), .int .i64 (j : Int)] 36)) (.slice (some ⟨w.heap.size, 0, none⟩) 1 1) [(p, i, j)] := by
  have hb : Below w.heap.size w (w.alloc (.cells #[vp, .int .i64 (i : Int), .int .i64 (j : Int)] 36)) := (Below.refl _ _).alloc (Nat.le_refl _) _
  exact ⟨_, 1, _, rfl, SCells.one (ints_ib hp (ib_below (Nat.le_refl _) hb)), .inr ⟨_, 0, rfl, fun q u hq => by rw [Nat.zero_add]; exact fresh_cell w _ _ q u (by simpa using hq)⟩⟩

/-- Where the walk over the kids is. -/
structure SpAt (w : World) (ob : Obj) (p : List Int) (K : List Tree) (k : Nat) (v5 : Value) (lo : List Spt) (wx : World) : Prop where
  row : SOwn wx w.heap.size v5 lo
  below : Below w.heap.size w wx
  box : wx.heap[w.heap.size]? = some ob
  few : lo.length ≤ 1000001
theorem SOwn.grown {wx w' : World} {base : Nat} {L : Obj} {v5 : Value} {lo : List Spt} (h : SOwn wx base v5 lo) (hB : base ≤ wx.heap.size) (hg : (wx.alloc L).grownBy w' v5.ownBlock) : Below base wx w' := by
  obtain ⟨xs, ho, _⟩ := h
  have b1 : Below base wx (wx.alloc L) := (Below.refl _ _).alloc hB _
  exact b1.trans ((Below.refl _ _).grown hg (by have := b1.size; omega) fun k hk => (row_ty ho hk).1)
theorem SOwn.grown0 {wx w' : World} {base : Nat} {v5 : Value} {lo : List Spt} (h : SOwn wx base v5 lo) (hB : base ≤ wx.heap.size) (hg : wx.grownBy w' v5.ownBlock) : Below base wx w' := by
  obtain ⟨xs, ho, _⟩ := h
  exact (Below.refl _ _).grown hg hB fun k hk => (row_ty ho hk).1
theorem SOwn.other {wx w' : World} {base : Nat} {L : Obj} {v5 : Value} {lo : List Spt} (h : SOwn wx base v5 lo) (hg : (wx.alloc L).grownBy w' v5.ownBlock) {b : Nat} {cs : Array Value} {e : TypeId} (hb : wx.heap[b]? = some (.cells cs e)) (hne : 36 ≠ e) : w'.heap[b]? = some (.cells cs e) := by
  obtain ⟨xs, ho, _⟩ := h
  exact grown_other ho hg hb hne
theorem SOwn.other0 {wx w' : World} {base : Nat} {v5 : Value} {lo : List Spt} (h : SOwn wx base v5 lo) (hg : wx.grownBy w' v5.ownBlock) {b : Nat} {cs : Array Value} {e : TypeId} (hb : wx.heap[b]? = some (.cells cs e)) (hne : 36 ≠ e) : w'.heap[b]? = some (.cells cs e) := by
  obtain ⟨xs, ho, _⟩ := h
  exact (hg.block b (Array.getElem?_eq_some_iff.1 hb).1 (row_ne ho hb hne)).trans hb

theorem SOwn.keepN {wx w' : World} {base : Nat} {L ob : Obj} {v5 : Value} {lo : List Spt} (h : SOwn wx base v5 lo) (hob : ∃ cs, ob = .cells cs 31) (hg : (wx.alloc L).grownBy w' v5.ownBlock) {b : Nat} (hb : wx.heap[b]? = some ob) : w'.heap[b]? = some ob := by
  obtain ⟨cs, rfl⟩ := hob
  exact h.other hg hb (by decide)
theorem SOwn.keepN0 {wx w' : World} {base : Nat} {ob : Obj} {v5 : Value} {lo : List Spt} (h : SOwn wx base v5 lo) (hob : ∃ cs, ob = .cells cs 31) (hg : wx.grownBy w' v5.ownBlock) {b : Nat} (hb : wx.heap[b]? = some ob) : w'.heap[b]? = some ob := by
  obtain ⟨cs, rfl⟩ := hob
  exact h.other0 hg hb (by decide)
theorem heap_lt' {w : World} {g : Nat} {o : Obj} (h : w.heap[g]? = some o) : g < w.heap.size := (Array.getElem?_eq_some_iff.1 h).1
theorem SpAt.later {w wx w' : World} {ob : Obj} {p : List Int} {K : List Tree} {k : Nat} {v5 : Value} {lo : List Spt} (h : SpAt w ob p K k v5 lo wx) (hb : Below wx.heap.size wx w') : SpAt w ob p K k v5 lo w' :=
  ⟨h.row.below hb, belowNext h.below hb, (hb.block _ (heap_lt' h.box)).trans h.box, h.few⟩
theorem SpAt.up {w wx : World} {ob : Obj} {p : List Int} {K : List Tree} {k : Nat} {v5 : Value} {lo : List Spt} (h : SpAt w ob p K k v5 lo wx) : SpAt w ob p K (k + 1) v5 lo wx := ⟨h.row, h.below, h.box, h.few⟩
/-- One spot more, or many. -/
theorem SpAt.push {w wx w' : World} {ob : Obj} {p : List Int} {K : List Tree} {k : Nat} {v5 v' : Value} {lo lo' : List Spt} {L : Obj} (h : SpAt w ob p K k v5 lo wx) (hob : ∃ cs, ob = .cells cs 31) (hg : (wx.alloc L).grownBy w' v5.ownBlock) (ho : SOwn w' w.heap.size v' (lo ++ lo')) (hf : (lo ++ lo').length ≤ 1000001) :
    SpAt w ob p K k v' (lo ++ lo') w' := by
  obtain ⟨cs, rfl⟩ := hob
  exact ⟨ho, h.below.trans (SOwn.grown h.row h.below.size hg), h.row.other hg h.box (by decide), hf⟩
theorem SpAt.push0 {w wx w' : World} {ob : Obj} {p : List Int} {K : List Tree} {k : Nat} {v5 v' : Value} {lo lo' : List Spt} (h : SpAt w ob p K k v5 lo wx) (hob : ∃ cs, ob = .cells cs 31) (hg : wx.grownBy w' v5.ownBlock) (ho : SOwn w' w.heap.size v' (lo ++ lo')) (hf : (lo ++ lo').length ≤ 1000001) :
    SpAt w ob p K k v' (lo ++ lo') w' := by
  obtain ⟨cs, rfl⟩ := hob
  exact ⟨ho, h.below.trans (SOwn.grown0 h.row h.below.size hg), h.row.other0 hg h.box (by decide), hf⟩

/-- What Spots answers. -/
def SpPost (w : World) (l : List Spt) (e : Ending) (w' : World) : Prop := ∃ v, e = .returned v ∧ SOwn w' w.heap.size v l ∧ Below w.heap.size w w'
def SpSaid (t : Tree) : Prop := ∀ (v vp : Value) (p : List Int) (w : World), Node w (Under w.heap.size) v t → Ints w (IB w) vp p → weigh t + p.length ≤ 1000000 →
  Calls Try.prog 23 #[v, vp] w (SpPost w ((spotsB 0 t.kids).map (pre p)))

section
variable {w : World} {ops : Array Oper} {o : Oper} {a : Act} {K : Act → World → Prop} {Q : Exit → Act → World → Prop} {E : Prop}
/-- The document's Spots, in a region that draws its order. -/
theorem step_spots {v vp : Value} {l : List Spt} (hgd : o.guard = none) (p1 p2 : Operand) (ho : o.op = .call { callee := .value (.func 23), args := #[p1, p2], argTypes := #[31, 23] })
    (h1 : a.eval p1 = v) (h2 : a.eval p2 = vp) (hc : Calls Try.prog 23 #[v, vp] w (SpPost w l))
    (h : ∀ A c w', SOwn w' w.heap.size (.slice A l.length c) l → Below w.heap.size w w' → K (a.put o.dst (.slice A l.length c)) w') :
    if Region.wanted o (yielded ops a.tmps) = true then Oper.wp Try.prog o a w K Q else E := by
  have hwn : Region.wanted o (yielded ops a.tmps) = true := by simp [Region.wanted, hgd]
  rw [if_pos hwn]
  have hrun : (execOp a.eval o).run Try.prog w = .ok (.enter 23 #[v, vp]) w := by
    have hf : a.eval (.func 23) = .func (.func 23) #[] #[] := rfl
    obtain ⟨c, hc⟩ : ∃ c, Try.f23.body = some c := Option.isSome_iff_exists.1 (by kernel_rfl)
    have hne : ¬ Try.f23.name = "runtime.NumGoroutine" := of_decide_eq_false (by kernel_rfl)
    simp [execOp, ho, resolve, invoke, h1, h2, hf, Deferred.ofValue, callFunc, hne, hc]
  unfold Oper.wp
  rw [hrun, Oper.upon_enter]
  refine hc.mono fun e w'' hh => ?_
  obtain ⟨v', rfl, hs, hb⟩ := hh
  obtain ⟨A, c, rfl, _⟩ := hs.form
  exact h A c w'' hs hb
end
end Go.Proofs.Ytmmifednhleggaa
