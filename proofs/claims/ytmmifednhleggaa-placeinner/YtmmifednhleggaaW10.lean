/-
  What the statements' own made and doc answer: the walk.
-/
import Derived.Test.YtmmifednhleggaaW9
namespace Go.Proofs.Ytmmifednhleggaa
open Go.RowKit Go.Sort

/-- The blocks that are there from a number on, but for the row's own. -/
def Live (base : Nat) (w : World) (v : Value) : Nat → Prop := fun b => base ≤ b ∧ b < w.heap.size ∧ some b ≠ v.ownBlock
def MadePost (w : World) (l : List Tree) (e : Ending) (w' : World) : Prop := ∃ v', e = .returned v' ∧ Kids w' (From w.heap.size w'.heap.size) v' l ∧ Below w.heap.size w w'
def MadeRel (w : World) (out : List Tree) (v : Value) (wr : World) : Prop := Own wr w.heap.size (Live w.heap.size wr v) v out ∧ Below w.heap.size w wr

theorem Cels.form {w : World} {S : Nat → Prop} {v : Value} {l : List Cel} (h : Cels w S v l) : ∃ A c, v = .slice A l.length c ∧ l.length ≤ c ∧ c ≤ maxLen := by
  obtain ⟨A, c, rfl, hc, hm, _⟩ := h; exact ⟨A, c, rfl, hc, hm⟩

theorem Own.mono {w : World} {base : Nat} {S S' : Nat → Prop} {v : Value} {l : List Tree} (h : Own w base S v l) (hS : ∀ b, S b → S' b) : Own w base S' v l := by
  obtain ⟨xs, ho, hc⟩ := h
  exact ⟨xs, ho, hc.keep hS fun _ _ => rfl⟩
theorem Own.base_le {w : World} {base : Nat} {S : Nat → Prop} {v : Value} {l : List Tree} (h : Own w base S v l) : ∀ k, v.ownBlock = some k → base ≤ k ∧ k < w.heap.size := fun k hk => by
  obtain ⟨A, c, rfl, _, hA⟩ := h.form
  rcases hA with ⟨rfl, _⟩ | ⟨g, rfl, hg, hl⟩
  · cases hk
  · simp [Value.ownBlock] at hk; omega
/-- A row and its nodes, while blocks are laid behind them. -/
theorem Own.live {wr W : World} {base : Nat} {v : Value} {l : List Tree} (h : Own wr base (Live base wr v) v l) (hb : Below wr.heap.size wr W) : Own W base (Live base W v) v l :=
  (h.later hb (fun _ hb' => hb'.2.1)).mono fun _ hb' => ⟨hb'.1, Nat.lt_of_lt_of_le hb'.2.1 hb.size, hb'.2.2⟩

theorem made_push {w W : World} {v : Value} {out : List Tree} {n : Tree} {vm va vk : Value} {kd tx : ByteArray} {g : Nat} (hkd : n.kind = kd) (htx : n.text = tx) (hg : W.heap.size = g) (hO : Own W w.heap.size (Live w.heap.size W v) v out) (hBw : Below w.heap.size w W)
    (hm : Strs W (Live w.heap.size W v) vm n.marks) (ha : Pairs W (Live w.heap.size W v) va n.attrs) (hk : Kids W (Live w.heap.size W v) vk n.kids) :
    Own (W.alloc (.cells #[.string kd, .string tx, vm, va, vk] 31)) w.heap.size (Live w.heap.size W v) v out ∧
    Src (W.alloc (.cells #[.string kd, .string tx, vm, va, vk] 31)) (Live w.heap.size W v) (.slice (some ⟨g, 0, none⟩) 1 1) [n] ∧
    (∀ b, Live w.heap.size W v b → b < (W.alloc (.cells #[.string kd, .string tx, vm, va, vk] 31)).heap.size ∧ some b ≠ v.ownBlock) ∧
    w.heap.size ≤ (W.alloc (.cells #[.string kd, .string tx, vm, va, vk] 31)).heap.size ∧
    (∀ (v' : Value) (w' : World), Own w' w.heap.size (Live w.heap.size W v) v' (out ++ [n]) → (W.alloc (.cells #[.string kd, .string tx, vm, va, vk] 31)).grownBy w' v.ownBlock →
      (v'.ownBlock = v.ownBlock ∨ v'.ownBlock = some (W.alloc (.cells #[.string kd, .string tx, vm, va, vk] 31)).heap.size) → MadeRel w (out ++ [n]) v' w') := by
  subst hkd htx hg
  obtain ⟨c0, c1, c2, c3, c4, hb, hz⟩ := box5 (w := W) (Below.refl _ (W.alloc (.cells #[.string n.kind, .string n.text, vm, va, vk] 31)))
  have hB := belowNext hBw hb
  have keep : ∀ b, Live w.heap.size W v b → (W.alloc (.cells #[.string n.kind, .string n.text, vm, va, vk] 31)).heap[b]? = W.heap[b]? := fun b hb' => hb.block b hb'.2.1
  refine ⟨hO.later hb (fun _ h => h.2.1), src_one (hm.keep (fun _ h => h) keep) (ha.keep (fun _ h => h) keep) (hk.keep (fun _ h => h) keep) c0 c1 c2 c3 c4, fun b h => ⟨Nat.lt_trans h.2.1 (by omega), h.2.2⟩, hB.size, fun v' w' h1 h2 h3 => ?_⟩
  refine ⟨h1.mono fun b hb' => ⟨hb'.1, Nat.lt_of_lt_of_le (Nat.lt_trans hb'.2.1 (by omega)) h2.size, ?_⟩, hB.grown h2 hB.size (fun k hk => (hO.base_le k hk).1)⟩
  rcases h3 with h3 | h3
  · rw [h3]; exact hb'.2.2
  · rw [h3]; intro e; have e := Option.some.inj e; have := hb'.2.1; omega

theorem madeStep_last {out : List Tree} {c : Cel} {a : List (ByteArray × ByteArray)} (h : pickN c.op 8 = 7) (ha : attrsOf c = a) : madeStep out c = out ++ [.mk (kindOf c) ByteArray.empty [] a []] := by
  unfold madeStep; rw [if_neg (by omega), if_neg (by omega), ha]

theorem tdiv3 {n : Int} (h0 : -9223372036854775808 ≤ n) (h1 : n ≤ 9223372036854775807) : -9223372036854775808 ≤ n.tdiv 3 ∧ n.tdiv 3 ≤ 9223372036854775807 := by
  have h := Int.tdiv_mul_add_tmod n 3
  rcases Int.le_total 0 n with hn | hn
  · rw [Int.tdiv_eq_ediv_of_nonneg hn]; omega
  · have : n.tdiv 3 = -((-n) / 3) := by rw [← Int.tdiv_eq_ediv_of_nonneg (by omega : 0 ≤ -n), Int.neg_tdiv, Int.neg_neg]
    rw [this]; omega

def attrText (c : Cel) : ByteArray := textsL.getD (pickN (c.b.tdiv 3) 5).toNat ByteArray.empty
theorem attrsOf_one {c : Cel} (h : pickN c.b 3 = 1) : attrsOf c = [(ALIGN, attrText c)] := by unfold attrsOf; rw [if_pos h]; rfl
theorem attrsOf_none {c : Cel} (h : ¬ pickN c.b 3 = 1) : attrsOf c = [] := by unfold attrsOf; rw [if_neg h]
theorem marksOf_one {c : Cel} (h : pickN c.b 3 = 1) : marksOf c = [BB] := by unfold marksOf; rw [if_pos h]
theorem marksOf_two {c : Cel} (h : pickN c.b 3 = 2) : marksOf c = [BB, II] := by unfold marksOf; rw [if_neg (by omega), if_pos h]
theorem marksOf_none {c : Cel} (h : pickN c.b 3 = 0) : marksOf c = [] := by unfold marksOf; rw [if_neg (by omega), if_neg (by omega)]
theorem madeStep_text {out : List Tree} {c : Cel} {m : List ByteArray} (h : pickN c.op 8 ≤ 3) (hm : marksOf c = m) : madeStep out c = out ++ [.mk TEXT (textOf c) m [] []] := by
  unfold madeStep; rw [if_pos h, hm]
theorem strs_one {w : World} {S : Nat → Prop} {g : Nat} {s : ByteArray} (h : w.cell? ⟨g, 0, none⟩ = some (.string s)) (hS : S g) : Strs w S (.slice (some ⟨g, 0, none⟩) 1 1) [s] :=
  ⟨_, 1, rfl, Nat.le_refl _, by unfold maxLen; omega, .inr ⟨g, 0, rfl, hS, fun i s' hi => by
    match i, hi with
    | 0, hi => simp at hi; subst hi; exact h
    | i + 1, hi => simp at hi⟩⟩
theorem strs_two {w : World} {S : Nat → Prop} {g : Nat} {s t : ByteArray} (h : w.cell? ⟨g, 0, none⟩ = some (.string s)) (h' : w.cell? ⟨g, 1, none⟩ = some (.string t)) (hS : S g) : Strs w S (.slice (some ⟨g, 0, none⟩) 2 2) [s, t] :=
  ⟨_, 2, rfl, Nat.le_refl _, by unfold maxLen; omega, .inr ⟨g, 0, rfl, hS, fun i s' hi => by
    match i, hi with
    | 0, hi => simp at hi; subst hi; exact h
    | 1, hi => simp at hi; subst hi; exact h'
    | i + 2, hi => simp at hi⟩⟩
theorem pairs_one {w : World} {S : Nat → Prop} {g : Nat} {p : ByteArray × ByteArray} {s t : ByteArray} (h : w.cell? ⟨g, 0, none⟩ = some (.string s)) (h' : w.cell? ⟨g, 1, none⟩ = some (.string t)) (hs : p.1 = s) (ht : p.2 = t) (hS : S g) : Pairs w S (.slice (some ⟨g, 0, none⟩) 1 1) [p] :=
  ⟨_, 1, rfl, Nat.le_refl _, by unfold maxLen; omega, .inr ⟨g, 0, rfl, hS, fun i s' hi => by
    match i, hi with
    | 0, hi => simp at hi; subst hi hs ht; exact ⟨h, h'⟩
    | i + 1, hi => simp at hi⟩⟩

theorem many_of (c : Cel) (n : Nat) : ∃ m : Nat, Hid (pickN (c.b.tdiv 3) (min (n : Int) 6 + 1) = (m : Int)) ∧ m ≤ n ∧ manyOf c n = m := by
  have h0 := pickN_lo (c.b.tdiv 3) (min (n : Int) 6 + 1) (by omega)
  have h1 := pickN_hi (c.b.tdiv 3) (min (n : Int) 6 + 1) (by omega)
  refine ⟨(pickN (c.b.tdiv 3) (min (n : Int) 6 + 1)).toNat, Lib.hid (by omega), by omega, ?_⟩
  unfold manyOf
  rw [show (((min n 6 : Nat) : Int) + 1) = min (n : Int) 6 + 1 by omega]
theorem madeStep_kids {out : List Tree} {c : Cel} {p : Nat} {a : List (ByteArray × ByteArray)} (h4 : 4 ≤ pickN c.op 8) (h6 : pickN c.op 8 ≤ 6) (hp : p + manyOf c out.length = out.length) (ha : attrsOf c = a) :
    madeStep out c = out.take p ++ [.mk (kindOf c) ByteArray.empty [] a (joinB (out.drop p))] := by
  unfold madeStep
  rw [if_neg (by omega), if_pos h6, ha, show out.length - manyOf c out.length = p by omega]
/-- A node's variable, whole. -/
def NodeBox (W : World) (g : Nat) (v0 v1 v2 v3 v4 : Value) : Prop := W.cell? ⟨g, 0, none⟩ = some v0 ∧ W.cell? ⟨g, 1, none⟩ = some v1 ∧ W.cell? ⟨g, 2, none⟩ = some v2 ∧ W.cell? ⟨g, 3, none⟩ = some v3 ∧ W.cell? ⟨g, 4, none⟩ = some v4 ∧ W.frozen? ⟨g, 4, none⟩ = false
theorem nb_new {W : World} {g : Nat} {v0 v1 v2 v3 v4 : Value} {T : TypeId} (hg : W.heap.size = g) : NodeBox (W.alloc (.cells #[v0, v1, v2, v3, v4] T)) g v0 v1 v2 v3 v4 := by
  obtain ⟨c0, c1, c2, c3, c4⟩ := boxAt (v0 := v0) (v1 := v1) (v2 := v2) (v3 := v3) (v4 := v4) (T := T) hg
  exact ⟨c0, c1, c2, c3, c4, by simp only [World.frozen?, heap_new' W _ hg]; simp⟩
theorem NodeBox.kept {W W' : World} {g : Nat} {v0 v1 v2 v3 v4 : Value} (h : NodeBox W g v0 v1 v2 v3 v4) (hb : Below W.heap.size W W') : NodeBox W' g v0 v1 v2 v3 v4 := by
  obtain ⟨c0, c1, c2, c3, c4, hf⟩ := h
  exact ⟨cell_kept c0 hb, cell_kept c1 hb, cell_kept c2 hb, cell_kept c3 hb, cell_kept c4 hb, (hb.frozen (p := ⟨g, 4, none⟩) (cell_lt c4)).trans hf⟩
theorem NodeBox.alloc {W : World} {g : Nat} {v0 v1 v2 v3 v4 : Value} (h : NodeBox W g v0 v1 v2 v3 v4) (o : Obj) : NodeBox (W.alloc o) g v0 v1 v2 v3 v4 := h.kept ((Below.refl _ _).alloc (Nat.le_refl _) _)

theorem weighAll_drop (l : List Tree) (i : Nat) : weighAll (l.drop i) ≤ weighAll l := by
  have h := weighAll_append (l.take i) (l.drop i)
  rw [List.take_append_drop] at h; omega
theorem Cells.drop {w : World} {S : Nat → Prop} : ∀ {l : List Tree} {xs : List Value} (k : Nat), Cells w S l xs → Cells w S (l.drop k) (xs.drop (k * 5))
  | [], _, k, h => by simp only [Cells] at h; subst h; simp [Cells]
  | _ :: _, _, 0, h => by simpa using h
  | t :: l, _, k + 1, ⟨vm, va, vk, ys, e, hm, ha, hk, h⟩ => by
    subst e
    rw [show (k + 1) * 5 = k * 5 + 5 by omega]
    exact Cells.drop k h
theorem Kids.drop {w : World} {S : Nat → Prop} {A : Option Addr} {n co : Nat} {l : List Tree} (h : Kids w S (.slice A n co) l) (k : Nat) (hk : k ≤ l.length) : Kids w S (.slice (A.map (fun a => a.add (k * 5))) (l.length - k) (co - k)) (l.drop k) := by
  obtain ⟨A', c', hv, hc, hm, h⟩ := h
  injection hv with h1 h2 h3
  subst h1 h3
  refine ⟨_, co - k, by rw [List.length_drop], by rw [List.length_drop]; omega, by omega, ?_⟩
  rcases h with rfl | ⟨b, o, rfl, hb, hr⟩
  · exact .inl (by simp)
  · refine .inr ⟨b, o + k * 5, by simp [add_cell], hb, ?_⟩
    obtain ⟨xs, hxs, hx⟩ := hr.cells
    refine rowAt_cells (hxs.drop k) fun j u hj => ?_
    rw [List.getElem?_drop] at hj
    rw [Nat.add_assoc]; exact hx _ u hj
theorem kids_end {w : World} {S : Nat → Prop} {A : Option Addr} {l : List Tree} {k : Nat} (hk : l.length ≤ k) : Kids w S (.slice A 0 0) (l.drop k) := by
  rw [List.drop_eq_nil_of_le hk]
  exact ⟨A, 0, rfl, Nat.le_refl _, by unfold maxLen; omega, .inl rfl⟩
/-- A row's beginning, while other blocks are laid and turned. -/
theorem src_take {wr W : World} {base : Nat} {A : Option Addr} {co p : Nat} {v : Value} {out : List Tree} (h : Own wr base (Live base wr v) (.slice A out.length co) out) (hW : Below wr.heap.size wr W) (hp : p ≤ out.length) : Src W (From base wr.heap.size) (.slice A p co) (out.take p) := by
  have h' : Own wr base (From base wr.heap.size) (.slice A out.length co) out := h.mono fun _ hb => ⟨hb.1, hb.2.1⟩
  obtain ⟨A', c', hv, _, hA⟩ := h'.form
  injection hv with h1 _ h3
  subst h1 h3
  rcases hA with ⟨rfl, rfl⟩ | ⟨g, rfl, _, _⟩
  · have : p = 0 := by simpa using hp
    subst this
    exact ⟨none, co, [], rfl, rfl, .inl rfl⟩
  · exact (h'.later hW (fun _ hb => hb.2)).pre p hp
/-- All blocks from a number on, below another, but one. -/
def ButF (m n p : Nat) : Nat → Prop := fun b => m ≤ b ∧ b < n ∧ b ≠ p
/-- What stands behind a node's kids: the row that is left, the node's parts. -/
theorem kids_push {w0 wr W w1 w2 : World} {nb : Nat} {v1 v2 va : Value} {L J : List Tree} {a : List (ByteArray × ByteArray)} {ob : Obj} (hnb : wr.heap.size ≤ nb) (hnbW : nb < W.heap.size) (hW : Below wr.heap.size wr W) (hb1 : Below W.heap.size W w1)
    (hbr : Below w0.heap.size w0 wr) (hown1 : Own w1 W.heap.size (From w0.heap.size wr.heap.size) v1 J) (hPA : Pairs W (ButF w0.heap.size W.heap.size nb) va a) (hown2 : Own w2 w0.heap.size (From w0.heap.size wr.heap.size) v2 L)
    (hg : ((w1.setCell ⟨nb, 4, none⟩ v1).alloc ob).grownBy w2 (some w1.heap.size)) (hat : ∀ k, v2.ownBlock = some k → w1.heap.size ≤ k) :
    Own w2 w0.heap.size (Live w0.heap.size w2 v2) v2 L ∧ Below w0.heap.size w0 w2 ∧ Pairs w2 (Live w0.heap.size w2 v2) va a ∧ Kids w2 (Live w0.heap.size w2 v2) v1 J ∧ (∀ o v, w1.cell? ⟨nb, o, none⟩ = some v → o ≠ 4 → w2.cell? ⟨nb, o, none⟩ = some v) ∧
      (∀ v, w1.cell? ⟨nb, 4, none⟩ = some v → w2.cell? ⟨nb, 4, none⟩ = some v1) := by
  have hz1 := hb1.size
  have hzW := hW.size
  have hz2 : w1.heap.size ≤ w2.heap.size := by have := hg.size; simp [World.setCell] at this; omega
  have hs : (w1.setCell ⟨nb, 4, none⟩ v1).heap.size = w1.heap.size := by simp [World.setCell]
  have blk : ∀ b, b < w1.heap.size → b ≠ nb → w2.heap[b]? = w1.heap[b]? := fun b hb hn => by
    rw [hg.block b (by simp [World.setCell]; omega) (fun e => by have := Option.some.inj e; omega), Below.heap_alloc _ _ _ (by rw [hs]; exact hb), Below.heap_setCell _ _ _ _ hn]
  have lv : ∀ b, w0.heap.size ≤ b → b < w1.heap.size → Live w0.heap.size w2 v2 b := fun b h0 hb => ⟨h0, by omega, fun e => by have := hat b e.symm; omega⟩
  have hBw1 : Below wr.heap.size wr w1 := belowNext hW hb1
  refine ⟨hown2.mono fun b hb => lv b hb.1 (by have := hb.2; omega), ?_, ?_, ?_, ?_, ?_⟩
  · have hB1 : Below w0.heap.size w0 w1 := belowNext hbr hBw1
    have hB2 : Below w0.heap.size w0 ((w1.setCell ⟨nb, 4, none⟩ v1).alloc ob) := (hB1.setCell (p := ⟨nb, 4, none⟩) (by have := hbr.size; show w0.heap.size ≤ nb; omega) v1).alloc (by rw [hs]; exact hB1.size) ob
    exact hB2.grown hg hB2.size (fun k hk => by have := Option.some.inj hk; have := hB1.size; omega)
  · exact hPA.keep (fun b hb => lv b hb.1 (by have := hb.2.1; omega)) fun b hb => (blk b (by have := hb.2.1; omega) hb.2.2).trans (hb1.block b hb.2.1)
  · refine (hown1.kids (S' := ButF w0.heap.size w1.heap.size nb) (fun b hb => ⟨hb.1, by have := hb.2; omega, by have := hb.2; omega⟩) (fun g hgg => ?_)).keep (fun b hb => lv b hb.1 hb.2.1) fun b hb => blk b hb.2.1 hb.2.2
    have := hown1.base_le g hgg
    have := hbr.size
    exact ⟨by omega, by omega, by omega⟩
  · intro o v hc ho
    have hlt := cell_lt hc
    have e1 : w2.heap[nb]? = ((w1.setCell ⟨nb, 4, none⟩ v1).alloc ob).heap[nb]? := hg.block nb (by simp [World.setCell]; omega) (fun e => by have := Option.some.inj e; omega)
    rw [World.cell?_of_block (a := ⟨nb, o, none⟩) e1, World.cell?_alloc_lt _ _ _ (by rw [hs]; exact hlt), World.cell?_setCell_other _ _ _ _ (fun e => ho (by injection e with _ h _; exact h.symm))]
    exact hc
  · intro v hc
    have hlt := cell_lt hc
    have e1 : w2.heap[nb]? = ((w1.setCell ⟨nb, 4, none⟩ v1).alloc ob).heap[nb]? := hg.block nb (by simp [World.setCell]; omega) (fun e => by have := Option.some.inj e; omega)
    rw [World.cell?_of_block (a := ⟨nb, 4, none⟩) e1, World.cell?_alloc_lt _ _ _ (by rw [hs]; exact hlt)]
    exact cell_set hc _

theorem kids_arm {w0 wr W w1 w2 : World} {nb : Nat} {v1 v2 va : Value} {L J : List Tree} {a : List (ByteArray × ByteArray)} {ob : Obj} {k t m0 : Value} (hnb : wr.heap.size ≤ nb) (hnbW : nb < W.heap.size) (hW : Below wr.heap.size wr W) (hb1 : Below W.heap.size W w1)
    (hbr : Below w0.heap.size w0 wr) (hown1 : Own w1 W.heap.size (From w0.heap.size wr.heap.size) v1 J) (hPA : Pairs W (ButF w0.heap.size W.heap.size nb) va a) (hN1 : NodeBox w1 nb k t m0 va (.slice none 0 0)) (hown2 : Own w2 w0.heap.size (From w0.heap.size wr.heap.size) v2 ([] ++ L))
    (hg : ((w1.setCell ⟨nb, 4, none⟩ v1).alloc ob).grownBy w2 (Value.slice (some ⟨w1.heap.size, 0, none⟩) 0 0).ownBlock)
    (hat : v2.ownBlock = (Value.slice (some ⟨w1.heap.size, 0, none⟩) 0 0).ownBlock ∨ v2.ownBlock = some ((w1.setCell ⟨nb, 4, none⟩ v1).alloc ob).heap.size) :
    (Own w2 w0.heap.size (Live w0.heap.size w2 v2) v2 L ∧ Below w0.heap.size w0 w2 ∧ Pairs w2 (Live w0.heap.size w2 v2) va a ∧ Kids w2 (Live w0.heap.size w2 v2) v1 J) ∧
      w2.cell? ⟨nb, 0, none⟩ = some k ∧ w2.cell? ⟨nb, 1, none⟩ = some t ∧ w2.cell? ⟨nb, 2, none⟩ = some m0 ∧ w2.cell? ⟨nb, 3, none⟩ = some va ∧ w2.cell? ⟨nb, 4, none⟩ = some v1 := by
  obtain ⟨h1, h2, h3, h4, h5, h6⟩ := kids_push hnb hnbW hW hb1 hbr hown1 hPA (by simpa using hown2) hg (fun k hk => by
    rcases hat with h | h
    · rw [h] at hk; simp [Value.ownBlock] at hk; omega
    · rw [h] at hk; simp [World.setCell] at hk; omega)
  exact ⟨⟨h1, h2, h3, h4⟩, h5 0 _ hN1.1 (by omega), h5 1 _ hN1.2.1 (by omega), h5 2 _ hN1.2.2.1 (by omega), h5 3 _ hN1.2.2.2.1 (by omega), h6 _ hN1.2.2.2.2.1⟩

theorem madeB_end {l : List Cel} {k : Nat} (hk : k ≤ l.length) (h19 : k ≤ 19) (h : ¬ (k < l.length ∧ k < 19)) : madeB l = joinB (madeTo l k) := by
  unfold madeB
  by_cases h1 : k = 19
  · rw [h1]
  · have : l.length ≤ k := by omega
    have e : madeTo l 19 = madeTo l k := by unfold madeTo; rw [List.take_of_length_le this, List.take_of_length_le (by omega)]
    rw [e]

theorem texts_cell {w : World} {g n : Nat} (h0 : w.cell? ⟨g, 0, none⟩ = some (.string ⟨#[97]⟩)) (h1 : w.cell? ⟨g, 1, none⟩ = some (.string ⟨#[98, 99]⟩)) (h2 : w.cell? ⟨g, 2, none⟩ = some (.string ⟨#[195, 169]⟩))
    (h3 : w.cell? ⟨g, 3, none⟩ = some (.string ⟨#[120, 32, 121]⟩)) (h4 : w.cell? ⟨g, 4, none⟩ = some (.string ⟨#[230, 151, 165, 230, 156, 172]⟩)) (hn : n < 5) : w.cell? ⟨g, n, none⟩ = some (.string (textsL.getD n ByteArray.empty)) := by
  match n, hn with
  | 0, _ => exact h0
  | 1, _ => exact h1
  | 2, _ => exact h2
  | 3, _ => exact h3
  | 4, _ => exact h4
theorem kinds_cell {w : World} {g n : Nat} (h0 : w.cell? ⟨g, 0, none⟩ = some (.string ⟨#[112, 97, 114, 97]⟩)) (h1 : w.cell? ⟨g, 1, none⟩ = some (.string ⟨#[105, 116, 101, 109]⟩)) (h2 : w.cell? ⟨g, 2, none⟩ = some (.string ⟨#[108, 105, 115, 116]⟩))
    (h3 : w.cell? ⟨g, 3, none⟩ = some (.string ⟨#[110, 111, 116, 101]⟩)) (hn : n < 4) : w.cell? ⟨g, n, none⟩ = some (.string (kindsL.getD n ByteArray.empty)) := by
  match n, hn with
  | 0, _ => exact h0
  | 1, _ => exact h1
  | 2, _ => exact h2
  | 3, _ => exact h3

/-- The two tables that made lays first. -/
def Tables (w : World) (g : Nat) : Prop := (∀ n, n < 5 → w.cell? ⟨g, n, none⟩ = some (.string (textsL.getD n ByteArray.empty))) ∧ (∀ n, n < 4 → w.cell? ⟨g + 1, n, none⟩ = some (.string (kindsL.getD n ByteArray.empty)))
theorem Tables.below {w w' : World} {g : Nat} (h : Tables w g) (hb : Below w.heap.size w w') : Tables w' g := ⟨fun n hn => cell_kept (h.1 n hn) hb, fun n hn => cell_kept (h.2 n hn) hb⟩

set_option maxHeartbeats 20000000 in
set_option maxRecDepth 100000 in
theorem made_any (v : Value) (l : List Cel) (w : World) (h : Cels w (Under w.heap.size) v l) :
    Calls Try.prog 20 #[v] w (MadePost w (madeB l)) := by
  obtain ⟨A, c, rfl, hlc, hcm⟩ := h.form
  unfold maxLen at hcm
  have HL := Lib.hid h
  clear h
  go_enter Try.func20, Try.ntmps20
  go_wp2
  generalize hW0 : (w.alloc (.cells #[.string ⟨#[97]⟩, .string ⟨#[98, 99]⟩, .string ⟨#[195, 169]⟩, .string ⟨#[120, 32, 121]⟩, .string ⟨#[230, 151, 165, 230, 156, 172]⟩] 9)).alloc
    (.cells #[.string ⟨#[112, 97, 114, 97]⟩, .string ⟨#[105, 116, 101, 109]⟩, .string ⟨#[108, 105, 115, 116]⟩, .string ⟨#[110, 111, 116, 101]⟩] 9) = W0 at *
  have HB0 : Hid (Below w.heap.size w W0) := Lib.hid (by subst hW0; exact ((Below.refl _ _).alloc (Nat.le_refl _) _).alloc (by simp) _)
  have HT0 : Hid (Tables W0 w.heap.size) := Lib.hid (by
    subst hW0
    exact ⟨fun n hn => texts_cell (by simp [go_sem]) (by simp [go_sem]) (by simp [go_sem]) (by simp [go_sem]) (by simp [go_sem]) hn, fun n hn => kinds_cell (by simp [go_sem]) (by simp [go_sem]) (by simp [go_sem]) (by simp [go_sem]) hn⟩)
  have hZ0 : w.heap.size + 2 ≤ W0.heap.size := by subst hW0; simp
  clear hW0
  go_loopw [5, 6] (fun v i wr => ∃ k : Nat, k ≤ l.length ∧ k ≤ 19 ∧ i = .int .i64 k ∧ MadeRel W0 (madeTo l k) v wr) (fun _ i _ => 19 - (intOf i).toNat)
  case atStart => exact ⟨0, by omega, by omega, rfl, own_nil _ _ _, Below.refl _ _⟩
  case round =>
    obtain ⟨k, hkl, hk19, rfl, hown, hbr⟩ := hrel
    by_cases hlt : k < l.length ∧ k < 19
    · obtain ⟨hlt, hl19⟩ := hlt
      obtain ⟨b, o, x, rfl, hub, hlx, e0, e1, e2, r0, r1, r2⟩ := HL.out.get hlt
      have hBr := HB0.out.trans (hbr.mono HB0.out.size)
      have f0 := cell_kept e0 hBr
      have f1 := cell_kept e1 hBr
      have f2 := cell_kept e2 hBr
      have HST := Lib.hid (madeTo_succ l k x hlx)
      have hwo := madeTo_weigh l k
      have hlo := length_le_weigh (madeTo l k)
      generalize madeTo l k = out at *
      obtain ⟨Ao, co, rfl, hoc, hao⟩ := hown.form
      have HO := Lib.hid hown
      have HAO := Lib.hid hao
      have HT := Lib.hid (HT0.out.below hbr)
      have pa0 := pickN_lo x.a 4 (by omega)
      have pa1 := pickN_hi x.a 4 (by omega)
      have pb0 := pickN_lo x.b 3 (by omega)
      have pb1 := pickN_hi x.b 3 (by omega)
      have po0 := pickN_lo x.op 8 (by omega)
      have po1 := pickN_hi x.op 8 (by omega)
      have ck : wr.cell? ⟨w.heap.size + 1, (pickN x.a 4).toNat, none⟩ = some (.string (kindOf x)) := HT.out.2 (pickN x.a 4).toNat (by omega)
      have ct : wr.cell? ⟨w.heap.size, (pickN x.a 5).toNat, none⟩ = some (.string (textOf x)) := HT.out.1 (pickN x.a 5).toNat (by have := pickN_lo x.a 5 (by omega); have := pickN_hi x.a 5 (by omega); omega)
      have cta : wr.cell? ⟨w.heap.size, (pickN (x.b.tdiv 3) 5).toNat, none⟩ = some (.string (attrText x)) := HT.out.1 (pickN (x.b.tdiv 3) 5).toNat (by have := pickN_lo (x.b.tdiv 3) 5 (by omega); have := pickN_hi (x.b.tdiv 3) 5 (by omega); omega)
      have pt0 := pickN_lo x.a 5 (by omega)
      have pt1 := pickN_hi x.a 5 (by omega)
      have pu0 := pickN_lo (x.b.tdiv 3) 5 (by omega)
      have pu1 := pickN_hi (x.b.tdiv 3) 5 (by omega)
      obtain ⟨td0, td1⟩ := tdiv3 r2.1 r2.2
      have HBASE := Lib.hid (fun g h => (HO.out.base_le g h).2)
      have hzr := hbr.size
      have hz0 : w.heap.size < wr.heap.size := by omega
      have hz1 : w.heap.size + 1 < wr.heap.size := by omega
      have hz2 : w.heap.size < wr.heap.size + 1 := by omega
      have hz3 : w.heap.size < wr.heap.size + 1 + 1 := by omega
      have hz4 : w.heap.size ≠ wr.heap.size := by omega
      have hz5 : w.heap.size ≠ wr.heap.size + 1 := by omega
      have hz6 : w.heap.size ≠ wr.heap.size + 1 + 1 := by omega
      clear e0 e1 e2 hown hao hlx
      rcases (by omega : pickN x.op 8 = 7 ∨ pickN x.op 8 ≤ 3 ∨ (4 ≤ pickN x.op 8 ∧ pickN x.op 8 ≤ 6)) with hop | hop | hop
      · have HOP := Lib.hid hop
        have o0 : (pickN x.op 8 == 0) = false := beq_eq_false_iff_ne.2 (by omega)
        have o1 : (pickN x.op 8 == 1) = false := beq_eq_false_iff_ne.2 (by omega)
        have o2 : (pickN x.op 8 == 2) = false := beq_eq_false_iff_ne.2 (by omega)
        have o3 : (pickN x.op 8 == 3) = false := beq_eq_false_iff_ne.2 (by omega)
        have o4 : (pickN x.op 8 == 4) = false := beq_eq_false_iff_ne.2 (by omega)
        have o5 : (pickN x.op 8 == 5) = false := beq_eq_false_iff_ne.2 (by omega)
        have o6 : (pickN x.op 8 == 6) = false := beq_eq_false_iff_ne.2 (by omega)
        clear hop
        by_cases hb1 : pickN x.b 3 = 1
        · have b1 : (pickN x.b 3 == 1) = true := beq_iff_eq.2 hb1
          have HA : Hid (attrsOf x = [(ALIGN, attrText x)]) := Lib.hid (attrsOf_one hb1)
          clear hb1
          have HN : Hid (madeStep out x = out ++ [.mk (kindOf x) ByteArray.empty [] [(ALIGN, attrText x)] []]) := Lib.hid (madeStep_last HOP.out HA.out)
          have HW : Hid (Below wr.heap.size wr (((wr.alloc (.cells #[.int .i64 x.op, .int .i64 x.a, .int .i64 x.b] 70)).alloc (.cells #[.string (kindOf x), .string ⟨#[]⟩, .slice none 0 0, .slice (some ⟨wr.heap.size + 1 + 1, 0, none⟩) 1 1, .slice none 0 0] 31)).alloc (.cells #[.string ⟨#[97, 108, 105, 103, 110]⟩, .string (attrText x)] 67))) := Lib.hid ((((Below.refl _ _).alloc (Nat.le_refl _) _).alloc (by simp) _).alloc (by simp; omega) _)
          have HLT := Lib.hid (made_push (w := W0) (n := .mk (kindOf x) ByteArray.empty [] [(ALIGN, attrText x)] []) (kd := kindOf x) (tx := ⟨#[]⟩) (vm := .slice none 0 0) (va := .slice (some ⟨wr.heap.size + 1 + 1, 0, none⟩) 1 1) (vk := .slice none 0 0) (g := wr.heap.size + 1 + 1 + 1) rfl rfl (by simp) (HO.out.live HW.out) (belowNext hbr HW.out) strs_nil (pairs_one (s := ⟨#[97, 108, 105, 103, 110]⟩) (t := attrText x) (by simp [go_sem]) (by simp [go_sem]) rfl rfl ⟨by omega, by simp, fun e => by have := HBASE.out _ e.symm; omega⟩) kids_nil)
          clear HBASE
          go_wp2_with (first | (go_at_call 33; refine (pick_any _ _ _ (by omega) (by omega) (by omega) (by omega)).mono ?_; rintro e w' ⟨rfl, rfl⟩) | (at_builtin; refine wpList_append_nodes rfl (.tmp 102) (.tmp 104) rfl W0.heap.size _ _ _ out [_] rfl rfl HLT.out.1 HLT.out.2.1 HLT.out.2.2.1 (by simp only [List.length_cons, List.length_nil]; omega) HLT.out.2.2.2.1 ?_; intro v' w3 hown' hg hat; have hM := HLT.out.2.2.2.2 v' w3 hown' hg hat; clear hown' hg hat))
          all_goals exact ⟨⟨k + 1, by omega, by omega, by go_num, by rw [HST.out, HN.out]; exact hM⟩, by simp [intOf]; omega⟩
        · have b1 : (pickN x.b 3 == 1) = false := beq_eq_false_iff_ne.2 hb1
          have HA : Hid (attrsOf x = []) := Lib.hid (attrsOf_none hb1)
          clear hb1
          have HN : Hid (madeStep out x = out ++ [.mk (kindOf x) ByteArray.empty [] [] []]) := Lib.hid (madeStep_last HOP.out HA.out)
          have HW : Hid (Below wr.heap.size wr ((wr.alloc (.cells #[.int .i64 x.op, .int .i64 x.a, .int .i64 x.b] 70)).alloc (.cells #[.string (kindOf x), .string ⟨#[]⟩, .slice none 0 0, .slice none 0 0, .slice none 0 0] 31))) := Lib.hid (((Below.refl _ _).alloc (Nat.le_refl _) _).alloc (by simp) _)
          have HLT := Lib.hid (made_push (w := W0) (n := .mk (kindOf x) ByteArray.empty [] [] []) (kd := kindOf x) (tx := ⟨#[]⟩) (vm := .slice none 0 0) (va := .slice none 0 0) (vk := .slice none 0 0) (g := wr.heap.size + 1 + 1) rfl rfl (by simp) (HO.out.live HW.out) (belowNext hbr HW.out) strs_nil pairs_nil kids_nil)
          clear HBASE
          go_wp2_with (first | (go_at_call 33; refine (pick_any _ _ _ (by omega) (by omega) (by omega) (by omega)).mono ?_; rintro e w' ⟨rfl, rfl⟩) | (at_builtin; refine wpList_append_nodes rfl (.tmp 102) (.tmp 104) rfl W0.heap.size _ _ _ out [_] rfl rfl HLT.out.1 HLT.out.2.1 HLT.out.2.2.1 (by simp only [List.length_cons, List.length_nil]; omega) HLT.out.2.2.2.1 ?_; intro v' w3 hown' hg hat; have hM := HLT.out.2.2.2.2 v' w3 hown' hg hat; clear hown' hg hat))
          all_goals exact ⟨⟨k + 1, by omega, by omega, by go_num, by rw [HST.out, HN.out]; exact hM⟩, by simp [intOf]; omega⟩
      · have HOP := Lib.hid hop
        rcases (by omega : pickN x.b 3 = 1 ∨ pickN x.b 3 = 2 ∨ pickN x.b 3 = 0) with hb1 | hb1 | hb1
        · have b1 : (pickN x.b 3 == 1) = true := beq_iff_eq.2 hb1
          have b2 : (pickN x.b 3 == 2) = false := beq_eq_false_iff_ne.2 (by omega)
          have HMK : Hid (marksOf x = [BB]) := Lib.hid (marksOf_one hb1)
          clear hb1
          rcases (by omega : pickN x.op 8 = 0 ∨ pickN x.op 8 = 1 ∨ pickN x.op 8 = 2 ∨ pickN x.op 8 = 3) with ho | ho | ho | ho
          · have o0 : (pickN x.op 8 == 0) = true := beq_iff_eq.2 (by omega)
            clear ho
            have HN : Hid (madeStep out x = out ++ [.mk TEXT (textOf x) [BB] [] []]) := Lib.hid (madeStep_text HOP.out HMK.out)
            have HW : Hid (Below wr.heap.size wr ((((wr.alloc (.cells #[.int .i64 x.op, .int .i64 x.a, .int .i64 x.b] 70)).alloc (.cells #[.string ⟨#[116, 101, 120, 116]⟩, .string (textOf x), .slice (some ⟨wr.heap.size + 1 + 1 + 1, 0, none⟩) 1 1, .slice none 0 0, .slice none 0 0] 31)).alloc (.cells #[.string ⟨#[97, 108, 105, 103, 110]⟩, .string (attrText x)] 67)).alloc (.cells #[.string ⟨#[98]⟩] 9))) := Lib.hid (((((Below.refl _ _).alloc (Nat.le_refl _) _).alloc (by simp) _).alloc (by simp; omega) _).alloc (by simp; omega) _)
            have HLT := Lib.hid (made_push (w := W0) (n := .mk TEXT (textOf x) [BB] [] []) (kd := ⟨#[116, 101, 120, 116]⟩) (tx := textOf x) (vm := .slice (some ⟨wr.heap.size + 1 + 1 + 1, 0, none⟩) 1 1) (va := .slice none 0 0) (vk := .slice none 0 0) (g := wr.heap.size + 1 + 1 + 1 + 1) rfl rfl (by simp) (HO.out.live HW.out) (belowNext hbr HW.out) (strs_one (s := BB) (by simp [go_sem, BB]) ⟨by omega, by simp, fun e => by have := HBASE.out _ e.symm; omega⟩) pairs_nil kids_nil)
            clear HBASE
            go_wp2_with (first | (go_at_call 33; refine (pick_any _ _ _ (by omega) (by omega) (by omega) (by omega)).mono ?_; rintro e w' ⟨rfl, rfl⟩) | (at_builtin; refine wpList_append_nodes rfl (.tmp 102) (.tmp 104) rfl W0.heap.size _ _ _ out [_] rfl rfl HLT.out.1 HLT.out.2.1 HLT.out.2.2.1 (by simp only [List.length_cons, List.length_nil]; omega) HLT.out.2.2.2.1 ?_; intro v' w3 hown' hg hat; have hM := HLT.out.2.2.2.2 v' w3 hown' hg hat; clear hown' hg hat))
            all_goals exact ⟨⟨k + 1, by omega, by omega, by go_num, by rw [HST.out, HN.out]; exact hM⟩, by simp [intOf]; omega⟩
          · have o0 : (pickN x.op 8 == 0) = false := beq_eq_false_iff_ne.2 (by omega)
            have o1 : (pickN x.op 8 == 1) = true := beq_iff_eq.2 (by omega)
            clear ho
            have HN : Hid (madeStep out x = out ++ [.mk TEXT (textOf x) [BB] [] []]) := Lib.hid (madeStep_text HOP.out HMK.out)
            have HW : Hid (Below wr.heap.size wr ((((wr.alloc (.cells #[.int .i64 x.op, .int .i64 x.a, .int .i64 x.b] 70)).alloc (.cells #[.string ⟨#[116, 101, 120, 116]⟩, .string (textOf x), .slice (some ⟨wr.heap.size + 1 + 1 + 1, 0, none⟩) 1 1, .slice none 0 0, .slice none 0 0] 31)).alloc (.cells #[.string ⟨#[97, 108, 105, 103, 110]⟩, .string (attrText x)] 67)).alloc (.cells #[.string ⟨#[98]⟩] 9))) := Lib.hid (((((Below.refl _ _).alloc (Nat.le_refl _) _).alloc (by simp) _).alloc (by simp; omega) _).alloc (by simp; omega) _)
            have HLT := Lib.hid (made_push (w := W0) (n := .mk TEXT (textOf x) [BB] [] []) (kd := ⟨#[116, 101, 120, 116]⟩) (tx := textOf x) (vm := .slice (some ⟨wr.heap.size + 1 + 1 + 1, 0, none⟩) 1 1) (va := .slice none 0 0) (vk := .slice none 0 0) (g := wr.heap.size + 1 + 1 + 1 + 1) rfl rfl (by simp) (HO.out.live HW.out) (belowNext hbr HW.out) (strs_one (s := BB) (by simp [go_sem, BB]) ⟨by omega, by simp, fun e => by have := HBASE.out _ e.symm; omega⟩) pairs_nil kids_nil)
            clear HBASE
            go_wp2_with (first | (go_at_call 33; refine (pick_any _ _ _ (by omega) (by omega) (by omega) (by omega)).mono ?_; rintro e w' ⟨rfl, rfl⟩) | (at_builtin; refine wpList_append_nodes rfl (.tmp 102) (.tmp 104) rfl W0.heap.size _ _ _ out [_] rfl rfl HLT.out.1 HLT.out.2.1 HLT.out.2.2.1 (by simp only [List.length_cons, List.length_nil]; omega) HLT.out.2.2.2.1 ?_; intro v' w3 hown' hg hat; have hM := HLT.out.2.2.2.2 v' w3 hown' hg hat; clear hown' hg hat))
            all_goals exact ⟨⟨k + 1, by omega, by omega, by go_num, by rw [HST.out, HN.out]; exact hM⟩, by simp [intOf]; omega⟩
          · have o0 : (pickN x.op 8 == 0) = false := beq_eq_false_iff_ne.2 (by omega)
            have o1 : (pickN x.op 8 == 1) = false := beq_eq_false_iff_ne.2 (by omega)
            have o2 : (pickN x.op 8 == 2) = true := beq_iff_eq.2 (by omega)
            clear ho
            have HN : Hid (madeStep out x = out ++ [.mk TEXT (textOf x) [BB] [] []]) := Lib.hid (madeStep_text HOP.out HMK.out)
            have HW : Hid (Below wr.heap.size wr ((((wr.alloc (.cells #[.int .i64 x.op, .int .i64 x.a, .int .i64 x.b] 70)).alloc (.cells #[.string ⟨#[116, 101, 120, 116]⟩, .string (textOf x), .slice (some ⟨wr.heap.size + 1 + 1 + 1, 0, none⟩) 1 1, .slice none 0 0, .slice none 0 0] 31)).alloc (.cells #[.string ⟨#[97, 108, 105, 103, 110]⟩, .string (attrText x)] 67)).alloc (.cells #[.string ⟨#[98]⟩] 9))) := Lib.hid (((((Below.refl _ _).alloc (Nat.le_refl _) _).alloc (by simp) _).alloc (by simp; omega) _).alloc (by simp; omega) _)
            have HLT := Lib.hid (made_push (w := W0) (n := .mk TEXT (textOf x) [BB] [] []) (kd := ⟨#[116, 101, 120, 116]⟩) (tx := textOf x) (vm := .slice (some ⟨wr.heap.size + 1 + 1 + 1, 0, none⟩) 1 1) (va := .slice none 0 0) (vk := .slice none 0 0) (g := wr.heap.size + 1 + 1 + 1 + 1) rfl rfl (by simp) (HO.out.live HW.out) (belowNext hbr HW.out) (strs_one (s := BB) (by simp [go_sem, BB]) ⟨by omega, by simp, fun e => by have := HBASE.out _ e.symm; omega⟩) pairs_nil kids_nil)
            clear HBASE
            go_wp2_with (first | (go_at_call 33; refine (pick_any _ _ _ (by omega) (by omega) (by omega) (by omega)).mono ?_; rintro e w' ⟨rfl, rfl⟩) | (at_builtin; refine wpList_append_nodes rfl (.tmp 102) (.tmp 104) rfl W0.heap.size _ _ _ out [_] rfl rfl HLT.out.1 HLT.out.2.1 HLT.out.2.2.1 (by simp only [List.length_cons, List.length_nil]; omega) HLT.out.2.2.2.1 ?_; intro v' w3 hown' hg hat; have hM := HLT.out.2.2.2.2 v' w3 hown' hg hat; clear hown' hg hat))
            all_goals exact ⟨⟨k + 1, by omega, by omega, by go_num, by rw [HST.out, HN.out]; exact hM⟩, by simp [intOf]; omega⟩
          · have o0 : (pickN x.op 8 == 0) = false := beq_eq_false_iff_ne.2 (by omega)
            have o1 : (pickN x.op 8 == 1) = false := beq_eq_false_iff_ne.2 (by omega)
            have o2 : (pickN x.op 8 == 2) = false := beq_eq_false_iff_ne.2 (by omega)
            have o3 : (pickN x.op 8 == 3) = true := beq_iff_eq.2 (by omega)
            clear ho
            have HN : Hid (madeStep out x = out ++ [.mk TEXT (textOf x) [BB] [] []]) := Lib.hid (madeStep_text HOP.out HMK.out)
            have HW : Hid (Below wr.heap.size wr ((((wr.alloc (.cells #[.int .i64 x.op, .int .i64 x.a, .int .i64 x.b] 70)).alloc (.cells #[.string ⟨#[116, 101, 120, 116]⟩, .string (textOf x), .slice (some ⟨wr.heap.size + 1 + 1 + 1, 0, none⟩) 1 1, .slice none 0 0, .slice none 0 0] 31)).alloc (.cells #[.string ⟨#[97, 108, 105, 103, 110]⟩, .string (attrText x)] 67)).alloc (.cells #[.string ⟨#[98]⟩] 9))) := Lib.hid (((((Below.refl _ _).alloc (Nat.le_refl _) _).alloc (by simp) _).alloc (by simp; omega) _).alloc (by simp; omega) _)
            have HLT := Lib.hid (made_push (w := W0) (n := .mk TEXT (textOf x) [BB] [] []) (kd := ⟨#[116, 101, 120, 116]⟩) (tx := textOf x) (vm := .slice (some ⟨wr.heap.size + 1 + 1 + 1, 0, none⟩) 1 1) (va := .slice none 0 0) (vk := .slice none 0 0) (g := wr.heap.size + 1 + 1 + 1 + 1) rfl rfl (by simp) (HO.out.live HW.out) (belowNext hbr HW.out) (strs_one (s := BB) (by simp [go_sem, BB]) ⟨by omega, by simp, fun e => by have := HBASE.out _ e.symm; omega⟩) pairs_nil kids_nil)
            clear HBASE
            go_wp2_with (first | (go_at_call 33; refine (pick_any _ _ _ (by omega) (by omega) (by omega) (by omega)).mono ?_; rintro e w' ⟨rfl, rfl⟩) | (at_builtin; refine wpList_append_nodes rfl (.tmp 102) (.tmp 104) rfl W0.heap.size _ _ _ out [_] rfl rfl HLT.out.1 HLT.out.2.1 HLT.out.2.2.1 (by simp only [List.length_cons, List.length_nil]; omega) HLT.out.2.2.2.1 ?_; intro v' w3 hown' hg hat; have hM := HLT.out.2.2.2.2 v' w3 hown' hg hat; clear hown' hg hat))
            all_goals exact ⟨⟨k + 1, by omega, by omega, by go_num, by rw [HST.out, HN.out]; exact hM⟩, by simp [intOf]; omega⟩
        · have b1 : (pickN x.b 3 == 1) = false := beq_eq_false_iff_ne.2 (by omega)
          have b2 : (pickN x.b 3 == 2) = true := beq_iff_eq.2 hb1
          have HMK : Hid (marksOf x = [BB, II]) := Lib.hid (marksOf_two hb1)
          clear hb1
          rcases (by omega : pickN x.op 8 = 0 ∨ pickN x.op 8 = 1 ∨ pickN x.op 8 = 2 ∨ pickN x.op 8 = 3) with ho | ho | ho | ho
          · have o0 : (pickN x.op 8 == 0) = true := beq_iff_eq.2 (by omega)
            clear ho
            have HN : Hid (madeStep out x = out ++ [.mk TEXT (textOf x) [BB, II] [] []]) := Lib.hid (madeStep_text HOP.out HMK.out)
            have HW : Hid (Below wr.heap.size wr (((wr.alloc (.cells #[.int .i64 x.op, .int .i64 x.a, .int .i64 x.b] 70)).alloc (.cells #[.string ⟨#[116, 101, 120, 116]⟩, .string (textOf x), .slice (some ⟨wr.heap.size + 1 + 1, 0, none⟩) 2 2, .slice none 0 0, .slice none 0 0] 31)).alloc (.cells #[.string ⟨#[98]⟩, .string ⟨#[105]⟩] 9))) := Lib.hid ((((Below.refl _ _).alloc (Nat.le_refl _) _).alloc (by simp) _).alloc (by simp; omega) _)
            have HLT := Lib.hid (made_push (w := W0) (n := .mk TEXT (textOf x) [BB, II] [] []) (kd := ⟨#[116, 101, 120, 116]⟩) (tx := textOf x) (vm := .slice (some ⟨wr.heap.size + 1 + 1, 0, none⟩) 2 2) (va := .slice none 0 0) (vk := .slice none 0 0) (g := wr.heap.size + 1 + 1 + 1) rfl rfl (by simp) (HO.out.live HW.out) (belowNext hbr HW.out) (strs_two (s := BB) (t := II) (by simp [go_sem, BB]) (by simp [go_sem, II]) ⟨by omega, by simp, fun e => by have := HBASE.out _ e.symm; omega⟩) pairs_nil kids_nil)
            clear HBASE
            go_wp2_with (first | (go_at_call 33; refine (pick_any _ _ _ (by omega) (by omega) (by omega) (by omega)).mono ?_; rintro e w' ⟨rfl, rfl⟩) | (at_builtin; refine wpList_append_nodes rfl (.tmp 102) (.tmp 104) rfl W0.heap.size _ _ _ out [_] rfl rfl HLT.out.1 HLT.out.2.1 HLT.out.2.2.1 (by simp only [List.length_cons, List.length_nil]; omega) HLT.out.2.2.2.1 ?_; intro v' w3 hown' hg hat; have hM := HLT.out.2.2.2.2 v' w3 hown' hg hat; clear hown' hg hat))
            all_goals exact ⟨⟨k + 1, by omega, by omega, by go_num, by rw [HST.out, HN.out]; exact hM⟩, by simp [intOf]; omega⟩
          · have o0 : (pickN x.op 8 == 0) = false := beq_eq_false_iff_ne.2 (by omega)
            have o1 : (pickN x.op 8 == 1) = true := beq_iff_eq.2 (by omega)
            clear ho
            have HN : Hid (madeStep out x = out ++ [.mk TEXT (textOf x) [BB, II] [] []]) := Lib.hid (madeStep_text HOP.out HMK.out)
            have HW : Hid (Below wr.heap.size wr (((wr.alloc (.cells #[.int .i64 x.op, .int .i64 x.a, .int .i64 x.b] 70)).alloc (.cells #[.string ⟨#[116, 101, 120, 116]⟩, .string (textOf x), .slice (some ⟨wr.heap.size + 1 + 1, 0, none⟩) 2 2, .slice none 0 0, .slice none 0 0] 31)).alloc (.cells #[.string ⟨#[98]⟩, .string ⟨#[105]⟩] 9))) := Lib.hid ((((Below.refl _ _).alloc (Nat.le_refl _) _).alloc (by simp) _).alloc (by simp; omega) _)
            have HLT := Lib.hid (made_push (w := W0) (n := .mk TEXT (textOf x) [BB, II] [] []) (kd := ⟨#[116, 101, 120, 116]⟩) (tx := textOf x) (vm := .slice (some ⟨wr.heap.size + 1 + 1, 0, none⟩) 2 2) (va := .slice none 0 0) (vk := .slice none 0 0) (g := wr.heap.size + 1 + 1 + 1) rfl rfl (by simp) (HO.out.live HW.out) (belowNext hbr HW.out) (strs_two (s := BB) (t := II) (by simp [go_sem, BB]) (by simp [go_sem, II]) ⟨by omega, by simp, fun e => by have := HBASE.out _ e.symm; omega⟩) pairs_nil kids_nil)
            clear HBASE
            go_wp2_with (first | (go_at_call 33; refine (pick_any _ _ _ (by omega) (by omega) (by omega) (by omega)).mono ?_; rintro e w' ⟨rfl, rfl⟩) | (at_builtin; refine wpList_append_nodes rfl (.tmp 102) (.tmp 104) rfl W0.heap.size _ _ _ out [_] rfl rfl HLT.out.1 HLT.out.2.1 HLT.out.2.2.1 (by simp only [List.length_cons, List.length_nil]; omega) HLT.out.2.2.2.1 ?_; intro v' w3 hown' hg hat; have hM := HLT.out.2.2.2.2 v' w3 hown' hg hat; clear hown' hg hat))
            all_goals exact ⟨⟨k + 1, by omega, by omega, by go_num, by rw [HST.out, HN.out]; exact hM⟩, by simp [intOf]; omega⟩
          · have o0 : (pickN x.op 8 == 0) = false := beq_eq_false_iff_ne.2 (by omega)
            have o1 : (pickN x.op 8 == 1) = false := beq_eq_false_iff_ne.2 (by omega)
            have o2 : (pickN x.op 8 == 2) = true := beq_iff_eq.2 (by omega)
            clear ho
            have HN : Hid (madeStep out x = out ++ [.mk TEXT (textOf x) [BB, II] [] []]) := Lib.hid (madeStep_text HOP.out HMK.out)
            have HW : Hid (Below wr.heap.size wr (((wr.alloc (.cells #[.int .i64 x.op, .int .i64 x.a, .int .i64 x.b] 70)).alloc (.cells #[.string ⟨#[116, 101, 120, 116]⟩, .string (textOf x), .slice (some ⟨wr.heap.size + 1 + 1, 0, none⟩) 2 2, .slice none 0 0, .slice none 0 0] 31)).alloc (.cells #[.string ⟨#[98]⟩, .string ⟨#[105]⟩] 9))) := Lib.hid ((((Below.refl _ _).alloc (Nat.le_refl _) _).alloc (by simp) _).alloc (by simp; omega) _)
            have HLT := Lib.hid (made_push (w := W0) (n := .mk TEXT (textOf x) [BB, II] [] []) (kd := ⟨#[116, 101, 120, 116]⟩) (tx := textOf x) (vm := .slice (some ⟨wr.heap.size + 1 + 1, 0, none⟩) 2 2) (va := .slice none 0 0) (vk := .slice none 0 0) (g := wr.heap.size + 1 + 1 + 1) rfl rfl (by simp) (HO.out.live HW.out) (belowNext hbr HW.out) (strs_two (s := BB) (t := II) (by simp [go_sem, BB]) (by simp [go_sem, II]) ⟨by omega, by simp, fun e => by have := HBASE.out _ e.symm; omega⟩) pairs_nil kids_nil)
            clear HBASE
            go_wp2_with (first | (go_at_call 33; refine (pick_any _ _ _ (by omega) (by omega) (by omega) (by omega)).mono ?_; rintro e w' ⟨rfl, rfl⟩) | (at_builtin; refine wpList_append_nodes rfl (.tmp 102) (.tmp 104) rfl W0.heap.size _ _ _ out [_] rfl rfl HLT.out.1 HLT.out.2.1 HLT.out.2.2.1 (by simp only [List.length_cons, List.length_nil]; omega) HLT.out.2.2.2.1 ?_; intro v' w3 hown' hg hat; have hM := HLT.out.2.2.2.2 v' w3 hown' hg hat; clear hown' hg hat))
            all_goals exact ⟨⟨k + 1, by omega, by omega, by go_num, by rw [HST.out, HN.out]; exact hM⟩, by simp [intOf]; omega⟩
          · have o0 : (pickN x.op 8 == 0) = false := beq_eq_false_iff_ne.2 (by omega)
            have o1 : (pickN x.op 8 == 1) = false := beq_eq_false_iff_ne.2 (by omega)
            have o2 : (pickN x.op 8 == 2) = false := beq_eq_false_iff_ne.2 (by omega)
            have o3 : (pickN x.op 8 == 3) = true := beq_iff_eq.2 (by omega)
            clear ho
            have HN : Hid (madeStep out x = out ++ [.mk TEXT (textOf x) [BB, II] [] []]) := Lib.hid (madeStep_text HOP.out HMK.out)
            have HW : Hid (Below wr.heap.size wr (((wr.alloc (.cells #[.int .i64 x.op, .int .i64 x.a, .int .i64 x.b] 70)).alloc (.cells #[.string ⟨#[116, 101, 120, 116]⟩, .string (textOf x), .slice (some ⟨wr.heap.size + 1 + 1, 0, none⟩) 2 2, .slice none 0 0, .slice none 0 0] 31)).alloc (.cells #[.string ⟨#[98]⟩, .string ⟨#[105]⟩] 9))) := Lib.hid ((((Below.refl _ _).alloc (Nat.le_refl _) _).alloc (by simp) _).alloc (by simp; omega) _)
            have HLT := Lib.hid (made_push (w := W0) (n := .mk TEXT (textOf x) [BB, II] [] []) (kd := ⟨#[116, 101, 120, 116]⟩) (tx := textOf x) (vm := .slice (some ⟨wr.heap.size + 1 + 1, 0, none⟩) 2 2) (va := .slice none 0 0) (vk := .slice none 0 0) (g := wr.heap.size + 1 + 1 + 1) rfl rfl (by simp) (HO.out.live HW.out) (belowNext hbr HW.out) (strs_two (s := BB) (t := II) (by simp [go_sem, BB]) (by simp [go_sem, II]) ⟨by omega, by simp, fun e => by have := HBASE.out _ e.symm; omega⟩) pairs_nil kids_nil)
            clear HBASE
            go_wp2_with (first | (go_at_call 33; refine (pick_any _ _ _ (by omega) (by omega) (by omega) (by omega)).mono ?_; rintro e w' ⟨rfl, rfl⟩) | (at_builtin; refine wpList_append_nodes rfl (.tmp 102) (.tmp 104) rfl W0.heap.size _ _ _ out [_] rfl rfl HLT.out.1 HLT.out.2.1 HLT.out.2.2.1 (by simp only [List.length_cons, List.length_nil]; omega) HLT.out.2.2.2.1 ?_; intro v' w3 hown' hg hat; have hM := HLT.out.2.2.2.2 v' w3 hown' hg hat; clear hown' hg hat))
            all_goals exact ⟨⟨k + 1, by omega, by omega, by go_num, by rw [HST.out, HN.out]; exact hM⟩, by simp [intOf]; omega⟩
        · have b1 : (pickN x.b 3 == 1) = false := beq_eq_false_iff_ne.2 (by omega)
          have b2 : (pickN x.b 3 == 2) = false := beq_eq_false_iff_ne.2 (by omega)
          have HMK : Hid (marksOf x = []) := Lib.hid (marksOf_none hb1)
          clear hb1
          rcases (by omega : pickN x.op 8 = 0 ∨ pickN x.op 8 = 1 ∨ pickN x.op 8 = 2 ∨ pickN x.op 8 = 3) with ho | ho | ho | ho
          · have o0 : (pickN x.op 8 == 0) = true := beq_iff_eq.2 (by omega)
            clear ho
            have HN : Hid (madeStep out x = out ++ [.mk TEXT (textOf x) [] [] []]) := Lib.hid (madeStep_text HOP.out HMK.out)
            have HW : Hid (Below wr.heap.size wr ((wr.alloc (.cells #[.int .i64 x.op, .int .i64 x.a, .int .i64 x.b] 70)).alloc (.cells #[.string ⟨#[116, 101, 120, 116]⟩, .string (textOf x), .slice none 0 0, .slice none 0 0, .slice none 0 0] 31))) := Lib.hid (((Below.refl _ _).alloc (Nat.le_refl _) _).alloc (by simp) _)
            have HLT := Lib.hid (made_push (w := W0) (n := .mk TEXT (textOf x) [] [] []) (kd := ⟨#[116, 101, 120, 116]⟩) (tx := textOf x) (vm := .slice none 0 0) (va := .slice none 0 0) (vk := .slice none 0 0) (g := wr.heap.size + 1 + 1) rfl rfl (by simp) (HO.out.live HW.out) (belowNext hbr HW.out) strs_nil pairs_nil kids_nil)
            clear HBASE
            go_wp2_with (first | (go_at_call 33; refine (pick_any _ _ _ (by omega) (by omega) (by omega) (by omega)).mono ?_; rintro e w' ⟨rfl, rfl⟩) | (at_builtin; refine wpList_append_nodes rfl (.tmp 102) (.tmp 104) rfl W0.heap.size _ _ _ out [_] rfl rfl HLT.out.1 HLT.out.2.1 HLT.out.2.2.1 (by simp only [List.length_cons, List.length_nil]; omega) HLT.out.2.2.2.1 ?_; intro v' w3 hown' hg hat; have hM := HLT.out.2.2.2.2 v' w3 hown' hg hat; clear hown' hg hat))
            all_goals exact ⟨⟨k + 1, by omega, by omega, by go_num, by rw [HST.out, HN.out]; exact hM⟩, by simp [intOf]; omega⟩
          · have o0 : (pickN x.op 8 == 0) = false := beq_eq_false_iff_ne.2 (by omega)
            have o1 : (pickN x.op 8 == 1) = true := beq_iff_eq.2 (by omega)
            clear ho
            have HN : Hid (madeStep out x = out ++ [.mk TEXT (textOf x) [] [] []]) := Lib.hid (madeStep_text HOP.out HMK.out)
            have HW : Hid (Below wr.heap.size wr ((wr.alloc (.cells #[.int .i64 x.op, .int .i64 x.a, .int .i64 x.b] 70)).alloc (.cells #[.string ⟨#[116, 101, 120, 116]⟩, .string (textOf x), .slice none 0 0, .slice none 0 0, .slice none 0 0] 31))) := Lib.hid (((Below.refl _ _).alloc (Nat.le_refl _) _).alloc (by simp) _)
            have HLT := Lib.hid (made_push (w := W0) (n := .mk TEXT (textOf x) [] [] []) (kd := ⟨#[116, 101, 120, 116]⟩) (tx := textOf x) (vm := .slice none 0 0) (va := .slice none 0 0) (vk := .slice none 0 0) (g := wr.heap.size + 1 + 1) rfl rfl (by simp) (HO.out.live HW.out) (belowNext hbr HW.out) strs_nil pairs_nil kids_nil)
            clear HBASE
            go_wp2_with (first | (go_at_call 33; refine (pick_any _ _ _ (by omega) (by omega) (by omega) (by omega)).mono ?_; rintro e w' ⟨rfl, rfl⟩) | (at_builtin; refine wpList_append_nodes rfl (.tmp 102) (.tmp 104) rfl W0.heap.size _ _ _ out [_] rfl rfl HLT.out.1 HLT.out.2.1 HLT.out.2.2.1 (by simp only [List.length_cons, List.length_nil]; omega) HLT.out.2.2.2.1 ?_; intro v' w3 hown' hg hat; have hM := HLT.out.2.2.2.2 v' w3 hown' hg hat; clear hown' hg hat))
            all_goals exact ⟨⟨k + 1, by omega, by omega, by go_num, by rw [HST.out, HN.out]; exact hM⟩, by simp [intOf]; omega⟩
          · have o0 : (pickN x.op 8 == 0) = false := beq_eq_false_iff_ne.2 (by omega)
            have o1 : (pickN x.op 8 == 1) = false := beq_eq_false_iff_ne.2 (by omega)
            have o2 : (pickN x.op 8 == 2) = true := beq_iff_eq.2 (by omega)
            clear ho
            have HN : Hid (madeStep out x = out ++ [.mk TEXT (textOf x) [] [] []]) := Lib.hid (madeStep_text HOP.out HMK.out)
            have HW : Hid (Below wr.heap.size wr ((wr.alloc (.cells #[.int .i64 x.op, .int .i64 x.a, .int .i64 x.b] 70)).alloc (.cells #[.string ⟨#[116, 101, 120, 116]⟩, .string (textOf x), .slice none 0 0, .slice none 0 0, .slice none 0 0] 31))) := Lib.hid (((Below.refl _ _).alloc (Nat.le_refl _) _).alloc (by simp) _)
            have HLT := Lib.hid (made_push (w := W0) (n := .mk TEXT (textOf x) [] [] []) (kd := ⟨#[116, 101, 120, 116]⟩) (tx := textOf x) (vm := .slice none 0 0) (va := .slice none 0 0) (vk := .slice none 0 0) (g := wr.heap.size + 1 + 1) rfl rfl (by simp) (HO.out.live HW.out) (belowNext hbr HW.out) strs_nil pairs_nil kids_nil)
            clear HBASE
            go_wp2_with (first | (go_at_call 33; refine (pick_any _ _ _ (by omega) (by omega) (by omega) (by omega)).mono ?_; rintro e w' ⟨rfl, rfl⟩) | (at_builtin; refine wpList_append_nodes rfl (.tmp 102) (.tmp 104) rfl W0.heap.size _ _ _ out [_] rfl rfl HLT.out.1 HLT.out.2.1 HLT.out.2.2.1 (by simp only [List.length_cons, List.length_nil]; omega) HLT.out.2.2.2.1 ?_; intro v' w3 hown' hg hat; have hM := HLT.out.2.2.2.2 v' w3 hown' hg hat; clear hown' hg hat))
            all_goals exact ⟨⟨k + 1, by omega, by omega, by go_num, by rw [HST.out, HN.out]; exact hM⟩, by simp [intOf]; omega⟩
          · have o0 : (pickN x.op 8 == 0) = false := beq_eq_false_iff_ne.2 (by omega)
            have o1 : (pickN x.op 8 == 1) = false := beq_eq_false_iff_ne.2 (by omega)
            have o2 : (pickN x.op 8 == 2) = false := beq_eq_false_iff_ne.2 (by omega)
            have o3 : (pickN x.op 8 == 3) = true := beq_iff_eq.2 (by omega)
            clear ho
            have HN : Hid (madeStep out x = out ++ [.mk TEXT (textOf x) [] [] []]) := Lib.hid (madeStep_text HOP.out HMK.out)
            have HW : Hid (Below wr.heap.size wr ((wr.alloc (.cells #[.int .i64 x.op, .int .i64 x.a, .int .i64 x.b] 70)).alloc (.cells #[.string ⟨#[116, 101, 120, 116]⟩, .string (textOf x), .slice none 0 0, .slice none 0 0, .slice none 0 0] 31))) := Lib.hid (((Below.refl _ _).alloc (Nat.le_refl _) _).alloc (by simp) _)
            have HLT := Lib.hid (made_push (w := W0) (n := .mk TEXT (textOf x) [] [] []) (kd := ⟨#[116, 101, 120, 116]⟩) (tx := textOf x) (vm := .slice none 0 0) (va := .slice none 0 0) (vk := .slice none 0 0) (g := wr.heap.size + 1 + 1) rfl rfl (by simp) (HO.out.live HW.out) (belowNext hbr HW.out) strs_nil pairs_nil kids_nil)
            clear HBASE
            go_wp2_with (first | (go_at_call 33; refine (pick_any _ _ _ (by omega) (by omega) (by omega) (by omega)).mono ?_; rintro e w' ⟨rfl, rfl⟩) | (at_builtin; refine wpList_append_nodes rfl (.tmp 102) (.tmp 104) rfl W0.heap.size _ _ _ out [_] rfl rfl HLT.out.1 HLT.out.2.1 HLT.out.2.2.1 (by simp only [List.length_cons, List.length_nil]; omega) HLT.out.2.2.2.1 ?_; intro v' w3 hown' hg hat; have hM := HLT.out.2.2.2.2 v' w3 hown' hg hat; clear hown' hg hat))
            all_goals exact ⟨⟨k + 1, by omega, by omega, by go_num, by rw [HST.out, HN.out]; exact hM⟩, by simp [intOf]; omega⟩
      · have HOP := Lib.hid hop
        have o0 : (pickN x.op 8 == 0) = false := beq_eq_false_iff_ne.2 (by omega)
        have o1 : (pickN x.op 8 == 1) = false := beq_eq_false_iff_ne.2 (by omega)
        have o2 : (pickN x.op 8 == 2) = false := beq_eq_false_iff_ne.2 (by omega)
        have o3 : (pickN x.op 8 == 3) = false := beq_eq_false_iff_ne.2 (by omega)
        obtain ⟨m, HM, hml⟩ : ∃ m : Nat, Hid (pickN (x.b.tdiv 3) (min (out.length : Int) 6 + 1) = (m : Int)) ∧ m ≤ out.length ∧ manyOf x out.length = m := many_of x out.length
        obtain ⟨hml, hmm⟩ := hml
        obtain ⟨p, hp⟩ : ∃ p : Nat, p + m = out.length := ⟨out.length - m, by omega⟩
        have hsub : (out.length : Int) - (m : Int) = (p : Int) := by omega
        have hpl : p ≤ out.length := by omega
        have HSTEP : Hid (∀ a, attrsOf x = a → madeStep out x = out.take p ++ [.mk (kindOf x) ByteArray.empty [] a (joinB (out.drop p))]) := Lib.hid (fun a ha => madeStep_kids hop.1 hop.2 (by omega) ha)
        clear hmm hop
        by_cases hb1 : pickN x.b 3 = 1
        · have b1 : (pickN x.b 3 == 1) = true := beq_iff_eq.2 hb1
          have HA : Hid (attrsOf x = [(ALIGN, attrText x)]) := Lib.hid (attrsOf_one hb1)
          clear hb1
          have HW : Hid (Below wr.heap.size wr (((wr.alloc (.cells #[.int .i64 x.op, .int .i64 x.a, .int .i64 x.b] 70)).alloc (.cells #[.string (kindOf x), .string ⟨#[]⟩, .slice none 0 0, .slice (some ⟨wr.heap.size + 1 + 1, 0, none⟩) 1 1, .slice none 0 0] 31)).alloc (.cells #[.string ⟨#[97, 108, 105, 103, 110]⟩, .string (attrText x)] 67))) := Lib.hid ((((Below.refl _ _).alloc (Nat.le_refl _) _).alloc (by simp) _).alloc (by simp; omega) _)
          have HWB : Hid (NodeBox (((wr.alloc (.cells #[.int .i64 x.op, .int .i64 x.a, .int .i64 x.b] 70)).alloc (.cells #[.string (kindOf x), .string ⟨#[]⟩, .slice none 0 0, .slice (some ⟨wr.heap.size + 1 + 1, 0, none⟩) 1 1, .slice none 0 0] 31)).alloc (.cells #[.string ⟨#[97, 108, 105, 103, 110]⟩, .string (attrText x)] 67)) (wr.heap.size + 1) (.string (kindOf x)) (.string ⟨#[]⟩) (.slice none 0 0) (.slice (some ⟨wr.heap.size + 1 + 1, 0, none⟩) 1 1) (.slice none 0 0)) := Lib.hid ((nb_new (by simp)).alloc _)
          have HPA : Hid (Pairs (((wr.alloc (.cells #[.int .i64 x.op, .int .i64 x.a, .int .i64 x.b] 70)).alloc (.cells #[.string (kindOf x), .string ⟨#[]⟩, .slice none 0 0, .slice (some ⟨wr.heap.size + 1 + 1, 0, none⟩) 1 1, .slice none 0 0] 31)).alloc (.cells #[.string ⟨#[97, 108, 105, 103, 110]⟩, .string (attrText x)] 67)) (ButF W0.heap.size (((wr.alloc (.cells #[.int .i64 x.op, .int .i64 x.a, .int .i64 x.b] 70)).alloc (.cells #[.string (kindOf x), .string ⟨#[]⟩, .slice none 0 0, .slice (some ⟨wr.heap.size + 1 + 1, 0, none⟩) 1 1, .slice none 0 0] 31)).alloc (.cells #[.string ⟨#[97, 108, 105, 103, 110]⟩, .string (attrText x)] 67)).heap.size (wr.heap.size + 1)) (.slice (some ⟨wr.heap.size + 1 + 1, 0, none⟩) 1 1) [(ALIGN, attrText x)]) := Lib.hid (pairs_one (s := ⟨#[97, 108, 105, 103, 110]⟩) (t := attrText x) (by simp [go_sem]) (by simp [go_sem]) rfl rfl ⟨by omega, by simp, by omega⟩)
          have HNW : Hid (wr.heap.size + 1 < (((wr.alloc (.cells #[.int .i64 x.op, .int .i64 x.a, .int .i64 x.b] 70)).alloc (.cells #[.string (kindOf x), .string ⟨#[]⟩, .slice none 0 0, .slice (some ⟨wr.heap.size + 1 + 1, 0, none⟩) 1 1, .slice none 0 0] 31)).alloc (.cells #[.string ⟨#[97, 108, 105, 103, 110]⟩, .string (attrText x)] 67)).heap.size) := Lib.hid (by simp)
          by_cases hcp : co = p
          · subst hcp
            have HKD : Hid (Kids (((wr.alloc (.cells #[.int .i64 x.op, .int .i64 x.a, .int .i64 x.b] 70)).alloc (.cells #[.string (kindOf x), .string ⟨#[]⟩, .slice none 0 0, .slice (some ⟨wr.heap.size + 1 + 1, 0, none⟩) 1 1, .slice none 0 0] 31)).alloc (.cells #[.string ⟨#[97, 108, 105, 103, 110]⟩, .string (attrText x)] 67)) (From W0.heap.size wr.heap.size) (.slice Ao 0 0) (out.drop co)) := Lib.hid (kids_end (by omega))
            have hM := HM.out
            rcases (by have := HOP.out; omega : pickN x.op 8 = 4 ∨ pickN x.op 8 = 5 ∨ pickN x.op 8 = 6) with ho | ho | ho
            · have o4 : (pickN x.op 8 == 4) = true := beq_iff_eq.2 (by omega)
              clear ho
              go_wp2_with (first | (go_at_call 33; refine (pick_any _ _ _ (by omega) (by omega) (by omega) (by omega)).mono ?_; rintro e w' ⟨rfl, rfl⟩) | (at_builtin; fail))
              refine (refJoin_any _ (out.drop co) (From W0.heap.size wr.heap.size) _ HKD.out (fun b hb => Nat.lt_of_lt_of_le hb.2 HW.out.size) (by have := weighAll_drop out co; omega)).mono ?_
              rintro e w1 ⟨v1, rfl, hown1, hb1⟩
              obtain ⟨A1, c1, rfl, hc1, _⟩ := hown1.form
              have HN1 := Lib.hid (HWB.out.kept hb1)
              obtain ⟨m0, m1, m2, m3, m4, m5⟩ := HN1.out
              have HO1 := Lib.hid hown1
              have HB1 := Lib.hid hb1
              have hz7 : wr.heap.size + 1 < w1.heap.size := cell_lt m0
              have HBW : Hid (Below wr.heap.size wr ((w1.setCell ⟨wr.heap.size + 1, 4, none⟩ (.slice A1 (joinB (out.drop co)).length c1)).alloc (.cells #[] 31))) := Lib.hid (((belowNext HW.out hb1).setCell (by show _ ≤ wr.heap.size + 1; omega) _).alloc (by simp; omega) _)
              have HSRC := Lib.hid (src_take HO.out HBW.out (p := co) (by omega))
              have HEM : Hid (Own ((w1.setCell ⟨wr.heap.size + 1, 4, none⟩ (.slice A1 (joinB (out.drop co)).length c1)).alloc (.cells #[] 31)) W0.heap.size (From W0.heap.size wr.heap.size) (.slice (some ⟨w1.heap.size, 0, none⟩) 0 0) []) := Lib.hid (own_empty (heap_new' _ _ (by simp)) (by omega))
              have HSZ : Hid (∀ b, From W0.heap.size wr.heap.size b → b < ((w1.setCell ⟨wr.heap.size + 1, 4, none⟩ (.slice A1 (joinB (out.drop co)).length c1)).alloc (.cells #[] 31)).heap.size ∧ some b ≠ (Value.slice (some ⟨w1.heap.size, 0, none⟩) 0 0).ownBlock) :=
                Lib.hid (fun b hb => ⟨by have := hb.2; simp; omega, fun e => by have := hb.2; simp [Value.ownBlock] at e; omega⟩)
              have HN2 : Hid (madeStep out x = out.take co ++ [.mk (kindOf x) ByteArray.empty [] [(ALIGN, attrText x)] (joinB (out.drop co))]) := Lib.hid (HSTEP.out _ HA.out)
              have hlt2 : (out.take co).length + 1 ≤ 1000000 := by rw [List.length_take]; omega
              clear hown1 hb1 HBASE
              go_wp2_with (first | (at_builtin; refine wpList_append_nodes rfl (.tmp 94) (.tmp 100) rfl W0.heap.size (From W0.heap.size wr.heap.size) _ _ [] (out.take co) rfl rfl HEM.out HSRC.out HSZ.out (by simp only [List.length_nil]; omega) (belowNext hbr HBW.out).size ?_; intro v2 w2 hown2 hg2 hat2; have HKA := Lib.hid (kids_arm (nb := wr.heap.size + 1) (by omega) HNW.out HW.out HB1.out hbr HO1.out HPA.out HN1.out hown2 hg2 hat2); obtain ⟨q0, q1, q2, q3, q4⟩ := HKA.out.2; have HLT := Lib.hid (made_push (w := W0) (W := w2) (v := v2) (out := out.take co) (n := .mk (kindOf x) ByteArray.empty [] [(ALIGN, attrText x)] (joinB (out.drop co))) (kd := kindOf x) (tx := ⟨#[]⟩) (vm := .slice none 0 0) (va := .slice (some ⟨wr.heap.size + 1 + 1, 0, none⟩) 1 1) (g := w2.heap.size) rfl rfl rfl HKA.out.1.1 HKA.out.1.2.1 strs_nil HKA.out.1.2.2.1 HKA.out.1.2.2.2); clear hown2 hg2 hat2 m0 m1 m2 m3 m4 m5) | (at_builtin; refine wpList_append_nodes rfl (.tmp 102) (.tmp 104) rfl W0.heap.size _ _ _ (out.take co) [_] rfl rfl HLT.out.1 HLT.out.2.1 HLT.out.2.2.1 (by simp only [List.length_cons, List.length_nil]; exact hlt2) HLT.out.2.2.2.1 ?_; intro v' w3 hown' hg hat; have hMR := HLT.out.2.2.2.2 v' w3 hown' hg hat; clear hown' hg hat))
              exact ⟨⟨k + 1, by omega, by omega, by go_num, by rw [HST.out, HN2.out]; exact hMR⟩, by simp [intOf]; omega⟩
            · have o4 : (pickN x.op 8 == 4) = false := beq_eq_false_iff_ne.2 (by omega)
              have o5 : (pickN x.op 8 == 5) = true := beq_iff_eq.2 (by omega)
              clear ho
              go_wp2_with (first | (go_at_call 33; refine (pick_any _ _ _ (by omega) (by omega) (by omega) (by omega)).mono ?_; rintro e w' ⟨rfl, rfl⟩) | (at_builtin; fail))
              refine (refJoin_any _ (out.drop co) (From W0.heap.size wr.heap.size) _ HKD.out (fun b hb => Nat.lt_of_lt_of_le hb.2 HW.out.size) (by have := weighAll_drop out co; omega)).mono ?_
              rintro e w1 ⟨v1, rfl, hown1, hb1⟩
              obtain ⟨A1, c1, rfl, hc1, _⟩ := hown1.form
              have HN1 := Lib.hid (HWB.out.kept hb1)
              obtain ⟨m0, m1, m2, m3, m4, m5⟩ := HN1.out
              have HO1 := Lib.hid hown1
              have HB1 := Lib.hid hb1
              have hz7 : wr.heap.size + 1 < w1.heap.size := cell_lt m0
              have HBW : Hid (Below wr.heap.size wr ((w1.setCell ⟨wr.heap.size + 1, 4, none⟩ (.slice A1 (joinB (out.drop co)).length c1)).alloc (.cells #[] 31))) := Lib.hid (((belowNext HW.out hb1).setCell (by show _ ≤ wr.heap.size + 1; omega) _).alloc (by simp; omega) _)
              have HSRC := Lib.hid (src_take HO.out HBW.out (p := co) (by omega))
              have HEM : Hid (Own ((w1.setCell ⟨wr.heap.size + 1, 4, none⟩ (.slice A1 (joinB (out.drop co)).length c1)).alloc (.cells #[] 31)) W0.heap.size (From W0.heap.size wr.heap.size) (.slice (some ⟨w1.heap.size, 0, none⟩) 0 0) []) := Lib.hid (own_empty (heap_new' _ _ (by simp)) (by omega))
              have HSZ : Hid (∀ b, From W0.heap.size wr.heap.size b → b < ((w1.setCell ⟨wr.heap.size + 1, 4, none⟩ (.slice A1 (joinB (out.drop co)).length c1)).alloc (.cells #[] 31)).heap.size ∧ some b ≠ (Value.slice (some ⟨w1.heap.size, 0, none⟩) 0 0).ownBlock) :=
                Lib.hid (fun b hb => ⟨by have := hb.2; simp; omega, fun e => by have := hb.2; simp [Value.ownBlock] at e; omega⟩)
              have HN2 : Hid (madeStep out x = out.take co ++ [.mk (kindOf x) ByteArray.empty [] [(ALIGN, attrText x)] (joinB (out.drop co))]) := Lib.hid (HSTEP.out _ HA.out)
              have hlt2 : (out.take co).length + 1 ≤ 1000000 := by rw [List.length_take]; omega
              clear hown1 hb1 HBASE
              go_wp2_with (first | (at_builtin; refine wpList_append_nodes rfl (.tmp 94) (.tmp 100) rfl W0.heap.size (From W0.heap.size wr.heap.size) _ _ [] (out.take co) rfl rfl HEM.out HSRC.out HSZ.out (by simp only [List.length_nil]; omega) (belowNext hbr HBW.out).size ?_; intro v2 w2 hown2 hg2 hat2; have HKA := Lib.hid (kids_arm (nb := wr.heap.size + 1) (by omega) HNW.out HW.out HB1.out hbr HO1.out HPA.out HN1.out hown2 hg2 hat2); obtain ⟨q0, q1, q2, q3, q4⟩ := HKA.out.2; have HLT := Lib.hid (made_push (w := W0) (W := w2) (v := v2) (out := out.take co) (n := .mk (kindOf x) ByteArray.empty [] [(ALIGN, attrText x)] (joinB (out.drop co))) (kd := kindOf x) (tx := ⟨#[]⟩) (vm := .slice none 0 0) (va := .slice (some ⟨wr.heap.size + 1 + 1, 0, none⟩) 1 1) (g := w2.heap.size) rfl rfl rfl HKA.out.1.1 HKA.out.1.2.1 strs_nil HKA.out.1.2.2.1 HKA.out.1.2.2.2); clear hown2 hg2 hat2 m0 m1 m2 m3 m4 m5) | (at_builtin; refine wpList_append_nodes rfl (.tmp 102) (.tmp 104) rfl W0.heap.size _ _ _ (out.take co) [_] rfl rfl HLT.out.1 HLT.out.2.1 HLT.out.2.2.1 (by simp only [List.length_cons, List.length_nil]; exact hlt2) HLT.out.2.2.2.1 ?_; intro v' w3 hown' hg hat; have hMR := HLT.out.2.2.2.2 v' w3 hown' hg hat; clear hown' hg hat))
              exact ⟨⟨k + 1, by omega, by omega, by go_num, by rw [HST.out, HN2.out]; exact hMR⟩, by simp [intOf]; omega⟩
            · have o4 : (pickN x.op 8 == 4) = false := beq_eq_false_iff_ne.2 (by omega)
              have o5 : (pickN x.op 8 == 5) = false := beq_eq_false_iff_ne.2 (by omega)
              have o6 : (pickN x.op 8 == 6) = true := beq_iff_eq.2 (by omega)
              clear ho
              go_wp2_with (first | (go_at_call 33; refine (pick_any _ _ _ (by omega) (by omega) (by omega) (by omega)).mono ?_; rintro e w' ⟨rfl, rfl⟩) | (at_builtin; fail))
              refine (refJoin_any _ (out.drop co) (From W0.heap.size wr.heap.size) _ HKD.out (fun b hb => Nat.lt_of_lt_of_le hb.2 HW.out.size) (by have := weighAll_drop out co; omega)).mono ?_
              rintro e w1 ⟨v1, rfl, hown1, hb1⟩
              obtain ⟨A1, c1, rfl, hc1, _⟩ := hown1.form
              have HN1 := Lib.hid (HWB.out.kept hb1)
              obtain ⟨m0, m1, m2, m3, m4, m5⟩ := HN1.out
              have HO1 := Lib.hid hown1
              have HB1 := Lib.hid hb1
              have hz7 : wr.heap.size + 1 < w1.heap.size := cell_lt m0
              have HBW : Hid (Below wr.heap.size wr ((w1.setCell ⟨wr.heap.size + 1, 4, none⟩ (.slice A1 (joinB (out.drop co)).length c1)).alloc (.cells #[] 31))) := Lib.hid (((belowNext HW.out hb1).setCell (by show _ ≤ wr.heap.size + 1; omega) _).alloc (by simp; omega) _)
              have HSRC := Lib.hid (src_take HO.out HBW.out (p := co) (by omega))
              have HEM : Hid (Own ((w1.setCell ⟨wr.heap.size + 1, 4, none⟩ (.slice A1 (joinB (out.drop co)).length c1)).alloc (.cells #[] 31)) W0.heap.size (From W0.heap.size wr.heap.size) (.slice (some ⟨w1.heap.size, 0, none⟩) 0 0) []) := Lib.hid (own_empty (heap_new' _ _ (by simp)) (by omega))
              have HSZ : Hid (∀ b, From W0.heap.size wr.heap.size b → b < ((w1.setCell ⟨wr.heap.size + 1, 4, none⟩ (.slice A1 (joinB (out.drop co)).length c1)).alloc (.cells #[] 31)).heap.size ∧ some b ≠ (Value.slice (some ⟨w1.heap.size, 0, none⟩) 0 0).ownBlock) :=
                Lib.hid (fun b hb => ⟨by have := hb.2; simp; omega, fun e => by have := hb.2; simp [Value.ownBlock] at e; omega⟩)
              have HN2 : Hid (madeStep out x = out.take co ++ [.mk (kindOf x) ByteArray.empty [] [(ALIGN, attrText x)] (joinB (out.drop co))]) := Lib.hid (HSTEP.out _ HA.out)
              have hlt2 : (out.take co).length + 1 ≤ 1000000 := by rw [List.length_take]; omega
              clear hown1 hb1 HBASE
              go_wp2_with (first | (at_builtin; refine wpList_append_nodes rfl (.tmp 94) (.tmp 100) rfl W0.heap.size (From W0.heap.size wr.heap.size) _ _ [] (out.take co) rfl rfl HEM.out HSRC.out HSZ.out (by simp only [List.length_nil]; omega) (belowNext hbr HBW.out).size ?_; intro v2 w2 hown2 hg2 hat2; have HKA := Lib.hid (kids_arm (nb := wr.heap.size + 1) (by omega) HNW.out HW.out HB1.out hbr HO1.out HPA.out HN1.out hown2 hg2 hat2); obtain ⟨q0, q1, q2, q3, q4⟩ := HKA.out.2; have HLT := Lib.hid (made_push (w := W0) (W := w2) (v := v2) (out := out.take co) (n := .mk (kindOf x) ByteArray.empty [] [(ALIGN, attrText x)] (joinB (out.drop co))) (kd := kindOf x) (tx := ⟨#[]⟩) (vm := .slice none 0 0) (va := .slice (some ⟨wr.heap.size + 1 + 1, 0, none⟩) 1 1) (g := w2.heap.size) rfl rfl rfl HKA.out.1.1 HKA.out.1.2.1 strs_nil HKA.out.1.2.2.1 HKA.out.1.2.2.2); clear hown2 hg2 hat2 m0 m1 m2 m3 m4 m5) | (at_builtin; refine wpList_append_nodes rfl (.tmp 102) (.tmp 104) rfl W0.heap.size _ _ _ (out.take co) [_] rfl rfl HLT.out.1 HLT.out.2.1 HLT.out.2.2.1 (by simp only [List.length_cons, List.length_nil]; exact hlt2) HLT.out.2.2.2.1 ?_; intro v' w3 hown' hg hat; have hMR := HLT.out.2.2.2.2 v' w3 hown' hg hat; clear hown' hg hat))
              exact ⟨⟨k + 1, by omega, by omega, by go_num, by rw [HST.out, HN2.out]; exact hMR⟩, by simp [intOf]; omega⟩
          · have HKD : Hid (Kids (((wr.alloc (.cells #[.int .i64 x.op, .int .i64 x.a, .int .i64 x.b] 70)).alloc (.cells #[.string (kindOf x), .string ⟨#[]⟩, .slice none 0 0, .slice (some ⟨wr.heap.size + 1 + 1, 0, none⟩) 1 1, .slice none 0 0] 31)).alloc (.cells #[.string ⟨#[97, 108, 105, 103, 110]⟩, .string (attrText x)] 67)) (From W0.heap.size wr.heap.size) (.slice (Option.map (fun a => a.add (p * 5)) Ao) (out.length - p) (co - p)) (out.drop p)) :=
              Lib.hid (((HO.out.kids (S' := From W0.heap.size wr.heap.size) (fun _ hb => ⟨hb.1, hb.2.1⟩) (fun g hgg => HO.out.base_le g hgg)).drop p hpl).stay HW.out (fun _ hb => hb.2))
            have hM := HM.out
            rcases (by have := HOP.out; omega : pickN x.op 8 = 4 ∨ pickN x.op 8 = 5 ∨ pickN x.op 8 = 6) with ho | ho | ho
            · have o4 : (pickN x.op 8 == 4) = true := beq_iff_eq.2 (by omega)
              clear ho
              go_wp2_with (first | (go_at_call 33; refine (pick_any _ _ _ (by omega) (by omega) (by omega) (by omega)).mono ?_; rintro e w' ⟨rfl, rfl⟩) | (at_builtin; fail))
              refine (refJoin_any _ (out.drop p) (From W0.heap.size wr.heap.size) _ HKD.out (fun b hb => Nat.lt_of_lt_of_le hb.2 HW.out.size) (by have := weighAll_drop out p; omega)).mono ?_
              rintro e w1 ⟨v1, rfl, hown1, hb1⟩
              obtain ⟨A1, c1, rfl, hc1, _⟩ := hown1.form
              have HN1 := Lib.hid (HWB.out.kept hb1)
              obtain ⟨m0, m1, m2, m3, m4, m5⟩ := HN1.out
              have HO1 := Lib.hid hown1
              have HB1 := Lib.hid hb1
              have hz7 : wr.heap.size + 1 < w1.heap.size := cell_lt m0
              have HBW : Hid (Below wr.heap.size wr ((w1.setCell ⟨wr.heap.size + 1, 4, none⟩ (.slice A1 (joinB (out.drop p)).length c1)).alloc (.cells #[] 31))) := Lib.hid (((belowNext HW.out hb1).setCell (by show _ ≤ wr.heap.size + 1; omega) _).alloc (by simp; omega) _)
              have HSRC := Lib.hid (src_take HO.out HBW.out (p := p) (by omega))
              have HEM : Hid (Own ((w1.setCell ⟨wr.heap.size + 1, 4, none⟩ (.slice A1 (joinB (out.drop p)).length c1)).alloc (.cells #[] 31)) W0.heap.size (From W0.heap.size wr.heap.size) (.slice (some ⟨w1.heap.size, 0, none⟩) 0 0) []) := Lib.hid (own_empty (heap_new' _ _ (by simp)) (by omega))
              have HSZ : Hid (∀ b, From W0.heap.size wr.heap.size b → b < ((w1.setCell ⟨wr.heap.size + 1, 4, none⟩ (.slice A1 (joinB (out.drop p)).length c1)).alloc (.cells #[] 31)).heap.size ∧ some b ≠ (Value.slice (some ⟨w1.heap.size, 0, none⟩) 0 0).ownBlock) :=
                Lib.hid (fun b hb => ⟨by have := hb.2; simp; omega, fun e => by have := hb.2; simp [Value.ownBlock] at e; omega⟩)
              have HN2 : Hid (madeStep out x = out.take p ++ [.mk (kindOf x) ByteArray.empty [] [(ALIGN, attrText x)] (joinB (out.drop p))]) := Lib.hid (HSTEP.out _ HA.out)
              have hlt2 : (out.take p).length + 1 ≤ 1000000 := by rw [List.length_take]; omega
              clear hown1 hb1 HBASE
              go_wp2_with (first | (at_builtin; refine wpList_append_nodes rfl (.tmp 94) (.tmp 100) rfl W0.heap.size (From W0.heap.size wr.heap.size) _ _ [] (out.take p) rfl rfl HEM.out HSRC.out HSZ.out (by simp only [List.length_nil]; omega) (belowNext hbr HBW.out).size ?_; intro v2 w2 hown2 hg2 hat2; have HKA := Lib.hid (kids_arm (nb := wr.heap.size + 1) (by omega) HNW.out HW.out HB1.out hbr HO1.out HPA.out HN1.out hown2 hg2 hat2); obtain ⟨q0, q1, q2, q3, q4⟩ := HKA.out.2; have HLT := Lib.hid (made_push (w := W0) (W := w2) (v := v2) (out := out.take p) (n := .mk (kindOf x) ByteArray.empty [] [(ALIGN, attrText x)] (joinB (out.drop p))) (kd := kindOf x) (tx := ⟨#[]⟩) (vm := .slice none 0 0) (va := .slice (some ⟨wr.heap.size + 1 + 1, 0, none⟩) 1 1) (g := w2.heap.size) rfl rfl rfl HKA.out.1.1 HKA.out.1.2.1 strs_nil HKA.out.1.2.2.1 HKA.out.1.2.2.2); clear hown2 hg2 hat2 m0 m1 m2 m3 m4 m5) | (at_builtin; refine wpList_append_nodes rfl (.tmp 102) (.tmp 104) rfl W0.heap.size _ _ _ (out.take p) [_] rfl rfl HLT.out.1 HLT.out.2.1 HLT.out.2.2.1 (by simp only [List.length_cons, List.length_nil]; exact hlt2) HLT.out.2.2.2.1 ?_; intro v' w3 hown' hg hat; have hMR := HLT.out.2.2.2.2 v' w3 hown' hg hat; clear hown' hg hat))
              exact ⟨⟨k + 1, by omega, by omega, by go_num, by rw [HST.out, HN2.out]; exact hMR⟩, by simp [intOf]; omega⟩
            · have o4 : (pickN x.op 8 == 4) = false := beq_eq_false_iff_ne.2 (by omega)
              have o5 : (pickN x.op 8 == 5) = true := beq_iff_eq.2 (by omega)
              clear ho
              go_wp2_with (first | (go_at_call 33; refine (pick_any _ _ _ (by omega) (by omega) (by omega) (by omega)).mono ?_; rintro e w' ⟨rfl, rfl⟩) | (at_builtin; fail))
              refine (refJoin_any _ (out.drop p) (From W0.heap.size wr.heap.size) _ HKD.out (fun b hb => Nat.lt_of_lt_of_le hb.2 HW.out.size) (by have := weighAll_drop out p; omega)).mono ?_
              rintro e w1 ⟨v1, rfl, hown1, hb1⟩
              obtain ⟨A1, c1, rfl, hc1, _⟩ := hown1.form
              have HN1 := Lib.hid (HWB.out.kept hb1)
              obtain ⟨m0, m1, m2, m3, m4, m5⟩ := HN1.out
              have HO1 := Lib.hid hown1
              have HB1 := Lib.hid hb1
              have hz7 : wr.heap.size + 1 < w1.heap.size := cell_lt m0
              have HBW : Hid (Below wr.heap.size wr ((w1.setCell ⟨wr.heap.size + 1, 4, none⟩ (.slice A1 (joinB (out.drop p)).length c1)).alloc (.cells #[] 31))) := Lib.hid (((belowNext HW.out hb1).setCell (by show _ ≤ wr.heap.size + 1; omega) _).alloc (by simp; omega) _)
              have HSRC := Lib.hid (src_take HO.out HBW.out (p := p) (by omega))
              have HEM : Hid (Own ((w1.setCell ⟨wr.heap.size + 1, 4, none⟩ (.slice A1 (joinB (out.drop p)).length c1)).alloc (.cells #[] 31)) W0.heap.size (From W0.heap.size wr.heap.size) (.slice (some ⟨w1.heap.size, 0, none⟩) 0 0) []) := Lib.hid (own_empty (heap_new' _ _ (by simp)) (by omega))
              have HSZ : Hid (∀ b, From W0.heap.size wr.heap.size b → b < ((w1.setCell ⟨wr.heap.size + 1, 4, none⟩ (.slice A1 (joinB (out.drop p)).length c1)).alloc (.cells #[] 31)).heap.size ∧ some b ≠ (Value.slice (some ⟨w1.heap.size, 0, none⟩) 0 0).ownBlock) :=
                Lib.hid (fun b hb => ⟨by have := hb.2; simp; omega, fun e => by have := hb.2; simp [Value.ownBlock] at e; omega⟩)
              have HN2 : Hid (madeStep out x = out.take p ++ [.mk (kindOf x) ByteArray.empty [] [(ALIGN, attrText x)] (joinB (out.drop p))]) := Lib.hid (HSTEP.out _ HA.out)
              have hlt2 : (out.take p).length + 1 ≤ 1000000 := by rw [List.length_take]; omega
              clear hown1 hb1 HBASE
              go_wp2_with (first | (at_builtin; refine wpList_append_nodes rfl (.tmp 94) (.tmp 100) rfl W0.heap.size (From W0.heap.size wr.heap.size) _ _ [] (out.take p) rfl rfl HEM.out HSRC.out HSZ.out (by simp only [List.length_nil]; omega) (belowNext hbr HBW.out).size ?_; intro v2 w2 hown2 hg2 hat2; have HKA := Lib.hid (kids_arm (nb := wr.heap.size + 1) (by omega) HNW.out HW.out HB1.out hbr HO1.out HPA.out HN1.out hown2 hg2 hat2); obtain ⟨q0, q1, q2, q3, q4⟩ := HKA.out.2; have HLT := Lib.hid (made_push (w := W0) (W := w2) (v := v2) (out := out.take p) (n := .mk (kindOf x) ByteArray.empty [] [(ALIGN, attrText x)] (joinB (out.drop p))) (kd := kindOf x) (tx := ⟨#[]⟩) (vm := .slice none 0 0) (va := .slice (some ⟨wr.heap.size + 1 + 1, 0, none⟩) 1 1) (g := w2.heap.size) rfl rfl rfl HKA.out.1.1 HKA.out.1.2.1 strs_nil HKA.out.1.2.2.1 HKA.out.1.2.2.2); clear hown2 hg2 hat2 m0 m1 m2 m3 m4 m5) | (at_builtin; refine wpList_append_nodes rfl (.tmp 102) (.tmp 104) rfl W0.heap.size _ _ _ (out.take p) [_] rfl rfl HLT.out.1 HLT.out.2.1 HLT.out.2.2.1 (by simp only [List.length_cons, List.length_nil]; exact hlt2) HLT.out.2.2.2.1 ?_; intro v' w3 hown' hg hat; have hMR := HLT.out.2.2.2.2 v' w3 hown' hg hat; clear hown' hg hat))
              exact ⟨⟨k + 1, by omega, by omega, by go_num, by rw [HST.out, HN2.out]; exact hMR⟩, by simp [intOf]; omega⟩
            · have o4 : (pickN x.op 8 == 4) = false := beq_eq_false_iff_ne.2 (by omega)
              have o5 : (pickN x.op 8 == 5) = false := beq_eq_false_iff_ne.2 (by omega)
              have o6 : (pickN x.op 8 == 6) = true := beq_iff_eq.2 (by omega)
              clear ho
              go_wp2_with (first | (go_at_call 33; refine (pick_any _ _ _ (by omega) (by omega) (by omega) (by omega)).mono ?_; rintro e w' ⟨rfl, rfl⟩) | (at_builtin; fail))
              refine (refJoin_any _ (out.drop p) (From W0.heap.size wr.heap.size) _ HKD.out (fun b hb => Nat.lt_of_lt_of_le hb.2 HW.out.size) (by have := weighAll_drop out p; omega)).mono ?_
              rintro e w1 ⟨v1, rfl, hown1, hb1⟩
              obtain ⟨A1, c1, rfl, hc1, _⟩ := hown1.form
              have HN1 := Lib.hid (HWB.out.kept hb1)
              obtain ⟨m0, m1, m2, m3, m4, m5⟩ := HN1.out
              have HO1 := Lib.hid hown1
              have HB1 := Lib.hid hb1
              have hz7 : wr.heap.size + 1 < w1.heap.size := cell_lt m0
              have HBW : Hid (Below wr.heap.size wr ((w1.setCell ⟨wr.heap.size + 1, 4, none⟩ (.slice A1 (joinB (out.drop p)).length c1)).alloc (.cells #[] 31))) := Lib.hid (((belowNext HW.out hb1).setCell (by show _ ≤ wr.heap.size + 1; omega) _).alloc (by simp; omega) _)
              have HSRC := Lib.hid (src_take HO.out HBW.out (p := p) (by omega))
              have HEM : Hid (Own ((w1.setCell ⟨wr.heap.size + 1, 4, none⟩ (.slice A1 (joinB (out.drop p)).length c1)).alloc (.cells #[] 31)) W0.heap.size (From W0.heap.size wr.heap.size) (.slice (some ⟨w1.heap.size, 0, none⟩) 0 0) []) := Lib.hid (own_empty (heap_new' _ _ (by simp)) (by omega))
              have HSZ : Hid (∀ b, From W0.heap.size wr.heap.size b → b < ((w1.setCell ⟨wr.heap.size + 1, 4, none⟩ (.slice A1 (joinB (out.drop p)).length c1)).alloc (.cells #[] 31)).heap.size ∧ some b ≠ (Value.slice (some ⟨w1.heap.size, 0, none⟩) 0 0).ownBlock) :=
                Lib.hid (fun b hb => ⟨by have := hb.2; simp; omega, fun e => by have := hb.2; simp [Value.ownBlock] at e; omega⟩)
              have HN2 : Hid (madeStep out x = out.take p ++ [.mk (kindOf x) ByteArray.empty [] [(ALIGN, attrText x)] (joinB (out.drop p))]) := Lib.hid (HSTEP.out _ HA.out)
              have hlt2 : (out.take p).length + 1 ≤ 1000000 := by rw [List.length_take]; omega
              clear hown1 hb1 HBASE
              go_wp2_with (first | (at_builtin; refine wpList_append_nodes rfl (.tmp 94) (.tmp 100) rfl W0.heap.size (From W0.heap.size wr.heap.size) _ _ [] (out.take p) rfl rfl HEM.out HSRC.out HSZ.out (by simp only [List.length_nil]; omega) (belowNext hbr HBW.out).size ?_; intro v2 w2 hown2 hg2 hat2; have HKA := Lib.hid (kids_arm (nb := wr.heap.size + 1) (by omega) HNW.out HW.out HB1.out hbr HO1.out HPA.out HN1.out hown2 hg2 hat2); obtain ⟨q0, q1, q2, q3, q4⟩ := HKA.out.2; have HLT := Lib.hid (made_push (w := W0) (W := w2) (v := v2) (out := out.take p) (n := .mk (kindOf x) ByteArray.empty [] [(ALIGN, attrText x)] (joinB (out.drop p))) (kd := kindOf x) (tx := ⟨#[]⟩) (vm := .slice none 0 0) (va := .slice (some ⟨wr.heap.size + 1 + 1, 0, none⟩) 1 1) (g := w2.heap.size) rfl rfl rfl HKA.out.1.1 HKA.out.1.2.1 strs_nil HKA.out.1.2.2.1 HKA.out.1.2.2.2); clear hown2 hg2 hat2 m0 m1 m2 m3 m4 m5) | (at_builtin; refine wpList_append_nodes rfl (.tmp 102) (.tmp 104) rfl W0.heap.size _ _ _ (out.take p) [_] rfl rfl HLT.out.1 HLT.out.2.1 HLT.out.2.2.1 (by simp only [List.length_cons, List.length_nil]; exact hlt2) HLT.out.2.2.2.1 ?_; intro v' w3 hown' hg hat; have hMR := HLT.out.2.2.2.2 v' w3 hown' hg hat; clear hown' hg hat))
              exact ⟨⟨k + 1, by omega, by omega, by go_num, by rw [HST.out, HN2.out]; exact hMR⟩, by simp [intOf]; omega⟩
        · have b1 : (pickN x.b 3 == 1) = false := beq_eq_false_iff_ne.2 hb1
          have HA : Hid (attrsOf x = []) := Lib.hid (attrsOf_none hb1)
          clear hb1
          have HW : Hid (Below wr.heap.size wr ((wr.alloc (.cells #[.int .i64 x.op, .int .i64 x.a, .int .i64 x.b] 70)).alloc (.cells #[.string (kindOf x), .string ⟨#[]⟩, .slice none 0 0, .slice none 0 0, .slice none 0 0] 31))) := Lib.hid (((Below.refl _ _).alloc (Nat.le_refl _) _).alloc (by simp) _)
          have HWB : Hid (NodeBox ((wr.alloc (.cells #[.int .i64 x.op, .int .i64 x.a, .int .i64 x.b] 70)).alloc (.cells #[.string (kindOf x), .string ⟨#[]⟩, .slice none 0 0, .slice none 0 0, .slice none 0 0] 31)) (wr.heap.size + 1) (.string (kindOf x)) (.string ⟨#[]⟩) (.slice none 0 0) (.slice none 0 0) (.slice none 0 0)) := Lib.hid (nb_new (by simp))
          have HPA : Hid (Pairs ((wr.alloc (.cells #[.int .i64 x.op, .int .i64 x.a, .int .i64 x.b] 70)).alloc (.cells #[.string (kindOf x), .string ⟨#[]⟩, .slice none 0 0, .slice none 0 0, .slice none 0 0] 31)) (ButF W0.heap.size ((wr.alloc (.cells #[.int .i64 x.op, .int .i64 x.a, .int .i64 x.b] 70)).alloc (.cells #[.string (kindOf x), .string ⟨#[]⟩, .slice none 0 0, .slice none 0 0, .slice none 0 0] 31)).heap.size (wr.heap.size + 1)) (.slice none 0 0) []) := Lib.hid pairs_nil
          have HNW : Hid (wr.heap.size + 1 < ((wr.alloc (.cells #[.int .i64 x.op, .int .i64 x.a, .int .i64 x.b] 70)).alloc (.cells #[.string (kindOf x), .string ⟨#[]⟩, .slice none 0 0, .slice none 0 0, .slice none 0 0] 31)).heap.size) := Lib.hid (by simp)
          by_cases hcp : co = p
          · subst hcp
            have HKD : Hid (Kids ((wr.alloc (.cells #[.int .i64 x.op, .int .i64 x.a, .int .i64 x.b] 70)).alloc (.cells #[.string (kindOf x), .string ⟨#[]⟩, .slice none 0 0, .slice none 0 0, .slice none 0 0] 31)) (From W0.heap.size wr.heap.size) (.slice Ao 0 0) (out.drop co)) := Lib.hid (kids_end (by omega))
            have hM := HM.out
            rcases (by have := HOP.out; omega : pickN x.op 8 = 4 ∨ pickN x.op 8 = 5 ∨ pickN x.op 8 = 6) with ho | ho | ho
            · have o4 : (pickN x.op 8 == 4) = true := beq_iff_eq.2 (by omega)
              clear ho
              go_wp2_with (first | (go_at_call 33; refine (pick_any _ _ _ (by omega) (by omega) (by omega) (by omega)).mono ?_; rintro e w' ⟨rfl, rfl⟩) | (at_builtin; fail))
              refine (refJoin_any _ (out.drop co) (From W0.heap.size wr.heap.size) _ HKD.out (fun b hb => Nat.lt_of_lt_of_le hb.2 HW.out.size) (by have := weighAll_drop out co; omega)).mono ?_
              rintro e w1 ⟨v1, rfl, hown1, hb1⟩
              obtain ⟨A1, c1, rfl, hc1, _⟩ := hown1.form
              have HN1 := Lib.hid (HWB.out.kept hb1)
              obtain ⟨m0, m1, m2, m3, m4, m5⟩ := HN1.out
              have HO1 := Lib.hid hown1
              have HB1 := Lib.hid hb1
              have hz7 : wr.heap.size + 1 < w1.heap.size := cell_lt m0
              have HBW : Hid (Below wr.heap.size wr ((w1.setCell ⟨wr.heap.size + 1, 4, none⟩ (.slice A1 (joinB (out.drop co)).length c1)).alloc (.cells #[] 31))) := Lib.hid (((belowNext HW.out hb1).setCell (by show _ ≤ wr.heap.size + 1; omega) _).alloc (by simp; omega) _)
              have HSRC := Lib.hid (src_take HO.out HBW.out (p := co) (by omega))
              have HEM : Hid (Own ((w1.setCell ⟨wr.heap.size + 1, 4, none⟩ (.slice A1 (joinB (out.drop co)).length c1)).alloc (.cells #[] 31)) W0.heap.size (From W0.heap.size wr.heap.size) (.slice (some ⟨w1.heap.size, 0, none⟩) 0 0) []) := Lib.hid (own_empty (heap_new' _ _ (by simp)) (by omega))
              have HSZ : Hid (∀ b, From W0.heap.size wr.heap.size b → b < ((w1.setCell ⟨wr.heap.size + 1, 4, none⟩ (.slice A1 (joinB (out.drop co)).length c1)).alloc (.cells #[] 31)).heap.size ∧ some b ≠ (Value.slice (some ⟨w1.heap.size, 0, none⟩) 0 0).ownBlock) :=
                Lib.hid (fun b hb => ⟨by have := hb.2; simp; omega, fun e => by have := hb.2; simp [Value.ownBlock] at e; omega⟩)
              have HN2 : Hid (madeStep out x = out.take co ++ [.mk (kindOf x) ByteArray.empty [] [] (joinB (out.drop co))]) := Lib.hid (HSTEP.out _ HA.out)
              have hlt2 : (out.take co).length + 1 ≤ 1000000 := by rw [List.length_take]; omega
              clear hown1 hb1 HBASE
              go_wp2_with (first | (at_builtin; refine wpList_append_nodes rfl (.tmp 94) (.tmp 100) rfl W0.heap.size (From W0.heap.size wr.heap.size) _ _ [] (out.take co) rfl rfl HEM.out HSRC.out HSZ.out (by simp only [List.length_nil]; omega) (belowNext hbr HBW.out).size ?_; intro v2 w2 hown2 hg2 hat2; have HKA := Lib.hid (kids_arm (nb := wr.heap.size + 1) (by omega) HNW.out HW.out HB1.out hbr HO1.out HPA.out HN1.out hown2 hg2 hat2); obtain ⟨q0, q1, q2, q3, q4⟩ := HKA.out.2; have HLT := Lib.hid (made_push (w := W0) (W := w2) (v := v2) (out := out.take co) (n := .mk (kindOf x) ByteArray.empty [] [] (joinB (out.drop co))) (kd := kindOf x) (tx := ⟨#[]⟩) (vm := .slice none 0 0) (va := .slice none 0 0) (g := w2.heap.size) rfl rfl rfl HKA.out.1.1 HKA.out.1.2.1 strs_nil HKA.out.1.2.2.1 HKA.out.1.2.2.2); clear hown2 hg2 hat2 m0 m1 m2 m3 m4 m5) | (at_builtin; refine wpList_append_nodes rfl (.tmp 102) (.tmp 104) rfl W0.heap.size _ _ _ (out.take co) [_] rfl rfl HLT.out.1 HLT.out.2.1 HLT.out.2.2.1 (by simp only [List.length_cons, List.length_nil]; exact hlt2) HLT.out.2.2.2.1 ?_; intro v' w3 hown' hg hat; have hMR := HLT.out.2.2.2.2 v' w3 hown' hg hat; clear hown' hg hat))
              exact ⟨⟨k + 1, by omega, by omega, by go_num, by rw [HST.out, HN2.out]; exact hMR⟩, by simp [intOf]; omega⟩
            · have o4 : (pickN x.op 8 == 4) = false := beq_eq_false_iff_ne.2 (by omega)
              have o5 : (pickN x.op 8 == 5) = true := beq_iff_eq.2 (by omega)
              clear ho
              go_wp2_with (first | (go_at_call 33; refine (pick_any _ _ _ (by omega) (by omega) (by omega) (by omega)).mono ?_; rintro e w' ⟨rfl, rfl⟩) | (at_builtin; fail))
              refine (refJoin_any _ (out.drop co) (From W0.heap.size wr.heap.size) _ HKD.out (fun b hb => Nat.lt_of_lt_of_le hb.2 HW.out.size) (by have := weighAll_drop out co; omega)).mono ?_
              rintro e w1 ⟨v1, rfl, hown1, hb1⟩
              obtain ⟨A1, c1, rfl, hc1, _⟩ := hown1.form
              have HN1 := Lib.hid (HWB.out.kept hb1)
              obtain ⟨m0, m1, m2, m3, m4, m5⟩ := HN1.out
              have HO1 := Lib.hid hown1
              have HB1 := Lib.hid hb1
              have hz7 : wr.heap.size + 1 < w1.heap.size := cell_lt m0
              have HBW : Hid (Below wr.heap.size wr ((w1.setCell ⟨wr.heap.size + 1, 4, none⟩ (.slice A1 (joinB (out.drop co)).length c1)).alloc (.cells #[] 31))) := Lib.hid (((belowNext HW.out hb1).setCell (by show _ ≤ wr.heap.size + 1; omega) _).alloc (by simp; omega) _)
              have HSRC := Lib.hid (src_take HO.out HBW.out (p := co) (by omega))
              have HEM : Hid (Own ((w1.setCell ⟨wr.heap.size + 1, 4, none⟩ (.slice A1 (joinB (out.drop co)).length c1)).alloc (.cells #[] 31)) W0.heap.size (From W0.heap.size wr.heap.size) (.slice (some ⟨w1.heap.size, 0, none⟩) 0 0) []) := Lib.hid (own_empty (heap_new' _ _ (by simp)) (by omega))
              have HSZ : Hid (∀ b, From W0.heap.size wr.heap.size b → b < ((w1.setCell ⟨wr.heap.size + 1, 4, none⟩ (.slice A1 (joinB (out.drop co)).length c1)).alloc (.cells #[] 31)).heap.size ∧ some b ≠ (Value.slice (some ⟨w1.heap.size, 0, none⟩) 0 0).ownBlock) :=
                Lib.hid (fun b hb => ⟨by have := hb.2; simp; omega, fun e => by have := hb.2; simp [Value.ownBlock] at e; omega⟩)
              have HN2 : Hid (madeStep out x = out.take co ++ [.mk (kindOf x) ByteArray.empty [] [] (joinB (out.drop co))]) := Lib.hid (HSTEP.out _ HA.out)
              have hlt2 : (out.take co).length + 1 ≤ 1000000 := by rw [List.length_take]; omega
              clear hown1 hb1 HBASE
              go_wp2_with (first | (at_builtin; refine wpList_append_nodes rfl (.tmp 94) (.tmp 100) rfl W0.heap.size (From W0.heap.size wr.heap.size) _ _ [] (out.take co) rfl rfl HEM.out HSRC.out HSZ.out (by simp only [List.length_nil]; omega) (belowNext hbr HBW.out).size ?_; intro v2 w2 hown2 hg2 hat2; have HKA := Lib.hid (kids_arm (nb := wr.heap.size + 1) (by omega) HNW.out HW.out HB1.out hbr HO1.out HPA.out HN1.out hown2 hg2 hat2); obtain ⟨q0, q1, q2, q3, q4⟩ := HKA.out.2; have HLT := Lib.hid (made_push (w := W0) (W := w2) (v := v2) (out := out.take co) (n := .mk (kindOf x) ByteArray.empty [] [] (joinB (out.drop co))) (kd := kindOf x) (tx := ⟨#[]⟩) (vm := .slice none 0 0) (va := .slice none 0 0) (g := w2.heap.size) rfl rfl rfl HKA.out.1.1 HKA.out.1.2.1 strs_nil HKA.out.1.2.2.1 HKA.out.1.2.2.2); clear hown2 hg2 hat2 m0 m1 m2 m3 m4 m5) | (at_builtin; refine wpList_append_nodes rfl (.tmp 102) (.tmp 104) rfl W0.heap.size _ _ _ (out.take co) [_] rfl rfl HLT.out.1 HLT.out.2.1 HLT.out.2.2.1 (by simp only [List.length_cons, List.length_nil]; exact hlt2) HLT.out.2.2.2.1 ?_; intro v' w3 hown' hg hat; have hMR := HLT.out.2.2.2.2 v' w3 hown' hg hat; clear hown' hg hat))
              exact ⟨⟨k + 1, by omega, by omega, by go_num, by rw [HST.out, HN2.out]; exact hMR⟩, by simp [intOf]; omega⟩
            · have o4 : (pickN x.op 8 == 4) = false := beq_eq_false_iff_ne.2 (by omega)
              have o5 : (pickN x.op 8 == 5) = false := beq_eq_false_iff_ne.2 (by omega)
              have o6 : (pickN x.op 8 == 6) = true := beq_iff_eq.2 (by omega)
              clear ho
              go_wp2_with (first | (go_at_call 33; refine (pick_any _ _ _ (by omega) (by omega) (by omega) (by omega)).mono ?_; rintro e w' ⟨rfl, rfl⟩) | (at_builtin; fail))
              refine (refJoin_any _ (out.drop co) (From W0.heap.size wr.heap.size) _ HKD.out (fun b hb => Nat.lt_of_lt_of_le hb.2 HW.out.size) (by have := weighAll_drop out co; omega)).mono ?_
              rintro e w1 ⟨v1, rfl, hown1, hb1⟩
              obtain ⟨A1, c1, rfl, hc1, _⟩ := hown1.form
              have HN1 := Lib.hid (HWB.out.kept hb1)
              obtain ⟨m0, m1, m2, m3, m4, m5⟩ := HN1.out
              have HO1 := Lib.hid hown1
              have HB1 := Lib.hid hb1
              have hz7 : wr.heap.size + 1 < w1.heap.size := cell_lt m0
              have HBW : Hid (Below wr.heap.size wr ((w1.setCell ⟨wr.heap.size + 1, 4, none⟩ (.slice A1 (joinB (out.drop co)).length c1)).alloc (.cells #[] 31))) := Lib.hid (((belowNext HW.out hb1).setCell (by show _ ≤ wr.heap.size + 1; omega) _).alloc (by simp; omega) _)
              have HSRC := Lib.hid (src_take HO.out HBW.out (p := co) (by omega))
              have HEM : Hid (Own ((w1.setCell ⟨wr.heap.size + 1, 4, none⟩ (.slice A1 (joinB (out.drop co)).length c1)).alloc (.cells #[] 31)) W0.heap.size (From W0.heap.size wr.heap.size) (.slice (some ⟨w1.heap.size, 0, none⟩) 0 0) []) := Lib.hid (own_empty (heap_new' _ _ (by simp)) (by omega))
              have HSZ : Hid (∀ b, From W0.heap.size wr.heap.size b → b < ((w1.setCell ⟨wr.heap.size + 1, 4, none⟩ (.slice A1 (joinB (out.drop co)).length c1)).alloc (.cells #[] 31)).heap.size ∧ some b ≠ (Value.slice (some ⟨w1.heap.size, 0, none⟩) 0 0).ownBlock) :=
                Lib.hid (fun b hb => ⟨by have := hb.2; simp; omega, fun e => by have := hb.2; simp [Value.ownBlock] at e; omega⟩)
              have HN2 : Hid (madeStep out x = out.take co ++ [.mk (kindOf x) ByteArray.empty [] [] (joinB (out.drop co))]) := Lib.hid (HSTEP.out _ HA.out)
              have hlt2 : (out.take co).length + 1 ≤ 1000000 := by rw [List.length_take]; omega
              clear hown1 hb1 HBASE
              go_wp2_with (first | (at_builtin; refine wpList_append_nodes rfl (.tmp 94) (.tmp 100) rfl W0.heap.size (From W0.heap.size wr.heap.size) _ _ [] (out.take co) rfl rfl HEM.out HSRC.out HSZ.out (by simp only [List.length_nil]; omega) (belowNext hbr HBW.out).size ?_; intro v2 w2 hown2 hg2 hat2; have HKA := Lib.hid (kids_arm (nb := wr.heap.size + 1) (by omega) HNW.out HW.out HB1.out hbr HO1.out HPA.out HN1.out hown2 hg2 hat2); obtain ⟨q0, q1, q2, q3, q4⟩ := HKA.out.2; have HLT := Lib.hid (made_push (w := W0) (W := w2) (v := v2) (out := out.take co) (n := .mk (kindOf x) ByteArray.empty [] [] (joinB (out.drop co))) (kd := kindOf x) (tx := ⟨#[]⟩) (vm := .slice none 0 0) (va := .slice none 0 0) (g := w2.heap.size) rfl rfl rfl HKA.out.1.1 HKA.out.1.2.1 strs_nil HKA.out.1.2.2.1 HKA.out.1.2.2.2); clear hown2 hg2 hat2 m0 m1 m2 m3 m4 m5) | (at_builtin; refine wpList_append_nodes rfl (.tmp 102) (.tmp 104) rfl W0.heap.size _ _ _ (out.take co) [_] rfl rfl HLT.out.1 HLT.out.2.1 HLT.out.2.2.1 (by simp only [List.length_cons, List.length_nil]; exact hlt2) HLT.out.2.2.2.1 ?_; intro v' w3 hown' hg hat; have hMR := HLT.out.2.2.2.2 v' w3 hown' hg hat; clear hown' hg hat))
              exact ⟨⟨k + 1, by omega, by omega, by go_num, by rw [HST.out, HN2.out]; exact hMR⟩, by simp [intOf]; omega⟩
          · have HKD : Hid (Kids ((wr.alloc (.cells #[.int .i64 x.op, .int .i64 x.a, .int .i64 x.b] 70)).alloc (.cells #[.string (kindOf x), .string ⟨#[]⟩, .slice none 0 0, .slice none 0 0, .slice none 0 0] 31)) (From W0.heap.size wr.heap.size) (.slice (Option.map (fun a => a.add (p * 5)) Ao) (out.length - p) (co - p)) (out.drop p)) :=
              Lib.hid (((HO.out.kids (S' := From W0.heap.size wr.heap.size) (fun _ hb => ⟨hb.1, hb.2.1⟩) (fun g hgg => HO.out.base_le g hgg)).drop p hpl).stay HW.out (fun _ hb => hb.2))
            have hM := HM.out
            rcases (by have := HOP.out; omega : pickN x.op 8 = 4 ∨ pickN x.op 8 = 5 ∨ pickN x.op 8 = 6) with ho | ho | ho
            · have o4 : (pickN x.op 8 == 4) = true := beq_iff_eq.2 (by omega)
              clear ho
              go_wp2_with (first | (go_at_call 33; refine (pick_any _ _ _ (by omega) (by omega) (by omega) (by omega)).mono ?_; rintro e w' ⟨rfl, rfl⟩) | (at_builtin; fail))
              refine (refJoin_any _ (out.drop p) (From W0.heap.size wr.heap.size) _ HKD.out (fun b hb => Nat.lt_of_lt_of_le hb.2 HW.out.size) (by have := weighAll_drop out p; omega)).mono ?_
              rintro e w1 ⟨v1, rfl, hown1, hb1⟩
              obtain ⟨A1, c1, rfl, hc1, _⟩ := hown1.form
              have HN1 := Lib.hid (HWB.out.kept hb1)
              obtain ⟨m0, m1, m2, m3, m4, m5⟩ := HN1.out
              have HO1 := Lib.hid hown1
              have HB1 := Lib.hid hb1
              have hz7 : wr.heap.size + 1 < w1.heap.size := cell_lt m0
              have HBW : Hid (Below wr.heap.size wr ((w1.setCell ⟨wr.heap.size + 1, 4, none⟩ (.slice A1 (joinB (out.drop p)).length c1)).alloc (.cells #[] 31))) := Lib.hid (((belowNext HW.out hb1).setCell (by show _ ≤ wr.heap.size + 1; omega) _).alloc (by simp; omega) _)
              have HSRC := Lib.hid (src_take HO.out HBW.out (p := p) (by omega))
              have HEM : Hid (Own ((w1.setCell ⟨wr.heap.size + 1, 4, none⟩ (.slice A1 (joinB (out.drop p)).length c1)).alloc (.cells #[] 31)) W0.heap.size (From W0.heap.size wr.heap.size) (.slice (some ⟨w1.heap.size, 0, none⟩) 0 0) []) := Lib.hid (own_empty (heap_new' _ _ (by simp)) (by omega))
              have HSZ : Hid (∀ b, From W0.heap.size wr.heap.size b → b < ((w1.setCell ⟨wr.heap.size + 1, 4, none⟩ (.slice A1 (joinB (out.drop p)).length c1)).alloc (.cells #[] 31)).heap.size ∧ some b ≠ (Value.slice (some ⟨w1.heap.size, 0, none⟩) 0 0).ownBlock) :=
                Lib.hid (fun b hb => ⟨by have := hb.2; simp; omega, fun e => by have := hb.2; simp [Value.ownBlock] at e; omega⟩)
              have HN2 : Hid (madeStep out x = out.take p ++ [.mk (kindOf x) ByteArray.empty [] [] (joinB (out.drop p))]) := Lib.hid (HSTEP.out _ HA.out)
              have hlt2 : (out.take p).length + 1 ≤ 1000000 := by rw [List.length_take]; omega
              clear hown1 hb1 HBASE
              go_wp2_with (first | (at_builtin; refine wpList_append_nodes rfl (.tmp 94) (.tmp 100) rfl W0.heap.size (From W0.heap.size wr.heap.size) _ _ [] (out.take p) rfl rfl HEM.out HSRC.out HSZ.out (by simp only [List.length_nil]; omega) (belowNext hbr HBW.out).size ?_; intro v2 w2 hown2 hg2 hat2; have HKA := Lib.hid (kids_arm (nb := wr.heap.size + 1) (by omega) HNW.out HW.out HB1.out hbr HO1.out HPA.out HN1.out hown2 hg2 hat2); obtain ⟨q0, q1, q2, q3, q4⟩ := HKA.out.2; have HLT := Lib.hid (made_push (w := W0) (W := w2) (v := v2) (out := out.take p) (n := .mk (kindOf x) ByteArray.empty [] [] (joinB (out.drop p))) (kd := kindOf x) (tx := ⟨#[]⟩) (vm := .slice none 0 0) (va := .slice none 0 0) (g := w2.heap.size) rfl rfl rfl HKA.out.1.1 HKA.out.1.2.1 strs_nil HKA.out.1.2.2.1 HKA.out.1.2.2.2); clear hown2 hg2 hat2 m0 m1 m2 m3 m4 m5) | (at_builtin; refine wpList_append_nodes rfl (.tmp 102) (.tmp 104) rfl W0.heap.size _ _ _ (out.take p) [_] rfl rfl HLT.out.1 HLT.out.2.1 HLT.out.2.2.1 (by simp only [List.length_cons, List.length_nil]; exact hlt2) HLT.out.2.2.2.1 ?_; intro v' w3 hown' hg hat; have hMR := HLT.out.2.2.2.2 v' w3 hown' hg hat; clear hown' hg hat))
              exact ⟨⟨k + 1, by omega, by omega, by go_num, by rw [HST.out, HN2.out]; exact hMR⟩, by simp [intOf]; omega⟩
            · have o4 : (pickN x.op 8 == 4) = false := beq_eq_false_iff_ne.2 (by omega)
              have o5 : (pickN x.op 8 == 5) = true := beq_iff_eq.2 (by omega)
              clear ho
              go_wp2_with (first | (go_at_call 33; refine (pick_any _ _ _ (by omega) (by omega) (by omega) (by omega)).mono ?_; rintro e w' ⟨rfl, rfl⟩) | (at_builtin; fail))
              refine (refJoin_any _ (out.drop p) (From W0.heap.size wr.heap.size) _ HKD.out (fun b hb => Nat.lt_of_lt_of_le hb.2 HW.out.size) (by have := weighAll_drop out p; omega)).mono ?_
              rintro e w1 ⟨v1, rfl, hown1, hb1⟩
              obtain ⟨A1, c1, rfl, hc1, _⟩ := hown1.form
              have HN1 := Lib.hid (HWB.out.kept hb1)
              obtain ⟨m0, m1, m2, m3, m4, m5⟩ := HN1.out
              have HO1 := Lib.hid hown1
              have HB1 := Lib.hid hb1
              have hz7 : wr.heap.size + 1 < w1.heap.size := cell_lt m0
              have HBW : Hid (Below wr.heap.size wr ((w1.setCell ⟨wr.heap.size + 1, 4, none⟩ (.slice A1 (joinB (out.drop p)).length c1)).alloc (.cells #[] 31))) := Lib.hid (((belowNext HW.out hb1).setCell (by show _ ≤ wr.heap.size + 1; omega) _).alloc (by simp; omega) _)
              have HSRC := Lib.hid (src_take HO.out HBW.out (p := p) (by omega))
              have HEM : Hid (Own ((w1.setCell ⟨wr.heap.size + 1, 4, none⟩ (.slice A1 (joinB (out.drop p)).length c1)).alloc (.cells #[] 31)) W0.heap.size (From W0.heap.size wr.heap.size) (.slice (some ⟨w1.heap.size, 0, none⟩) 0 0) []) := Lib.hid (own_empty (heap_new' _ _ (by simp)) (by omega))
              have HSZ : Hid (∀ b, From W0.heap.size wr.heap.size b → b < ((w1.setCell ⟨wr.heap.size + 1, 4, none⟩ (.slice A1 (joinB (out.drop p)).length c1)).alloc (.cells #[] 31)).heap.size ∧ some b ≠ (Value.slice (some ⟨w1.heap.size, 0, none⟩) 0 0).ownBlock) :=
                Lib.hid (fun b hb => ⟨by have := hb.2; simp; omega, fun e => by have := hb.2; simp [Value.ownBlock] at e; omega⟩)
              have HN2 : Hid (madeStep out x = out.take p ++ [.mk (kindOf x) ByteArray.empty [] [] (joinB (out.drop p))]) := Lib.hid (HSTEP.out _ HA.out)
              have hlt2 : (out.take p).length + 1 ≤ 1000000 := by rw [List.length_take]; omega
              clear hown1 hb1 HBASE
              go_wp2_with (first | (at_builtin; refine wpList_append_nodes rfl (.tmp 94) (.tmp 100) rfl W0.heap.size (From W0.heap.size wr.heap.size) _ _ [] (out.take p) rfl rfl HEM.out HSRC.out HSZ.out (by simp only [List.length_nil]; omega) (belowNext hbr HBW.out).size ?_; intro v2 w2 hown2 hg2 hat2; have HKA := Lib.hid (kids_arm (nb := wr.heap.size + 1) (by omega) HNW.out HW.out HB1.out hbr HO1.out HPA.out HN1.out hown2 hg2 hat2); obtain ⟨q0, q1, q2, q3, q4⟩ := HKA.out.2; have HLT := Lib.hid (made_push (w := W0) (W := w2) (v := v2) (out := out.take p) (n := .mk (kindOf x) ByteArray.empty [] [] (joinB (out.drop p))) (kd := kindOf x) (tx := ⟨#[]⟩) (vm := .slice none 0 0) (va := .slice none 0 0) (g := w2.heap.size) rfl rfl rfl HKA.out.1.1 HKA.out.1.2.1 strs_nil HKA.out.1.2.2.1 HKA.out.1.2.2.2); clear hown2 hg2 hat2 m0 m1 m2 m3 m4 m5) | (at_builtin; refine wpList_append_nodes rfl (.tmp 102) (.tmp 104) rfl W0.heap.size _ _ _ (out.take p) [_] rfl rfl HLT.out.1 HLT.out.2.1 HLT.out.2.2.1 (by simp only [List.length_cons, List.length_nil]; exact hlt2) HLT.out.2.2.2.1 ?_; intro v' w3 hown' hg hat; have hMR := HLT.out.2.2.2.2 v' w3 hown' hg hat; clear hown' hg hat))
              exact ⟨⟨k + 1, by omega, by omega, by go_num, by rw [HST.out, HN2.out]; exact hMR⟩, by simp [intOf]; omega⟩
            · have o4 : (pickN x.op 8 == 4) = false := beq_eq_false_iff_ne.2 (by omega)
              have o5 : (pickN x.op 8 == 5) = false := beq_eq_false_iff_ne.2 (by omega)
              have o6 : (pickN x.op 8 == 6) = true := beq_iff_eq.2 (by omega)
              clear ho
              go_wp2_with (first | (go_at_call 33; refine (pick_any _ _ _ (by omega) (by omega) (by omega) (by omega)).mono ?_; rintro e w' ⟨rfl, rfl⟩) | (at_builtin; fail))
              refine (refJoin_any _ (out.drop p) (From W0.heap.size wr.heap.size) _ HKD.out (fun b hb => Nat.lt_of_lt_of_le hb.2 HW.out.size) (by have := weighAll_drop out p; omega)).mono ?_
              rintro e w1 ⟨v1, rfl, hown1, hb1⟩
              obtain ⟨A1, c1, rfl, hc1, _⟩ := hown1.form
              have HN1 := Lib.hid (HWB.out.kept hb1)
              obtain ⟨m0, m1, m2, m3, m4, m5⟩ := HN1.out
              have HO1 := Lib.hid hown1
              have HB1 := Lib.hid hb1
              have hz7 : wr.heap.size + 1 < w1.heap.size := cell_lt m0
              have HBW : Hid (Below wr.heap.size wr ((w1.setCell ⟨wr.heap.size + 1, 4, none⟩ (.slice A1 (joinB (out.drop p)).length c1)).alloc (.cells #[] 31))) := Lib.hid (((belowNext HW.out hb1).setCell (by show _ ≤ wr.heap.size + 1; omega) _).alloc (by simp; omega) _)
              have HSRC := Lib.hid (src_take HO.out HBW.out (p := p) (by omega))
              have HEM : Hid (Own ((w1.setCell ⟨wr.heap.size + 1, 4, none⟩ (.slice A1 (joinB (out.drop p)).length c1)).alloc (.cells #[] 31)) W0.heap.size (From W0.heap.size wr.heap.size) (.slice (some ⟨w1.heap.size, 0, none⟩) 0 0) []) := Lib.hid (own_empty (heap_new' _ _ (by simp)) (by omega))
              have HSZ : Hid (∀ b, From W0.heap.size wr.heap.size b → b < ((w1.setCell ⟨wr.heap.size + 1, 4, none⟩ (.slice A1 (joinB (out.drop p)).length c1)).alloc (.cells #[] 31)).heap.size ∧ some b ≠ (Value.slice (some ⟨w1.heap.size, 0, none⟩) 0 0).ownBlock) :=
                Lib.hid (fun b hb => ⟨by have := hb.2; simp; omega, fun e => by have := hb.2; simp [Value.ownBlock] at e; omega⟩)
              have HN2 : Hid (madeStep out x = out.take p ++ [.mk (kindOf x) ByteArray.empty [] [] (joinB (out.drop p))]) := Lib.hid (HSTEP.out _ HA.out)
              have hlt2 : (out.take p).length + 1 ≤ 1000000 := by rw [List.length_take]; omega
              clear hown1 hb1 HBASE
              go_wp2_with (first | (at_builtin; refine wpList_append_nodes rfl (.tmp 94) (.tmp 100) rfl W0.heap.size (From W0.heap.size wr.heap.size) _ _ [] (out.take p) rfl rfl HEM.out HSRC.out HSZ.out (by simp only [List.length_nil]; omega) (belowNext hbr HBW.out).size ?_; intro v2 w2 hown2 hg2 hat2; have HKA := Lib.hid (kids_arm (nb := wr.heap.size + 1) (by omega) HNW.out HW.out HB1.out hbr HO1.out HPA.out HN1.out hown2 hg2 hat2); obtain ⟨q0, q1, q2, q3, q4⟩ := HKA.out.2; have HLT := Lib.hid (made_push (w := W0) (W := w2) (v := v2) (out := out.take p) (n := .mk (kindOf x) ByteArray.empty [] [] (joinB (out.drop p))) (kd := kindOf x) (tx := ⟨#[]⟩) (vm := .slice none 0 0) (va := .slice none 0 0) (g := w2.heap.size) rfl rfl rfl HKA.out.1.1 HKA.out.1.2.1 strs_nil HKA.out.1.2.2.1 HKA.out.1.2.2.2); clear hown2 hg2 hat2 m0 m1 m2 m3 m4 m5) | (at_builtin; refine wpList_append_nodes rfl (.tmp 102) (.tmp 104) rfl W0.heap.size _ _ _ (out.take p) [_] rfl rfl HLT.out.1 HLT.out.2.1 HLT.out.2.2.1 (by simp only [List.length_cons, List.length_nil]; exact hlt2) HLT.out.2.2.2.1 ?_; intro v' w3 hown' hg hat; have hMR := HLT.out.2.2.2.2 v' w3 hown' hg hat; clear hown' hg hat))
              exact ⟨⟨k + 1, by omega, by omega, by go_num, by rw [HST.out, HN2.out]; exact hMR⟩, by simp [intOf]; omega⟩
    · have HE : Hid (madeB l = joinB (madeTo l k)) := Lib.hid (madeB_end hkl hk19 hlt)
      have hwo := madeTo_weigh l k
      generalize madeTo l k = out at *
      have HBR := Lib.hid (HB0.out.trans (hbr.mono HB0.out.size))
      have HKD : Hid (Kids wr (From W0.heap.size wr.heap.size) _ out) := Lib.hid (hown.kids (fun _ hb => ⟨hb.1, hb.2.1⟩) (fun g hg => hown.base_le g hg))
      clear hown
      by_cases h1 : k < l.length
      · have h19 : decide ((k : Int) < 19) = false := by simp; omega
        go_wp2_with fail
        refine (refJoin_any _ out _ _ HKD.out (fun _ hb => hb.2) (by omega)).mono ?_
        rintro e w1 ⟨v1, rfl, hown1, hb1⟩
        have HO1 := Lib.hid hown1
        clear hown1
        go_wp2
        go_ret
        refine ⟨_, rfl, ?_, belowNext HBR.out hb1⟩
        rw [HE.out]
        exact HO1.out.kids (fun b hb => ⟨Nat.le_trans HB0.out.size hb.1, Nat.lt_of_lt_of_le hb.2 hb1.size⟩) (fun g hg => ⟨Nat.le_trans HBR.out.size (HO1.out.base_le g hg).1, (HO1.out.base_le g hg).2⟩)
      · go_wp2_with fail
        refine (refJoin_any _ out _ _ HKD.out (fun _ hb => hb.2) (by omega)).mono ?_
        rintro e w1 ⟨v1, rfl, hown1, hb1⟩
        have HO1 := Lib.hid hown1
        clear hown1
        go_wp2
        go_ret
        refine ⟨_, rfl, ?_, belowNext HBR.out hb1⟩
        rw [HE.out]
        exact HO1.out.kids (fun b hb => ⟨Nat.le_trans HB0.out.size hb.1, Nat.lt_of_lt_of_le hb.2 hb1.size⟩) (fun g hg => ⟨Nat.le_trans HBR.out.size (HO1.out.base_le g hg).1, (HO1.out.base_le g hg).2⟩)
end Go.Proofs.Ytmmifednhleggaa
