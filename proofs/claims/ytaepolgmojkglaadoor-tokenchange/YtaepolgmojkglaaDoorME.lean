/-
  What doc answers.
  How much made gives; rows of nodes appended, in a region that draws its order; one cell set.
  What made and doc give is right: plain facts (no program is named here).
  The open nodes of the reader in memory: a row of the call's own, each node's kids a row of the call's own; no two share a block.
  The open row of the reader turned: a kid more, a node more, a node closed.
  The reader's loop: its operations as steps, and what a kid that is appended makes of the open row.
  The reader's around, and its loop.
-/
import Derived.Test.YtaepolgmojkglaaDoorW10
import Derived.Test.YtaepolgmojkglaaDoorMB
import Derived.Test.YtaepolgmojkglaaDoorMA
import Derived.Test.YtaepolgmojkglaaDoorMD
namespace Go.Proofs.YtaepolgmojkglaaDoor
open Go.RowKit Go.Sort

def DOC : ByteArray := ⟨#[100, 111, 99]⟩
def docB (l : List Cel) : Tree := .mk DOC ByteArray.empty [] [] (madeB l)
def DocPost (w : World) (l : List Cel) (e : Ending) (w' : World) : Prop :=
  ∃ A c, e = .returned (.agg #[.string ⟨#[100, 111, 99]⟩, .string ⟨#[]⟩, .slice none 0 0, .slice none 0 0, .slice A (madeB l).length c]) ∧ Kids w' (From w.heap.size w'.heap.size) (.slice A (madeB l).length c) (madeB l) ∧ Below w.heap.size w w'

theorem Cels.below {w w' : World} {B : Nat} {v : Value} {l : List Cel} (h : Cels w (Under B) v l) (hb : Below B w w') : Cels w' (Under B) v l := by
  obtain ⟨A, c, rfl, h1, h2, h3, h4⟩ := h
  refine ⟨A, c, rfl, h1, h2, ?_, h4⟩
  rcases h3 with h3 | ⟨b, o, rfl, hS, h3⟩
  · exact .inl h3
  · refine .inr ⟨b, o, rfl, hS, fun i x hi => ?_⟩
    obtain ⟨a0, a1, a2⟩ := h3 i x hi
    exact ⟨(hb.cell (p := ⟨b, o + i * 3, none⟩) hS).trans a0, (hb.cell (p := ⟨b, o + i * 3 + 1, none⟩) hS).trans a1, (hb.cell (p := ⟨b, o + i * 3 + 2, none⟩) hS).trans a2⟩
theorem Cels.more {w : World} {B B' : Nat} {v : Value} {l : List Cel} (h : Cels w (Under B) v l) (hB : B ≤ B') : Cels w (Under B') v l := by
  obtain ⟨A, c, rfl, h1, h2, h3, h4⟩ := h
  refine ⟨A, c, rfl, h1, h2, ?_, h4⟩
  rcases h3 with h3 | ⟨b, o, rfl, hS, h3⟩
  · exact .inl h3
  · exact .inr ⟨b, o, rfl, Nat.lt_of_lt_of_le hS hB, h3⟩

theorem set5 {w : World} {g : Nat} {v0 v1 v2 v3 v4 u0 u1 u2 u3 u4 : Value} (c0 : w.cell? ⟨g, 0, none⟩ = some u0) (c1 : w.cell? ⟨g, 1, none⟩ = some u1) (c2 : w.cell? ⟨g, 2, none⟩ = some u2) (c3 : w.cell? ⟨g, 3, none⟩ = some u3) (c4 : w.cell? ⟨g, 4, none⟩ = some u4) :
    (((((w.setCell ⟨g, 0, none⟩ v0).setCell ⟨g, 1, none⟩ v1).setCell ⟨g, 2, none⟩ v2).setCell ⟨g, 3, none⟩ v3).setCell ⟨g, 4, none⟩ v4).cell? ⟨g, 0, none⟩ = some v0 ∧
    (((((w.setCell ⟨g, 0, none⟩ v0).setCell ⟨g, 1, none⟩ v1).setCell ⟨g, 2, none⟩ v2).setCell ⟨g, 3, none⟩ v3).setCell ⟨g, 4, none⟩ v4).cell? ⟨g, 1, none⟩ = some v1 ∧
    (((((w.setCell ⟨g, 0, none⟩ v0).setCell ⟨g, 1, none⟩ v1).setCell ⟨g, 2, none⟩ v2).setCell ⟨g, 3, none⟩ v3).setCell ⟨g, 4, none⟩ v4).cell? ⟨g, 2, none⟩ = some v2 ∧
    (((((w.setCell ⟨g, 0, none⟩ v0).setCell ⟨g, 1, none⟩ v1).setCell ⟨g, 2, none⟩ v2).setCell ⟨g, 3, none⟩ v3).setCell ⟨g, 4, none⟩ v4).cell? ⟨g, 3, none⟩ = some v3 ∧
    (((((w.setCell ⟨g, 0, none⟩ v0).setCell ⟨g, 1, none⟩ v1).setCell ⟨g, 2, none⟩ v2).setCell ⟨g, 3, none⟩ v3).setCell ⟨g, 4, none⟩ v4).cell? ⟨g, 4, none⟩ = some v4 ∧
    (∀ b, b ≠ g → (((((w.setCell ⟨g, 0, none⟩ v0).setCell ⟨g, 1, none⟩ v1).setCell ⟨g, 2, none⟩ v2).setCell ⟨g, 3, none⟩ v3).setCell ⟨g, 4, none⟩ v4).heap[b]? = w.heap[b]?) ∧
    (((((w.setCell ⟨g, 0, none⟩ v0).setCell ⟨g, 1, none⟩ v1).setCell ⟨g, 2, none⟩ v2).setCell ⟨g, 3, none⟩ v3).setCell ⟨g, 4, none⟩ v4).heap.size = w.heap.size := by
  have far : ∀ (W : World) (i j : Nat) (u : Value), i ≠ j → (W.setCell ⟨g, i, none⟩ u).cell? ⟨g, j, none⟩ = W.cell? ⟨g, j, none⟩ := fun W i j u h => World.cell?_setCell_other W _ _ _ (fun e => h (by have := congrArg Addr.off e; simpa [eq_comm] using this))
  have a0 := cell_set c0 v0
  have a1 := cell_set (w := w.setCell ⟨g, 0, none⟩ v0) ((far _ 0 1 _ (by omega)).trans c1) v1
  have a2 := cell_set (w := (w.setCell ⟨g, 0, none⟩ v0).setCell ⟨g, 1, none⟩ v1) ((far _ 1 2 _ (by omega)).trans ((far _ 0 2 _ (by omega)).trans c2)) v2
  have a3 := cell_set (w := ((w.setCell ⟨g, 0, none⟩ v0).setCell ⟨g, 1, none⟩ v1).setCell ⟨g, 2, none⟩ v2) ((far _ 2 3 _ (by omega)).trans ((far _ 1 3 _ (by omega)).trans ((far _ 0 3 _ (by omega)).trans c3))) v3
  have a4 := cell_set (w := (((w.setCell ⟨g, 0, none⟩ v0).setCell ⟨g, 1, none⟩ v1).setCell ⟨g, 2, none⟩ v2).setCell ⟨g, 3, none⟩ v3) ((far _ 3 4 _ (by omega)).trans ((far _ 2 4 _ (by omega)).trans ((far _ 1 4 _ (by omega)).trans ((far _ 0 4 _ (by omega)).trans c4)))) v4
  refine ⟨?_, ?_, ?_, ?_, a4, fun b hb => ?_, by simp [World.setCell]⟩
  · rw [far _ 4 0 _ (by omega), far _ 3 0 _ (by omega), far _ 2 0 _ (by omega), far _ 1 0 _ (by omega)]; exact a0
  · rw [far _ 4 1 _ (by omega), far _ 3 1 _ (by omega), far _ 2 1 _ (by omega)]; exact a1
  · rw [far _ 4 2 _ (by omega), far _ 3 2 _ (by omega)]; exact a2
  · rw [far _ 4 3 _ (by omega)]; exact a3
  · rw [Below.heap_setCell _ _ _ _ hb, Below.heap_setCell _ _ _ _ hb, Below.heap_setCell _ _ _ _ hb, Below.heap_setCell _ _ _ _ hb, Below.heap_setCell _ _ _ _ hb]

end Go.Proofs.YtaepolgmojkglaaDoor

namespace Go.Proofs.YtaepolgmojkglaaDoor
open Go.RowKit Go.Sort

theorem madeB_weigh (l : List Cel) : weighAll (madeB l) ≤ 760 := by
  have h1 := joinB_weigh (madeTo l 19)
  have h2 := madeTo_weigh l 19
  unfold madeB; omega

theorem pairs_two {w : World} {S : Nat → Prop} {g : Nat} {s t u v : ByteArray} (h0 : w.cell? ⟨g, 0, none⟩ = some (.string s)) (h1 : w.cell? ⟨g, 1, none⟩ = some (.string t)) (h2 : w.cell? ⟨g, 2, none⟩ = some (.string u)) (h3 : w.cell? ⟨g, 3, none⟩ = some (.string v)) (hS : S g) :
    Pairs w S (.slice (some ⟨g, 0, none⟩) 2 2) [(s, t), (u, v)] :=
  ⟨_, 2, rfl, Nat.le_refl _, by unfold maxLen; omega, .inr ⟨g, 0, rfl, hS, fun i p hi => by
    match i, hi with
    | 0, hi => simp at hi; subst hi; exact ⟨h0, h1⟩
    | 1, hi => simp at hi; subst hi; exact ⟨h2, h3⟩
    | i + 2, hi => simp at hi⟩⟩
theorem kids_block {w : World} {S : Nat → Prop} {g n : Nat} {arr : Array Value} {T : TypeId} {l : List Tree} (hh : w.heap[g]? = some (.cells arr T)) (hc : Cells w S l arr.toList) (hn : l.length = n) (hS : S g) (hm : n ≤ 1000000 := by decide) : Kids w S (.slice (some ⟨g, 0, none⟩) n n) l := by
  subst hn
  refine ⟨_, l.length, rfl, Nat.le_refl _, by unfold maxLen; omega, .inr ⟨g, 0, rfl, hS, rowAt_cells hc fun j u hj => ?_⟩⟩
  simp only [World.cell?, hh]
  simpa using hj

section
variable {ops : Array Oper} {o : Oper} {a : Act} {K : Act → World → Prop} {Q : Exit → Act → World → Prop} {E : Prop}
/-- append([]Node, l...) -/
theorem step_app1 {B : Nat} {W3 W : World} (hBB : B ≤ W3.heap.size) {e : Nat} {x : Value} {L : List Tree} (hgd : o.guard = none) (s xo : Operand) (ho : o.op = .call { callee := .builtin .append, args := #[s, xo], argTypes := #[24, 24] })
    (hv : a.eval s = .slice (some ⟨e, 0, none⟩) 0 0) (hx : a.eval xo = x) (hE : W.heap[e]? = some (.cells #[] 47)) (he : W3.heap.size ≤ e) (hB : Below W3.heap.size W3 W) (hK : Kids W3 (Under B) x L) (hlen : L.length ≤ 1000000)
    (h : ∀ v' w', Own w' W3.heap.size (Under B) v' L → Below W3.heap.size W3 w' → (∀ g, g < W.heap.size → g ≠ e → w'.heap[g]? = W.heap[g]?) → K (a.put o.dst v') w') :
    if Region.wanted o (yielded ops a.tmps) = true then Oper.wp Tryd.prog o a W K Q else E := by
  refine step_append_nodes hgd s xo ho W3.heap.size (Under B) _ _ [] L hv hx (own_empty hE he) (hK.below (hB.mono hBB)).src (fun b hb => ⟨Nat.lt_of_lt_of_le hb (Nat.le_trans hBB hB.size), fun h => ?_⟩) (by simpa using hlen) hB.size ?_
  · simp [Value.ownBlock] at h; unfold Under at hb; omega
  · intro v' w' h1 h2 _
    have h2' : W.grownBy w' (some e) := h2
    exact h v' w' (by simpa using h1) (hB.grown h2' hB.size (fun k hk => by injection hk with hk; omega)) fun g hg hn => h2'.block g hg (fun h => hn (Option.some.inj h))
/-- append(.., a, b) -/
theorem step_app2 {B : Nat} {W3 W : World} (hBB : B ≤ W3.heap.size) {v x : Value} {L L2 : List Tree} (hgd : o.guard = none) (s xo : Operand) (ho : o.op = .call { callee := .builtin .append, args := #[s, xo], argTypes := #[24, 24] })
    (hv : a.eval s = v) (hx : a.eval xo = x) (hO : Own W W3.heap.size (Under B) v L) (hB : Below W3.heap.size W3 W) (hsrc : Src W (Under B) x L2) (hlen : L.length + L2.length ≤ 1000000)
    (h : ∀ v' w', Own w' W3.heap.size (Under B) v' (L ++ L2) → Below W3.heap.size W3 w' → K (a.put o.dst v') w') :
    if Region.wanted o (yielded ops a.tmps) = true then Oper.wp Tryd.prog o a W K Q else E := by
  refine step_append_nodes hgd s xo ho W3.heap.size (Under B) _ _ L L2 hv hx hO hsrc (fun b hb => ⟨Nat.lt_of_lt_of_le hb (Nat.le_trans hBB hB.size), fun h => ?_⟩) hlen hB.size ?_
  · have := (hO.base_le b h.symm).1; unfold Under at hb; omega
  · intro v' w' h1 h2 _
    exact h v' w' h1 (hB.grown h2 hB.size (fun k hk => (hO.base_le k hk).1))
end
theorem set_one {w : World} {g o : Nat} {u v : Value} (c : w.cell? ⟨g, o, none⟩ = some u) :
    (∀ b j, b ≠ g → (w.setCell ⟨g, o, none⟩ v).cell? ⟨b, j, none⟩ = w.cell? ⟨b, j, none⟩) ∧ (w.setCell ⟨g, o, none⟩ v).cell? ⟨g, o, none⟩ = some v ∧ (∀ j, j ≠ o → (w.setCell ⟨g, o, none⟩ v).cell? ⟨g, j, none⟩ = w.cell? ⟨g, j, none⟩) ∧
      (∀ b, b ≠ g → (w.setCell ⟨g, o, none⟩ v).heap[b]? = w.heap[b]?) ∧ (w.setCell ⟨g, o, none⟩ v).heap.size = w.heap.size ∧ (w.setCell ⟨g, o, none⟩ v).os = w.os ∧ (w.setCell ⟨g, o, none⟩ v).tape = w.tape ∧ (w.setCell ⟨g, o, none⟩ v).output = w.output :=
  ⟨fun b j h => World.cell?_setCell_other w _ _ _ (fun e => h (congrArg Addr.block e).symm), cell_set c v, fun j h => World.cell?_setCell_other w _ _ _ (fun e => h (congrArg Addr.off e).symm), fun b h => Below.heap_setCell _ _ _ _ h, by simp [World.setCell], rfl, rfl, rfl⟩
end Go.Proofs.YtaepolgmojkglaaDoor

namespace Go.Proofs.YtaepolgmojkglaaDoor
open Go.RowKit Go.Sort

/-! ### made -/
theorem pick_nat (c n : Int) (h : 0 < n) : (pickN c n).toNat < n.toNat := by have h1 := pickN_lo c n h; have h2 := pickN_hi c n h; omega
theorem texts_ok : ∀ i, i < 5 → (textsL.getD i ByteArray.empty).data.toList ≠ [] ∧ Lib.validD (textsL.getD i ByteArray.empty).data.toList = true ∧ (textsL.getD i ByteArray.empty).size ≤ 40 := by decide +kernel
theorem kinds_ok : ∀ i, i < 4 → nameB (kindsL.getD i ByteArray.empty) = true ∧ isTxt (kindsL.getD i ByteArray.empty) = false := by decide +kernel
theorem attrs_ok : ∀ i, i < 5 → attrsB [(ALIGN, textsL.getD i ByteArray.empty)] = true := by decide +kernel
theorem marksOf_ok (c : Cel) : marksB (marksOf c) = true := by
  unfold marksOf; split
  · decide +kernel
  · split <;> decide +kernel
theorem attrsOf_ok (c : Cel) : attrsB (attrsOf c) = true := by
  unfold attrsOf; split
  · exact attrs_ok _ (pick_nat _ 5 (by omega))
  · decide +kernel
theorem made_text_ok (c : Cel) : formedB (.mk TEXT (textOf c) (marksOf c) [] []) = true := by
  have h := texts_ok _ (pick_nat c.a 5 (by omega))
  rw [formedB_text (by decide +kernel)]
  exact textB_of h.1 h.2.1 (marksOf_ok c) rfl rfl
theorem made_node_ok (c : Cel) (l : List Tree) (h : rowB none l = true) : formedB (.mk (kindOf c) ByteArray.empty [] (attrsOf c) l) = true := by
  have hk := kinds_ok _ (pick_nat c.a 4 (by omega))
  have he : ByteArray.empty.toList.isEmpty = true := by decide +kernel
  rw [formedB_node (k := kindOf c) hk.2, h]
  show (nameB (kindOf c) && (ByteArray.empty.toList.isEmpty && (decide (([] : List ByteArray).length = 0) && attrsB (attrsOf c))) && true) = true
  rw [he, attrsOf_ok, show nameB (kindOf c) = true from hk.1]; rfl
theorem madeStep_ok (out : List Tree) (c : Cel) (h : ∀ x ∈ out, formedB x = true) : ∀ x ∈ madeStep out c, formedB x = true := by
  unfold madeStep
  intro x hx
  split at hx
  · rcases List.mem_append.1 hx with hx | hx
    · exact h x hx
    · rw [List.mem_singleton.1 hx]; exact made_text_ok c
  · split at hx
    · rcases List.mem_append.1 hx with hx | hx
      · exact h x (List.mem_of_mem_take hx)
      · rw [List.mem_singleton.1 hx]; exact made_node_ok c _ (joinB_row _ fun y hy => h y (List.mem_of_mem_drop hy))
    · rcases List.mem_append.1 hx with hx | hx
      · exact h x hx
      · rw [List.mem_singleton.1 hx]; exact made_node_ok c _ (by simp [rowB])
theorem madeFold_ok : ∀ (l : List Cel) (out : List Tree), (∀ x ∈ out, formedB x = true) → ∀ x ∈ l.foldl madeStep out, formedB x = true
  | [], _, h => h
  | c :: l, out, h => madeFold_ok l _ (madeStep_ok out c h)
theorem madeTo_ok (l : List Cel) (k : Nat) : ∀ x ∈ madeTo l k, formedB x = true := madeFold_ok _ [] (by simp)
theorem madeB_ok (l : List Cel) : rowB none (madeB l) = true := joinB_row _ (madeTo_ok l 19)
theorem madeStep_deep (out : List Tree) (c : Cel) : deepB (madeStep out c) ≤ deepB out + 1 := by
  have hk := (kinds_ok _ (pick_nat c.a 4 (by omega))).2
  have ht : isTxt TEXT = true := by decide +kernel
  unfold madeStep
  split
  · rw [deepB_append]; simp only [deepB, depthB, ht, if_true]; omega
  · have hk' : isTxt (kindOf c) = false := hk
    split
    · have hj := joinB_deep (out.drop (out.length - manyOf c out.length))
      have hs := deepB_append (out.take (out.length - manyOf c out.length)) (out.drop (out.length - manyOf c out.length))
      rw [List.take_append_drop] at hs
      rw [deepB_append]; simp only [deepB, depthB, hk', Bool.false_eq_true, if_false]; omega
    · rw [deepB_append]; simp only [deepB, depthB, hk', Bool.false_eq_true, if_false]; omega
theorem madeFold_deep : ∀ (l : List Cel) (out : List Tree), deepB (l.foldl madeStep out) ≤ deepB out + l.length
  | [], _ => by simp
  | c :: l, out => by
    have h := madeFold_deep l (madeStep out c)
    have h2 := madeStep_deep out c
    simp only [List.foldl_cons, List.length_cons]; omega
theorem madeB_deep (l : List Cel) : deepB (madeB l) ≤ 19 := by
  have h1 := joinB_deep (madeTo l 19)
  have h2 := madeFold_deep (l.take 19) []
  simp only [deepB, List.length_take] at h2
  unfold madeB
  have h3 : deepB (madeTo l 19) ≤ 19 := by unfold madeTo; omega
  omega
theorem docB_right (l : List Cel) : checkB (docB l) = 0 := by
  have hd := madeB_deep l
  have hw := madeB_weigh l
  have hs := total_le_weigh (madeB l)
  have ht : isTxt DOC = false := by decide +kernel
  have hf : formedB (docB l) = true := by
    unfold docB
    rw [formedB_node ht, madeB_ok l]
    show (nameB DOC && (ByteArray.empty.toList.isEmpty && (decide (([] : List ByteArray).length = 0) && attrsB [])) && true) = true
    decide +kernel
  have h1 : depthB (docB l) = deepB (madeB l) + 1 := by simp [docB, depthB, ht]
  have h2 : sizeB (docB l) = 2 + totalB (madeB l) := by simp [docB, sizeB, ht]
  rw [checkB, if_pos hf, if_neg (by omega), if_neg (by omega)]
end Go.Proofs.YtaepolgmojkglaaDoor

namespace Go.Proofs.YtaepolgmojkglaaDoor
open Go.RowKit Go.Sort Go.Maps

/-- What lies in open node i, but for the row of its kids. -/
def Part (w : World) (own : Nat → Nat) (i : Nat) : Nat → Prop := fun b => b < w.heap.size ∧ own b = 2 * i + 1
/-- .. with it. -/
def Whole (w : World) (own : Nat → Nat) (i : Nat) : Nat → Prop := fun b => b < w.heap.size ∧ (own b = 2 * i + 1 ∨ own b = 2 * i + 2)
/-- An open node: its three slices. -/
def OpenAt (w : World) (base : Nat) (own : Nat → Nat) (i : Nat) (vm va vk : Value) (t : Tree) : Prop :=
  Strs w (Part w own i) vm t.marks ∧ Pairs w (Part w own i) va t.attrs ∧ Own w base (Part w own i) vk t.kids ∧ ∀ g, vk.ownBlock = some g → own g = 2 * i + 2
/-- The cells of open nodes, the outermost ahead. -/
def OC (w : World) (base : Nat) (own : Nat → Nat) : Nat → List Tree → List Value → Prop
  | _, [], xs => xs = []
  | i, t :: l, xs => ∃ vm va vk ys, xs = .string t.kind :: .string t.text :: vm :: va :: vk :: ys ∧ OpenAt w base own i vm va vk t ∧ OC w base own (i + 1) l ys
/-- The row of open nodes (st: the innermost ahead). -/
def Opens (w : World) (base : Nat) (own : Nat → Nat) (v : Value) (st : List Tree) : Prop :=
  (∃ xs, w.ownsRow base 47 5 v st.length xs ∧ OC w base own 0 st.reverse xs) ∧ (∀ g, v.ownBlock = some g → own g = 0) ∧ ∀ b, w.heap.size ≤ b → own b = 0

theorem ownsRow_block {w w' : World} {base : Nat} {e : TypeId} {size : Nat} {v : Value} {n : Nat} {xs : List Value} (h : w.ownsRow base e size v n xs) (hb : ∀ g, v.ownBlock = some g → w'.heap[g]? = w.heap[g]?) : w'.ownsRow base e size v n xs := by
  refine ⟨h.1, ?_⟩
  rcases h.2 with hn | ⟨g, cap, cur, hv, hB, hg, rest⟩
  · exact .inl hn
  · exact .inr ⟨g, cap, cur, hv, hB, (hb g (by rw [hv]; rfl)).trans hg, rest⟩
theorem Own.lt {w : World} {base : Nat} {S : Nat → Prop} {v : Value} {l : List Tree} (h : Own w base S v l) : ∀ g, v.ownBlock = some g → base ≤ g ∧ g < w.heap.size := by
  obtain ⟨xs, ho, _⟩ := h
  exact ho.lt
theorem OpenAt.keep {w w' : World} {base : Nat} {own own' : Nat → Nat} {i : Nat} {vm va vk : Value} {t : Tree} (h : OpenAt w base own i vm va vk t)
    (hz : w.heap.size ≤ w'.heap.size) (hk : ∀ b, b < w.heap.size → own b = 2 * i + 1 ∨ own b = 2 * i + 2 → w'.heap[b]? = w.heap[b]? ∧ own' b = own b) : OpenAt w' base own' i vm va vk t := by
  obtain ⟨hm, ha, ⟨xs, ho, hc⟩, hg⟩ := h
  have hS : ∀ b, Part w own i b → Part w' own' i b := fun b hb => ⟨Nat.lt_of_lt_of_le hb.1 hz, by rw [(hk b hb.1 (.inl hb.2)).2]; exact hb.2⟩
  have hB : ∀ b, Part w own i b → w'.heap[b]? = w.heap[b]? := fun b hb => (hk b hb.1 (.inl hb.2)).1
  refine ⟨hm.keep hS hB, ha.keep hS hB, ⟨xs, ownsRow_block ho fun g e => (hk g (ho.lt g e).2 (.inr (hg g e))).1, hc.keep hS hB⟩, fun g e => ?_⟩
  rw [(hk g (ho.lt g e).2 (.inr (hg g e))).2]; exact hg g e
theorem OpenAt.node {w : World} {base : Nat} {own : Nat → Nat} {i : Nat} {vm va vk : Value} {t : Tree} (h : OpenAt w base own i vm va vk t) :
    Node w (Whole w own i) (.agg #[.string t.kind, .string t.text, vm, va, vk]) t := by
  obtain ⟨hm, ha, hk, hg⟩ := h
  have hS : ∀ b, Part w own i b → Whole w own i b := fun b hb => ⟨hb.1, .inl hb.2⟩
  exact ⟨vm, va, vk, rfl, hm.keep hS fun _ _ => rfl, ha.keep hS fun _ _ => rfl, hk.kids hS fun g e => ⟨(hk.lt g e).2, .inr (hg g e)⟩⟩

theorem OC.keep {w w' : World} {base : Nat} {own own' : Nat → Nat} (hz : w.heap.size ≤ w'.heap.size) : ∀ {l : List Tree} {i : Nat} {xs : List Value}, OC w base own i l xs →
    (∀ b, b < w.heap.size → 2 * i + 1 ≤ own b → own b ≤ 2 * (i + l.length) → w'.heap[b]? = w.heap[b]? ∧ own' b = own b) → OC w' base own' i l xs
  | [], _, _, h, _ => h
  | t :: l, i, _, ⟨vm, va, vk, ys, e, ho, h⟩, hk => ⟨vm, va, vk, ys, e, ho.keep hz fun b hb hc => hk b hb (by omega) (by simp only [List.length_cons]; omega),
      OC.keep hz h fun b hb h1 h2 => hk b hb (by omega) (by simp only [List.length_cons]; omega)⟩
theorem OC.length {w : World} {base : Nat} {own : Nat → Nat} : ∀ {l : List Tree} {i : Nat} {xs : List Value}, OC w base own i l xs → xs.length = l.length * 5
  | [], _, _, h => by simp only [OC] at h; subst h; rfl
  | t :: l, _, _, ⟨vm, va, vk, ys, e, _, h⟩ => by have := h.length; subst e; simp only [List.length_cons, this]; omega
theorem OC.append {w : World} {base : Nat} {own : Nat → Nat} : ∀ {a b : List Tree} {i : Nat} {xs ys : List Value}, OC w base own i a xs → OC w base own (i + a.length) b ys → OC w base own i (a ++ b) (xs ++ ys)
  | [], _, _, _, _, h, h' => by simp only [OC] at h; subst h; exact h'
  | t :: a, b, i, _, ys, ⟨vm, va, vk, zs, e, ho, h⟩, h' => ⟨vm, va, vk, zs ++ ys, by subst e; rfl, ho, OC.append h (by rw [show i + 1 + a.length = i + (t :: a).length by simp only [List.length_cons]; omega]; exact h')⟩
theorem OC.split {w : World} {base : Nat} {own : Nat → Nat} : ∀ {a b : List Tree} {i : Nat} {xs : List Value}, OC w base own i (a ++ b) xs → ∃ ys zs, xs = ys ++ zs ∧ OC w base own i a ys ∧ OC w base own (i + a.length) b zs
  | [], _, _, xs, h => ⟨[], xs, rfl, rfl, h⟩
  | t :: a, b, i, _, ⟨vm, va, vk, qs, e, ho, h⟩ => by
    obtain ⟨ys, zs, e2, h1, h2⟩ := OC.split (a := a) h
    subst e2
    refine ⟨.string t.kind :: .string t.text :: vm :: va :: vk :: ys, zs, by rw [e]; rfl, ⟨vm, va, vk, ys, rfl, ho, h1⟩, ?_⟩
    rw [show i + (t :: a).length = i + 1 + a.length by simp only [List.length_cons]; omega]; exact h2

/-- The innermost open node, and where it lies. -/
theorem Opens.top {w : World} {base : Nat} {own : Nat → Nat} {v : Value} {top : Tree} {st : List Tree} (h : Opens w base own v (top :: st)) :
    ∃ O cap vm va vk ys, v = .slice (some ⟨O, 0, none⟩) (st.length + 1) cap ∧ base ≤ O ∧ O < w.heap.size ∧ own O = 0 ∧ st.length + 1 ≤ cap ∧ cap ≤ maxLen ∧ OpenAt w base own st.length vm va vk top ∧
      w.ownsRow base 47 5 (.slice (some ⟨O, 0, none⟩) (st.length + 1) cap) (st.length + 1) (ys ++ [.string top.kind, .string top.text, vm, va, vk]) ∧ OC w base own 0 st.reverse ys ∧ ys.length = st.length * 5 := by
  obtain ⟨⟨xs, ho, hc⟩, hO, _⟩ := h
  rw [List.reverse_cons] at hc
  obtain ⟨ys, zs, rfl, h1, h2⟩ := hc.split
  obtain ⟨vm, va, vk, us, rfl, h3, h4⟩ := h2
  simp only [OC] at h4
  subst h4
  simp only [List.length_reverse, Nat.zero_add] at h3
  obtain ⟨hl, hor⟩ := ho
  have hoo := hor
  rcases hor with ⟨_, hn⟩ | ⟨g, cap, cur, rfl, hb, hg, hnc, hcap, hsz, htk⟩
  · simp at hn
  · refine ⟨g, cap, vm, va, vk, ys, rfl, hb, (Array.getElem?_eq_some_iff.1 hg).1, hO g rfl, hnc, hcap, h3, ⟨hl, hoo⟩, h1, ?_⟩
    have := h1.length
    simpa using this
end Go.Proofs.YtaepolgmojkglaaDoor

namespace Go.Proofs.YtaepolgmojkglaaDoor
open Go.RowKit Go.Sort Go.Maps

theorem set_last (ys : List Value) (a b c d e f : Value) (n : Nat) (h : ys.length = n) : (ys ++ [a, b, c, d, e]).set (n + 4) f = ys ++ [a, b, c, d, f] := by
  subst h
  rw [List.set_append_right _ _ (by omega)]
  rw [show ys.length + 4 - ys.length = 4 by omega]
  rfl

theorem Opens.pushKid {w w4 : World} {base : Nat} {own : Nat → Nat} {O cap : Nat} {top : Tree} {st : List Tree} {vm va vk : Value} {ys : List Value}
    (hop : OpenAt w base own st.length vm va vk top) (hrow : w.ownsRow base 47 5 (.slice (some ⟨O, 0, none⟩) (st.length + 1) cap) (st.length + 1) (ys ++ [.string top.kind, .string top.text, vm, va, vk]))
    (hoc : OC w base own 0 st.reverse ys) (hys : ys.length = st.length * 5) (hO : own O = 0) (hOz : O < w.heap.size) (hz : ∀ b, w.heap.size ≤ b → own b = 0)
    (k : Tree) (vk' : Value) (zs : List Value) (S : Nat → Prop) (hsz : w.heap.size ≤ w4.heap.size)
    (hkeep : ∀ b, b < w.heap.size → own b ≠ 0 → some b ≠ vk.ownBlock → w4.heap[b]? = w.heap[b]?)
    (hO4 : w4.heap[O]? = (w.setCell ⟨O, st.length * 5 + 4, none⟩ vk').heap[O]?)
    (hk4 : w4.ownsRow base 47 5 vk' (top.kids.length + 1) zs) (hc4 : Cells w4 S (top.kids ++ [k]) zs)
    (hat : ∀ g, vk'.ownBlock = some g → vk.ownBlock = some g ∨ w.heap.size ≤ g)
    (hS : ∀ b, S b → (Part w own st.length b ∨ From w.heap.size w4.heap.size b) ∧ some b ≠ vk'.ownBlock) :
    ∃ own', Opens w4 base own' (.slice (some ⟨O, 0, none⟩) (st.length + 1) cap) (addKid top k :: st) ∧ ∀ b, b < w.heap.size → own' b = own b := by
  obtain ⟨hm, ha, hk, hg⟩ := hop
  refine ⟨fun b => if w.heap.size ≤ b ∧ b < w4.heap.size then (if vk'.ownBlock = some b then 2 * st.length + 2 else 2 * st.length + 1) else own b, ?_, fun b hb => if_neg (by omega)⟩
  have hold : ∀ b, b < w.heap.size → (fun b => if w.heap.size ≤ b ∧ b < w4.heap.size then (if vk'.ownBlock = some b then 2 * st.length + 2 else 2 * st.length + 1) else own b) b = own b := fun b hb => if_neg (by omega)
  have hnew : ∀ b, w.heap.size ≤ b → b < w4.heap.size → (fun b => if w.heap.size ≤ b ∧ b < w4.heap.size then (if vk'.ownBlock = some b then 2 * st.length + 2 else 2 * st.length + 1) else own b) b = if vk'.ownBlock = some b then 2 * st.length + 2 else 2 * st.length + 1 := fun b h1 h2 => if_pos ⟨h1, h2⟩
  have hend : ∀ b, w4.heap.size ≤ b → (fun b => if w.heap.size ≤ b ∧ b < w4.heap.size then (if vk'.ownBlock = some b then 2 * st.length + 2 else 2 * st.length + 1) else own b) b = own b := fun b hb => if_neg (by omega)
  generalize (fun b => if w.heap.size ≤ b ∧ b < w4.heap.size then (if vk'.ownBlock = some b then 2 * st.length + 2 else 2 * st.length + 1) else own b) = own' at *
  have hP : ∀ b, Part w own st.length b → Part w4 own' st.length b := fun b hb => ⟨Nat.lt_of_lt_of_le hb.1 hsz, by rw [hold b hb.1]; exact hb.2⟩
  have hPk : ∀ b, Part w own st.length b → w4.heap[b]? = w.heap[b]? := fun b hb => hkeep b hb.1 (by rw [hb.2]; omega) fun e => by
    have := hg b e.symm
    rw [hb.2] at this; omega
  refine ⟨⟨ys ++ [.string top.kind, .string top.text, vm, va, vk'], ?_, ?_⟩, fun g e => ?_, fun b hb => by rw [hend b hb]; exact hz b (by omega)⟩
  · have h1 := (hrow.stored (st.length * 5 + 4) vk').1
    rw [set_last ys _ _ _ _ _ _ _ hys] at h1
    exact ownsRow_block h1 fun g e => by
      have : O = g := Option.some.inj e
      subst this; exact hO4
  · rw [List.reverse_cons]
    refine OC.append (OC.keep hsz hoc fun b hb h1 h2 => ⟨hkeep b hb (by omega) fun e => ?_, hold b hb⟩) ?_
    · have := hg b e.symm
      rw [this, List.length_reverse] at h2; omega
    · rw [List.length_reverse, Nat.zero_add]
      refine ⟨vm, va, vk', [], rfl, ⟨hm.keep hP hPk, ha.keep hP hPk, ⟨zs, ?_, ?_⟩, fun g e => ?_⟩, rfl⟩
      · show w4.ownsRow base 47 5 vk' (top.kids ++ [k]).length zs
        rw [List.length_append]; exact hk4
      · show Cells w4 (Part w4 own' st.length) (top.kids ++ [k]) zs
        refine hc4.keep (fun b hb => ?_) fun _ _ => rfl
        obtain ⟨h1, h2⟩ := hS b hb
        rcases h1 with h1 | h1
        · exact hP b h1
        · exact ⟨h1.2, by rw [hnew b h1.1 h1.2]; exact if_neg fun e => h2 e.symm⟩
      · rcases hat g e with h1 | h1
        · rw [hold g (hk.lt g h1).2]; exact hg g h1
        · rw [hnew g h1 (hk4.lt g e).2]; exact if_pos e
  · have : O = g := Option.some.inj e
    subst this
    rw [hold O hOz]; exact hO

theorem Opens.pushOpen {w w4 : World} {base : Nat} {own : Nat → Nat} {v v' va : Value} {st : List Tree} {xs : List Value} {k : Tree}
    (hoc : OC w base own 0 st.reverse xs) (hO : ∀ g, v.ownBlock = some g → own g = 0) (hz : ∀ b, w.heap.size ≤ b → own b = 0)
    (hsz : w.heap.size ≤ w4.heap.size) (hkeep : ∀ b, b < w.heap.size → own b ≠ 0 → w4.heap[b]? = w.heap[b]?)
    (hrow : w4.ownsRow base 47 5 v' (st.length + 1) (xs ++ [.string k.kind, .string k.text, .slice none 0 0, va, .slice none 0 0])) (hkm : k.marks = []) (hkk : k.kids = [])
    (S : Nat → Prop) (hva : Pairs w4 S va k.attrs) (hS : ∀ b, S b → From w.heap.size w4.heap.size b ∧ some b ≠ v'.ownBlock)
    (hat : ∀ g, v'.ownBlock = some g → v.ownBlock = some g ∨ w.heap.size ≤ g) :
    ∃ own', Opens w4 base own' v' (k :: st) ∧ ∀ b, b < w.heap.size → own' b = own b := by
  refine ⟨fun b => if w.heap.size ≤ b ∧ b < w4.heap.size ∧ v'.ownBlock ≠ some b then 2 * st.length + 1 else own b, ?_, fun b hb => if_neg (by omega)⟩
  have hold : ∀ b, b < w.heap.size → (fun b => if w.heap.size ≤ b ∧ b < w4.heap.size ∧ v'.ownBlock ≠ some b then 2 * st.length + 1 else own b) b = own b := fun b hb => if_neg (by omega)
  have hnew : ∀ b, w.heap.size ≤ b → b < w4.heap.size → v'.ownBlock ≠ some b → (fun b => if w.heap.size ≤ b ∧ b < w4.heap.size ∧ v'.ownBlock ≠ some b then 2 * st.length + 1 else own b) b = 2 * st.length + 1 := fun b h1 h2 h3 => if_pos ⟨h1, h2, h3⟩
  have hown : ∀ b, v'.ownBlock = some b → (fun b => if w.heap.size ≤ b ∧ b < w4.heap.size ∧ v'.ownBlock ≠ some b then 2 * st.length + 1 else own b) b = own b := fun b hb => if_neg fun h => h.2.2 hb
  have hend : ∀ b, w4.heap.size ≤ b → (fun b => if w.heap.size ≤ b ∧ b < w4.heap.size ∧ v'.ownBlock ≠ some b then 2 * st.length + 1 else own b) b = own b := fun b hb => if_neg (by omega)
  generalize (fun b => if w.heap.size ≤ b ∧ b < w4.heap.size ∧ v'.ownBlock ≠ some b then 2 * st.length + 1 else own b) = own' at *
  refine ⟨⟨_, hrow, ?_⟩, fun g e => ?_, fun b hb => by rw [hend b hb]; exact hz b (by omega)⟩
  · rw [List.reverse_cons]
    refine OC.append (OC.keep hsz hoc fun b hb h1 h2 => ⟨hkeep b hb (by omega), hold b hb⟩) ?_
    rw [List.length_reverse, Nat.zero_add]
    refine ⟨.slice none 0 0, va, .slice none 0 0, [], rfl, ⟨by rw [hkm]; exact strs_nil, hva.keep (fun b hb => ?_) (fun _ _ => rfl), ⟨[], ?_, ?_⟩, fun g e => by cases e⟩, rfl⟩
    · obtain ⟨h1, h2⟩ := hS b hb
      exact ⟨h1.2, hnew b h1.1 h1.2 fun e => h2 e.symm⟩
    · rw [hkk]; exact World.ownsRow_nil _ _ _ _
    · rw [hkk]; rfl
  · rw [hown g e]
    rcases hat g e with h1 | h1
    · exact hO g h1
    · exact hz g h1

/-- The innermost node closed: it is what the next one holds. -/
theorem Opens.close {w : World} {base : Nat} {own : Nat → Nat} {O cap : Nat} {top up : Tree} {st : List Tree} (h : Opens w base own (.slice (some ⟨O, 0, none⟩) (st.length + 2) cap) (top :: up :: st)) :
    ∃ own' vm va vk, Opens w base own' (.slice (some ⟨O, 0, none⟩) (st.length + 1) cap) (up :: st) ∧ Node w (Part w own' st.length) (.agg #[.string top.kind, .string top.text, vm, va, vk]) top ∧
      (∀ j u, [Value.string top.kind, .string top.text, vm, va, vk][j]? = some u → w.cell? ⟨O, (st.length + 1) * 5 + j, none⟩ = some u) ∧ ∀ b, own b = 0 → own' b = 0 := by
  obtain ⟨O', cap', vm, va, vk, ys, e, hb, hlt, hO, hnc, hcap, hop, hrow, hoc, hys⟩ := h.top
  injection e with e1 e2 e3
  have e1 : O = O' := by injection e1 with e1; injection e1
  subst e1; subst e3
  obtain ⟨_, _, hz⟩ := h
  refine ⟨fun b => if own b = 2 * (st.length + 1) + 1 ∨ own b = 2 * (st.length + 1) + 2 then 2 * st.length + 1 else own b, vm, va, vk, ?_, ?_, ?_, fun b hb => ?_⟩
  · have hlow : ∀ b, own b ≤ 2 * (st.length + 1) → (fun b => if own b = 2 * (st.length + 1) + 1 ∨ own b = 2 * (st.length + 1) + 2 then 2 * st.length + 1 else own b) b = own b := fun b hb => if_neg (by omega)
    refine ⟨⟨ys, ?_, ?_⟩, fun g e => ?_, fun b hb => ?_⟩
    · obtain ⟨hl, hor⟩ := hrow
      rcases hor with ⟨h1, _⟩ | ⟨g, c, cur, h1, h2, h3, h4, h5, h6, h7⟩
      · cases h1
      · refine ⟨by simpa using hys, .inr ⟨g, c, cur, ?_, h2, h3, ?_, h5, h6, ?_⟩⟩
        · injection h1 with a1 a2 a3
          rw [a1, a3]; rfl
        · simp only [List.length_cons] at h4 ⊢; omega
        · have : (cur.toList.take (((up :: st).length + 1) * 5)).take ((up :: st).length * 5) = ys := by
            rw [h7, List.take_append_of_le_length (by rw [hys]; exact Nat.le_refl _), List.take_of_length_le (by rw [hys]; exact Nat.le_refl _)]
          rwa [List.take_take, Nat.min_eq_left (by omega)] at this
    · refine OC.keep (Nat.le_refl _) hoc fun b hb h1 h2 => ⟨rfl, hlow b ?_⟩
      simp only [List.length_reverse, List.length_cons] at h2; omega
    · have : O = g := Option.some.inj e
      subst this
      rw [hlow O (by omega)]; exact hO
    · rw [hlow b (by have := hz b hb; omega)]; exact hz b hb
  · refine hop.node.keep (fun b hb => ⟨hb.1, if_pos ?_⟩) fun _ _ => rfl
    simpa using hb.2
  · intro j u hj
    have hj5 : j < 5 := by
      have := (List.getElem?_eq_some_iff.1 hj).1
      simpa using this
    rw [hrow.cellAt _ (by simp only [List.length_cons]; omega), List.getElem?_append_right (by rw [hys]; simp only [List.length_cons]; omega), hys]
    simp only [List.length_cons]
    rw [show (st.length + 1) * 5 + j - (st.length + 1) * 5 = j by omega]
    exact hj
  · exact (if_neg (by omega)).trans hb
end Go.Proofs.YtaepolgmojkglaaDoor

namespace Go.Proofs.YtaepolgmojkglaaDoor
open Go.RowKit Go.Sort Go.Maps

section
variable {w : World} {ops : Array Oper} {rest : List Oper} {o : Oper} {a : Act} {K : Act → World → Prop} {Q : Exit → Act → World → Prop} {E : Prop}
/-- A text read, in a region that draws its order. -/
theorem step_text {R : Nat} {l : List UInt8} {x : Bool} (hgd : o.guard = none) (p : Operand) (ho : o.op = .call { callee := .value (.func 51), args := #[p], argTypes := #[90] })
    (hp : a.eval p = .pointer (some ⟨R, 0, none⟩)) (hR : Rd w R l x) (hl : l.length ≤ 10000000)
    (h : ∀ v w', Node w' (From w.heap.size w'.heap.size) v (textL l).1 → Rd w' R (textL l).2.1 (x || (textL l).2.2) → OnlyR R w w' → K (a.put o.dst v) w') :
    if Region.wanted o (yielded ops a.tmps) = true then Oper.wp Tryd.prog o a w K Q else E := by
  have hwn : Region.wanted o (yielded ops a.tmps) = true := by simp [Region.wanted, hgd]
  rw [if_pos hwn]
  have hrun : (execOp a.eval o).run Tryd.prog w = .ok (.enter 51 #[.pointer (some ⟨R, 0, none⟩)]) w := by
    have hf : a.eval (.func 51) = .func (.func 51) #[] #[] := rfl
    obtain ⟨c, hc⟩ : ∃ c, Tryd.f51.body = some c := Option.isSome_iff_exists.1 (by kernel_rfl)
    have hne : ¬ Tryd.f51.name = "runtime.NumGoroutine" := of_decide_eq_false (by kernel_rfl)
    simp [execOp, ho, resolve, invoke, hp, hf, Deferred.ofValue, callFunc, hne, hc]
  unfold Oper.wp
  rw [hrun, Oper.upon_enter]
  refine (rd_text R l x w hR hl).mono fun e w'' hh => ?_
  obtain ⟨v', rfl, h1, h2, h3⟩ := hh
  exact h v' w'' h1 h2 h3
/-- A node closed, in a region that draws its order. -/
theorem step_closed {R : Nat} {l : List UInt8} {x : Bool} {v : Value} {t : Tree} {S : Nat → Prop} {d : Nat} {di : Int} (hgd : o.guard = none) (p q r : Operand) (ho : o.op = .call { callee := .value (.func 55), args := #[p, q, r], argTypes := #[90, 47, 3] })
    (hp : a.eval p = .pointer (some ⟨R, 0, none⟩)) (hq : a.eval q = v) (hr : a.eval r = .int .i64 di) (hdi : di = (d : Int)) (hR : Rd w R l x) (hn : Node w S v t) (hS : ∀ b, S b → b < w.heap.size ∧ b ≠ R) (hd : d ≤ 100000000) (hw : weigh t ≤ 1000000) (hT : Tabs w)
    (h : ∀ v' w', Node w' S v' (closedL d t).1 → Rd w' R (if (closedL d t).2 then [] else l) (x || (closedL d t).2) → OnlyR R w w' → K (a.put o.dst v') w') :
    if Region.wanted o (yielded ops a.tmps) = true then Oper.wp Tryd.prog o a w K Q else E := by
  subst hdi
  have hwn : Region.wanted o (yielded ops a.tmps) = true := by simp [Region.wanted, hgd]
  rw [if_pos hwn]
  have hrun : (execOp a.eval o).run Tryd.prog w = .ok (.enter 55 #[.pointer (some ⟨R, 0, none⟩), v, .int .i64 (d : Int)]) w := by
    have hf : a.eval (.func 55) = .func (.func 55) #[] #[] := rfl
    obtain ⟨c, hc⟩ : ∃ c, Tryd.f55.body = some c := Option.isSome_iff_exists.1 (by kernel_rfl)
    have hne : ¬ Tryd.f55.name = "runtime.NumGoroutine" := of_decide_eq_false (by kernel_rfl)
    simp [execOp, ho, resolve, invoke, hp, hq, hr, hf, Deferred.ofValue, callFunc, hne, hc]
  unfold Oper.wp
  rw [hrun, Oper.upon_enter]
  refine (rd_closed R l x v t S d w hR hn hS hd hw hT).mono fun e w'' hh => ?_
  obtain ⟨v', rfl, h1, h2, h3⟩ := hh
  exact h v' w'' h1 h2 h3
theorem wp_append_raw (s y : Operand) (ho : o.op = .call { callee := .builtin .append, args := #[s, y], argTypes := #[24, 24] })
    (base : Nat) (v : Value) (n : Nat) (xs : List Value) (g c : Nat) (cs : Array Value) (hs : a.eval s = v) (hy : a.eval y = .slice (some ⟨g, 0, none⟩) 1 c) (hown : w.ownsRow base 47 5 v n xs)
    (hlit : w.heap[g]? = some (.cells cs 47)) (hcs : cs.size = 5) (h1 : ∀ u ∈ cs.toList, u.oneCell' = true) (hn : n + 1 ≤ 100000000) (hbase : base ≤ w.heap.size)
    (h : ∀ v' w', w'.ownsRow base 47 5 v' (n + 1) (xs ++ cs.toList) → w.grownBy w' v.ownBlock → (v'.ownBlock = v.ownBlock ∨ v'.ownBlock = some w.heap.size) → K (a.put o.dst v') w') : o.wp Tryd.prog a w K Q := by
  obtain ⟨i, hi, hz0, hz1, hz2⟩ := info_parts node_info
  have hnews : ∀ j u, cs.toList[j]? = some u → w.cell? (Addr.add ⟨g, 0, none⟩ j) = some u := fun j u hj => by
    rw [add_cell, Nat.zero_add, cell_of_row w g j cs _ _ hlit]; simpa using hj
  obtain ⟨v', w', hr, h2, h3, _, h4⟩ := run_append_own_at (P := Tryd.prog) w base 24 o.type 47 i _ 5 104 Tryd.underlying24 hi hz0 hz1 hz2 rfl (by omega) v n xs hown ⟨g, 0, none⟩ 1 c cs.toList (by simpa using hcs) hnews h1 (by unfold maxLen; omega) (Nat.le_trans (Nat.mul_le_mul_right _ hn) (by decide)) hbase
  unfold Oper.wp execOp
  simp only [ho, resolve, invoke, builtin, Sem.run_bind, Sem.run_pure, Result.andThen_ok, List.map_toArray, List.map_cons, List.map_nil, hs, hy, hr]
  exact h v' w' h2 h3 h4
theorem wpList_append_raw (hgd : o.guard = none) (s y : Operand) (ho : o.op = .call { callee := .builtin .append, args := #[s, y], argTypes := #[24, 24] })
    (base : Nat) (v : Value) (n : Nat) (xs : List Value) (g c : Nat) (cs : Array Value) (hs : a.eval s = v) (hy : a.eval y = .slice (some ⟨g, 0, none⟩) 1 c) (hown : w.ownsRow base 47 5 v n xs)
    (hlit : w.heap[g]? = some (.cells cs 47)) (hcs : cs.size = 5) (h1 : ∀ u ∈ cs.toList, u.oneCell' = true) (hn : n + 1 ≤ 100000000) (hbase : base ≤ w.heap.size)
    (h : ∀ v' w', w'.ownsRow base 47 5 v' (n + 1) (xs ++ cs.toList) → w.grownBy w' v.ownBlock → (v'.ownBlock = v.ownBlock ∨ v'.ownBlock = some w.heap.size) → wpList Tryd.prog ops Q rest (a.put o.dst v') w') : wpList Tryd.prog ops Q (o :: rest) a w :=
  wpList_plain hgd fun _ hK => wp_append_raw s y ho base v n xs g c cs hs hy hown hlit hcs h1 hn hbase fun v' w' h1 h2 h3 => hK _ _ (h v' w' h1 h2 h3)
theorem step_append_raw (hgd : o.guard = none) (s y : Operand) (ho : o.op = .call { callee := .builtin .append, args := #[s, y], argTypes := #[24, 24] })
    (base : Nat) (v : Value) (n : Nat) (xs : List Value) (g c : Nat) (cs : Array Value) (hs : a.eval s = v) (hy : a.eval y = .slice (some ⟨g, 0, none⟩) 1 c) (hown : w.ownsRow base 47 5 v n xs)
    (hlit : w.heap[g]? = some (.cells cs 47)) (hcs : cs.size = 5) (h1 : ∀ u ∈ cs.toList, u.oneCell' = true) (hn : n + 1 ≤ 100000000) (hbase : base ≤ w.heap.size)
    (h : ∀ v' w', w'.ownsRow base 47 5 v' (n + 1) (xs ++ cs.toList) → w.grownBy w' v.ownBlock → (v'.ownBlock = v.ownBlock ∨ v'.ownBlock = some w.heap.size) → K (a.put o.dst v') w') :
    if Region.wanted o (yielded ops a.tmps) = true then Oper.wp Tryd.prog o a w K Q else E := by
  have hw : Region.wanted o (yielded ops a.tmps) = true := by simp [Region.wanted, hgd]
  rw [if_pos hw]
  exact wp_append_raw s y ho base v n xs g c cs hs hy hown hlit hcs h1 hn hbase h
end

abbrev zeros5 : Array Value := #[.string ⟨#[]⟩, .string ⟨#[]⟩, .slice none 0 0, .slice none 0 0, .slice none 0 0]
/-- Five cells put at a place of a block. -/
def put5o (w : World) (g o : Nat) (v0 v1 v2 v3 v4 : Value) : World := ((((w.setCell ⟨g, o, none⟩ v0).setCell ⟨g, o + 1, none⟩ v1).setCell ⟨g, o + 2, none⟩ v2).setCell ⟨g, o + 3, none⟩ v3).setCell ⟨g, o + 4, none⟩ v4
theorem put5o_only (w : World) (g o : Nat) (v0 v1 v2 v3 v4 : Value) : OnlyR g w (put5o w g o v0 v1 v2 v3 v4) :=
  ((((OnlyR.set g o w v0).trans (OnlyR.set g (o + 1) _ v1)).trans (OnlyR.set g (o + 2) _ v2)).trans (OnlyR.set g (o + 3) _ v3)).trans (OnlyR.set g (o + 4) _ v4)
theorem put5o_size (w : World) (g o : Nat) (v0 v1 v2 v3 v4 : Value) : (put5o w g o v0 v1 v2 v3 v4).heap.size = w.heap.size := by simp [put5o, World.setCell]
theorem set_five (xs : List Value) (z0 z1 z2 z3 z4 a0 a1 a2 a3 a4 : Value) (o : Nat) (h : xs.length = o) :
    (((((xs ++ [z0, z1, z2, z3, z4]).set o a0).set (o + 1) a1).set (o + 2) a2).set (o + 3) a3).set (o + 4) a4 = xs ++ [a0, a1, a2, a3, a4] := by
  subst h
  have e : ∀ (ys : List Value) (j : Nat) (u : Value), (xs ++ ys).set (xs.length + j) u = xs ++ ys.set j u := fun ys j u => by
    rw [List.set_append_right _ _ (by omega)]
    rw [show xs.length + j - xs.length = j by omega]
  have e0 := e [z0, z1, z2, z3, z4] 0 a0
  rw [Nat.add_zero] at e0
  rw [e0, e, e, e, e]
  rfl
theorem own_put5 {w : World} {base G m c : Nat} {xs : List Value} {z0 z1 z2 z3 z4 : Value} (h : w.ownsRow base 47 5 (.slice (some ⟨G, 0, none⟩) (m + 1) c) (m + 1) (xs ++ [z0, z1, z2, z3, z4])) (hx : xs.length = m * 5) (a0 a1 a2 a3 a4 : Value) :
    (put5o w G (m * 5) a0 a1 a2 a3 a4).ownsRow base 47 5 (.slice (some ⟨G, 0, none⟩) (m + 1) c) (m + 1) (xs ++ [a0, a1, a2, a3, a4]) := by
  have h1 := (((((h.stored (m * 5) a0).1.stored (m * 5 + 1) a1).1.stored (m * 5 + 2) a2).1.stored (m * 5 + 3) a3).1.stored (m * 5 + 4) a4).1
  rw [set_five xs z0 z1 z2 z3 z4 a0 a1 a2 a3 a4 (m * 5) hx] at h1
  exact h1

theorem rd_ne_row {w : World} {R base : Nat} {l : List UInt8} {x : Bool} {v : Value} {n : Nat} {xs : List Value} (h : Rd w R l x) (ho : w.ownsRow base 47 5 v n xs) : ∀ g, v.ownBlock = some g → g ≠ R := by
  intro g hg e
  subst e
  rcases ho.2 with ⟨rfl, _⟩ | ⟨g', cap, cur, rfl, _, hh, _⟩
  · cases hg
  · have : g' = g := Option.some.inj hg
    subst this
    have h' : w.heap[g']? = some (.cells #[.string ⟨l.toArray⟩, .bool x] 90) := h
    rw [h'] at hh
    injection hh with hh; injection hh with _ hh _
    exact absurd hh (by decide)

/-- What lies in memory as a kid is appended to the innermost open node. -/
def KidMid (wr w : World) (own : Nat → Nat) (i R g : Nat) (cs : Array Value) (v : Value) (k : Tree) : Prop :=
  OnlyR R wr w ∧ (∃ S, Node w S v k ∧ ∀ b, S b → (Part wr own i b ∨ wr.heap.size ≤ b) ∧ b < w.heap.size ∧ b ≠ g) ∧ w.heap[g]? = some (.cells cs 47) ∧ wr.heap.size ≤ g

/-- The end of a round in which a kid came. -/
theorem kid_fin {wr w w' w4 : World} {base : Nat} {own : Nat → Nat} {O cap R g : Nat} {top : Tree} {st : List Tree} {vm va vk vk' : Value} {ys ks : List Value} {cs : Array Value} {k : Tree} {k2 k3 k4 : Value}
    (hop : OpenAt wr base own st.length vm va vk top) (hrow : wr.ownsRow base 47 5 (.slice (some ⟨O, 0, none⟩) (st.length + 1) cap) (st.length + 1) (ys ++ [.string top.kind, .string top.text, vm, va, vk]))
    (hoc : OC wr base own 0 st.reverse ys) (hys : ys.length = st.length * 5) (hO : own O = 0) (hOz : O < wr.heap.size) (hz : ∀ b, wr.heap.size ≤ b → own b = 0)
    (hR : own R = 0) (hOR : O ≠ R)
    (hmid : KidMid wr w own st.length R g cs (.agg #[.string k.kind, .string k.text, k2, k3, k4]) k)
    (hks : Cells wr (Part wr own st.length) top.kids ks)
    (hg : w.grownBy w' vk.ownBlock) (hat : vk'.ownBlock = vk.ownBlock ∨ vk'.ownBlock = some w.heap.size)
    (hsz : w4.heap.size = w'.heap.size) (hkeep : ∀ b, b < w'.heap.size → b ≠ O → some b ≠ vk'.ownBlock → w4.heap[b]? = w'.heap[b]?)
    (hO4 : w4.heap[O]? = (w'.setCell ⟨O, st.length * 5 + 4, none⟩ vk').heap[O]?)
    (hk4 : w4.ownsRow base 47 5 vk' (top.kids.length + 1) (ks ++ [.string k.kind, .string k.text, k2, k3, k4])) :
    ∃ own', Opens w4 base own' (.slice (some ⟨O, 0, none⟩) (st.length + 1) cap) (addKid top k :: st) ∧ ∀ b, b < wr.heap.size → own' b = own b := by
  obtain ⟨mo, ⟨S, mn, mS⟩, m3, m4⟩ := hmid
  have m1 := mo.size
  have m2 := mo.block
  have hvk : ∀ b, vk.ownBlock = some b → own b = 2 * st.length + 2 := hop.2.2.2
  have hvlt : ∀ b, vk.ownBlock = some b → b < wr.heap.size := fun b hb => (hop.2.2.1.lt b hb).2
  have hOvk : some O ≠ vk.ownBlock := fun e => by have := hvk O e.symm; omega
  have hvk' : ∀ b, b < wr.heap.size → vk'.ownBlock = some b → vk.ownBlock = some b := fun b hb e => by
    rcases hat with h | h
    · rw [← h]; exact e
    · rw [h] at e; have := Option.some.inj e; omega
  -- blocks of old but R, O and the kids' row
  have hall : ∀ b, b < wr.heap.size → own b ≠ 0 → some b ≠ vk.ownBlock → w4.heap[b]? = wr.heap[b]? := fun b hb h0 hv => by
    have hbO : b ≠ O := fun e => h0 (by rw [e]; exact hO)
    have hbR : b ≠ R := fun e => h0 (by rw [e]; exact hR)
    rw [hkeep b (by have := hg.size; omega) hbO fun e => hv (hvk' b hb e.symm).symm, hg.block b (by omega) hv, m2 b hb hbR]
  have hO' : w'.heap[O]? = wr.heap[O]? := by rw [hg.block O (by omega) hOvk, m2 O hOz hOR]
  obtain ⟨cur, hcur⟩ : ∃ cur, wr.heap[O]? = some (.cells cur 47) := by
    rcases hrow.2 with ⟨h1, _⟩ | ⟨g', c, cur, h1, _, h3, _⟩
    · cases h1
    · injection h1 with a1 _ _
      injection a1 with a1
      injection a1 with a1
      subst a1
      exact ⟨cur, h3⟩
  have hOset : w4.heap[O]? = (wr.setCell ⟨O, st.length * 5 + 4, none⟩ vk').heap[O]? := by
    rw [hO4, heap_setCell_same w' O _ cur _ vk' (hO'.trans hcur), heap_setCell_same wr O _ cur _ vk' hcur]
  have hSw : ∀ b, S b → w4.heap[b]? = w.heap[b]? := fun b hb => by
    obtain ⟨h1, h2, h3⟩ := mS b hb
    have hbO : b ≠ O := by
      rcases h1 with h1 | h1
      · intro e; subst e; have := h1.2; omega
      · omega
    have hbv : some b ≠ vk.ownBlock := by
      rcases h1 with h1 | h1
      · intro e; have := hvk b e.symm; have := h1.2; omega
      · intro e; have := hvlt b e.symm; omega
    have hbv' : some b ≠ vk'.ownBlock := by
      rcases hat with h | h
      · rw [h]; exact hbv
      · rw [h]; intro e; have := Option.some.inj e; omega
    rw [hkeep b (by have := hg.size; omega) hbO hbv', hg.block b h2 hbv]
  have hPw : ∀ b, Part wr own st.length b → w4.heap[b]? = wr.heap[b]? := fun b hb => hall b hb.1 (by rw [hb.2]; omega) fun e => by
    have := hvk b e.symm; have := hb.2; omega
  obtain ⟨um, ua, uk, ue, n1, n2, n3⟩ := mn
  injection ue with ue
  have ue2 : k2 = um ∧ k3 = ua ∧ k4 = uk := by simpa using ue
  obtain ⟨rfl, rfl, rfl⟩ := ue2
  refine Opens.pushKid hop hrow hoc hys hO hOz hz k vk' _ (fun b => Part wr own st.length b ∨ S b) (by have := hg.size; omega) hall hOset hk4 ((hks.keep (fun _ h => .inl h) hPw).append (Cells.one (n1.keep (fun _ h => .inr h) hSw) (n2.keep (fun _ h => .inr h) hSw) (n3.keep (fun _ h => .inr h) hSw))) (fun b e => ?_) fun b hb => ?_
  · rcases hat with h | h
    · exact .inl (by rw [← h]; exact e)
    · rw [h] at e; exact .inr (by have := Option.some.inj e; omega)
  · have hb2 : (Part wr own st.length b ∨ wr.heap.size ≤ b) ∧ b < w.heap.size := by
      rcases hb with hb | hb
      · exact ⟨.inl hb, by have := hb.1; omega⟩
      · exact ⟨(mS b hb).1, (mS b hb).2.1⟩
    refine ⟨?_, fun e => ?_⟩
    · rcases hb2.1 with h | h
      · exact .inl h
      · exact .inr ⟨h, by have := hb2.2; have := hg.size; omega⟩
    · rcases hat with h | h
      · rw [h] at e
        rcases hb2.1 with h1 | h1
        · have := hvk b e.symm; have := h1.2; omega
        · have := hvlt b e.symm; omega
      · rw [h] at e; have := Option.some.inj e; have := hb2.2; omega

/-- All that a round begins with. -/
structure Stage (w0 wr : World) (own : Nat → Nat) (O cap R : Nat) (top : Tree) (st : List Tree) (vm va vk : Value) (ys ks : List Value) : Prop where
  op : OpenAt wr w0.heap.size own st.length vm va vk top
  row : wr.ownsRow w0.heap.size 47 5 (.slice (some ⟨O, 0, none⟩) (st.length + 1) cap) (st.length + 1) (ys ++ [.string top.kind, .string top.text, vm, va, vk])
  oc : OC wr w0.heap.size own 0 st.reverse ys
  ysl : ys.length = st.length * 5
  oO : own O = 0
  Ob : w0.heap.size ≤ O
  Oz : O < wr.heap.size
  z : ∀ b, wr.heap.size ≤ b → own b = 0
  oR : own R = 0
  OR : O ≠ R
  ob : ∀ b, b < w0.heap.size → own b = 0
  B : Below w0.heap.size w0 wr
  bR : w0.heap.size ≤ R
  Rz : R < wr.heap.size
  kc : Cells wr (Part wr own st.length) top.kids ks
  kr : wr.ownsRow w0.heap.size 47 5 vk top.kids.length ks
/-- What a round ends with. -/
def Ready (w0 W : World) (R : Nat) (v : Value) (st : List Tree) (l : List UInt8) (x : Bool) : Prop :=
  ∃ own', Opens W w0.heap.size own' v st ∧ own' R = 0 ∧ (∀ b, b < w0.heap.size → own' b = 0) ∧ Rd W R l x ∧ Below w0.heap.size w0 W

section
variable {w0 wr w w3 : World} {own : Nat → Nat} {O cap R g G c3 : Nat} {top : Tree} {st : List Tree} {vm va vk k2 k3 k4 : Value} {ys ks : List Value} {cs : Array Value} {k : Tree} {l : List UInt8} {x : Bool}
theorem Stage.vkR (S : Stage w0 wr own O cap R top st vm va vk ys ks) : ∀ b, vk.ownBlock = some b → b ≠ R ∧ b ≠ O ∧ b < wr.heap.size ∧ w0.heap.size ≤ b := fun b e => by
  have h1 := S.op.2.2.2 b e
  have h2 := S.oR
  have h3 := S.oO
  have h4 := S.kr.lt b e
  refine ⟨?_, ?_, h4.2, h4.1⟩
  · intro h; subst h; omega
  · intro h; subst h; omega
theorem Stage.kids (S : Stage w0 wr own O cap R top st vm va vk ys ks) (o : OnlyR R wr w) : w.ownsRow w0.heap.size 47 5 vk top.kids.length ks :=
  ownsRow_block S.kr fun b e => o.block b (S.vkR b e).2.2.1 (S.vkR b e).1
theorem Stage.cellO (S : Stage w0 wr own O cap R top st vm va vk ys ks) (o : OnlyR R wr w) : w.cell? ⟨O, st.length * 5 + 4, none⟩ = some vk := by
  rw [World.cell?_of_block (a := ⟨O, st.length * 5 + 4, none⟩) (o.block O S.Oz S.OR), S.row.cellAt _ (by omega), List.getElem?_append_right (by rw [S.ysl]; omega), S.ysl, show st.length * 5 + 4 - st.length * 5 = 4 by omega]; rfl
theorem Stage.blockO (S : Stage w0 wr own O cap R top st vm va vk ys ks) (o : OnlyR R wr w) (hg : w.grownBy w3 vk.ownBlock) : w3.heap[O]? = wr.heap[O]? :=
  (hg.block O (Nat.lt_of_lt_of_le S.Oz o.size) fun e => (S.vkR O e.symm).2.1 rfl).trans (o.block O S.Oz S.OR)
theorem Stage.frozenO (S : Stage w0 wr own O cap R top st vm va vk ys ks) (h : w3.heap[O]? = wr.heap[O]?) : w3.frozen? ⟨O, st.length * 5 + 4, none⟩ = false :=
  (World.frozen?_of_block (a := ⟨O, st.length * 5 + 4, none⟩) h).trans (S.row.frozenAt _)
theorem Stage.neG (S : Stage w0 wr own O cap R top st vm va vk ys ks) (o : OnlyR R wr w) (hat : (some G : Option Nat) = vk.ownBlock ∨ (some G : Option Nat) = some w.heap.size) : G ≠ O ∧ G ≠ R ∧ w0.heap.size ≤ G := by
  have h1 := S.Oz
  have h2 := S.Rz
  have h3 := o.size
  have h4 := S.B.size
  rcases hat with h | h
  · have := S.vkR G h.symm; exact ⟨this.2.1, this.1, this.2.2.2⟩
  · have := Option.some.inj h; omega
/-- The end, whatever the order of the stores. -/
theorem Stage.fin (S : Stage w0 wr own O cap R top st vm va vk ys ks) (hmid : KidMid wr w own st.length R g cs (.agg #[.string k.kind, .string k.text, k2, k3, k4]) k) (hr : Rd w R l x)
    (hg : w.grownBy w3 vk.ownBlock) (hat : (some G : Option Nat) = vk.ownBlock ∨ (some G : Option Nat) = some w.heap.size) {w4 : World}
    (hsz : w4.heap.size = w3.heap.size) (hkeep : ∀ b, b ≠ O → b ≠ G → w4.heap[b]? = w3.heap[b]?) (hos : w4.os = w3.os) (htp : w4.tape = w3.tape) (hout : w4.output = w3.output)
    (hO4 : w4.heap[O]? = (w3.setCell ⟨O, st.length * 5 + 4, none⟩ (.slice (some ⟨G, 0, none⟩) (top.kids.length + 1) c3)).heap[O]?)
    (hk4 : w4.ownsRow w0.heap.size 47 5 (.slice (some ⟨G, 0, none⟩) (top.kids.length + 1) c3) (top.kids.length + 1) (ks ++ [.string k.kind, .string k.text, k2, k3, k4])) :
    Ready w0 w4 R (.slice (some ⟨O, 0, none⟩) (st.length + 1) cap) (addKid top k :: st) l x := by
  have o := hmid.1
  obtain ⟨n1, n2, n3⟩ := S.neG o hat
  obtain ⟨own', h1, h2⟩ := kid_fin (vk' := .slice (some ⟨G, 0, none⟩) (top.kids.length + 1) c3) S.op S.row S.oc S.ysl S.oO S.Oz S.z S.oR S.OR hmid S.kc hg hat hsz (fun b _ h1 h2 => hkeep b h1 fun e => h2 (by rw [e]; rfl)) hO4 hk4
  have hRw : R < w.heap.size := hr.lt
  have hb3 : w3.heap[R]? = w.heap[R]? := hg.block R hRw fun e => (S.vkR R e.symm).1 rfl
  refine ⟨own', h1, by rw [h2 R S.Rz]; exact S.oR, fun b hb => by rw [h2 b (Nat.lt_of_lt_of_le hb S.B.size)]; exact S.ob b hb, ?_, ?_⟩
  · show w4.heap[R]? = _
    rw [hkeep R (Ne.symm S.OR) (Ne.symm n2), hb3]; exact hr
  · have hB1 : Below w0.heap.size w0 w := S.B.trans (o.below S.bR S.B.size)
    refine hB1.trans ⟨hos.trans hg.os, htp.trans hg.tape, hout.trans hg.output, by rw [hsz]; exact hg.size, fun b hb => ?_⟩
    rw [hkeep b (by have := S.Ob; omega) (by omega)]
    exact hg.block b (Nat.lt_of_lt_of_le hb hB1.size) fun e => by have := S.vkR b e.symm; omega
/-- The node put behind the row, then the row put in its place. -/
theorem Stage.gc (S : Stage w0 wr own O cap R top st vm va vk ys ks) (hmid : KidMid wr w own st.length R g zeros5 (.agg #[.string k.kind, .string k.text, k2, k3, k4]) k) (hr : Rd w R l x)
    (hg : w.grownBy w3 vk.ownBlock) (hat : (some G : Option Nat) = vk.ownBlock ∨ (some G : Option Nat) = some w.heap.size)
    (ho : w3.ownsRow w0.heap.size 47 5 (.slice (some ⟨G, 0, none⟩) (top.kids.length + 1) c3) (top.kids.length + 1) (ks ++ zeros5.toList)) :
    Ready w0 ((put5o w3 G (top.kids.length * 5) (.string k.kind) (.string k.text) k2 k3 k4).setCell ⟨O, st.length * 5 + 4, none⟩ (.slice (some ⟨G, 0, none⟩) (top.kids.length + 1) c3)) R (.slice (some ⟨O, 0, none⟩) (st.length + 1) cap) (addKid top k :: st) l x := by
  obtain ⟨n1, n2, n3⟩ := S.neG hmid.1 hat
  have p := put5o_only w3 G (top.kids.length * 5) (.string k.kind) (.string k.text) k2 k3 k4
  have hO3 := S.blockO hmid.1 hg
  have hpO := p.block O (by have := S.Oz; have := hmid.1.size; have := hg.size; omega) (Ne.symm n1)
  have hp := own_put5 ho S.kc.length (.string k.kind) (.string k.text) k2 k3 k4
  have hps := put5o_size w3 G (top.kids.length * 5) (.string k.kind) (.string k.text) k2 k3 k4
  obtain ⟨cur, hcur⟩ : ∃ cur, wr.heap[O]? = some (.cells cur 47) := by
    rcases S.row.2 with ⟨h1, _⟩ | ⟨g', c, cur, h1, _, h3, _⟩
    · cases h1
    · injection h1 with a1 _ _
      injection a1 with a1
      injection a1 with a1
      subst a1
      exact ⟨cur, h3⟩
  generalize put5o w3 G (top.kids.length * 5) (.string k.kind) (.string k.text) k2 k3 k4 = W' at *
  have hother : ∀ b, b ≠ G → W'.heap[b]? = w3.heap[b]? := fun b hb => by
    by_cases hlt : b < w3.heap.size
    · exact p.block b hlt hb
    · rw [Array.getElem?_eq_none (by omega), Array.getElem?_eq_none (by omega)]
  have q := OnlyR.set O (st.length * 5 + 4) W' (.slice (some ⟨G, 0, none⟩) (top.kids.length + 1) c3)
  have hq4 := heap_setCell_same W' O (st.length * 5 + 4) cur _ (.slice (some ⟨G, 0, none⟩) (top.kids.length + 1) c3) (hpO.trans (hO3.trans hcur))
  have hq5 := heap_setCell_same w3 O (st.length * 5 + 4) cur _ (.slice (some ⟨G, 0, none⟩) (top.kids.length + 1) c3) (hO3.trans hcur)
  have hqz : (W'.setCell ⟨O, st.length * 5 + 4, none⟩ (.slice (some ⟨G, 0, none⟩) (top.kids.length + 1) c3)).heap.size = W'.heap.size := by simp [World.setCell]
  have hqo : ∀ b, b ≠ O → (W'.setCell ⟨O, st.length * 5 + 4, none⟩ (.slice (some ⟨G, 0, none⟩) (top.kids.length + 1) c3)).heap[b]? = W'.heap[b]? := fun b hb => Below.heap_setCell _ _ _ _ hb
  have hqr : (W'.setCell ⟨O, st.length * 5 + 4, none⟩ (.slice (some ⟨G, 0, none⟩) (top.kids.length + 1) c3)).ownsRow w0.heap.size 47 5 (.slice (some ⟨G, 0, none⟩) (top.kids.length + 1) c3) (top.kids.length + 1) (ks ++ [.string k.kind, .string k.text, k2, k3, k4]) :=
    ownsRow_block hp fun b e => hqo b (by have := Option.some.inj e; subst this; exact n1)
  generalize W'.setCell ⟨O, st.length * 5 + 4, none⟩ (.slice (some ⟨G, 0, none⟩) (top.kids.length + 1) c3) = W4 at *
  exact S.fin hmid hr hg hat (by omega) (fun b h1 h2 => (hqo b h1).trans (hother b h2)) (q.os.trans p.os) (q.tape.trans p.tape) (q.output.trans p.output) (hq4.trans hq5.symm) hqr
/-- The row put in its place, then the node put behind it. -/
theorem Stage.text (S : Stage w0 wr own O cap R top st vm va vk ys ks) (hmid : KidMid wr w own st.length R g zeros5 (.agg #[.string k.kind, .string k.text, k2, k3, k4]) k) (hr : Rd w R l x)
    (hg : w.grownBy w3 vk.ownBlock) (hat : (some G : Option Nat) = vk.ownBlock ∨ (some G : Option Nat) = some w.heap.size)
    (ho : w3.ownsRow w0.heap.size 47 5 (.slice (some ⟨G, 0, none⟩) (top.kids.length + 1) c3) (top.kids.length + 1) (ks ++ zeros5.toList)) :
    Ready w0 (put5o (w3.setCell ⟨O, st.length * 5 + 4, none⟩ (.slice (some ⟨G, 0, none⟩) (top.kids.length + 1) c3)) G (top.kids.length * 5) (.string k.kind) (.string k.text) k2 k3 k4) R (.slice (some ⟨O, 0, none⟩) (st.length + 1) cap) (addKid top k :: st) l x := by
  obtain ⟨n1, n2, n3⟩ := S.neG hmid.1 hat
  have ho' : (w3.setCell ⟨O, st.length * 5 + 4, none⟩ (.slice (some ⟨G, 0, none⟩) (top.kids.length + 1) c3)).ownsRow w0.heap.size 47 5 (.slice (some ⟨G, 0, none⟩) (top.kids.length + 1) c3) (top.kids.length + 1) (ks ++ zeros5.toList) :=
    ownsRow_block ho fun b e => Below.heap_setCell _ _ _ _ (by have := Option.some.inj e; subst this; exact n1)
  have hz3 : (w3.setCell ⟨O, st.length * 5 + 4, none⟩ (.slice (some ⟨G, 0, none⟩) (top.kids.length + 1) c3)).heap.size = w3.heap.size := by simp [World.setCell]
  have hoth : ∀ b, b ≠ O → (w3.setCell ⟨O, st.length * 5 + 4, none⟩ (.slice (some ⟨G, 0, none⟩) (top.kids.length + 1) c3)).heap[b]? = w3.heap[b]? := fun b hb => Below.heap_setCell _ _ _ _ hb
  have hOz : O < w3.heap.size := by have := S.Oz; have := hmid.1.size; have := hg.size; omega
  have hot : (w3.setCell ⟨O, st.length * 5 + 4, none⟩ (.slice (some ⟨G, 0, none⟩) (top.kids.length + 1) c3)).os = w3.os ∧ (w3.setCell ⟨O, st.length * 5 + 4, none⟩ (.slice (some ⟨G, 0, none⟩) (top.kids.length + 1) c3)).tape = w3.tape ∧ (w3.setCell ⟨O, st.length * 5 + 4, none⟩ (.slice (some ⟨G, 0, none⟩) (top.kids.length + 1) c3)).output = w3.output := ⟨rfl, rfl, rfl⟩
  have key : ∀ W' : World, W' = w3.setCell ⟨O, st.length * 5 + 4, none⟩ (.slice (some ⟨G, 0, none⟩) (top.kids.length + 1) c3) → Ready w0 (put5o W' G (top.kids.length * 5) (.string k.kind) (.string k.text) k2 k3 k4) R (.slice (some ⟨O, 0, none⟩) (st.length + 1) cap) (addKid top k :: st) l x := by
    intro W' hW'
    rw [← hW'] at ho' hz3 hoth hot
    have p := put5o_only W' G (top.kids.length * 5) (.string k.kind) (.string k.text) k2 k3 k4
    have hp := own_put5 ho' S.kc.length (.string k.kind) (.string k.text) k2 k3 k4
    have hps := put5o_size W' G (top.kids.length * 5) (.string k.kind) (.string k.text) k2 k3 k4
    refine S.fin hmid hr hg hat (by rw [hps, hz3]) (fun b h1 h2 => ?_) (p.os.trans hot.1) (p.tape.trans hot.2.1) (p.output.trans hot.2.2) ?_ hp
    · by_cases hlt : b < W'.heap.size
      · exact (p.block b hlt h2).trans (hoth b h1)
      · rw [Array.getElem?_eq_none (by omega), Array.getElem?_eq_none (by omega)]
    · rw [p.block O (by omega) (Ne.symm n1), hW']
  exact key _ rfl
/-- The row put in its place, the node in it already. -/
theorem Stage.plain (S : Stage w0 wr own O cap R top st vm va vk ys ks) (hmid : KidMid wr w own st.length R g cs (.agg #[.string k.kind, .string k.text, k2, k3, k4]) k) (hr : Rd w R l x)
    (hg : w.grownBy w3 vk.ownBlock) (hat : (some G : Option Nat) = vk.ownBlock ∨ (some G : Option Nat) = some w.heap.size)
    (ho : w3.ownsRow w0.heap.size 47 5 (.slice (some ⟨G, 0, none⟩) (top.kids.length + 1) c3) (top.kids.length + 1) (ks ++ [.string k.kind, .string k.text, k2, k3, k4])) :
    Ready w0 (w3.setCell ⟨O, st.length * 5 + 4, none⟩ (.slice (some ⟨G, 0, none⟩) (top.kids.length + 1) c3)) R (.slice (some ⟨O, 0, none⟩) (st.length + 1) cap) (addKid top k :: st) l x := by
  obtain ⟨n1, n2, n3⟩ := S.neG hmid.1 hat
  refine S.fin hmid hr hg hat (by simp [World.setCell]) (fun b h1 _ => Below.heap_setCell _ _ _ _ h1) rfl rfl rfl rfl ?_
  exact ownsRow_block ho fun b e => Below.heap_setCell _ _ _ _ (by have := Option.some.inj e; subst this; exact n1)
end

section
variable {w0 wr w w3 : World} {own : Nat → Nat} {O cap R g G c3 : Nat} {top : Tree} {st : List Tree} {vm va vk k2 k3 k4 : Value} {ys ks : List Value} {k : Tree} {l : List UInt8} {x : Bool}
theorem Stage.gcX (S : Stage w0 wr own O cap R top st vm va vk ys ks) (hmid : KidMid wr w own st.length R g zeros5 (.agg #[.string k.kind, .string k.text, k2, k3, k4]) k) (hr : Rd w R l x)
    (hg : w.grownBy w3 vk.ownBlock) (hat : (some G : Option Nat) = vk.ownBlock ∨ (some G : Option Nat) = some w.heap.size)
    (ho : w3.ownsRow w0.heap.size 47 5 (.slice (some ⟨G, 0, none⟩) (top.kids.length + 1) c3) (top.kids.length + 1) (ks ++ zeros5.toList)) :
    Ready w0 ((((((w3.setCell ⟨G, top.kids.length * 5, none⟩ (.string k.kind)).setCell ⟨G, top.kids.length * 5 + 1, none⟩ (.string k.text)).setCell ⟨G, top.kids.length * 5 + 2, none⟩ k2).setCell ⟨G, top.kids.length * 5 + 3, none⟩ k3).setCell ⟨G, top.kids.length * 5 + 4, none⟩ k4).setCell ⟨O, st.length * 5 + 4, none⟩ (.slice (some ⟨G, 0, none⟩) (top.kids.length + 1) c3)) R (.slice (some ⟨O, 0, none⟩) (st.length + 1) cap) (addKid top k :: st) l x :=
  S.gc hmid hr hg hat ho
theorem Stage.textX (S : Stage w0 wr own O cap R top st vm va vk ys ks) (hmid : KidMid wr w own st.length R g zeros5 (.agg #[.string k.kind, .string k.text, k2, k3, k4]) k) (hr : Rd w R l x)
    (hg : w.grownBy w3 vk.ownBlock) (hat : (some G : Option Nat) = vk.ownBlock ∨ (some G : Option Nat) = some w.heap.size)
    (ho : w3.ownsRow w0.heap.size 47 5 (.slice (some ⟨G, 0, none⟩) (top.kids.length + 1) c3) (top.kids.length + 1) (ks ++ zeros5.toList)) :
    Ready w0 ((((((w3.setCell ⟨O, st.length * 5 + 4, none⟩ (.slice (some ⟨G, 0, none⟩) (top.kids.length + 1) c3)).setCell ⟨G, top.kids.length * 5, none⟩ (.string k.kind)).setCell ⟨G, top.kids.length * 5 + 1, none⟩ (.string k.text)).setCell ⟨G, top.kids.length * 5 + 2, none⟩ k2).setCell ⟨G, top.kids.length * 5 + 3, none⟩ k3).setCell ⟨G, top.kids.length * 5 + 4, none⟩ k4) R (.slice (some ⟨O, 0, none⟩) (st.length + 1) cap) (addKid top k :: st) l x :=
  S.text hmid hr hg hat ho
theorem hat_form {G n c : Nat} {X Y : Option Nat} (h : (Value.slice (some ⟨G, 0, none⟩) n c).ownBlock = X ∨ (Value.slice (some ⟨G, 0, none⟩) n c).ownBlock = Y) : (some G : Option Nat) = X ∨ (some G : Option Nat) = Y := h
end

theorem mid_after {wr W w2 : World} {own : Nat → Nat} {i R : Nat} {v : Value} {k : Tree} (hW : W.heap = wr.heap) (ho : OnlyR R wr W) (hn : Node w2 (From W.heap.size w2.heap.size) v k) (o : OnlyR R W w2) (cs : Array Value) :
    KidMid wr (w2.alloc (.cells cs 47)) own i R w2.heap.size cs v k := by
  have hb : Below w2.heap.size w2 (w2.alloc (.cells cs 47)) := (Below.refl _ _).alloc (Nat.le_refl _) _
  have hz : (w2.alloc (.cells cs 47)).heap.size = w2.heap.size + 1 := by simp
  have ho2 := ho.trans o
  refine ⟨ho2.thenBelow hb ho2.size, ⟨From W.heap.size w2.heap.size, hn.keep (fun _ h => h) fun b hb' => hb.block b hb'.2, fun b hb' => ⟨.inr (by rw [← hW]; exact hb'.1), by have := hb'.2; omega, by have := hb'.2; omega⟩⟩, heap_alloc_new _ _, ho2.size⟩
theorem mid_before {wr W w2 : World} {own : Nat → Nat} {i R : Nat} {v : Value} {k : Tree} {cs : Array Value} (hW : W.heap = (wr.alloc (.cells cs 47)).heap) (hos : W.os = wr.os) (htp : W.tape = wr.tape) (hou : W.output = wr.output) (hR : R < wr.heap.size) (hn : Node w2 (From W.heap.size w2.heap.size) v k) (o : OnlyR R W w2) :
    KidMid wr w2 own i R wr.heap.size cs v k := by
  have hz : W.heap.size = wr.heap.size + 1 := by rw [hW]; simp
  have ho : OnlyR R wr W := ⟨hos, htp, hou, by omega, fun b hb _ => by rw [hW]; exact ((Below.refl wr.heap.size wr).alloc (Nat.le_refl _) (.cells cs 47)).block b hb⟩
  refine ⟨ho.trans o, ⟨From W.heap.size w2.heap.size, hn, fun b hb' => ⟨.inr (by have := hb'.1; omega), hb'.2, by have := hb'.1; omega⟩⟩, ?_, by omega⟩
  rw [o.block _ (by omega) (by omega), hW]; exact heap_alloc_new _ _
theorem mid_after2 {wr W w2 : World} {own : Nat → Nat} {i R : Nat} {v : Value} {k : Tree} (ho : OnlyR R wr W) (hn : Node w2 (Part wr own i) v k) (o : OnlyR R W w2) (cs : Array Value) :
    KidMid wr (w2.alloc (.cells cs 47)) own i R w2.heap.size cs v k := by
  have hb : Below w2.heap.size w2 (w2.alloc (.cells cs 47)) := (Below.refl _ _).alloc (Nat.le_refl _) _
  have hz : (w2.alloc (.cells cs 47)).heap.size = w2.heap.size + 1 := by simp
  have ho2 := ho.trans o
  have hs := ho2.size
  refine ⟨ho2.thenBelow hb ho2.size, ⟨Part wr own i, hn.keep (fun _ h => h) fun b hb' => hb.block b (by have := hb'.1; omega), fun b hb' => ⟨.inl hb', by have := hb'.1; omega, by have := hb'.1; omega⟩⟩, heap_alloc_new _ _, ho2.size⟩
theorem mid_before2 {wr W w2 : World} {own : Nat → Nat} {i R : Nat} {v : Value} {k : Tree} {cs : Array Value} (hW : W.heap = (wr.alloc (.cells cs 47)).heap) (hos : W.os = wr.os) (htp : W.tape = wr.tape) (hou : W.output = wr.output) (hR : R < wr.heap.size) (hn : Node w2 (Part wr own i) v k) (o : OnlyR R W w2) :
    KidMid wr w2 own i R wr.heap.size cs v k := by
  have hz : W.heap.size = wr.heap.size + 1 := by rw [hW]; simp
  have ho : OnlyR R wr W := ⟨hos, htp, hou, by omega, fun b hb _ => by rw [hW]; exact ((Below.refl wr.heap.size wr).alloc (Nat.le_refl _) (.cells cs 47)).block b hb⟩
  have hs := o.size
  refine ⟨ho.trans o, ⟨Part wr own i, hn, fun b hb' => ⟨.inl hb', by have := hb'.1; omega, by have := hb'.1; omega⟩⟩, ?_, by omega⟩
  rw [o.block _ (by omega) (by omega), hW]; exact heap_alloc_new _ _
/-- The end of a round in which a node was opened. -/
theorem ready_open {w0 wr w w3 : World} {own : Nat → Nat} {R g : Nat} {v v' va : Value} {st : List Tree} {xs : List Value} {k : Tree} {l : List UInt8} {x : Bool} {S : Nat → Prop}
    (hO : Opens wr w0.heap.size own v st) (hrow : wr.ownsRow w0.heap.size 47 5 v st.length xs) (hoc : OC wr w0.heap.size own 0 st.reverse xs) (hR : own R = 0) (hob : ∀ b, b < w0.heap.size → own b = 0) (hB : Below w0.heap.size w0 wr) (hbR : w0.heap.size ≤ R) (hvR : ∀ b, v.ownBlock = some b → b ≠ R) (hRz : R < wr.heap.size)
    (o : OnlyR R wr w) (hr : Rd w R l x) (hva : Pairs w S va k.attrs) (hS : ∀ b, S b → wr.heap.size ≤ b ∧ b < w.heap.size ∧ b ≠ g) (hkm : k.marks = []) (hkk : k.kids = [])
    (h3 : w3.ownsRow w0.heap.size 47 5 v' (st.length + 1) (xs ++ [.string k.kind, .string k.text, .slice none 0 0, va, .slice none 0 0])) (hg : w.grownBy w3 v.ownBlock) (hat : v'.ownBlock = v.ownBlock ∨ v'.ownBlock = some w.heap.size) :
    Ready w0 w3 R v' (k :: st) l x := by
  have hvb : ∀ b, v.ownBlock = some b → w0.heap.size ≤ b ∧ b < wr.heap.size := hrow.lt
  have hsz := o.size
  have hgz := hg.size
  have hblk : ∀ b, b < wr.heap.size → b ≠ R → some b ≠ v.ownBlock → w3.heap[b]? = wr.heap[b]? := fun b hb h1 h2 => (hg.block b (by omega) h2).trans (o.block b hb h1)
  have hvb' : ∀ b, S b → some b ≠ v.ownBlock := fun b hb e => by have := hvb b e.symm; have := hS b hb; omega
  obtain ⟨own', h1, h2⟩ := Opens.pushOpen (v := v) (k := k) (w4 := w3) hoc hO.2.1 hO.2.2 (by omega) (fun b hb h0 => hblk b hb (fun e => h0 (by rw [e]; exact hR)) fun e => h0 (hO.2.1 b e.symm)) h3 hkm hkk S (hva.keep (fun _ h => h) fun b hb => hg.block b (hS b hb).2.1 (hvb' b hb))
    (fun b hb => ⟨⟨(hS b hb).1, by have := (hS b hb).2.1; omega⟩, fun e => by
      rcases hat with h | h
      · rw [h] at e; exact hvb' b hb e
      · rw [h] at e; have := Option.some.inj e; have := (hS b hb).2.1; omega⟩)
    (fun b e => by
      rcases hat with h | h
      · exact .inl (by rw [← h]; exact e)
      · rw [h] at e; exact .inr (by have := Option.some.inj e; omega))
  refine ⟨own', h1, by rw [h2 R hRz]; exact hR, fun b hb => by rw [h2 b (Nat.lt_of_lt_of_le hb hB.size)]; exact hob b hb, ?_, ?_⟩
  · show w3.heap[R]? = _
    rw [hg.block R hr.lt fun e => hvR R e.symm rfl]; exact hr
  · have hB1 : Below w0.heap.size w0 w := hB.trans (o.below hbR hB.size)
    exact hB1.trans ⟨hg.os, hg.tape, hg.output, hg.size, fun b hb => hg.block b (Nat.lt_of_lt_of_le hb hB1.size) fun e => by have := hvb b e.symm; omega⟩
end Go.Proofs.YtaepolgmojkglaaDoor

namespace Go.Proofs.YtaepolgmojkglaaDoor
open Go.RowKit Go.Sort Go.Maps

set_option maxHeartbeats 1000000 in
theorem around_any (A : Option Addr) (n c : Nat) (w : World) :
    Calls Tryd.prog 42 #[.slice A n c] w fun e w' => e = .returned (.agg #[.string ⟨#[120]⟩, .string ⟨#[]⟩, .slice none 0 0, .slice none 0 0, .slice A n c]) ∧ Below w.heap.size w w' := by
  have hb : Below w.heap.size w (w.alloc (.cells #[.string ⟨#[120]⟩, .string ⟨#[]⟩, .slice none 0 0, .slice none 0 0, .slice A n c] 47)) := (Below.refl _ _).alloc (Nat.le_refl _) _
  have hq := heap_alloc_new w (.cells #[.string ⟨#[120]⟩, .string ⟨#[]⟩, .slice none 0 0, .slice none 0 0, .slice A n c] 47)
  have HB := Lib.hid hb
  have HQ := Lib.hid hq
  clear hb hq
  go_enter Tryd.func42, Tryd.ntmps42
  go_wp2
  obtain ⟨q0, q1, q2, q3, q4⟩ := five_cells HQ.out
  exact bodyPost_ret (v := .agg #[.string ⟨#[120]⟩, .string ⟨#[]⟩, .slice none 0 0, .slice none 0 0, .slice A n c]) (by simp [results, Tryd.results42, go_sem, q0, q1, q2, q3, q4]) rfl ⟨rfl, HB.out⟩

/-- What a round of the reader holds: so many rounds are left at most. -/
def ReadRel (w0 : World) (R : Nat) (s : List UInt8) (g : Nat) (v : Value) (wx : World) : Prop :=
  ∃ own top st l x, l.length ≤ g ∧ readN g l x (top :: st) = readN s.length s false [around []] ∧ weighAll (top :: st) + 8 * l.length ≤ 8 * s.length + 3 ∧
    Rd wx R l x ∧ Opens wx w0.heap.size own v (top :: st) ∧ own R = 0 ∧ (∀ b, b < w0.heap.size → own b = 0) ∧ Below w0.heap.size w0 wx ∧ w0.heap.size ≤ R

theorem first_kids {w : World} {base : Nat} {own : Nat → Nat} {O n cap : Nat} {st : List Tree} (h : Opens w base own (.slice (some ⟨O, 0, none⟩) n cap) st) (hst : st ≠ []) (hob : ∀ b, b < base → own b = 0) :
    ∃ A m c, w.cell? ⟨O, 4, none⟩ = some (.slice A m c) ∧ Kids w (From base w.heap.size) (.slice A m c) ((st.getLast?.map Tree.kids).getD []) := by
  obtain ⟨⟨xs, ho, hc⟩, _, _⟩ := h
  obtain ⟨t0, rest, hr⟩ : ∃ t0 rest, st.reverse = t0 :: rest := by
    cases hq : st.reverse with
    | nil => exact absurd (List.reverse_eq_nil_iff.1 hq) hst
    | cons a b => exact ⟨a, b, rfl⟩
  have hlast : st.getLast? = some t0 := by
    rw [← List.head?_reverse, hr]; rfl
  rw [hr] at hc
  obtain ⟨vm, va, vk, zs, rfl, hop, _⟩ := hc
  have hk := hop.2.2.1.kids (S' := From base w.heap.size) (fun b hb => ⟨Nat.le_of_not_lt fun hlt => by have := hob b hlt; have := hb.2; omega, hb.1⟩) fun g e => hop.2.2.1.lt g e
  obtain ⟨A, c, rfl, _⟩ := hk.form
  have hn : n = st.length := by
    rcases ho.2 with ⟨h1, _⟩ | ⟨g, c', cur, h1, _⟩
    · cases h1
    · injection h1
  subst hn
  have hl : 0 < st.length := List.length_pos_iff.2 hst
  refine ⟨A, _, c, ?_, by rw [hlast]; exact hk⟩
  rw [ho.cellAt 4 (by omega)]; rfl
theorem opens_row {w : World} {base : Nat} {own : Nat → Nat} {top : Tree} {st : List Tree} {vm va vk : Value} (h : OpenAt w base own st.length vm va vk top) :
    ∃ A c ks, vk = .slice A top.kids.length c ∧ w.ownsRow base 47 5 (.slice A top.kids.length c) top.kids.length ks ∧ Cells w (Part w own st.length) top.kids ks := by
  obtain ⟨ks, ho, hc⟩ := h.2.2.1
  rcases ho.2 with ⟨rfl, h0⟩ | ⟨g, c, cur, rfl, _⟩
  · exact ⟨none, 0, ks, by rw [h0], by rw [h0] at ho ⊢; exact ho, hc⟩
  · exact ⟨_, c, ks, rfl, ho, hc⟩

theorem node_form {w : World} {S : Nat → Prop} {v : Value} {t : Tree} (h : Node w S v t) : ∃ A2 n2 c2 A3 n3 c3 A4 n4 c4, v = .agg #[.string t.kind, .string t.text, .slice A2 n2 c2, .slice A3 n3 c3, .slice A4 n4 c4] := by
  obtain ⟨vm, va, vk, rfl, hm, ha, hk⟩ := h
  obtain ⟨A2, c2, rfl, _⟩ := hm.form
  obtain ⟨A3, c3, rfl, _⟩ := ha.form
  obtain ⟨A4, c4, rfl, _⟩ := hk.form
  exact ⟨A2, _, c2, A3, _, c3, A4, _, c4, rfl⟩
theorem row_at {w : World} {base m : Nat} {v : Value} {xs : List Value} (h : w.ownsRow base 47 5 v (m + 1) xs) : ∃ G c, v = .slice (some ⟨G, 0, none⟩) (m + 1) c := by
  rcases h.2 with ⟨_, h0⟩ | ⟨g, c, cur, rfl, _⟩
  · cases h0
  · exact ⟨g, c, rfl⟩
theorem row_cells {w : World} {base m G c : Nat} {ks : List Value} {z0 z1 z2 z3 z4 : Value} (h : w.ownsRow base 47 5 (.slice (some ⟨G, 0, none⟩) (m + 1) c) (m + 1) (ks ++ [z0, z1, z2, z3, z4])) (hk : ks.length = m * 5) :
    w.cell? ⟨G, m * 5, none⟩ = some z0 ∧ w.cell? ⟨G, m * 5 + 1, none⟩ = some z1 ∧ w.cell? ⟨G, m * 5 + 2, none⟩ = some z2 ∧ w.cell? ⟨G, m * 5 + 3, none⟩ = some z3 ∧ w.cell? ⟨G, m * 5 + 4, none⟩ = some z4 := by
  have e : ∀ j, j < 5 → w.cell? ⟨G, m * 5 + j, none⟩ = [z0, z1, z2, z3, z4][j]? := fun j hj => by
    rw [h.cellAt _ (by omega), List.getElem?_append_right (by rw [hk]; omega), hk, show m * 5 + j - m * 5 = j by omega]
  exact ⟨e 0 (by omega), e 1 (by omega), e 2 (by omega), e 3 (by omega), e 4 (by omega)⟩
theorem drew_only (R : Nat) (w : World) : OnlyR R w w.drew := ⟨rfl, rfl, rfl, Nat.le_refl _, fun _ _ _ => rfl⟩
theorem ready_rel {w0 W : World} {R g : Nat} {s : List UInt8} {v : Value} {c : UInt8} {l l1 : List UInt8} {x x1 : Bool} {top top' : Tree} {st st' : List Tree} (h : Ready w0 W R v (top' :: st') l1 x1) (hq : roundL c l x top st = (l1, x1, top' :: st'))
    (hrd : readN (g + 1) (c :: l) x (top :: st) = readN s.length s false [around []]) (hwt : weighAll (top :: st) + 8 * (c :: l).length ≤ 8 * s.length + 3) (hlg : (c :: l).length ≤ g + 1) (hb : w0.heap.size ≤ R) : ReadRel w0 R s g v W := by
  obtain ⟨own', h1, h2, h3, h4, h5⟩ := h
  have hz := round_size c l x top st
  rw [readN_step, hq] at hrd
  rw [hq] at hz
  simp only [List.length_cons] at hwt hlg
  exact ⟨own', top', st', l1, x1, by have := hz.2; simp only at this; omega, hrd, by have := hz.1; simp only at this; omega, h4, h1, h2, h3, h5, hb⟩
theorem roundL_text (l : List UInt8) (x : Bool) (top : Tree) (st : List Tree) : roundL 34 l x top st = ((textL (34 :: l)).2.1, x || (textL (34 :: l)).2.2, addKid top (textL (34 :: l)).1 :: st) := if_pos rfl
theorem Opens.only {wr w : World} {base R : Nat} {own : Nat → Nat} {v : Value} {st : List Tree} (h : Opens wr base own v st) (o : OnlyR R wr w) (hR : own R = 0) (hv : ∀ b, v.ownBlock = some b → b ≠ R) : Opens w base own v st := by
  obtain ⟨⟨xs, ho, hc⟩, h2, h3⟩ := h
  refine ⟨⟨xs, ownsRow_block ho fun b e => o.block b (ho.lt b e).2 (hv b e), hc.keep o.size fun b hb h1 _ => ⟨o.block b hb fun e => by rw [e] at h1; omega, rfl⟩⟩, h2, fun b hb => h3 b (Nat.le_trans o.size hb)⟩
theorem roundL_last (l : List UInt8) (x : Bool) (top : Tree) : roundL 93 l x top [] = ([], true, [top]) := rfl
theorem roundL_close (l : List UInt8) (x : Bool) (top up : Tree) (st : List Tree) : roundL 93 l x top (up :: st) = (if (closedL (st.length + 1) top).2 then [] else l, x || (closedL (st.length + 1) top).2, addKid up (closedL (st.length + 1) top).1 :: st) := rfl
theorem roundL_head (c : UInt8) (l : List UInt8) (x : Bool) (top : Tree) (st : List Tree) (h1 : c ≠ 34) (h2 : c ≠ 93) : roundL c l x top st = ((headL (c :: l)).2.1, x || (headL (c :: l)).2.2, (headL (c :: l)).1 :: top :: st) := by
  unfold roundL
  rw [if_neg (by simpa using h1), if_neg (by simpa using h2)]
theorem first_byte (c : UInt8) (l : List UInt8) (S : ByteArray) (h : S = ⟨(c :: l).toArray⟩) (h0 : 0 < S.size) : S[0] = c := by subst h; rfl
end Go.Proofs.YtaepolgmojkglaaDoor
