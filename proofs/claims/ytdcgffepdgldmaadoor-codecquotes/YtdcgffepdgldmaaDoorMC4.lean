/-
  How much made gives; rows of nodes appended, in a region that draws its order; one cell set.
  What made and doc give is right: plain facts (no program is named here).
  The chapter's example (at the head of the statements of chapter 2).
-/
import Derived.Test.YtdcgffepdgldmaaDoorW12
import Derived.Test.YtdcgffepdgldmaaDoorRightA
import Derived.Test.YtdcgffepdgldmaaDoorC3
namespace Go.Proofs.YtdcgffepdgldmaaDoor
open Go.RowKit Go.Sort

theorem madeB_weigh (l : List Cel) : weighAll (madeB l) ≤ 760 := by
  have h1 := joinB_weigh (madeTo l 19)
  have h2 := madeTo_weigh l 19
  unfold madeB; omega

theorem pairs_two {w : World} {S : Nat → Prop} {g : Nat} {s t u v : ByteArray} (h0 : w.cell? ⟨g, 0, none⟩ = some (.string s)) (h1 : w.cell? ⟨g, 1, none⟩ = some (.string t)) (h2 : w.cell? ⟨g, 2, none⟩ = some (.string u)) (h3 : w.cell? ⟨g, 3, none⟩ = some (.string v)) (hS : S g) :
    Pairs w S (.slice (some ⟨g, 0, none⟩) 2 2) [(s, t), (u, v)] :=
  ⟨_, 2, rfl, Nat.le_refl _, by unfold maxLen; omega, .inr ⟨g, 0, rfl, hS, fun i p hi => by
    match i, hi with
    | 0, hi => simp at hi; subst hi; exact ⟨h0, h1⟩
    | 1, hi => simp at hi; subst hi; exact ⟨h2, h3⟩
    | i + 2, hi => simp at hi⟩⟩
theorem kids_block {w : World} {S : Nat → Prop} {g n : Nat} {arr : Array Value} {T : TypeId} {l : List Tree} (hh : w.heap[g]? = some (.cells arr T)) (hc : Cells w S l arr.toList) (hn : l.length = n) (hS : S g) (hm : n ≤ 1000000 := by decide) : Kids w S (.slice (some ⟨g, 0, none⟩) n n) l := by
  subst hn
  refine ⟨_, l.length, rfl, Nat.le_refl _, by unfold maxLen; omega, .inr ⟨g, 0, rfl, hS, rowAt_cells hc fun j u hj => ?_⟩⟩
  simp only [World.cell?, hh]
  simpa using hj

section
variable {ops : Array Oper} {o : Oper} {a : Act} {K : Act → World → Prop} {Q : Exit → Act → World → Prop} {E : Prop}
/-- append([]Node, l...) -/
theorem step_app1 {B : Nat} {W3 W : World} (hBB : B ≤ W3.heap.size) {e : Nat} {x : Value} {L : List Tree} (hgd : o.guard = none) (s xo : Operand) (ho : o.op = .call { callee := .builtin .append, args := #[s, xo], argTypes := #[25, 25] })
    (hv : a.eval s = .slice (some ⟨e, 0, none⟩) 0 0) (hx : a.eval xo = x) (hE : W.heap[e]? = some (.cells #[] 27)) (he : W3.heap.size ≤ e) (hB : Below W3.heap.size W3 W) (hK : Kids W3 (Under B) x L) (hlen : L.length ≤ 1000000)
    (h : ∀ v' w', Own w' W3.heap.size (Under B) v' L → Below W3.heap.size W3 w' → (∀ g, g < W.heap.size → g ≠ e → w'.heap[g]? = W.heap[g]?) → K (a.put o.dst v') w') :
    if Region.wanted o (yielded ops a.tmps) = true then Oper.wp Tryd.prog o a W K Q else E := by
  refine step_append_nodes hgd s xo ho W3.heap.size (Under B) _ _ [] L hv hx (own_empty hE he) (hK.below (hB.mono hBB)).src (fun b hb => ⟨Nat.lt_of_lt_of_le hb (Nat.le_trans hBB hB.size), fun h => ?_⟩) (by simpa using hlen) hB.size ?_
  · simp [Value.ownBlock] at h; unfold Under at hb; omega
  · intro v' w' h1 h2 _
    have h2' : W.grownBy w' (some e) := h2
    exact h v' w' (by simpa using h1) (hB.grown h2' hB.size (fun k hk => by injection hk with hk; omega)) fun g hg hn => h2'.block g hg (fun h => hn (Option.some.inj h))
/-- append(.., a, b) -/
theorem step_app2 {B : Nat} {W3 W : World} (hBB : B ≤ W3.heap.size) {v x : Value} {L L2 : List Tree} (hgd : o.guard = none) (s xo : Operand) (ho : o.op = .call { callee := .builtin .append, args := #[s, xo], argTypes := #[25, 25] })
    (hv : a.eval s = v) (hx : a.eval xo = x) (hO : Own W W3.heap.size (Under B) v L) (hB : Below W3.heap.size W3 W) (hsrc : Src W (Under B) x L2) (hlen : L.length + L2.length ≤ 1000000)
    (h : ∀ v' w', Own w' W3.heap.size (Under B) v' (L ++ L2) → Below W3.heap.size W3 w' → K (a.put o.dst v') w') :
    if Region.wanted o (yielded ops a.tmps) = true then Oper.wp Tryd.prog o a W K Q else E := by
  refine step_append_nodes hgd s xo ho W3.heap.size (Under B) _ _ L L2 hv hx hO hsrc (fun b hb => ⟨Nat.lt_of_lt_of_le hb (Nat.le_trans hBB hB.size), fun h => ?_⟩) hlen hB.size ?_
  · have := (hO.base_le b h.symm).1; unfold Under at hb; omega
  · intro v' w' h1 h2 _
    exact h v' w' h1 (hB.grown h2 hB.size (fun k hk => (hO.base_le k hk).1))
end
theorem set_one {w : World} {g o : Nat} {u v : Value} (c : w.cell? ⟨g, o, none⟩ = some u) :
    (∀ b j, b ≠ g → (w.setCell ⟨g, o, none⟩ v).cell? ⟨b, j, none⟩ = w.cell? ⟨b, j, none⟩) ∧ (w.setCell ⟨g, o, none⟩ v).cell? ⟨g, o, none⟩ = some v ∧ (∀ j, j ≠ o → (w.setCell ⟨g, o, none⟩ v).cell? ⟨g, j, none⟩ = w.cell? ⟨g, j, none⟩) ∧
      (∀ b, b ≠ g → (w.setCell ⟨g, o, none⟩ v).heap[b]? = w.heap[b]?) ∧ (w.setCell ⟨g, o, none⟩ v).heap.size = w.heap.size ∧ (w.setCell ⟨g, o, none⟩ v).os = w.os ∧ (w.setCell ⟨g, o, none⟩ v).tape = w.tape ∧ (w.setCell ⟨g, o, none⟩ v).output = w.output :=
  ⟨fun b j h => World.cell?_setCell_other w _ _ _ (fun e => h (congrArg Addr.block e).symm), cell_set c v, fun j h => World.cell?_setCell_other w _ _ _ (fun e => h (congrArg Addr.off e).symm), fun b h => Below.heap_setCell _ _ _ _ h, by simp [World.setCell], rfl, rfl, rfl⟩
end Go.Proofs.YtdcgffepdgldmaaDoor

namespace Go.Proofs.YtdcgffepdgldmaaDoor
open Go.RowKit Go.Sort

/-! ### made -/
theorem pick_nat (c n : Int) (h : 0 < n) : (pickN c n).toNat < n.toNat := by have h1 := pickN_lo c n h; have h2 := pickN_hi c n h; omega
theorem texts_ok : ∀ i, i < 5 → (textsL.getD i ByteArray.empty).data.toList ≠ [] ∧ Lib.validD (textsL.getD i ByteArray.empty).data.toList = true ∧ (textsL.getD i ByteArray.empty).size ≤ 40 := by decide +kernel
theorem kinds_ok : ∀ i, i < 4 → nameB (kindsL.getD i ByteArray.empty) = true ∧ isTxt (kindsL.getD i ByteArray.empty) = false := by decide +kernel
theorem attrs_ok : ∀ i, i < 5 → attrsB [(ALIGN, textsL.getD i ByteArray.empty)] = true := by decide +kernel
theorem marksOf_ok (c : Cel) : marksB (marksOf c) = true := by
  unfold marksOf; split
  · decide +kernel
  · split <;> decide +kernel
theorem attrsOf_ok (c : Cel) : attrsB (attrsOf c) = true := by
  unfold attrsOf; split
  · exact attrs_ok _ (pick_nat _ 5 (by omega))
  · decide +kernel
theorem made_text_ok (c : Cel) : formedB (.mk TEXT (textOf c) (marksOf c) [] []) = true := by
  have h := texts_ok _ (pick_nat c.a 5 (by omega))
  rw [formedB_text (by decide +kernel)]
  exact textB_of h.1 h.2.1 (marksOf_ok c) rfl rfl
theorem made_node_ok (c : Cel) (l : List Tree) (h : rowB none l = true) : formedB (.mk (kindOf c) ByteArray.empty [] (attrsOf c) l) = true := by
  have hk := kinds_ok _ (pick_nat c.a 4 (by omega))
  have he : ByteArray.empty.toList.isEmpty = true := by decide +kernel
  rw [formedB_node (k := kindOf c) hk.2, h]
  show (nameB (kindOf c) && (ByteArray.empty.toList.isEmpty && (decide (([] : List ByteArray).length = 0) && attrsB (attrsOf c))) && true) = true
  rw [he, attrsOf_ok, show nameB (kindOf c) = true from hk.1]; rfl
theorem madeStep_ok (out : List Tree) (c : Cel) (h : ∀ x ∈ out, formedB x = true) : ∀ x ∈ madeStep out c, formedB x = true := by
  unfold madeStep
  intro x hx
  split at hx
  · rcases List.mem_append.1 hx with hx | hx
    · exact h x hx
    · rw [List.mem_singleton.1 hx]; exact made_text_ok c
  · split at hx
    · rcases List.mem_append.1 hx with hx | hx
      · exact h x (List.mem_of_mem_take hx)
      · rw [List.mem_singleton.1 hx]; exact made_node_ok c _ (joinB_row _ fun y hy => h y (List.mem_of_mem_drop hy))
    · rcases List.mem_append.1 hx with hx | hx
      · exact h x hx
      · rw [List.mem_singleton.1 hx]; exact made_node_ok c _ (by simp [rowB])
theorem madeFold_ok : ∀ (l : List Cel) (out : List Tree), (∀ x ∈ out, formedB x = true) → ∀ x ∈ l.foldl madeStep out, formedB x = true
  | [], _, h => h
  | c :: l, out, h => madeFold_ok l _ (madeStep_ok out c h)
theorem madeTo_ok (l : List Cel) (k : Nat) : ∀ x ∈ madeTo l k, formedB x = true := madeFold_ok _ [] (by simp)
theorem madeB_ok (l : List Cel) : rowB none (madeB l) = true := joinB_row _ (madeTo_ok l 19)
theorem madeStep_deep (out : List Tree) (c : Cel) : deepB (madeStep out c) ≤ deepB out + 1 := by
  have hk := (kinds_ok _ (pick_nat c.a 4 (by omega))).2
  have ht : isTxt TEXT = true := by decide +kernel
  unfold madeStep
  split
  · rw [deepB_append]; simp only [deepB, depthB, ht, if_true]; omega
  · have hk' : isTxt (kindOf c) = false := hk
    split
    · have hj := joinB_deep (out.drop (out.length - manyOf c out.length))
      have hs := deepB_append (out.take (out.length - manyOf c out.length)) (out.drop (out.length - manyOf c out.length))
      rw [List.take_append_drop] at hs
      rw [deepB_append]; simp only [deepB, depthB, hk', Bool.false_eq_true, if_false]; omega
    · rw [deepB_append]; simp only [deepB, depthB, hk', Bool.false_eq_true, if_false]; omega
theorem madeFold_deep : ∀ (l : List Cel) (out : List Tree), deepB (l.foldl madeStep out) ≤ deepB out + l.length
  | [], _ => by simp
  | c :: l, out => by
    have h := madeFold_deep l (madeStep out c)
    have h2 := madeStep_deep out c
    simp only [List.foldl_cons, List.length_cons]; omega
theorem madeB_deep (l : List Cel) : deepB (madeB l) ≤ 19 := by
  have h1 := joinB_deep (madeTo l 19)
  have h2 := madeFold_deep (l.take 19) []
  simp only [deepB, List.length_take] at h2
  unfold madeB
  have h3 : deepB (madeTo l 19) ≤ 19 := by unfold madeTo; omega
  omega
theorem docB_right (l : List Cel) : checkB (docB l) = 0 := by
  have hd := madeB_deep l
  have hw := madeB_weigh l
  have hs := total_le_weigh (madeB l)
  have ht : isTxt DOC = false := by decide +kernel
  have hf : formedB (docB l) = true := by
    unfold docB
    rw [formedB_node ht, madeB_ok l]
    show (nameB DOC && (ByteArray.empty.toList.isEmpty && (decide (([] : List ByteArray).length = 0) && attrsB [])) && true) = true
    decide +kernel
  have h1 : depthB (docB l) = deepB (madeB l) + 1 := by simp [docB, depthB, ht]
  have h2 : sizeB (docB l) = 2 + totalB (madeB l) := by simp [docB, sizeB, ht]
  rw [checkB, if_pos hf, if_neg (by omega), if_neg (by omega)]
end Go.Proofs.YtdcgffepdgldmaaDoor

namespace Go.Proofs.YtdcgffepdgldmaaDoor
open Go.RowKit Go.Sort

def exBang : Tree := .mk TEXT ⟨#[33]⟩ [BB] [] []
def exHi : Tree := .mk TEXT ⟨#[104, 105]⟩ [] [] []
def exPara : Tree := .mk ⟨#[112, 97, 114, 97]⟩ ByteArray.empty [] [(ALIGN, ⟨#[108, 101, 102, 116]⟩)] [exHi, exBang]
def exDoc : Tree := .mk DOC ByteArray.empty [] [] [exPara]
theorem exDoc_weigh : weigh exDoc ≤ 1000000 := by decide +kernel
theorem exDoc_check : checkB exDoc = 0 := by decide +kernel
theorem exDoc_print : printB exDoc = [100, 111, 99, 91, 112, 97, 114, 97, 40, 97, 108, 105, 103, 110, 61, 34, 108, 101, 102, 116, 34, 41, 91, 34, 104, 105, 34, 34, 33, 34, 60, 98, 62, 93, 93] := by decide +kernel

set_option maxHeartbeats 1000000 in
theorem shown2_any (w : World) (hT : Tabs w) : Calls Tryd.prog 11 #[] w fun e w' => e = .returned (.bool true) ∧ Below w.heap.size w w' := by
  have HT := Lib.hid hT
  clear hT
  go_enter Tryd.func11, Tryd.ntmps11
  go_wp2_with fail
  generalize hW6 : (((((w.alloc _).alloc _).alloc _).alloc _).alloc _).alloc _ = W6
  have hB : Below w.heap.size w W6 := by subst hW6; exact ((((((Below.refl _ _).alloc (Nat.le_refl _) _).alloc (by simp) _).alloc (by simp; omega) _).alloc (by simp; omega) _).alloc (by simp; omega) _).alloc (by simp; omega) _
  have hz : W6.heap.size = w.heap.size + 1 + 1 + 1 + 1 + 1 + 1 := by subst hW6; simp
  have g0 : W6.heap[w.heap.size]? = some (.cells #[.string ⟨#[98]⟩] 9) := by subst hW6; exact heap_old _ _ _ (heap_old _ _ _ (heap_old _ _ _ (heap_old _ _ _ (heap_old _ _ _ (heap_new _ _)))))
  have g2 : W6.heap[w.heap.size + 1 + 1]? = some (.cells #[.string ⟨#[97, 108, 105, 103, 110]⟩, .string ⟨#[108, 101, 102, 116]⟩] 48) := by subst hW6; exact heap_old _ _ _ (heap_old _ _ _ (heap_old _ _ _ (heap_new' _ _ (by simp))))
  have g3 : W6.heap[w.heap.size + 1 + 1 + 1]? = some (.cells #[.string ⟨#[116, 101, 120, 116]⟩, .string ⟨#[104, 105]⟩, .slice none 0 0, .slice none 0 0, .slice none 0 0, .string ⟨#[116, 101, 120, 116]⟩, .string ⟨#[33]⟩, .slice (some ⟨w.heap.size, 0, none⟩) 1 1, .slice none 0 0, .slice none 0 0] 27) := by subst hW6; exact heap_old _ _ _ (heap_old _ _ _ (heap_new' _ _ (by simp)))
  have g4 : W6.heap[w.heap.size + 1 + 1 + 1 + 1]? = some (.cells #[.string ⟨#[112, 97, 114, 97]⟩, .string ⟨#[]⟩, .slice none 0 0, .slice (some ⟨w.heap.size + 1 + 1, 0, none⟩) 1 1, .slice (some ⟨w.heap.size + 1 + 1 + 1, 0, none⟩) 2 2] 27) := by subst hW6; exact heap_old _ _ _ (heap_new' _ _ (by simp))
  clear hW6
  have m0 : Strs W6 (Under W6.heap.size) (.slice (some ⟨w.heap.size, 0, none⟩) 1 1) [BB] := strs_one (by simp only [World.cell?, g0]; rfl) (by unfold Under; omega)
  have a0 : Pairs W6 (Under W6.heap.size) (.slice (some ⟨w.heap.size + 1 + 1, 0, none⟩) 1 1) [(ALIGN, ⟨#[108, 101, 102, 116]⟩)] := pairs_one (s := ALIGN) (t := ⟨#[108, 101, 102, 116]⟩) (by simp only [World.cell?, g2]; rfl) (by simp only [World.cell?, g2]; rfl) rfl rfl (by unfold Under; omega)
  have k0 : Kids W6 (Under W6.heap.size) (.slice (some ⟨w.heap.size + 1 + 1 + 1, 0, none⟩) 2 2) [exHi, exBang] := kids_block g3 ⟨_, _, _, _, rfl, strs_none, pairs_none, kids_none, _, _, _, _, rfl, m0, pairs_none, kids_none, rfl⟩ rfl (by unfold Under; omega)
  have k1 : Kids W6 (Under W6.heap.size) (.slice (some ⟨w.heap.size + 1 + 1 + 1 + 1, 0, none⟩) 1 1) [exPara] := kids_block g4 ⟨_, _, _, _, rfl, strs_none, a0, k0, rfl⟩ rfl (by unfold Under; omega)
  have HN : Hid (Node W6 (Under W6.heap.size) (.agg #[.string ⟨#[100, 111, 99]⟩, .string ⟨#[]⟩, .slice none 0 0, .slice none 0 0, .slice (some ⟨w.heap.size + 1 + 1 + 1 + 1, 0, none⟩) 1 1]) exDoc) := Lib.hid ⟨_, _, _, rfl, strs_none, pairs_none, k1⟩
  clear g0 g2 g3 g4 m0 a0 k0 k1 hz
  refine (print_any _ exDoc W6 HN.out exDoc_weigh (HT.out.below hB)).mono ?_
  rintro e w7 ⟨rfl, hb7⟩
  rw [exDoc_print, exDoc_check]
  have hB7 := belowNext hB hb7
  clear hb7
  go_wp2
  go_ret
  exact ⟨rfl, hB7⟩
end Go.Proofs.YtdcgffepdgldmaaDoor
