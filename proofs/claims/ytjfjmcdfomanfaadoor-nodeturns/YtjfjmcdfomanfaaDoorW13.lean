/-
  NodeWrong: a right node with one thing wrong in it is not right: the walk.
-/
import Derived.Test.YtjfjmcdfomanfaaDoorW12
namespace Go.Proofs.YtjfjmcdfomanfaaDoor
open Go.RowKit Go.Sort

def badL : List Tree := [.mk TEXT ByteArray.empty [] [] [], .mk TEXT ⟨#[97]⟩ [II, BB] [] [], .mk ⟨#[112]⟩ ByteArray.empty [] [(BB, ByteArray.empty), (⟨#[97]⟩, ByteArray.empty)] [], .mk ⟨#[80]⟩ ByteArray.empty [] [] [],
  .mk ⟨#[112]⟩ ByteArray.empty [] [] [.mk TEXT ⟨#[97]⟩ [] [] [], .mk TEXT ⟨#[98]⟩ [] [] []], .mk TEXT ⟨#[255]⟩ [] [] [], .mk ⟨#[112]⟩ ⟨#[120]⟩ [] [] []]
def qT : Tree := .mk ⟨#[113]⟩ ByteArray.empty [] [] []

theorem badL_false : ∀ t ∈ badL, formedB t = false := by
  intro t ht
  simp only [badL, List.mem_cons, List.not_mem_nil, or_false] at ht
  rcases ht with rfl | rfl | rfl | rfl | rfl | rfl | rfl <;> decide +kernel
theorem badL_weigh : ∀ t ∈ badL, weigh t ≤ 100 := by
  intro t ht
  simp only [badL, List.mem_cons, List.not_mem_nil, or_false] at ht
  rcases ht with rfl | rfl | rfl | rfl | rfl | rfl | rfl <;> decide +kernel
theorem checkB_bad {t : Tree} (h : formedB t = false) : checkB t = 2 := by simp [checkB, h]
theorem doc_bad (l : List Tree) (t : Tree) (h : formedB t = false) : formedB (.mk DOC ByteArray.empty [] [] (l ++ [qT, t])) = false := by
  have hr : rowB none (l ++ [qT, t]) = false := rowB_false _ none (l.length + 1) t (by simp) (.inl h)
  rw [formedB_node (by decide +kernel), hr, Bool.and_false]
theorem madeB_weigh (l : List Cel) : weighAll (madeB l) ≤ 760 := by
  have h1 := joinB_weigh (madeTo l 19)
  have h2 := madeTo_weigh l 19
  unfold madeB; omega

theorem pairs_two {w : World} {S : Nat → Prop} {g : Nat} {s t u v : ByteArray} (h0 : w.cell? ⟨g, 0, none⟩ = some (.string s)) (h1 : w.cell? ⟨g, 1, none⟩ = some (.string t)) (h2 : w.cell? ⟨g, 2, none⟩ = some (.string u)) (h3 : w.cell? ⟨g, 3, none⟩ = some (.string v)) (hS : S g) :
    Pairs w S (.slice (some ⟨g, 0, none⟩) 2 2) [(s, t), (u, v)] :=
  ⟨_, 2, rfl, Nat.le_refl _, by unfold maxLen; omega, .inr ⟨g, 0, rfl, hS, fun i p hi => by
    match i, hi with
    | 0, hi => simp at hi; subst hi; exact ⟨h0, h1⟩
    | 1, hi => simp at hi; subst hi; exact ⟨h2, h3⟩
    | i + 2, hi => simp at hi⟩⟩
theorem kids_block {w : World} {S : Nat → Prop} {g n : Nat} {arr : Array Value} {T : TypeId} {l : List Tree} (hh : w.heap[g]? = some (.cells arr T)) (hc : Cells w S l arr.toList) (hn : l.length = n) (hS : S g) (hm : n ≤ 1000000 := by decide) : Kids w S (.slice (some ⟨g, 0, none⟩) n n) l := by
  subst hn
  refine ⟨_, l.length, rfl, Nat.le_refl _, by unfold maxLen; omega, .inr ⟨g, 0, rfl, hS, rowAt_cells hc fun j u hj => ?_⟩⟩
  simp only [World.cell?, hh]
  simpa using hj

section
variable {ops : Array Oper} {o : Oper} {a : Act} {K : Act → World → Prop} {Q : Exit → Act → World → Prop} {E : Prop}
/-- append([]Node, l...) -/
theorem step_app1 {B : Nat} {W3 W : World} (hBB : B ≤ W3.heap.size) {e : Nat} {x : Value} {L : List Tree} (hgd : o.guard = none) (s xo : Operand) (ho : o.op = .call { callee := .builtin .append, args := #[s, xo], argTypes := #[24, 24] })
    (hv : a.eval s = .slice (some ⟨e, 0, none⟩) 0 0) (hx : a.eval xo = x) (hE : W.heap[e]? = some (.cells #[] 26)) (he : W3.heap.size ≤ e) (hB : Below W3.heap.size W3 W) (hK : Kids W3 (Under B) x L) (hlen : L.length ≤ 1000000)
    (h : ∀ v' w', Own w' W3.heap.size (Under B) v' L → Below W3.heap.size W3 w' → (∀ g, g < W.heap.size → g ≠ e → w'.heap[g]? = W.heap[g]?) → K (a.put o.dst v') w') :
    if Region.wanted o (yielded ops a.tmps) = true then Oper.wp Tryd.prog o a W K Q else E := by
  refine step_append_nodes hgd s xo ho W3.heap.size (Under B) _ _ [] L hv hx (own_empty hE he) (hK.below (hB.mono hBB)).src (fun b hb => ⟨Nat.lt_of_lt_of_le hb (Nat.le_trans hBB hB.size), fun h => ?_⟩) (by simpa using hlen) hB.size ?_
  · simp [Value.ownBlock] at h; unfold Under at hb; omega
  · intro v' w' h1 h2 _
    have h2' : W.grownBy w' (some e) := h2
    exact h v' w' (by simpa using h1) (hB.grown h2' hB.size (fun k hk => by injection hk with hk; omega)) fun g hg hn => h2'.block g hg (fun h => hn (Option.some.inj h))
/-- append(.., a, b) -/
theorem step_app2 {B : Nat} {W3 W : World} (hBB : B ≤ W3.heap.size) {v x : Value} {L L2 : List Tree} (hgd : o.guard = none) (s xo : Operand) (ho : o.op = .call { callee := .builtin .append, args := #[s, xo], argTypes := #[24, 24] })
    (hv : a.eval s = v) (hx : a.eval xo = x) (hO : Own W W3.heap.size (Under B) v L) (hB : Below W3.heap.size W3 W) (hsrc : Src W (Under B) x L2) (hlen : L.length + L2.length ≤ 1000000)
    (h : ∀ v' w', Own w' W3.heap.size (Under B) v' (L ++ L2) → Below W3.heap.size W3 w' → K (a.put o.dst v') w') :
    if Region.wanted o (yielded ops a.tmps) = true then Oper.wp Tryd.prog o a W K Q else E := by
  refine step_append_nodes hgd s xo ho W3.heap.size (Under B) _ _ L L2 hv hx hO hsrc (fun b hb => ⟨Nat.lt_of_lt_of_le hb (Nat.le_trans hBB hB.size), fun h => ?_⟩) hlen hB.size ?_
  · have := (hO.base_le b h.symm).1; unfold Under at hb; omega
  · intro v' w' h1 h2 _
    exact h v' w' h1 (hB.grown h2 hB.size (fun k hk => (hO.base_le k hk).1))
end
theorem src_two {B : Nat} {W3 W : World} (hBB : B ≤ W3.heap.size) {xb : Nat} {t : Tree} {vm va vk : Value} (hh : W.heap[xb]? = some (.cells #[.string ⟨#[113]⟩, .string ⟨#[]⟩, .slice none 0 0, .slice none 0 0, .slice none 0 0, .string t.kind, .string t.text, vm, va, vk] 26)) (hB : Below W3.heap.size W3 W)
    (hm : Strs W3 (Under B) vm t.marks) (ha : Pairs W3 (Under B) va t.attrs) (hk : Kids W3 (Under B) vk t.kids) : Src W (Under B) (.slice (some ⟨xb, 0, none⟩) 2 2) [qT, t] :=
  ⟨_, 2, _, rfl, ⟨_, _, _, _, rfl, strs_none, pairs_none, kids_none, _, _, _, _, rfl, hm.below (hB.mono hBB), ha.below (hB.mono hBB), hk.below (hB.mono hBB), rfl⟩, .inr ⟨xb, 0, rfl, fun j u hj => by
    simp only [World.cell?, hh]
    have : #[Value.string ⟨#[113]⟩, .string ⟨#[]⟩, .slice none 0 0, .slice none 0 0, .slice none 0 0, .string t.kind, .string t.text, vm, va, vk].toList[j]? = some u := hj
    simpa using this⟩⟩

theorem set_one {w : World} {g o : Nat} {u v : Value} (c : w.cell? ⟨g, o, none⟩ = some u) :
    (∀ b j, b ≠ g → (w.setCell ⟨g, o, none⟩ v).cell? ⟨b, j, none⟩ = w.cell? ⟨b, j, none⟩) ∧ (w.setCell ⟨g, o, none⟩ v).cell? ⟨g, o, none⟩ = some v ∧ (∀ j, j ≠ o → (w.setCell ⟨g, o, none⟩ v).cell? ⟨g, j, none⟩ = w.cell? ⟨g, j, none⟩) ∧
      (∀ b, b ≠ g → (w.setCell ⟨g, o, none⟩ v).heap[b]? = w.heap[b]?) ∧ (w.setCell ⟨g, o, none⟩ v).heap.size = w.heap.size ∧ (w.setCell ⟨g, o, none⟩ v).os = w.os ∧ (w.setCell ⟨g, o, none⟩ v).tape = w.tape ∧ (w.setCell ⟨g, o, none⟩ v).output = w.output :=
  ⟨fun b j h => World.cell?_setCell_other w _ _ _ (fun e => h (congrArg Addr.block e).symm), cell_set c v, fun j h => World.cell?_setCell_other w _ _ _ (fun e => h (congrArg Addr.off e).symm), fun b h => Below.heap_setCell _ _ _ _ h, by simp [World.setCell], rfl, rfl, rfl⟩

def WrongMid (W3 : World) (nb : Nat) (L : List Tree) (wx : World) : Prop :=
  ∃ A9 c9 w9, wx = w9.setCell ⟨nb, 4, none⟩ (.slice A9 L.length c9) ∧ Own w9 W3.heap.size (Under nb) (.slice A9 L.length c9) L ∧ Below W3.heap.size W3 w9

set_option maxHeartbeats 2000000 in
set_option maxRecDepth 100000 in
theorem nodeWrong_walk (v : Value) (l : List Cel) (what : Int) (w : World) (h : Cels w (Under w.heap.size) v l) (h0 : -9223372036854775808 ≤ what) (h1 : what ≤ 9223372036854775807) (hT : Tabs w) :
    Calls Tryd.prog 7 #[v, .int .i64 what] w fun e w' => e = .returned (.bool true) ∧ Below w.heap.size w w' := by
  have HL := Lib.hid h
  have HT := Lib.hid hT
  clear h hT
  have p0 := pickN_lo what 7 (by omega)
  have p1 := pickN_hi what 7 (by omega)
  obtain ⟨i, hi⟩ : ∃ i : Nat, pickN what 7 = i := ⟨(pickN what 7).toNat, by omega⟩
  have hi7 : i < 7 := by omega
  have HI := Lib.hid hi
  clear hi p0 p1
  go_enter Tryd.func7, Tryd.ntmps7
  go_wp2_with fail
  refine (shown_any _ HT.out).mono ?_
  rintro e w1 ⟨rfl, hb1⟩
  go_wp2_with fail
  refine (pick_any _ _ _ (by omega) (by omega) (by omega) (by omega)).mono ?_
  rintro e w' ⟨rfl, rfl⟩
  rw [HI.out]
  generalize hW2 : (((w1.alloc (.cells #[.string ⟨#[105]⟩, .string ⟨#[98]⟩] 9)).alloc (.cells #[.string ⟨#[98]⟩, .string ⟨#[]⟩, .string ⟨#[97]⟩, .string ⟨#[]⟩] 46)).alloc (.cells #[.string ⟨#[116, 101, 120, 116]⟩, .string ⟨#[97]⟩, .slice none 0 0, .slice none 0 0, .slice none 0 0, .string ⟨#[116, 101, 120, 116]⟩, .string ⟨#[98]⟩, .slice none 0 0, .slice none 0 0, .slice none 0 0] 26)).alloc (.cells #[.string ⟨#[116, 101, 120, 116]⟩, .string ⟨#[]⟩, .slice none 0 0, .slice none 0 0, .slice none 0 0, .string ⟨#[116, 101, 120, 116]⟩, .string ⟨#[97]⟩, .slice (some ⟨w1.heap.size, 0, none⟩) 2 2, .slice none 0 0, .slice none 0 0, .string ⟨#[112]⟩, .string ⟨#[]⟩, .slice none 0 0, .slice (some ⟨w1.heap.size + 1, 0, none⟩) 2 2, .slice none 0 0, .string ⟨#[80]⟩, .string ⟨#[]⟩, .slice none 0 0, .slice none 0 0, .slice none 0 0, .string ⟨#[112]⟩, .string ⟨#[]⟩, .slice none 0 0, .slice none 0 0, .slice (some ⟨w1.heap.size + 1 + 1, 0, none⟩) 2 2, .string ⟨#[116, 101, 120, 116]⟩, .string ⟨#[255]⟩, .slice none 0 0, .slice none 0 0, .slice none 0 0, .string ⟨#[112]⟩, .string ⟨#[120]⟩, .slice none 0 0, .slice none 0 0, .slice none 0 0] 26) = W2 at *
  have hB12 : Below w1.heap.size w1 W2 := by subst hW2; exact ((((Below.refl _ _).alloc (Nat.le_refl _) _).alloc (by simp) _).alloc (by simp; omega) _).alloc (by simp; omega) _
  have hz2 : W2.heap.size = w1.heap.size + 1 + 1 + 1 + 1 := by subst hW2; simp
  have HK : Hid (Kids W2 (Under W2.heap.size) (.slice (some ⟨w1.heap.size + 1 + 1 + 1, 0, none⟩) 7 7) badL) := Lib.hid (by
    rw [hz2]
    have g0 : W2.heap[w1.heap.size]? = some (.cells #[.string ⟨#[105]⟩, .string ⟨#[98]⟩] 9) := by subst hW2; exact heap_old _ _ _ (heap_old _ _ _ (heap_old _ _ _ (heap_new _ _)))
    have g1 : W2.heap[w1.heap.size + 1]? = some (.cells #[.string ⟨#[98]⟩, .string ⟨#[]⟩, .string ⟨#[97]⟩, .string ⟨#[]⟩] 46) := by subst hW2; exact heap_old _ _ _ (heap_old _ _ _ (heap_new' _ _ (by simp)))
    have g2 : W2.heap[w1.heap.size + 1 + 1]? = some (.cells #[.string ⟨#[116, 101, 120, 116]⟩, .string ⟨#[97]⟩, .slice none 0 0, .slice none 0 0, .slice none 0 0, .string ⟨#[116, 101, 120, 116]⟩, .string ⟨#[98]⟩, .slice none 0 0, .slice none 0 0, .slice none 0 0] 26) := by subst hW2; exact heap_old _ _ _ (heap_new' _ _ (by simp))
    have g3 : W2.heap[w1.heap.size + 1 + 1 + 1]? = some (.cells #[.string ⟨#[116, 101, 120, 116]⟩, .string ⟨#[]⟩, .slice none 0 0, .slice none 0 0, .slice none 0 0, .string ⟨#[116, 101, 120, 116]⟩, .string ⟨#[97]⟩, .slice (some ⟨w1.heap.size, 0, none⟩) 2 2, .slice none 0 0, .slice none 0 0, .string ⟨#[112]⟩, .string ⟨#[]⟩, .slice none 0 0, .slice (some ⟨w1.heap.size + 1, 0, none⟩) 2 2, .slice none 0 0, .string ⟨#[80]⟩, .string ⟨#[]⟩, .slice none 0 0, .slice none 0 0, .slice none 0 0, .string ⟨#[112]⟩, .string ⟨#[]⟩, .slice none 0 0, .slice none 0 0, .slice (some ⟨w1.heap.size + 1 + 1, 0, none⟩) 2 2, .string ⟨#[116, 101, 120, 116]⟩, .string ⟨#[255]⟩, .slice none 0 0, .slice none 0 0, .slice none 0 0, .string ⟨#[112]⟩, .string ⟨#[120]⟩, .slice none 0 0, .slice none 0 0, .slice none 0 0] 26) := by subst hW2; exact heap_new' _ _ (by simp)
    clear hW2
    have m1 : Strs W2 (Under (w1.heap.size + 1 + 1 + 1 + 1)) (.slice (some ⟨w1.heap.size, 0, none⟩) 2 2) [II, BB] := strs_two (by simp only [World.cell?, g0]; rfl) (by simp only [World.cell?, g0]; rfl) (by unfold Under; omega)
    have a1 : Pairs W2 (Under (w1.heap.size + 1 + 1 + 1 + 1)) (.slice (some ⟨w1.heap.size + 1, 0, none⟩) 2 2) [(BB, ByteArray.empty), (⟨#[97]⟩, ByteArray.empty)] := pairs_two (by simp only [World.cell?, g1]; rfl) (by simp only [World.cell?, g1]; rfl) (by simp only [World.cell?, g1]; rfl) (by simp only [World.cell?, g1]; rfl) (by unfold Under; omega)
    have k1 : Kids W2 (Under (w1.heap.size + 1 + 1 + 1 + 1)) (.slice (some ⟨w1.heap.size + 1 + 1, 0, none⟩) 2 2) [.mk TEXT ⟨#[97]⟩ [] [] [], .mk TEXT ⟨#[98]⟩ [] [] []] :=
      kids_block g2 ⟨_, _, _, _, rfl, strs_none, pairs_none, kids_none, _, _, _, _, rfl, strs_none, pairs_none, kids_none, rfl⟩ rfl (by unfold Under; omega)
    exact kids_block g3 ⟨_, _, _, _, rfl, strs_none, pairs_none, kids_none, _, _, _, _, rfl, m1, pairs_none, kids_none, _, _, _, _, rfl, strs_none, a1, kids_none, _, _, _, _, rfl, strs_none, pairs_none, kids_none,
      _, _, _, _, rfl, strs_none, pairs_none, k1, _, _, _, _, rfl, strs_none, pairs_none, kids_none, _, _, _, _, rfl, strs_none, pairs_none, kids_none, rfl⟩ rfl (by unfold Under; omega))
  clear hW2
  obtain ⟨b', o', hA', _, hrow⟩ := HK.out.get (k := i) (by show i < 7; exact hi7)
  injection hA' with hA'
  injection hA' with hA1 hA2 _
  subst hA1 hA2
  have hlt : badL[i]? = some (badL[i]'(by show i < 7; exact hi7)) := List.getElem?_eq_getElem _
  generalize (badL[i]'(by show i < 7; exact hi7)) = bad at *
  have HBF := Lib.hid (badL_false bad (List.mem_of_getElem? hlt))
  have hbw := badL_weigh bad (List.mem_of_getElem? hlt)
  obtain ⟨xm, xa, xk, z0, z1, z2, z3, z4, ezm, eza, ezk⟩ := hrow.node hlt
  rw [Nat.zero_add] at z0 z1 z2 z3 z4
  have HBP := Lib.hid (And.intro ezm (And.intro eza ezk))
  obtain ⟨A1, c1, rfl, _⟩ := ezm.form
  obtain ⟨A2, c2, rfl, _⟩ := eza.form
  obtain ⟨A3, c3, rfl, _⟩ := ezk.form
  have hB02 := belowNext hb1 hB12
  clear ezm eza ezk hrow hlt hb1 hB12 HK
  go_wp2_with fail
  have HX := Lib.hid (box5 (w := W2) (Below.refl _ (W2.alloc (.cells #[.string bad.kind, .string bad.text, .slice A1 bad.marks.length c1, .slice A2 bad.attrs.length c2, .slice A3 bad.kids.length c3] 26))))
  have hB03 := belowNext hB02 HX.out.2.2.2.2.2.1
  refine (doc_any _ l _ ((HL.out.below hB03).more hB03.size)).mono ?_
  rintro e w3 ⟨A4, c4, rfl, hk3, hb3⟩
  obtain ⟨x0, x1, x2, x3, x4, hbx, hzx⟩ := HX.out
  have y0 := cell_kept x0 hb3
  have y1 := cell_kept x1 hb3
  have y2 := cell_kept x2 hb3
  have y3 := cell_kept x3 hb3
  have y4 := cell_kept x4 hb3
  have hB23 := belowNext hbx hb3
  have hB3 := belowNext hB02 hB23
  have HK3 := Lib.hid hk3
  have HPB := Lib.hid (And.intro ((HBP.out.1.below hB23).more hB23.size) (And.intro ((HBP.out.2.1.below hB23).more hB23.size) ((HBP.out.2.2.below hB23).more hB23.size)))
  have hzz : W2.heap.size < w3.heap.size := cell_lt y0
  rw [hz2] at y0 y1 y2 y3 y4
  clear z0 z1 z2 z3 z4 x0 x1 x2 x3 x4 hk3 hb3 HX hbx hzx hB03 hB02 HBP
  go_wp2
  have HNB : Hid (NodeBox (w3.alloc (.cells #[.string ⟨#[100, 111, 99]⟩, .string ⟨#[]⟩, .slice none 0 0, .slice none 0 0, .slice A4 (madeB l).length c4] 26)) w3.heap.size (.string ⟨#[100, 111, 99]⟩) (.string ⟨#[]⟩) (.slice none 0 0) (.slice none 0 0) (.slice A4 (madeB l).length c4)) := Lib.hid (nb_new rfl)
  have hB34 : Below w3.heap.size w3 (w3.alloc (.cells #[.string ⟨#[100, 111, 99]⟩, .string ⟨#[]⟩, .slice none 0 0, .slice none 0 0, .slice A4 (madeB l).length c4] 26)) := (Below.refl _ _).alloc (Nat.le_refl _) _
  have hz34 : (w3.alloc (.cells #[.string ⟨#[100, 111, 99]⟩, .string ⟨#[]⟩, .slice none 0 0, .slice none 0 0, .slice A4 (madeB l).length c4] 26)).heap.size = w3.heap.size + 1 := by simp
  generalize w3.alloc (.cells #[.string ⟨#[100, 111, 99]⟩, .string ⟨#[]⟩, .slice none 0 0, .slice none 0 0, .slice A4 (madeB l).length c4] 26) = W3 at *
  have HKN : Hid (Kids W3 (Under w3.heap.size) (.slice A4 (madeB l).length c4) (madeB l)) := Lib.hid (HK3.out.keep (fun b hb => hb.2) fun b hb => hB34.block b hb.2)
  have HPW : Hid (Strs W3 (Under w3.heap.size) (.slice A1 bad.marks.length c1) bad.marks ∧ Pairs W3 (Under w3.heap.size) (.slice A2 bad.attrs.length c2) bad.attrs ∧ Kids W3 (Under w3.heap.size) (.slice A3 bad.kids.length c3) bad.kids) :=
    Lib.hid ⟨HPB.out.1.below hB34, HPB.out.2.1.below hB34, HPB.out.2.2.below hB34⟩
  have HSZ := Lib.hid hB34.size
  replace y0 := cell_kept y0 hB34
  replace y1 := cell_kept y1 hB34
  replace y2 := cell_kept y2 hB34
  replace y3 := cell_kept y3 hB34
  replace y4 := cell_kept y4 hB34
  have hB4 := belowNext hB3 hB34
  obtain ⟨n0, n1, n2, n3, n4, n5⟩ := HNB.out
  generalize hbb : w1.heap.size + 1 + 1 + 1 + 1 = bb at *
  have hbl : bb < W3.heap.size := cell_lt y0
  have hnl : w3.heap.size < W3.heap.size := cell_lt n0
  have hml : (madeB l).length ≤ 1000000 := by have := madeB_weigh l; have := length_le_weigh (madeB l); omega
  have HML : Hid ((madeB l).length + 2 ≤ 1000000) := Lib.hid (by have := madeB_weigh l; have := length_le_weigh (madeB l); omega)
  have HEA : Hid (((W3.alloc (Obj.cells #[] 26)).drew).heap[W3.heap.size]? = some (Obj.cells #[] 26)) := Lib.hid (heap_new _ _)
  have HEB : Hid ((((W3.alloc (Obj.cells #[] 26)).alloc (Obj.cells #[.string ⟨#[113]⟩, .string ⟨#[]⟩, .slice none 0 0, .slice none 0 0, .slice none 0 0, .string bad.kind, .string bad.text, .slice A1 bad.marks.length c1, .slice A2 bad.attrs.length c2, .slice A3 bad.kids.length c3] 26)).drew).heap[W3.heap.size]? = some (Obj.cells #[] 26)) := Lib.hid (heap_old _ _ _ (heap_new _ _))
  have HEC : Hid ((((W3.alloc (Obj.cells #[.string ⟨#[113]⟩, .string ⟨#[]⟩, .slice none 0 0, .slice none 0 0, .slice none 0 0, .string bad.kind, .string bad.text, .slice A1 bad.marks.length c1, .slice A2 bad.attrs.length c2, .slice A3 bad.kids.length c3] 26)).alloc (Obj.cells #[] 26)).drew).heap[W3.heap.size + 1]? = some (Obj.cells #[] 26)) := Lib.hid (heap_new' _ _ (by simp))
  have HBA : Hid (Below W3.heap.size W3 ((W3.alloc (Obj.cells #[] 26)).drew)) := Lib.hid ((Below.refl _ _).alloc (Nat.le_refl _) _).drew
  have HBB : Hid (Below W3.heap.size W3 (((W3.alloc (Obj.cells #[] 26)).alloc (Obj.cells #[.string ⟨#[113]⟩, .string ⟨#[]⟩, .slice none 0 0, .slice none 0 0, .slice none 0 0, .string bad.kind, .string bad.text, .slice A1 bad.marks.length c1, .slice A2 bad.attrs.length c2, .slice A3 bad.kids.length c3] 26)).drew)) := Lib.hid (((Below.refl _ _).alloc (Nat.le_refl _) _).alloc (by simp) _).drew
  have HBC : Hid (Below W3.heap.size W3 (((W3.alloc (Obj.cells #[.string ⟨#[113]⟩, .string ⟨#[]⟩, .slice none 0 0, .slice none 0 0, .slice none 0 0, .string bad.kind, .string bad.text, .slice A1 bad.marks.length c1, .slice A2 bad.attrs.length c2, .slice A3 bad.kids.length c3] 26)).alloc (Obj.cells #[] 26)).drew)) := Lib.hid (((Below.refl _ _).alloc (Nat.le_refl _) _).alloc (by simp) _).drew
  have HXB : Hid ((((W3.alloc (Obj.cells #[] 26)).alloc (Obj.cells #[.string ⟨#[113]⟩, .string ⟨#[]⟩, .slice none 0 0, .slice none 0 0, .slice none 0 0, .string bad.kind, .string bad.text, .slice A1 bad.marks.length c1, .slice A2 bad.attrs.length c2, .slice A3 bad.kids.length c3] 26)).drew).heap[W3.heap.size + 1]? = some (Obj.cells #[.string ⟨#[113]⟩, .string ⟨#[]⟩, .slice none 0 0, .slice none 0 0, .slice none 0 0, .string bad.kind, .string bad.text, .slice A1 bad.marks.length c1, .slice A2 bad.attrs.length c2, .slice A3 bad.kids.length c3] 26)) := Lib.hid (heap_new' _ _ (by simp))
  have HXC : Hid ((((W3.alloc (Obj.cells #[.string ⟨#[113]⟩, .string ⟨#[]⟩, .slice none 0 0, .slice none 0 0, .slice none 0 0, .string bad.kind, .string bad.text, .slice A1 bad.marks.length c1, .slice A2 bad.attrs.length c2, .slice A3 bad.kids.length c3] 26)).alloc (Obj.cells #[] 26)).drew).heap[W3.heap.size]? = some (Obj.cells #[.string ⟨#[113]⟩, .string ⟨#[]⟩, .slice none 0 0, .slice none 0 0, .slice none 0 0, .string bad.kind, .string bad.text, .slice A1 bad.marks.length c1, .slice A2 bad.attrs.length c2, .slice A3 bad.kids.length c3] 26)) := Lib.hid (heap_old _ _ _ (heap_new _ _))
  have HSB : Hid (W3.heap.size + 1 < (((W3.alloc (Obj.cells #[] 26)).alloc (Obj.cells #[.string ⟨#[113]⟩, .string ⟨#[]⟩, .slice none 0 0, .slice none 0 0, .slice none 0 0, .string bad.kind, .string bad.text, .slice A1 bad.marks.length c1, .slice A2 bad.attrs.length c2, .slice A3 bad.kids.length c3] 26)).drew).heap.size) := Lib.hid (by show _ < ((W3.heap.push _).push _).size; simp)
  have HSC : Hid (W3.heap.size < (((W3.alloc (Obj.cells #[.string ⟨#[113]⟩, .string ⟨#[]⟩, .slice none 0 0, .slice none 0 0, .slice none 0 0, .string bad.kind, .string bad.text, .slice A1 bad.marks.length c1, .slice A2 bad.attrs.length c2, .slice A3 bad.kids.length c3] 26)).alloc (Obj.cells #[] 26)).drew).heap.size) := Lib.hid (by show _ < ((W3.heap.push _).push _).size; simp; omega)
  have hne5 : W3.heap.size + 1 ≠ W3.heap.size := by omega
  have hne6 : W3.heap.size ≠ W3.heap.size + 1 := by omega
  have hB3w : Below w.heap.size w w3 := hB3
  have hbbl : bb < w3.heap.size := by omega
  clear hbb hB34 hz34 HK3 HPB HNB hB3 hB23 hzz
  go_cut [4] (fun s4 wx => s4 = .bool false ∧ WrongMid W3 w3.heap.size (madeB l ++ [qT, bad]) wx)
  case first =>
    go_region_law (first
      | ((with_reducible refine step_app1 HSZ.out (x := .slice A4 (madeB l).length c4) rfl (.tmp 36) (.tmp 38) rfl rfl rfl HEA.out (Nat.le_refl _) HBA.out HKN.out hml ?_); intro v6 w6 hown6 hB6 hk6; have HO6 := Lib.hid hown6; have r0 := cell_kept y0 hB6; have r1 := cell_kept y1 hB6; have r2 := cell_kept y2 hB6; have r3 := cell_kept y3 hB6; have r4 := cell_kept y4 hB6; clear hk6 hown6)
      | ((with_reducible refine step_app1 HSZ.out (x := .slice A4 (madeB l).length c4) rfl (.tmp 36) (.tmp 38) rfl rfl rfl HEB.out (Nat.le_refl _) HBB.out HKN.out hml ?_); intro v6 w6 hown6 hB6 hk6; have HO6 := Lib.hid hown6; have r0 := cell_kept y0 hB6; have r1 := cell_kept y1 hB6; have r2 := cell_kept y2 hB6; have r3 := cell_kept y3 hB6; have r4 := cell_kept y4 hB6; have HP6 := Lib.hid ((hk6 _ HSB.out hne5).trans HXB.out); clear hk6 hown6)
      | ((with_reducible refine step_app1 HSZ.out (x := .slice A4 (madeB l).length c4) rfl (.tmp 36) (.tmp 38) rfl rfl rfl HEC.out (Nat.le_succ _) HBC.out HKN.out hml ?_); intro v6 w6 hown6 hB6 hk6; have HO6 := Lib.hid hown6; have r0 := cell_kept y0 hB6; have r1 := cell_kept y1 hB6; have r2 := cell_kept y2 hB6; have r3 := cell_kept y3 hB6; have r4 := cell_kept y4 hB6; have HP6 := Lib.hid ((hk6 _ HSC.out hne6).trans HXC.out); clear hk6 hown6)
      | (refine step_app2 HSZ.out (v := v6) (L2 := [qT, bad]) rfl (.tmp 39) (.tmp 42) rfl rfl rfl (HO6.out.later ((Below.refl _ _).alloc (Nat.le_refl _) _) (fun _ hb => Nat.lt_of_lt_of_le hb (Nat.le_trans HSZ.out hB6.size))) (hB6.alloc hB6.size _) (src_two HSZ.out (heap_new _ _) (hB6.alloc hB6.size _) HPW.out.1 HPW.out.2.1 HPW.out.2.2) HML.out ?_; intro v9 w9 hown9 hB9; obtain ⟨A9, c9, rfl, _, _⟩ := hown9.form; have HO9 := Lib.hid hown9; have t4 := cell_kept n4 hB9; have t5 := (hB9.frozen (p := ⟨w3.heap.size, 4, none⟩) (cell_lt n4)).trans n5; clear hown9)
      | (refine step_app2 HSZ.out (v := v6) (L2 := [qT, bad]) rfl (.tmp 39) (.tmp 42) rfl rfl rfl HO6.out hB6 (src_two HSZ.out HP6.out hB6 HPW.out.1 HPW.out.2.1 HPW.out.2.2) HML.out ?_; intro v9 w9 hown9 hB9; obtain ⟨A9, c9, rfl, _, _⟩ := hown9.form; have HO9 := Lib.hid hown9; have t4 := cell_kept n4 hB9; have t5 := (hB9.frozen (p := ⟨w3.heap.size, 4, none⟩) (cell_lt n4)).trans n5; clear hown9))
    all_goals
      go_wp2_with fail
      go_meet
      exact ⟨rfl, A9, c9, w9, by rw [List.length_append]; rfl, HO9.out, hB9⟩
  case rest =>
    obtain ⟨rfl, A9, c9, w9, hwx, hown9, hB9⟩ := hcut
    have HF : Hid (checkB (.mk DOC ByteArray.empty [] [] (madeB l ++ [qT, bad])) = 2) := Lib.hid (checkB_bad (doc_bad _ _ HBF.out))
    have HW9 : Hid (weigh (.mk DOC ByteArray.empty [] [] (madeB l ++ [qT, bad])) ≤ 1000000) := Lib.hid (by
      have h1 := madeB_weigh l
      have h2 : weigh qT = 3 := by decide +kernel
      have h3 : DOC.size = 3 := by decide +kernel
      have h4 : ByteArray.empty.size = 0 := by decide +kernel
      simp only [weigh, weighAll_append, weighAll, weighL, weighP, List.map_nil, List.sum_nil, h2, h3, h4]; omega)
    have HCB : Hid (checkB bad = 2) := Lib.hid (checkB_bad HBF.out)
    have hbw2 : weigh bad ≤ 1000000 := by omega
    generalize madeB l ++ [qT, bad] = L at *
    obtain ⟨hfar, hset, hoff, hblk, hsz9, hos9⟩ := set_one (w := w9) (g := w3.heap.size) (o := 4) (v := .slice A9 L.length c9) (cell_kept n4 hB9)
    rw [← hwx] at hfar hset hoff hblk hsz9 hos9
    have hneb : bb ≠ w3.heap.size := by omega
    have t0 := (hoff 0 (by omega)).trans (cell_kept n0 hB9)
    have t1 := (hoff 1 (by omega)).trans (cell_kept n1 hB9)
    have t2 := (hoff 2 (by omega)).trans (cell_kept n2 hB9)
    have t3 := (hoff 3 (by omega)).trans (cell_kept n3 hB9)
    have s0 := (hfar bb 0 hneb).trans (cell_kept y0 hB9)
    have s1 := (hfar bb 1 hneb).trans (cell_kept y1 hB9)
    have s2 := (hfar bb 2 hneb).trans (cell_kept y2 hB9)
    have s3 := (hfar bb 3 hneb).trans (cell_kept y3 hB9)
    have s4' := (hfar bb 4 hneb).trans (cell_kept y4 hB9)
    have hzz9 : W3.heap.size ≤ wc.heap.size := by rw [hsz9]; exact hB9.size
    have HNN : Hid (Node wc (Under wc.heap.size) (.agg #[.string ⟨#[100, 111, 99]⟩, .string ⟨#[]⟩, .slice none 0 0, .slice none 0 0, .slice A9 L.length c9]) (.mk DOC ByteArray.empty [] [] L)) :=
      Lib.hid ⟨_, _, _, rfl, strs_none, pairs_none, (hown9.kids (S' := But w9.heap.size w3.heap.size) (fun b hb => ⟨by have := hB9.size; unfold Under at hb; omega, by unfold Under at hb; omega⟩) (fun g hg => ⟨(hown9.base_le g hg).2, by have := (hown9.base_le g hg).1; omega⟩)).keep
        (fun b hb => by unfold Under; rw [hsz9]; exact hb.1) (fun b hb => hblk b hb.2)⟩
    have HNB : Hid (Node wc (Under wc.heap.size) (.agg #[.string bad.kind, .string bad.text, .slice A1 bad.marks.length c1, .slice A2 bad.attrs.length c2, .slice A3 bad.kids.length c3]) bad) := Lib.hid (by
      have hk : ∀ b, Under w3.heap.size b → wc.heap[b]? = W3.heap[b]? := fun b hb => (hblk b (by unfold Under at hb; omega)).trans (hB9.block b (by unfold Under at hb; omega))
      have hs : ∀ b, Under w3.heap.size b → Under wc.heap.size b := fun b hb => by unfold Under at *; omega
      exact ⟨_, _, _, rfl, HPW.out.1.keep hs hk, HPW.out.2.1.keep hs hk, HPW.out.2.2.keep hs hk⟩)
    have HBC : Hid (Below w.heap.size w wc) := Lib.hid (by
      have h := hB4.size
      have hbl3 := hB3w.size
      exact ⟨hos9.1.trans (hB9.os.trans hB4.os), hos9.2.1.trans (hB9.tape.trans hB4.tape), hos9.2.2.trans (hB9.output.trans hB4.output), by omega, fun b hb => (hblk b (by omega)).trans ((hB9.block b (by omega)).trans (hB4.block b hb))⟩)
    have HTC := Lib.hid (HT.out.below HBC.out)
    clear hwx hown9 hB9 hfar hoff hblk hsz9 hos9 n0 n1 n2 n3 n4 n5 y0 y1 y2 y3 y4 hB4
    go_wp2_with fail
    refine (check_any _ bad _ HNB.out hbw2 HTC.out).mono ?_
    rintro e w10 ⟨rfl, hb10⟩
    rw [HCB.out]
    replace t0 := cell_kept t0 hb10
    replace t1 := cell_kept t1 hb10
    replace t2 := cell_kept t2 hb10
    replace t3 := cell_kept t3 hb10
    replace hset := cell_kept hset hb10
    go_wp2_with fail
    refine (check_any _ (.mk DOC ByteArray.empty [] [] L) _ ((HNN.out.below hb10).more hb10.size) HW9.out (HTC.out.below hb10)).mono ?_
    rintro e w11 ⟨rfl, hb11⟩
    rw [HF.out]
    replace t0 := cell_kept t0 hb11
    replace t1 := cell_kept t1 hb11
    replace t2 := cell_kept t2 hb11
    replace t3 := cell_kept t3 hb11
    replace hset := cell_kept hset hb11
    have hb21 := belowNext hb10 hb11
    go_wp2_with fail
    refine (right_any _ (.mk DOC ByteArray.empty [] [] L) _ ((HNN.out.below hb21).more hb21.size) HW9.out (HTC.out.below hb21)).mono ?_
    rintro e w12 ⟨rfl, hb12⟩
    rw [HF.out]
    go_wp2
    go_ret
    exact ⟨rfl, belowNext HBC.out (belowNext hb21 hb12)⟩
end Go.Proofs.YtjfjmcdfomanfaaDoor
