/-
  The document's Depth and Words: what they answer.
-/
import Derived.Test.YtdbpnfabcmndjaaDoorNa
import Derived.Test.YtdbpnfabcmndjaaDoorW15
namespace Go.Proofs.YtdbpnfabcmndjaaDoor
open Go.RowKit Go.Sort

/-- A node's kid, read in a later world. -/
theorem Kids.late {w W : World} {A : Option Addr} {n c : Nat} {l : List Tree} {i : Nat} {x : Tree} (h : Kids w (Under w.heap.size) (.slice A n c) l) (hb : Below w.heap.size w W) (hx : l[i]? = some x) :
    ∃ b o A1 n1 c1 A2 n2 c2 A3 c3, A = some ⟨b, o, none⟩ ∧ W.cell? ⟨b, o + i * 5, none⟩ = some (.string x.kind) ∧ W.cell? ⟨b, o + i * 5 + 1, none⟩ = some (.string x.text) ∧ W.cell? ⟨b, o + i * 5 + 2, none⟩ = some (.slice A1 n1 c1) ∧
      W.cell? ⟨b, o + i * 5 + 3, none⟩ = some (.slice A2 n2 c2) ∧ W.cell? ⟨b, o + i * 5 + 4, none⟩ = some (.slice A3 x.kids.length c3) ∧ (∀ W', Below w.heap.size w W' → Node W' (Under W'.heap.size) (.agg #[.string x.kind, .string x.text, .slice A1 n1 c1, .slice A2 n2 c2, .slice A3 x.kids.length c3]) x) := by
  obtain ⟨b, o, rfl, hb', hr⟩ := h.get (List.getElem?_eq_some_iff.1 hx).1
  obtain ⟨vm, va, vk, e0, e1, e2, e3, e4, hm, ha, hk⟩ := hr.node hx
  obtain ⟨A1, c1, rfl, _⟩ := id hm.form
  obtain ⟨A2, c2, rfl, _⟩ := id ha
  obtain ⟨A3, c3, rfl, _⟩ := id hk.form
  have c : ∀ j v, w.cell? ⟨b, j, none⟩ = some v → W.cell? ⟨b, j, none⟩ = some v := fun j v h => (hb.cell (p := ⟨b, j, none⟩) hb').trans h
  exact ⟨b, o, _, _, _, _, _, _, _, _, rfl, c _ _ e0, c _ _ e1, c _ _ e2, c _ _ e3, c _ _ e4, fun W' hW => Node.keep ⟨_, _, _, rfl, hm, ha, hk⟩ (fun b hb => Nat.lt_of_lt_of_le hb hW.size) (fun b hb => hW.block b hb)⟩
theorem Node.forms1 {w : World} {S : Nat → Prop} {v : Value} {u : Tree} (h : Node w S v u) : ∃ A1 c1 A2 c2 A3 c3, v = .agg #[.string u.kind, .string u.text, .slice A1 u.marks.length c1, .slice A2 u.attrs.length c2, .slice A3 u.kids.length c3] := by
  obtain ⟨vm, va, vk, rfl, hm, ha, hl⟩ := h
  obtain ⟨A1, c1, rfl, _⟩ := hm.form
  obtain ⟨A2, c2, rfl, _⟩ := ha
  obtain ⟨A3, c3, rfl, _⟩ := hl.form
  exact ⟨_, _, _, _, _, _, rfl⟩
theorem Node.kids1 {w : World} {S : Nat → Prop} {k t : ByteArray} {vm va vk : Value} {u : Tree} (h : Node w S (.agg #[.string k, .string t, vm, va, vk]) u) : Strs w S vm u.marks ∧ Pairs w S va u.attrs ∧ Kids w S vk u.kids := by
  obtain ⟨vm', va', vk', he, h1, h2, hl⟩ := h
  injection he with he
  have h4 : k = u.kind ∧ t = u.text ∧ vm = vm' ∧ va = va' ∧ vk = vk' := by simpa using he
  obtain ⟨_, _, rfl, rfl, rfl⟩ := h4
  exact ⟨h1, h2, hl⟩
theorem deepB_take {l : List Tree} {k : Nat} {x : Tree} (hx : l[k]? = some x) : deepB (l.take (k + 1)) = max (deepB (l.take k)) (depthB x) := by
  have h : ∀ a b : List Tree, deepB (a ++ b) = max (deepB a) (deepB b) := by
    intro a b
    induction a with
    | nil => simp [deepB]
    | cons y a ih => simp only [List.cons_append, deepB, ih]; omega
  rw [List.take_add_one, hx, h]; simp [deepB]

def RDepth (t : Tree) : Prop := ∀ (v : Value) (w : World), weigh t ≤ 1100000 → Node w (Under w.heap.size) v t →
  Calls Tryd.prog 17 #[v] w fun e w' => e = .returned (.int .i64 (depthB t)) ∧ Below w.heap.size w w'
set_option maxHeartbeats 2000000 in
theorem rdepth_of (t : Tree) (ih : ∀ x, x ∈ t.kids → RDepth x) : RDepth t := by
  intro v w hw h
  have IH := Lib.hid ih
  have HN := Lib.hid h
  obtain ⟨A1, c1, A2, c2, A3, c3, rfl⟩ := h.forms1
  have hkl := length_le_weigh t.kids
  have hkw := kids_weigh t
  clear ih h
  generalize hW1 : w.alloc (.cells #[.string t.kind, .string t.text, .slice A1 t.marks.length c1, .slice A2 t.attrs.length c2, .slice A3 t.kids.length c3] 26) = W1
  have HB : Hid (Below w.heap.size w W1) := Lib.hid (by subst hW1; exact (Below.refl _ _).alloc (Nat.le_refl _) _)
  have HBL : Hid (W1.heap[w.heap.size]? = some (.cells #[.string t.kind, .string t.text, .slice A1 t.marks.length c1, .slice A2 t.attrs.length c2, .slice A3 t.kids.length c3] 26)) := Lib.hid (by
    subst hW1; show (w.heap.push _)[w.heap.size]? = _; simp)
  have HK1 : Hid (Kids W1 (Under W1.heap.size) (.slice A3 t.kids.length c3) t.kids) := Lib.hid ((HN.out.kids1.2.2.below HB.out).more HB.out.size)
  obtain ⟨x0, x1, x2, x3, x4⟩ : W1.cell? ⟨w.heap.size, 0, none⟩ = some (.string t.kind) ∧ W1.cell? ⟨w.heap.size, 1, none⟩ = some (.string t.text) ∧ W1.cell? ⟨w.heap.size, 2, none⟩ = some (.slice A1 t.marks.length c1) ∧ W1.cell? ⟨w.heap.size, 3, none⟩ = some (.slice A2 t.attrs.length c2) ∧ W1.cell? ⟨w.heap.size, 4, none⟩ = some (.slice A3 t.kids.length c3) := by
    have := HBL.out; simp [World.cell?, this]
  have HX4 := Lib.hid x4
  have HW1 := Lib.hid hW1
  clear hW1
  cases hk : isTxt t.kind with
  | true =>
    have HE : Hid (depthB t = 0) := Lib.hid (by obtain ⟨k, t, m, a, l⟩ := t; simp only [Tree.kind] at hk; simp [depthB, hk])
    have hkk : (t.kind.toList == [116, 101, 120, 116]) = true := hk
    clear hk
    go_enter Tryd.func17, Tryd.ntmps17
    go_upto_region 2 with fail
    rw [HW1.out]
    go_wp2
    go_ret
    exact ⟨by rw [HE.out]; rfl, HB.out⟩
  | false =>
    have HE : Hid (depthB t = deepB t.kids + 1) := Lib.hid (by obtain ⟨k, t, m, a, l⟩ := t; simp only [Tree.kind] at hk; simp [depthB, hk, Tree.kids])
    have hkk : (t.kind.toList == [116, 101, 120, 116]) = false := hk
    clear hk
    go_enter Tryd.func17, Tryd.ntmps17
    go_upto_region 3 with fail
    rw [HW1.out]
    clear x0 x1 x2 x3 x4
    go_wp2
    go_loopg [3, 4] t.kids.length (fun gh s3 s4 wx => ∃ k : Nat, k + gh = t.kids.length ∧ s4 = .int .i64 (k : Int) ∧ s3 = .int .i64 (deepB (t.kids.take k) : Nat) ∧ Hid (Below W1.heap.size W1 wx))
    case atStart => exact ⟨0, by omega, rfl, by simp [deepB], Lib.hid (Below.refl _ _)⟩
    case round =>
      obtain ⟨k, hkg, rfl, rfl, hb⟩ := hrel
      have x4 := cell_kept HX4.out hb.out
      have hdw := deep_le_weigh (t.kids.take k)
      have hwt := weighAll_take t.kids k
      by_cases hlt : k < t.kids.length
      · have hx : t.kids[k]? = some t.kids[k] := List.getElem?_eq_getElem hlt
        have HIX := Lib.hid (IH.out t.kids[k] (List.getElem_mem hlt))
        have hwx := weigh_mem (List.getElem_mem hlt)
        have HD := Lib.hid (deepB_take hx)
        generalize t.kids[k] = x at *
        obtain ⟨b, o, E1, l1, e1, E2, l2, e2, E3, e3, rfl, r0, r1, r2, r3, r4, hnx⟩ := HK1.out.late hb.out hx
        have HNX := Lib.hid hnx
        have hdx := depth_le_weigh x
        clear hx hnx
        go_wp2_with fail
        refine (HIX.out _ wr (by omega) (HNX.out wr hb.out)).mono ?_
        rintro e w4 ⟨rfl, hb4⟩
        have HB4 := Lib.hid (belowNext hb.out hb4)
        clear hb4 r0 r1 r2 r3 r4
        generalize deepB (t.kids.take k) = d at *
        generalize depthB x = dx at *
        go_wp2
        go_roundg (t.kids.length - (k + 1))
        case measure => omega
        case rel => exact ⟨k + 1, by omega, by go_num, by rw [HD.out]; go_num, HB4⟩
      · have HD : Hid (deepB t.kids = deepB (t.kids.take k)) := Lib.hid (by rw [List.take_of_length_le (by omega)])
        generalize deepB (t.kids.take k) = d at *
        go_wp2
        go_ret
        exact ⟨by rw [HE.out, HD.out]; exact ret_num (by omega), HB.out.trans (hb.out.mono HB.out.size)⟩
theorem rdepth_any (t : Tree) : RDepth t := by
  induction t using Tree.induct_one with
  | h k t m a l ih => exact rdepth_of _ fun x hx => ih x hx
end Go.Proofs.YtdbpnfabcmndjaaDoor
