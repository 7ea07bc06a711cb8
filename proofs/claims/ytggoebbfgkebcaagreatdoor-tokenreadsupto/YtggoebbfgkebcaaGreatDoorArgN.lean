/-
  A statement's argument that is a node, or nodes, as it is read.
-/
import Derived.Test.YtggoebbfgkebcaaGreatDoorArg
import Derived.Test.YtggoebbfgkebcaaGreatDoorRows
import Derived.ChangeArms
namespace Go.Proofs.YtggoebbfgkebcaaGreatDoor
open Go.ChangeShapes Go.WideShapes Go.ChangeAt Go.RowKit Go.Deep

theorem bulkAll_map {H : Type} {α : Type} (μ : α → Nat) : ∀ (l : List α) (ys : List (DataW H × List MemPlace)), l.length = ys.length → (∀ (i : Nat) (c : α) (y : DataW H × List MemPlace), l[i]? = some c → ys[i]? = some y → μ c ≤ Rows.uptoBulk y.1) → (l.map μ).sum ≤ Rows.uptoBulkAll (ys.map (·.1))
  | [], [], _, _ => by simp [Rows.uptoBulkAll]
  | [], y :: ys, h, _ => by simp at h
  | c :: l, [], h, _ => by simp at h
  | c :: l, y :: ys, h, hq => by
    have h1 := hq 0 c y rfl rfl
    have h2 := bulkAll_map μ l ys (by simpa using h) fun i a b ha hb => hq (i + 1) a b (by simpa using ha) (by simpa using hb)
    rw [List.map_cons, List.map_cons, List.sum_cons, Rows.uptoBulkAll]; omega
/-- A slice of things of k cells each; what they weigh together is no more than what is read. -/
theorem slice_of {H : Type} {enc : TypeId × Value → H} {W : World} {α : Type} {Q : Nat → Nat → α → Prop} (μ : α → Nat) {tsl e : TypeId} {k fuel : Nat} {v : Value} {x : DataW H × List MemPlace}
    (hu : Tryz.prog.underlying tsl = some (.slice e)) (hk : Tryz.prog.cellsOf e = k) (hk0 : 0 < k) (h : DataW.trod enc Tryz.prog W 0 (fun _ => true) true fuel tsl [v] = some x)
    (each : ∀ n, n < fuel → ∀ (b o : Nat) (cs : List Value) (y : DataW H × List MemPlace), (∀ j, j < k → W.cell? ⟨b, o + j, none⟩ = cs[j]?) → cs.length = k → DataW.trod enc Tryz.prog W 0 (fun _ => true) true n e cs = some y → ∃ c : α, Q b o c ∧ μ c ≤ Rows.uptoBulk y.1) :
    ∃ (l : List α) (A : Option Addr) (c : Nat), v = .slice A l.length c ∧ l.length ≤ c ∧ c ≤ maxLen ∧ (l = [] ∨ ∃ b o, A = some ⟨b, o, none⟩ ∧ b < W.heap.size ∧ ∀ i y, l[i]? = some y → Q b (o + i * k) y) ∧ (l.map μ).sum + 1 ≤ Rows.uptoBulk x.1 := by
  rcases DataW.trod_slice hu h with ⟨hcs, hx⟩ | ⟨a, len, cap, elems, rest, n, hn, hcs, hx, _, hl, hm, hlen, hel, _⟩
  · injection hcs with hv _
    subst hv; subst hx
    exact ⟨[], none, 0, rfl, Nat.le_refl _, by unfold maxLen; omega, .inl rfl, by simp [Rows.uptoBulk]⟩
  · injection hcs with hv _
    subst hv
    have hbx : Rows.uptoBulkAll (elems.map (·.1)) + 1 ≤ Rows.uptoBulk x.1 := by rw [hx]; simp only [Rows.uptoBulk]; omega
    rcases Nat.eq_zero_or_pos len with h0 | h0
    · subst h0
      exact ⟨[], some a, cap, rfl, Nat.zero_le _, hm, .inl rfl, by simp only [List.map_nil, List.sum_nil]; omega⟩
    · have got : ∀ i, i < len → ∃ cs y, elems[i]? = some y ∧ W.cells? 0 (a.add (i * k)) k = some cs ∧ DataW.trod enc Tryz.prog W 0 (fun _ => true) true n e cs = some y := fun i hi => by
        have h1 := hel i hi
        rw [hk] at h1
        obtain ⟨y, hy⟩ : ∃ y, elems[i]? = some y := ⟨_, List.getElem?_eq_getElem (by omega)⟩
        rw [hy, Option.bind_eq_some_iff] at h1
        obtain ⟨cs, hc, ht⟩ := h1
        exact ⟨cs, y, hy, hc, ht⟩
      obtain ⟨cs0, y0, _, hc0, _⟩ := got 0 h0
      obtain ⟨_, hl0, hat0⟩ := World.cells?_some hc0
      have ha0 := hat0 0 hk0
      rw [Nat.zero_mul] at ha0
      have hcell0 : ∃ u, W.cell? a = some u := by
        refine ⟨cs0[0]'(by omega), ?_⟩
        have e : (a.add 0).add 0 = a := by simp [Addr.add]
        rw [e] at ha0
        rw [ha0, List.getElem?_eq_getElem]
      obtain ⟨u, hu0⟩ := hcell0
      have ha : a = ⟨a.block, a.off, none⟩ := addr_plain hu0
      generalize a.block = b at ha
      generalize a.off = o at ha
      subst ha
      have hb : b < W.heap.size := cell_lt hu0
      have each' : ∀ i, i < len → ∃ c : α, Q b (o + i * k) c ∧ ∀ y, elems[i]? = some y → μ c ≤ Rows.uptoBulk y.1 := fun i hi => by
        obtain ⟨cs, y, hy, hc, ht⟩ := got i hi
        obtain ⟨_, hl1, hat⟩ := World.cells?_some hc
        obtain ⟨c, hq, hmu⟩ := each n (by omega) b (o + i * k) cs y (fun j hj => by
          have := hat j hj
          rw [add_cell, add_cell] at this
          exact this) hl1 ht
        exact ⟨c, hq, fun y' hy' => by rw [hy] at hy'; rw [← Option.some.inj hy']; exact hmu⟩
      have build : ∀ m, m ≤ len → ∃ l : List α, l.length = m ∧ ∀ i y, l[i]? = some y → Q b (o + i * k) y ∧ ∀ z, elems[i]? = some z → μ y ≤ Rows.uptoBulk z.1 := by
        intro m
        induction m with
        | zero => exact fun _ => ⟨[], rfl, fun i x h => by simp at h⟩
        | succ m ih =>
          intro hm'
          obtain ⟨l, hll, hall⟩ := ih (by omega)
          obtain ⟨c, hc⟩ := each' m (by omega)
          refine ⟨l ++ [c], by simp [hll], fun i y hi => ?_⟩
          rcases Nat.lt_or_ge i l.length with hlt | hge
          · rw [List.getElem?_append_left hlt] at hi; exact hall i y hi
          · rw [List.getElem?_append_right hge] at hi
            obtain rfl : i = l.length := by
              rcases Nat.eq_zero_or_pos (i - l.length) with h' | h'
              · omega
              · rw [List.getElem?_eq_none (by simp; omega)] at hi; cases hi
            simp at hi
            subst hi
            rw [hll]; exact hc
      obtain ⟨l, hll, hall⟩ := build len (Nat.le_refl _)
      have hsum := bulkAll_map μ l elems (by omega) fun i c y hc hy => (hall i c hc).2 y hy
      subst hll
      exact ⟨l, some ⟨b, o, none⟩, cap, rfl, hl, hm, .inr ⟨b, o, rfl, hb, fun i y hi => (hall i y hi).1⟩, by omega⟩

theorem str_cells : Tryz.prog.cellsOf 9 = 1 := by kernel_rfl
theorem attr_cells : Tryz.prog.cellsOf 80 = 2 := by kernel_rfl
theorem node_cells : Tryz.prog.cellsOf 41 = 5 := by kernel_rfl
theorem strS_cells : Tryz.prog.cellsOf 38 = 1 := by kernel_rfl
theorem attrS_cells : Tryz.prog.cellsOf 39 = 1 := by kernel_rfl
theorem nodeS_cells : Tryz.prog.cellsOf 26 = 1 := by kernel_rfl

section
variable {H : Type} {enc : TypeId × Value → H} {W : World}
theorem strs_of {fuel : Nat} {v : Value} {x : DataW H × List MemPlace} (h : DataW.trod enc Tryz.prog W 0 (fun _ => true) true fuel 38 [v] = some x) :
    ∃ l, Strs W (Under W.heap.size) v l ∧ weighL l + 1 ≤ Rows.uptoBulk x.1 := by
  obtain ⟨l, A, c, hv, h1, h2, h3, h4⟩ := slice_of (Q := fun b o (s : ByteArray) => W.cell? ⟨b, o, none⟩ = some (.string s)) (fun s => s.size + 1) Tryz.underlying38 str_cells (by omega) h (by
    intro n _ b o cs y hc hl ht
    obtain ⟨s, hs, hy, hz⟩ := DataW.trod_string Tryz.underlying9 ht
    subst hs; subst hy
    exact ⟨s, by simpa using hc 0 (by omega), by simp only [Rows.uptoBulk, Lib.size_eq]; omega⟩)
  refine ⟨l, ⟨A, c, hv, h1, h2, h3.imp id ?_⟩, h4⟩
  rintro ⟨b, o, hA, hb, hq⟩
  exact ⟨b, o, hA, hb, fun i s hi => by have := hq i s hi; rwa [Nat.mul_one] at this⟩
set_option maxRecDepth 100000 in
theorem pairs_of {fuel : Nat} {v : Value} {x : DataW H × List MemPlace} (h : DataW.trod enc Tryz.prog W 0 (fun _ => true) true fuel 39 [v] = some x) :
    ∃ l, Pairs W (Under W.heap.size) v l ∧ weighP l + 1 ≤ Rows.uptoBulk x.1 := by
  obtain ⟨l, A, c, hv, h1, h2, h3, h4⟩ := slice_of (Q := fun b o (p : ByteArray × ByteArray) => W.cell? ⟨b, o, none⟩ = some (.string p.1) ∧ W.cell? ⟨b, o + 1, none⟩ = some (.string p.2)) (fun p => p.1.size + p.2.size + 1) Tryz.underlying39 attr_cells (by omega) h (by
    intro n _ b o cs y hc hl ht
    obtain ⟨y0, y1, m, hy, _, t0, t1⟩ := trod_struct2 Tryz.underlying80 ht
    match cs, hl with
    | [c0, c1], _ =>
      simp only [str_cells] at t0 t1
      obtain ⟨s0, e0, z0, _⟩ := DataW.trod_string Tryz.underlying9 t0
      obtain ⟨s1, e1, z1, _⟩ := DataW.trod_string Tryz.underlying9 t1
      simp at e0 e1
      subst e0 e1 hy z0 z1
      exact ⟨(s0, s1), ⟨by simpa using hc 0 (by omega), by simpa using hc 1 (by omega)⟩, by simp only [Rows.uptoBulk, Rows.uptoBulkAll, Lib.size_eq]; omega⟩)
  refine ⟨l, ⟨A, c, hv, h1, h2, h3.imp id ?_⟩, h4⟩
  rintro ⟨b, o, hA, hb, hq⟩
  exact ⟨b, o, hA, hb, fun i p hi => hq i p hi⟩
theorem trod_five {t : TypeId} {f0 f1 f2 f3 f4 : Field} {fuel : Nat} {cs : List Value} {x : DataW H × List MemPlace} (ht : Tryz.prog.underlying t = some (.struct #[f0, f1, f2, f3, f4])) (h : DataW.trod enc Tryz.prog W 0 (fun _ => true) true fuel t cs = some x) :
    ∃ y0 y1 y2 y3 y4 n, fuel = n + 1 ∧ x.1 = .agg [y0.1, y1.1, y2.1, y3.1, y4.1] ∧ DataW.trod enc Tryz.prog W 0 (fun _ => true) true n f0.type ((cs.drop f0.offset).take (Tryz.prog.cellsOf f0.type)) = some y0 ∧
      DataW.trod enc Tryz.prog W 0 (fun _ => true) true n f1.type ((cs.drop f1.offset).take (Tryz.prog.cellsOf f1.type)) = some y1 ∧
      DataW.trod enc Tryz.prog W 0 (fun _ => true) true n f2.type ((cs.drop f2.offset).take (Tryz.prog.cellsOf f2.type)) = some y2 ∧
      DataW.trod enc Tryz.prog W 0 (fun _ => true) true n f3.type ((cs.drop f3.offset).take (Tryz.prog.cellsOf f3.type)) = some y3 ∧
      DataW.trod enc Tryz.prog W 0 (fun _ => true) true n f4.type ((cs.drop f4.offset).take (Tryz.prog.cellsOf f4.type)) = some y4 := by
  obtain ⟨xs, n, hn, hx, _, hlen, hf⟩ := DataW.trod_struct ht h
  match xs, hlen with
  | [y0, y1, y2, y3, y4], _ => exact ⟨y0, y1, y2, y3, y4, n, hn, by rw [hx]; rfl, by simpa using hf 0 f0 rfl, by simpa using hf 1 f1 rfl, by simpa using hf 2 f2 rfl, by simpa using hf 3 f3 rfl, by simpa using hf 4 f4 rfl⟩
theorem rowAt_ofN : ∀ (l : List Tree) (b o : Nat), (∀ i y, l[i]? = some y → NodeAt W (Under W.heap.size) y b (o + i * 5)) → RowAt W (Under W.heap.size) l b o
  | [], _, _, _ => trivial
  | x :: l, b, o, h => by
    refine ⟨by simpa using h 0 x rfl, rowAt_ofN l b (o + 5) fun i y hi => ?_⟩
    have := h (i + 1) y (by simpa using hi)
    rwa [show o + (i + 1) * 5 = o + 5 + i * 5 by omega] at this
theorem weighAll_sum : ∀ l : List Tree, weighAll l = (l.map weigh).sum
  | [] => by simp [weighAll]
  | x :: l => by rw [weighAll, List.map_cons, List.sum_cons, weighAll_sum l]
set_option maxRecDepth 100000 in
theorem node_of : ∀ (fuel : Nat) (cs : List Value) (y : DataW H × List MemPlace), cs.length = 5 → DataW.trod enc Tryz.prog W 0 (fun _ => true) true fuel 41 cs = some y →
    ∃ (t : Tree) (vm va vk : Value), cs = [.string t.kind, .string t.text, vm, va, vk] ∧ Strs W (Under W.heap.size) vm t.marks ∧ Pairs W (Under W.heap.size) va t.attrs ∧ Kids W (Under W.heap.size) vk t.kids ∧ weigh t ≤ Rows.uptoBulk y.1 := by
  intro fuel
  induction fuel using Nat.strongRecOn with
  | ind fuel ih =>
    intro cs y hl h
    obtain ⟨y0, y1, y2, y3, y4, n, hn, hy, g0, g1, g2, g3, g4⟩ := trod_five Tryz.underlying41 h
    match cs, hl with
    | [c0, c1, c2, c3, c4], _ =>
      simp only [str_cells, strS_cells, attrS_cells, nodeS_cells] at g0 g1 g2 g3 g4
      obtain ⟨k, e0, z0, _⟩ := DataW.trod_string Tryz.underlying9 g0
      obtain ⟨t, e1, z1, _⟩ := DataW.trod_string Tryz.underlying9 g1
      simp at e0 e1
      subst e0 e1
      obtain ⟨m, hm, zm⟩ := strs_of (v := c2) (x := y2) (by simpa using g2)
      obtain ⟨a, ha, za⟩ := pairs_of (v := c3) (x := y3) (by simpa using g3)
      obtain ⟨l, A, c, hv, h1, h2, h3, h4⟩ := slice_of (Q := fun b o (u : Tree) => NodeAt W (Under W.heap.size) u b o) weigh (v := c4) (x := y4) Tryz.underlying26 node_cells (by omega) (by simpa using g4) (by
        intro n' hn' b o cs y hc hl ht
        obtain ⟨u, vm, va, vk, rfl, um, ua, uk, ul⟩ := ih n' (by omega) cs y hl ht
        exact ⟨u, (nodeAt_iff u b o).2 ⟨vm, va, vk, by simpa using hc 0 (by omega), by simpa using hc 1 (by omega), by simpa using hc 2 (by omega), by simpa using hc 3 (by omega), by simpa using hc 4 (by omega), um, ua, uk⟩, ul⟩)
      refine ⟨.mk k t m a l, c2, c3, c4, rfl, hm, ha, ⟨A, c, hv, h1, h2, h3.imp id ?_⟩, ?_⟩
      · rintro ⟨b, o, hA, hb, hq⟩
        exact ⟨b, o, hA, hb, rowAt_ofN l b o fun i y hi => hq i y hi⟩
      · rw [← weighAll_sum] at h4
        rw [hy, z0, z1]
        simp only [Rows.uptoBulk, Rows.uptoBulkAll, weigh, Lib.size_eq]
        omega
end
end Go.Proofs.YtggoebbfgkebcaaGreatDoor
