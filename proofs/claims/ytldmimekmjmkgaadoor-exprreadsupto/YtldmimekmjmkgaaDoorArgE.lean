/-
  A statement's argument that is a slice of strings, or an expression, as it is read (as wip/node/ArgN, without nodes).
-/
import Derived.Test.YtldmimekmjmkgaaDoorGe
import Derived.ChangeArms
import Derived.ChangeSame
import Derived.Lib.LaidIn
import Derived.Deep.DeepHandedRow
import Derived.Deep.DeepWitnessRowRef
import Derived.ProofKit
import Derived.OpenShut
import Derived.Deep.Strs
import Derived.Deep.Slices
namespace Go.Proofs.YtldmimekmjmkgaaDoor
open Go.ChangeShapes Go.WideShapes Go.ChangeAt Go.RowKit Go.Deep

theorem addr_plain {W : World} {a : Addr} {v : Value} (h : W.cell? a = some v) : a = ⟨a.block, a.off, none⟩ := by
  obtain ⟨b, o, s⟩ := a
  cases s with
  | none => rfl
  | some s =>
    unfold World.cell? at h
    split at h
    · simp at h
    · cases h

theorem own : ownKnob Tryd.prog.godebug = none := by kernel_rfl
theorem laidOut : laidOutB Tryd.prog = true := by kernel_rfl
theorem bulkAll_map {H : Type} {α : Type} (μ : α → Nat) : ∀ (l : List α) (ys : List (DataW H × List MemPlace)), l.length = ys.length → (∀ (i : Nat) (c : α) (y : DataW H × List MemPlace), l[i]? = some c → ys[i]? = some y → μ c ≤ Rows.uptoBulk y.1) → (l.map μ).sum ≤ Rows.uptoBulkAll (ys.map (·.1))
  | [], [], _, _ => by simp [Rows.uptoBulkAll]
  | [], y :: ys, h, _ => by simp at h
  | c :: l, [], h, _ => by simp at h
  | c :: l, y :: ys, h, hq => by
    have h1 := hq 0 c y rfl rfl
    have h2 := bulkAll_map μ l ys (by simpa using h) fun i a b ha hb => hq (i + 1) a b (by simpa using ha) (by simpa using hb)
    rw [List.map_cons, List.map_cons, List.sum_cons, Rows.uptoBulkAll]; omega
/-- A slice of things of k cells each; what they weigh together is no more than what is read. -/
theorem slice_of {H : Type} {enc : TypeId × Value → H} {W : World} {α : Type} {Q : Nat → Nat → α → Prop} (μ : α → Nat) {tsl e : TypeId} {k fuel : Nat} {v : Value} {x : DataW H × List MemPlace}
    (hu : Tryd.prog.underlying tsl = some (.slice e)) (hk : Tryd.prog.cellsOf e = k) (hk0 : 0 < k) (h : DataW.trod enc Tryd.prog W 0 (fun _ => true) true fuel tsl [v] = some x)
    (each : ∀ n, n < fuel → ∀ (b o : Nat) (cs : List Value) (y : DataW H × List MemPlace), (∀ j, j < k → W.cell? ⟨b, o + j, none⟩ = cs[j]?) → cs.length = k → DataW.trod enc Tryd.prog W 0 (fun _ => true) true n e cs = some y → ∃ c : α, Q b o c ∧ μ c ≤ Rows.uptoBulk y.1) :
    ∃ (l : List α) (A : Option Addr) (c : Nat), v = .slice A l.length c ∧ l.length ≤ c ∧ c ≤ maxLen ∧ (l = [] ∨ ∃ b o, A = some ⟨b, o, none⟩ ∧ b < W.heap.size ∧ ∀ i y, l[i]? = some y → Q b (o + i * k) y) ∧ (l.map μ).sum + 1 ≤ Rows.uptoBulk x.1 := by
  rcases DataW.trod_slice hu h with ⟨hcs, hx⟩ | ⟨a, len, cap, elems, rest, n, hn, hcs, hx, _, hl, hm, hlen, hel, _⟩
  · injection hcs with hv _
    subst hv; subst hx
    exact ⟨[], none, 0, rfl, Nat.le_refl _, by unfold maxLen; omega, .inl rfl, by simp [Rows.uptoBulk]⟩
  · injection hcs with hv _
    subst hv
    have hbx : Rows.uptoBulkAll (elems.map (·.1)) + 1 ≤ Rows.uptoBulk x.1 := by rw [hx]; simp only [Rows.uptoBulk]; omega
    rcases Nat.eq_zero_or_pos len with h0 | h0
    · subst h0
      exact ⟨[], some a, cap, rfl, Nat.zero_le _, hm, .inl rfl, by simp only [List.map_nil, List.sum_nil]; omega⟩
    · have got : ∀ i, i < len → ∃ cs y, elems[i]? = some y ∧ W.cells? 0 (a.add (i * k)) k = some cs ∧ DataW.trod enc Tryd.prog W 0 (fun _ => true) true n e cs = some y := fun i hi => by
        have h1 := hel i hi
        rw [hk] at h1
        obtain ⟨y, hy⟩ : ∃ y, elems[i]? = some y := ⟨_, List.getElem?_eq_getElem (by omega)⟩
        rw [hy, Option.bind_eq_some_iff] at h1
        obtain ⟨cs, hc, ht⟩ := h1
        exact ⟨cs, y, hy, hc, ht⟩
      obtain ⟨cs0, y0, _, hc0, _⟩ := got 0 h0
      obtain ⟨_, hl0, hat0⟩ := World.cells?_some hc0
      have ha0 := hat0 0 hk0
      rw [Nat.zero_mul] at ha0
      have hcell0 : ∃ u, W.cell? a = some u := by
        refine ⟨cs0[0]'(by omega), ?_⟩
        have e : (a.add 0).add 0 = a := by simp [Addr.add]
        rw [e] at ha0
        rw [ha0, List.getElem?_eq_getElem]
      obtain ⟨u, hu0⟩ := hcell0
      have ha : a = ⟨a.block, a.off, none⟩ := addr_plain hu0
      generalize a.block = b at ha
      generalize a.off = o at ha
      subst ha
      have hb : b < W.heap.size := cell_lt hu0
      have each' : ∀ i, i < len → ∃ c : α, Q b (o + i * k) c ∧ ∀ y, elems[i]? = some y → μ c ≤ Rows.uptoBulk y.1 := fun i hi => by
        obtain ⟨cs, y, hy, hc, ht⟩ := got i hi
        obtain ⟨_, hl1, hat⟩ := World.cells?_some hc
        obtain ⟨c, hq, hmu⟩ := each n (by omega) b (o + i * k) cs y (fun j hj => by
          have := hat j hj
          rw [add_cell, add_cell] at this
          exact this) hl1 ht
        exact ⟨c, hq, fun y' hy' => by rw [hy] at hy'; rw [← Option.some.inj hy']; exact hmu⟩
      have build : ∀ m, m ≤ len → ∃ l : List α, l.length = m ∧ ∀ i y, l[i]? = some y → Q b (o + i * k) y ∧ ∀ z, elems[i]? = some z → μ y ≤ Rows.uptoBulk z.1 := by
        intro m
        induction m with
        | zero => exact fun _ => ⟨[], rfl, fun i x h => by simp at h⟩
        | succ m ih =>
          intro hm'
          obtain ⟨l, hll, hall⟩ := ih (by omega)
          obtain ⟨c, hc⟩ := each' m (by omega)
          refine ⟨l ++ [c], by simp [hll], fun i y hi => ?_⟩
          rcases Nat.lt_or_ge i l.length with hlt | hge
          · rw [List.getElem?_append_left hlt] at hi; exact hall i y hi
          · rw [List.getElem?_append_right hge] at hi
            obtain rfl : i = l.length := by
              rcases Nat.eq_zero_or_pos (i - l.length) with h' | h'
              · omega
              · rw [List.getElem?_eq_none (by simp; omega)] at hi; cases hi
            simp at hi
            subst hi
            rw [hll]; exact hc
      obtain ⟨l, hll, hall⟩ := build len (Nat.le_refl _)
      have hsum := bulkAll_map μ l elems (by omega) fun i c y hc hy => (hall i c hc).2 y hy
      subst hll
      exact ⟨l, some ⟨b, o, none⟩, cap, rfl, hl, hm, .inr ⟨b, o, rfl, hb, fun i y hi => (hall i y hi).1⟩, by omega⟩

theorem str_cells : Tryd.prog.cellsOf 9 = 1 := by kernel_rfl
section
variable {H : Type} {enc : TypeId × Value → H} {W : World}
theorem strsE_of {fuel : Nat} {v : Value} {x : DataW H × List MemPlace} (h : DataW.trod enc Tryd.prog W 0 (fun _ => true) true fuel 25 [v] = some x) :
    ∃ l, Strs W (Under W.heap.size) v l ∧ weighL l + 1 ≤ Rows.uptoBulk x.1 ∧ ∀ s ∈ l, s.size ≤ maxLen := by
  obtain ⟨l, A, c, hv, h1, h2, h3, h4⟩ := slice_of (Q := fun b o (s : ByteArray) => W.cell? ⟨b, o, none⟩ = some (.string s) ∧ s.size ≤ maxLen) (fun s => s.size + 1) Tryd.underlying25 str_cells (by omega) h (by
    intro n _ b o cs y hc hl ht
    obtain ⟨s, hs, hy, hz⟩ := DataW.trod_string Tryd.underlying9 ht
    subst hs; subst hy
    exact ⟨s, ⟨by simpa using hc 0 (by omega), hz⟩, by simp only [Rows.uptoBulk, Lib.size_eq]; omega⟩)
  refine ⟨l, ⟨A, c, hv, h1, h2, h3.imp id ?_⟩, h4, fun s hs => ?_⟩
  · rintro ⟨b, o, hA, hb, hq⟩
    exact ⟨b, o, hA, hb, fun i s hi => by have := (hq i s hi).1; rwa [Nat.mul_one] at this⟩
  · obtain ⟨i, hi⟩ := List.mem_iff_getElem?.1 hs
    rcases h3 with rfl | ⟨b, o, _, _, hq⟩
    · cases hs
    · exact (hq i s hi).2
end
theorem u8E_cells : Tryd.prog.cellsOf 5 = 1 := by kernel_rfl
theorem exprE_cells : Tryd.prog.cellsOf 24 = 3 := by kernel_rfl
theorem exprS_cells : Tryd.prog.cellsOf 22 = 1 := by kernel_rfl
section
variable {H : Type} {enc : TypeId × Value → H} {W : World}
theorem weighAll_sumE : ∀ l : List Ex, Ex.weighAll l = (l.map Ex.weigh).sum
  | [] => by simp [Ex.weighAll]
  | x :: l => by rw [Ex.weighAll, List.map_cons, List.sum_cons, weighAll_sumE l]
theorem trod_threeE {t : TypeId} {f0 f1 f2 : Field} {fuel : Nat} {cs : List Value} {x : DataW H × List MemPlace} (ht : Tryd.prog.underlying t = some (.struct #[f0, f1, f2])) (h : DataW.trod enc Tryd.prog W 0 (fun _ => true) true fuel t cs = some x) :
    ∃ y0 y1 y2 n, fuel = n + 1 ∧ x.1 = .agg [y0.1, y1.1, y2.1] ∧ DataW.trod enc Tryd.prog W 0 (fun _ => true) true n f0.type ((cs.drop f0.offset).take (Tryd.prog.cellsOf f0.type)) = some y0 ∧
      DataW.trod enc Tryd.prog W 0 (fun _ => true) true n f1.type ((cs.drop f1.offset).take (Tryd.prog.cellsOf f1.type)) = some y1 ∧
      DataW.trod enc Tryd.prog W 0 (fun _ => true) true n f2.type ((cs.drop f2.offset).take (Tryd.prog.cellsOf f2.type)) = some y2 := by
  obtain ⟨xs, n, hn, hx, _, hlen, hf⟩ := DataW.trod_struct ht h
  match xs, hlen with
  | [y0, y1, y2], _ => exact ⟨y0, y1, y2, n, hn, by rw [hx]; rfl, by simpa using hf 0 f0 rfl, by simpa using hf 1 f1 rfl, by simpa using hf 2 f2 rfl⟩
set_option maxRecDepth 100000 in
theorem ex_of : ∀ (fuel : Nat) (cs : List Value) (y : DataW H × List MemPlace), cs.length = 3 → DataW.trod enc Tryd.prog W 0 (fun _ => true) true fuel 24 cs = some y →
    ∃ (e : Ex) (vk : Value), cs = [.int .u8 e.op, .string e.name, vk] ∧ Exs W (Under W.heap.size) vk e.kids ∧ e.weigh ≤ Rows.uptoBulk y.1 ∧ e.fits := by
  intro fuel
  induction fuel using Nat.strongRecOn with
  | ind fuel ih =>
    intro cs y hl h
    obtain ⟨y0, y1, y2, n, hn, hy, g0, g1, g2⟩ := trod_threeE Tryd.underlying24 h
    match cs, hl with
    | [c0, c1, c2], _ =>
      simp only [str_cells, u8E_cells, exprS_cells] at g0 g1 g2
      obtain ⟨i0, e0, z0, w0⟩ := DataW.trod_int Tryd.underlying5 g0
      obtain ⟨s, e1, z1, hs⟩ := DataW.trod_string Tryd.underlying9 g1
      simp at e0 e1
      have hk := bounds_u8 w0
      obtain ⟨k, rfl⟩ : ∃ k : Nat, i0 = (k : Int) := ⟨i0.toNat, by omega⟩
      subst e0 e1
      obtain ⟨l, A, c, hv, h1, h2, h3, h4⟩ := slice_of (Q := fun b o (u : Ex) => ExAt W (Under W.heap.size) u b o ∧ u.fits) Ex.weigh (v := c2) (x := y2) Tryd.underlying22 exprE_cells (by omega) (by simpa using g2) (by
        intro n' hn' b o cs y hc hl ht
        obtain ⟨u, vk, rfl, uk, ul, ub⟩ := ih n' (by omega) cs y hl ht
        exact ⟨u, ⟨(exAt_iff u b o).2 ⟨vk, by simpa using hc 0 (by omega), by simpa using hc 1 (by omega), by simpa using hc 2 (by omega), uk⟩, ub⟩, ul⟩)
      refine ⟨.mk k s l, c2, rfl, ⟨A, c, hv, h1, h2, h3.imp id ?_⟩, ?_, ?_⟩
      · rintro ⟨b, o, hA, hb, hq⟩
        exact ⟨b, o, hA, hb, exsAt_of l b o fun i y hi => (hq i y hi).1⟩
      · rw [← weighAll_sumE] at h4
        rw [hy, z0, z1]
        simp only [Rows.uptoBulk, Rows.uptoBulkAll, Ex.weigh, Lib.size_eq]
        omega
      · refine ⟨by omega, hs, ?_⟩
        refine fitsAll_of l fun x hx => ?_
        obtain ⟨i, hi⟩ := List.mem_iff_getElem?.1 hx
        rcases h3 with rfl | ⟨b, o, _, _, hq⟩
        · cases hx
        · exact (hq i x hi).2
end

section
variable {H : Type} {enc : TypeId × Value → H} {W : World}
theorem str_bytes : Tryd.prog.bytesOf 9 = 16 := by kernel_rfl
/-- How long a slice of strings may be: what it takes up is within the reach. -/
theorem strs_len {fuel : Nat} {v : Value} {x : DataW H × List MemPlace} {S : Nat → Prop} {l : List ByteArray} (h : DataW.trod enc Tryd.prog W 0 (fun _ => true) true fuel 25 [v] = some x) (hs : Strs W S v l)
    (hw : ∀ n ∈ x.1.weights Tryd.prog 25, n ≤ reachBytes) : l.length ≤ 8796093022208 := by
  obtain ⟨A, c, rfl, _⟩ := hs
  rcases DataW.trod_slice Tryd.underlying25 h with ⟨hcs, _⟩ | ⟨a, len, cap, elems, rest, n, hn, hcs, hx, _, _, _, hlen, _, _⟩
  · injection hcs with hv _
    injection hv with _ hv _
    omega
  · injection hcs with hv _
    injection hv with _ hv _
    have h1 := hw ((elems.length + rest.length) * 16) (by
      rw [hx]
      simp only [DataW.weights, Tryd.underlying25, str_bytes, List.length_map]
      exact List.mem_cons_self ..)
    unfold reachBytes at h1
    omega
/-- Of a row of arguments: each is within the reach. -/
theorem weights_each : ∀ {ts : List TypeId} {ds : List (DataW H)} (i : Nat) {t : TypeId} {d : DataW H}, (DataW.weightsEach Tryd.prog ts ds).all (· ≤ reachBytes) = true → ts[i]? = some t → ds[i]? = some d → ∀ n ∈ d.weights Tryd.prog t, n ≤ reachBytes
  | [], _, i, t, d, _, ht, _ => by simp at ht
  | _ :: _, [], i, t, d, _, _, hd => by simp at hd
  | t :: ts, d :: ds, 0, _, _, h, ht, hd => fun n hn => by
    simp only [List.getElem?_cons_zero, Option.some.injEq] at ht hd
    subst ht hd
    simp only [DataW.weightsEach, List.all_append, Bool.and_eq_true] at h
    simpa using List.all_eq_true.1 h.1 n hn
  | t :: ts, d :: ds, i + 1, _, _, h, ht, hd => by
    simp only [DataW.weightsEach, List.all_append, Bool.and_eq_true] at h
    exact weights_each i h.2 (by simpa using ht) (by simpa using hd)
end
end Go.Proofs.YtldmimekmjmkgaaDoor
