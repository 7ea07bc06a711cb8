/-
  A text that Split goes through: what memory holds.
-/
import Derived.Test.YtamoklceekeheaaDoorQj
namespace Go.Proofs.YtamoklceekeheaaDoor
open Go.RowKit Go.Sort

theorem BackAt.keep {w W W' : World} {l : List Tree} {k : Nat} {vA vB : Value} {S : Nat → Prop} {lo hi : Nat} (h : BackAt w W l k vA vB S lo hi) (hb : Below W.heap.size W W') (hl : lo ≤ hi) : BackAt w W' l k vA vB S lo hi := by
  obtain ⟨z1, z2⟩ := h.size
  have hz := hb.size
  exact ⟨⟨(hb.block _ (by omega)).trans h.door.h4, (hb.block _ (by omega)).trans h.door.h5, (hb.block _ (by omega)).trans h.door.h6, belowNext h.door.below hb⟩, ⟨z1, by omega⟩, h.own.later hb (fun b hb' => by have := (h.hS b hb').1.2; omega), h.hS, h.row, h.back.keep (Nat.le_refl _) (Nat.le_refl _) (fun b hb' => hb.block b (by have := hb'.2; omega))⟩

/-- The first node's text changed. -/
theorem RowV.text {w : World} {lo hi : Nat} {gb nb cb : Nat} {x : Tree} {l : List Tree} (h : RowV w lo hi (.slice (some ⟨gb, 0, none⟩) nb cb) (x :: l)) (s : ByteArray) :
    lo ≤ gb ∧ gb < hi ∧ w.cell? ⟨gb, 1, none⟩ = some (.string x.text) ∧ w.frozen? ⟨gb, 1, none⟩ = false ∧ Kids (w.setCell ⟨gb, 1, none⟩ (.string s)) (From lo hi) (.slice (some ⟨gb, 0, none⟩) nb cb) (.mk x.kind s x.marks x.attrs x.kids :: l) := by
  obtain ⟨A, c, hv, hc, hm, h⟩ := h
  rcases h with h | ⟨g, cur, rfl, h1, h2, h3, h4, h5⟩
  · cases h
  injection hv with hv hn hcc
  injection hv with hv
  injection hv with hv _
  subst hv; subst hcc
  obtain ⟨a, b, v, ha, hab, hb, hn', hf, key⟩ := RowP.get (x :: l) (gb + 1) hi cur 0 0 x h5 rfl
  obtain ⟨vm, va, A3, c3, rfl, q1, q2, z, q3, q4, hsm, hsa, hsk⟩ := (nodeP_iff x a b v).1 hn'
  obtain ⟨u0, u1, u2, u3, u4, he, f0, f1, f2, f3, f4⟩ := hf
  injection he with he
  have e5 : u0 = .string x.kind ∧ u1 = .string x.text ∧ u2 = vm ∧ u3 = va ∧ u4 = .slice A3 x.kids.length c3 := by simpa [eq_comm] using he
  obtain ⟨rfl, rfl, rfl, rfl, rfl⟩ := e5
  simp only [Nat.zero_mul, Nat.add_zero, Nat.zero_add] at f0 f1 f2 f3 f4
  have c0 : ∀ j, w.cell? ⟨gb, j, none⟩ = cur[j]? := fun j => by simp [World.cell?, h3]
  have c1 : w.cell? ⟨gb, 1, none⟩ = some (.string x.text) := (c0 1).trans f1
  obtain ⟨_, s1, s2, s3, s4, _⟩ := set_one (v := .string s) c1
  refine ⟨h1, h2, c1, frozen_of_row _ _ 1 _ _ h3, ?_⟩
  have hnx := NodeP.node x a b _ hn'
  obtain ⟨vm', va', vk', he', m1, m2, m3⟩ := hnx
  injection he' with he'
  have e3 : u2 = vm' ∧ u3 = va' ∧ (.slice A3 x.kids.length c3 : Value) = vk' := by simpa using he'
  obtain ⟨rfl, rfl, rfl⟩ := e3
  have kp : ∀ d, From a b d → (w.setCell ⟨gb, 1, none⟩ (.string s)).heap[d]? = w.heap[d]? := fun d hd => s3 d (by have := hd.1; omega)
  have kf : ∀ d, From a b d → From lo hi d := fun d hd => ⟨by have := hd.1; omega, by have := hd.2; omega⟩
  refine ⟨_, cb, by rw [hn]; rfl, by simpa using hc, hm, .inr ⟨gb, 0, rfl, ⟨h1, h2⟩, ?_⟩⟩
  have := key (From lo hi) (w.setCell ⟨gb, 1, none⟩ (.string s)) gb (gb + 1) (Nat.le_refl _) (by omega) (fun d hd => ⟨by have := hd.1; omega, hd.2⟩) (fun d hd _ hne => s3 d hne) h3 (fun j hj => s2 j (by omega)) (.mk x.kind s x.marks x.attrs x.kids) ?_
  · simpa using this
  · refine (nodeAt_iff _ _ _).2 ⟨u2, u3, _, ?_, ?_, ?_, ?_, ?_, m1.keep kf kp, m2.keep kf kp, m3.keep kf kp⟩
    · exact (s2 0 (by omega)).trans ((c0 0).trans f0)
    · exact s1
    · exact (s2 2 (by omega)).trans ((c0 2).trans f2)
    · exact (s2 3 (by omega)).trans ((c0 3).trans f3)
    · exact (s2 4 (by omega)).trans ((c0 4).trans f4)

/-- Where Split is when the text is cut. -/
structure CutAt (w W : World) (l : List Tree) (k m : Nat) (x : Tree) (vA vB : Value) (S : Nat → Prop) (lo gt : Nat) (u : ByteArray) (v2 v3 v4 : Value) : Prop where
  door : Door w W vA vB 0
  size : w.heap.size + 3 ≤ lo ∧ lo ≤ W.heap.size
  own : Own W (w.heap.size + 3) S vA (l.take k)
  hS : ∀ b, S b → (w.heap.size + 3 ≤ b ∧ b < lo) ∧ some b ≠ vA.ownBlock
  row : ∀ g, vA.ownBlock = some g → w.heap.size + 3 ≤ g ∧ g < lo
  thru : W.heap[gt]? = some (.cells #[.string x.kind, .string u, v2, v3, v4] 28)
  node : Node W (From lo W.heap.size) (.agg #[.string x.kind, .string u, v2, v3, v4]) (cutL x m)
  back : Kids W (From lo W.heap.size) vB (cutR x m :: l.drop (k + 1))
  text : u = x.text.extract 0 (atB m x.text.data.toList)
theorem cutAt_of {w w8 : World} {l : List Tree} {k m : Nat} {x : Tree} {vA : Value} {S : Nat → Prop} {lo hi gt lo2 gb nb cb : Nat} {v2 v3 v4 : Value} (h : BackAt w w8 l k vA (.slice (some ⟨gb, 0, none⟩) nb cb) S lo hi) (hx : l[k]? = some x) (hl : lo ≤ hi) (hh : hi ≤ lo2) (hg : hi ≤ gt)
    (ht : w8.heap[gt]? = some (.cells #[.string x.kind, .string x.text, v2, v3, v4] 28)) (hn : Node w8 (From lo2 gt) (.agg #[.string x.kind, .string x.text, v2, v3, v4]) x) :
    CutAt w ((w8.setCell ⟨gt, 1, none⟩ (.string (x.text.extract 0 (atB m x.text.data.toList)))).setCell ⟨gb, 1, none⟩ (.string (x.text.extract (atB m x.text.data.toList) x.text.size))) l k m x vA (.slice (some ⟨gb, 0, none⟩) nb cb) S lo gt (x.text.extract 0 (atB m x.text.data.toList)) v2 v3 v4 := by
  obtain ⟨hlen, he⟩ := List.getElem?_eq_some_iff.1 hx
  have hd : l.drop k = x :: l.drop (k + 1) := by rw [← he, List.getElem_cons_drop]
  have hgt : gt < w8.heap.size := (Array.getElem?_eq_some_iff.1 ht).1
  obtain ⟨z1, z2⟩ := h.size
  have b1 : ∀ b, b ≠ gt → (w8.setCell ⟨gt, 1, none⟩ (.string (x.text.extract 0 (atB m x.text.data.toList)))).heap[b]? = w8.heap[b]? := fun b hb => Below.heap_setCell _ _ _ _ hb
  have g1 : (w8.setCell ⟨gt, 1, none⟩ (.string (x.text.extract 0 (atB m x.text.data.toList)))).heap[gt]? = some (.cells #[.string x.kind, .string (x.text.extract 0 (atB m x.text.data.toList)), v2, v3, v4] 28) := heap_setCell_same _ _ 1 _ _ _ ht
  have be1 : Below w.heap.size w (w8.setCell ⟨gt, 1, none⟩ (.string (x.text.extract 0 (atB m x.text.data.toList)))) := set_below (by omega) h.door.below
  have sz1 : (w8.setCell ⟨gt, 1, none⟩ (.string (x.text.extract 0 (atB m x.text.data.toList)))).heap.size = w8.heap.size := by simp [World.setCell]
  have hbk := h.back
  rw [hd] at hbk
  generalize w8.setCell ⟨gt, 1, none⟩ (.string (x.text.extract 0 (atB m x.text.data.toList))) = W at *
  obtain ⟨t1, t2, t3, t4, t5⟩ := (hbk.keep (Nat.le_refl lo) (Nat.le_refl hi) (fun b hb => b1 b (by have := hb.2; omega))).text (x.text.extract (atB m x.text.data.toList) x.text.size)
  have b2 : ∀ b, b ≠ gb → (W.setCell ⟨gb, 1, none⟩ (.string (x.text.extract (atB m x.text.data.toList) x.text.size))).heap[b]? = W.heap[b]? := fun b hb => Below.heap_setCell _ _ _ _ hb
  have be2 : Below w.heap.size w (W.setCell ⟨gb, 1, none⟩ (.string (x.text.extract (atB m x.text.data.toList) x.text.size))) := set_below (by omega) be1
  have sz2 : (W.setCell ⟨gb, 1, none⟩ (.string (x.text.extract (atB m x.text.data.toList) x.text.size))).heap.size = W.heap.size := by simp [World.setCell]
  generalize W.setCell ⟨gb, 1, none⟩ (.string (x.text.extract (atB m x.text.data.toList) x.text.size)) = W2 at *
  have bb : ∀ b, b ≠ gt → b ≠ gb → W2.heap[b]? = w8.heap[b]? := fun b h1 h2 => (b2 b h2).trans (b1 b h1)
  refine ⟨⟨(bb _ (by omega) (by omega)).trans h.door.h4, (bb _ (by omega) (by omega)).trans h.door.h5, (bb _ (by omega) (by omega)).trans h.door.h6, be2⟩, ⟨z1, by omega⟩, ?_, h.hS, h.row, (b2 _ (by omega)).trans g1, ?_, t5.keep (fun b hb => ⟨hb.1, by have := hb.2; omega⟩) (fun _ _ => rfl), rfl⟩
  · obtain ⟨xs, ⟨hl, ho⟩, hc⟩ := h.own
    refine ⟨xs, ⟨hl, ?_⟩, hc.keep (fun _ h => h) fun b hb' => bb b (by have := (h.hS b hb').1.2; omega) (by have := (h.hS b hb').1.2; omega)⟩
    rcases ho with ho | ⟨g, cap, cur, hv, hg, hh, rest⟩
    · exact .inl ho
    · have := (h.row g (by rw [hv]; rfl)).2
      exact .inr ⟨g, cap, cur, hv, hg, (bb g (by omega) (by omega)).trans hh, rest⟩
  · obtain ⟨vm, va, vk, he', m1, m2, m3⟩ := hn
    injection he' with he'
    have e3 : v2 = vm ∧ v3 = va ∧ v4 = vk := by simpa using he'
    obtain ⟨rfl, rfl, rfl⟩ := e3
    have kf : ∀ d, From lo2 gt d → From lo W2.heap.size d := fun d hd => ⟨by have := hd.1; omega, by have := hd.2; omega⟩
    have kp : ∀ d, From lo2 gt d → W2.heap[d]? = w8.heap[d]? := fun d hd => bb d (by have := hd.2; omega) (by have := hd.1; omega)
    exact ⟨_, _, _, rfl, m1.keep kf kp, m2.keep kf kp, m3.keep kf kp⟩
theorem BackAt.first {w W : World} {l : List Tree} {k : Nat} {vA : Value} {S : Nat → Prop} {lo hi gb nb cb gt : Nat} {x : Tree} {u : Value} (h : BackAt w W l k vA (.slice (some ⟨gb, 0, none⟩) nb cb) S lo hi) (hx : l[k]? = some x) (hg : hi ≤ gt) :
    gt ≠ gb ∧ W.cell? ⟨gb, 1, none⟩ = some (.string x.text) ∧ W.frozen? ⟨gb, 1, none⟩ = false ∧ (W.setCell ⟨gt, 1, none⟩ u).cell? ⟨gb, 1, none⟩ = some (.string x.text) ∧ (W.setCell ⟨gt, 1, none⟩ u).frozen? ⟨gb, 1, none⟩ = false := by
  obtain ⟨hlen, he⟩ := List.getElem?_eq_some_iff.1 hx
  have hd : l.drop k = x :: l.drop (k + 1) := by rw [← he, List.getElem_cons_drop]
  have hbk := h.back
  rw [hd] at hbk
  obtain ⟨t1, t2, t3, t4, _⟩ := hbk.text ⟨#[]⟩
  have hb : (W.setCell ⟨gt, 1, none⟩ u).heap[gb]? = W.heap[gb]? := Below.heap_setCell _ _ _ _ (show gb ≠ gt by omega)
  exact ⟨by omega, t3, t4, (World.cell?_of_block (a := ⟨gb, 1, none⟩) hb).trans t3, (World.frozen?_of_block (a := ⟨gb, 1, none⟩) hb).trans t4⟩
theorem laid3_kids' {w wr : World} {v4 v5 v : Value} {c : Int} {a : List Tree} (h : Kids wr (From (w.heap.size + 3) wr.heap.size) v a) : Kids (laid3 w wr v4 v5 c) (From w.heap.size (laid3 w wr v4 v5 c).heap.size) v a :=
  h.keep (fun b hb => ⟨by have := hb.1; omega, by rw [laid3_size]; exact hb.2⟩) (fun b hb => laid3_other hb.1)
/-- What the last append wants. -/
theorem CutAt.ready {w W : World} {l : List Tree} {k m : Nat} {x : Tree} {vA vB : Value} {S : Nat → Prop} {lo gt : Nat} {u : ByteArray} {v2 v3 v4 : Value} (h : CutAt w W l k m x vA vB S lo gt u v2 v3 v4) :
    Own (W.alloc (.cells #[.string x.kind, .string u, v2, v3, v4] 28)).drew (w.heap.size + 3) (fun b => S b ∨ From lo W.heap.size b) vA (l.take k) ∧
    Src (W.alloc (.cells #[.string x.kind, .string u, v2, v3, v4] 28)).drew (fun b => S b ∨ From lo W.heap.size b) (.slice (some ⟨W.heap.size, 0, none⟩) 1 1) [cutL x m] ∧
    (∀ b, (S b ∨ From lo W.heap.size b) → b < (W.alloc (.cells #[.string x.kind, .string u, v2, v3, v4] 28)).drew.heap.size ∧ some b ≠ vA.ownBlock) ∧ w.heap.size + 3 ≤ (W.alloc (.cells #[.string x.kind, .string u, v2, v3, v4] 28)).drew.heap.size := by
  obtain ⟨z1, z2⟩ := h.size
  have hbe : Below W.heap.size W (W.alloc (.cells #[.string x.kind, .string u, v2, v3, v4] 28)).drew := ((Below.refl _ _).alloc (Nat.le_refl _) _).drew
  have hnew : (W.alloc (.cells #[.string x.kind, .string u, v2, v3, v4] 28)).drew.heap[W.heap.size]? = some (.cells #[.string x.kind, .string u, v2, v3, v4] 28) := show (W.alloc (.cells #[.string x.kind, .string u, v2, v3, v4] 28)).heap[W.heap.size]? = _ from heap_new _ _
  have hz : W.heap.size < (W.alloc (.cells #[.string x.kind, .string u, v2, v3, v4] 28)).drew.heap.size := show W.heap.size < (W.alloc (.cells #[.string x.kind, .string u, v2, v3, v4] 28)).heap.size by simp
  generalize (W.alloc (.cells #[.string x.kind, .string u, v2, v3, v4] 28)).drew = W' at *
  obtain ⟨vm, va, vk, he', m1, m2, m3⟩ := h.node
  injection he' with he'
  have e3 : u = (cutL x m).text ∧ v2 = vm ∧ v3 = va ∧ v4 = vk := by
    have := he'
    simp at this
    exact ⟨this.2.1, this.2.2.1, this.2.2.2.1, this.2.2.2.2⟩
  obtain ⟨eu, rfl, rfl, rfl⟩ := e3
  have hc : ∀ j, W'.cell? ⟨W.heap.size, j, none⟩ = (#[.string x.kind, .string u, v2, v3, v4] : Array Value)[j]? := fun j => by simp [World.cell?, hnew]
  have kf : ∀ d, From lo W.heap.size d → (S d ∨ From lo W.heap.size d) := fun d hd => .inr hd
  have kp : ∀ d, From lo W.heap.size d → W'.heap[d]? = W.heap[d]? := fun d hd => hbe.block d hd.2
  refine ⟨(h.own.later hbe (fun b hb => by have := (h.hS b hb).1.2; omega)).widen (fun b hb => .inl hb), src_one (x := cutL x m) (m1.keep kf kp) (m2.keep kf kp) (m3.keep kf kp) (hc 0) ((hc 1).trans (by rw [eu]; rfl)) (hc 2) (hc 3) (hc 4), fun b hb => ?_, by omega⟩
  rcases hb with hb | hb
  · exact ⟨by have := (h.hS b hb).1.2; omega, (h.hS b hb).2⟩
  · exact ⟨by have := hb.2; omega, fun e => by have := (h.row b e.symm).2; have := hb.1; omega⟩
/-- What the last append leaves. -/
theorem CutAt.done {w W wf : World} {l : List Tree} {k m : Nat} {x : Tree} {vA vB v' : Value} {S : Nat → Prop} {lo gt : Nat} {u : ByteArray} {v2 v3 v4 : Value} (h : CutAt w W l k m x vA vB S lo gt u v2 v3 v4) (hl : (l.take k).length = k)
    (hown : Own wf (w.heap.size + 3) (fun b => S b ∨ From lo W.heap.size b) v' (l.take k ++ [cutL x m])) (hg : (W.alloc (.cells #[.string x.kind, .string u, v2, v3, v4] 28)).drew.grownBy wf vA.ownBlock) :
    ∃ A' c', v' = .slice A' (k + 1) c' ∧ Door w wf vA vB 0 ∧ Kids wf (From (w.heap.size + 3) wf.heap.size) v' (l.take k ++ [cutL x m]) ∧ Kids wf (From (w.heap.size + 3) wf.heap.size) vB (cutR x m :: l.drop (k + 1)) := by
  obtain ⟨z1, z2⟩ := h.size
  have hbe : Below W.heap.size W (W.alloc (.cells #[.string x.kind, .string u, v2, v3, v4] 28)).drew := ((Below.refl _ _).alloc (Nat.le_refl _) _).drew
  have hz : W.heap.size ≤ (W.alloc (.cells #[.string x.kind, .string u, v2, v3, v4] 28)).drew.heap.size := hbe.size
  generalize (W.alloc (.cells #[.string x.kind, .string u, v2, v3, v4] 28)).drew = W' at *
  have hs := hg.size
  have hob : ∀ b, b < w.heap.size + 3 → some b ≠ vA.ownBlock := fun b hb e => by have := (h.row b e.symm).1; omega
  have blk : ∀ b, b < W.heap.size → some b ≠ vA.ownBlock → wf.heap[b]? = W.heap[b]? := fun b hb hne => (hg.block b (by omega) hne).trans (hbe.block b hb)
  obtain ⟨A', c', rfl, _, hA⟩ := hown.form
  refine ⟨A', c', by rw [List.length_append, hl]; rfl, ⟨(blk _ (by omega) (hob _ (by omega))).trans h.door.h4, (blk _ (by omega) (hob _ (by omega))).trans h.door.h5, (blk _ (by omega) (hob _ (by omega))).trans h.door.h6, ?_⟩, ?_, ?_⟩
  · exact ⟨hg.os.trans (hbe.os.trans h.door.below.os), hg.tape.trans (hbe.tape.trans h.door.below.tape), hg.output.trans (hbe.output.trans h.door.below.output), by have := h.door.below.size; omega, fun b hb => (blk b (by omega) (hob b (by omega))).trans (h.door.below.block b hb)⟩
  · refine hown.kids (fun b hb => ?_) (fun g hg' => hown.block_ge g hg')
    rcases hb with hb | hb
    · exact ⟨(h.hS b hb).1.1, by have := (h.hS b hb).1.2; omega⟩
    · exact ⟨by have := hb.1; omega, by have := hb.2; omega⟩
  · exact h.back.keep (fun b hb => ⟨by have := hb.1; omega, by have := hb.2; omega⟩) (fun b hb => blk b hb.2 (fun e => by have := (h.row b e.symm).2; have := hb.1; omega))
section
variable {w : World} {ops : Array Oper} {o : Oper} {a : Act} {K : Act → World → Prop} {Q : Exit → Act → World → Prop} {E : Prop}
/-- cutText, in a region that draws its order. -/
theorem step_cutText {s : ByteArray} {n : Nat} (hgd : o.guard = none) (p q : Operand) (ho : o.op = .call { callee := .value (.func 47), args := #[p, q], argTypes := #[9, 3] })
    (hp : a.eval p = .string s) (hq : a.eval q = .int .i64 (n : Int)) (hs : s.size ≤ 1000000) (hn : n ≤ 1000000) (hT : Tabs w)
    (h : ∀ w', Below w.heap.size w w' → K (a.put o.dst (.tuple #[.string (s.extract 0 (atB n s.data.toList)), .string (s.extract (atB n s.data.toList) s.size)])) w') :
    if Region.wanted o (yielded ops a.tmps) = true then Oper.wp Tryd.prog o a w K Q else E := by
  have hwn : Region.wanted o (yielded ops a.tmps) = true := by simp [Region.wanted, hgd]
  rw [if_pos hwn]
  have hrun : (execOp a.eval o).run Tryd.prog w = .ok (.enter 47 #[.string s, .int .i64 (n : Int)]) w := by
    have hf : a.eval (.func 47) = .func (.func 47) #[] #[] := rfl
    obtain ⟨c, hc⟩ : ∃ c, Tryd.f47.body = some c := Option.isSome_iff_exists.1 (by kernel_rfl)
    have hne : ¬ Tryd.f47.name = "runtime.NumGoroutine" := of_decide_eq_false (by kernel_rfl)
    simp [execOp, ho, resolve, invoke, hp, hq, hf, Deferred.ofValue, callFunc, hne, hc]
  unfold Oper.wp
  rw [hrun, Oper.upon_enter]
  refine (cutText_any s n w hs hn hT).mono fun e w'' hh => ?_
  obtain ⟨rfl, h1⟩ := hh
  exact h w'' h1
end
end Go.Proofs.YtamoklceekeheaaDoor
