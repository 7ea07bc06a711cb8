/-
  What addName does: one place more, of this name.
-/
import Derived.Test.YtldmimekmjmkgaaDoorFh
import Derived.Laws.RangeAny
namespace Go.Proofs.YtldmimekmjmkgaaDoor
open Go.RowKit Go.Sort Go.Maps Go.WideMaps

theorem add_cell (b o j : Nat) : Addr.add ⟨b, o, none⟩ j = ⟨b, o + j, none⟩ := by
  unfold Addr.add; split
  · subst_vars; rfl
  · rfl
section
variable {w : World} {ops : Array Oper} {rest : List Oper} {o : Oper} {a : Act} {Q : Exit → Act → World → Prop}
/-- append of one thing of one cell to a row of the call's own; the row stays in its block or lies in a new one. -/
theorem wpList_append_one {t e : TypeId} {z : Value} {bytes : Nat} (ht : Tryd.prog.underlying t = some (.slice e)) (hinfo : (Tryd.prog.info? e).map (fun i => (i.zero, i.size, i.bytes)) = some (some z, 1, bytes)) (hzs : z.cells.size = 1) (hby : bytes ≤ 1000)
    (hgd : o.guard = none) (s x : Operand) (ho : o.op = .call { callee := .builtin .append, args := #[s, x], argTypes := #[t, t] })
    (base : Nat) (v : Value) (n : Nat) (xs : List Value) (g c : Nat) (u : Value) (hs : a.eval s = v) (hx : a.eval x = .slice (some ⟨g, 0, none⟩) 1 c) (hown : w.ownsRow base e 1 v n xs)
    (hu : w.cell? ⟨g, 0, none⟩ = some u) (h1 : u.oneCell' = true) (hn : n + 1 ≤ 100000000) (hbase : base ≤ w.heap.size)
    (h : ∀ v' w', w'.ownsRow base e 1 v' (n + 1) (xs ++ [u]) → w.grownBy w' v.ownBlock → (v'.ownBlock = v.ownBlock ∨ v'.ownBlock = some w.heap.size) → wpList Tryd.prog ops Q rest (a.put o.dst v') w') : wpList Tryd.prog ops Q (o :: rest) a w := by
  refine wpList_plain hgd fun K hK => ?_
  obtain ⟨i, hi, hz0, hz1, hz2⟩ := info_parts hinfo
  obtain ⟨v', w', hr, h2, h3, _, h5⟩ := run_append_own_at (P := Tryd.prog) w base t o.type e i z 1 bytes ht hi hz0 hz1 hz2 hzs (by omega) v n xs hown ⟨g, 0, none⟩ 1 c [u] rfl (fun j u' hj => by
    have : j = 0 := by have := (List.getElem?_eq_some_iff.1 hj).1; simpa using this
    subst this
    rw [add_cell, Nat.zero_add, hu]; simpa using hj) (by intro u' hu'; simp only [List.mem_singleton] at hu'; subst hu'; exact h1) (by unfold maxLen; omega) (Nat.le_trans (Nat.mul_le_mul hn hby) (by decide)) hbase
  unfold Oper.wp execOp
  simp only [ho, resolve, invoke, builtin, Sem.run_bind, Sem.run_pure, Result.andThen_ok, List.map_toArray, List.map_cons, List.map_nil, hs, hx, hr]
  exact hK _ _ (h v' w' h2 h3 h5)
end
theorem u32_info : (Tryd.prog.info? 69).map (fun i => (i.zero, i.size, i.bytes)) = some (some (.int .u32 0), 1, 4) := by kernel_rfl
theorem wfE_u32 {n : Nat} (h : n < 4294967296) : (Lit.int .u32 (n : Int)).wf = true := by
  exact WalkArith.wf_u32 (by omega)
/-- A name stored in the map. -/
theorem Mn.named {w w1 : World} {B M bm : Nat} {v : Value} {nm nm' : List ByteArray} {nx : List Nat} (h : Mn w B M bm v nm nx) (hm : MapAt w1 bm nm') (hg : w.grownBy w1 (some bm)) : Mn w1 B M bm v nm' nx ∧ Grw M bm v v w w1 :=
  ⟨⟨(hg.block M h.mlt (fun e => h.ne (Option.some.inj e).symm)).trans h.box, hm, h.row.kept hg (.inr h.apb), h.loM, h.lob, h.ne, h.apM, h.apb⟩, ⟨hg.os, hg.tape, hg.output, hg.size, fun k hk _ hb _ => hg.block k hk (fun e => hb (Option.some.inj e)), .inl rfl⟩⟩
theorem own_slice {w : World} {B n size : Nat} {e : TypeId} {v : Value} {xs : List Value} (h : w.ownsRow B e size v (n + 1) xs) : ∃ g c, v = .slice (some ⟨g, 0, none⟩) (n + 1) c := by
  obtain ⟨_, ⟨_, h0⟩ | ⟨g, cap, cur, h, _⟩⟩ := h
  · omega
  · exact ⟨_, _, h⟩
/-- The row one longer, stored. -/
theorem Mn.grown {w w2 : World} {B M bm : Nat} {v v2 : Value} {nm : List ByteArray} {nx : List Nat} {o : Obj} (h : Mn w B M bm v nm nx) (ho : w2.ownsRow B 69 1 v2 (nx.length + 1) ((nx.map fun x : Nat => Value.int .u32 (x : Int)) ++ [.int .u32 0])) (hg : (w.alloc o).grownBy w2 v.ownBlock) (hb : v2.ownBlock = v.ownBlock ∨ v2.ownBlock = some (w.alloc o).heap.size) :
    Mn (w2.setCell ⟨M, 1, none⟩ v2) B M bm v2 nm (nx ++ [0]) ∧ Grw M bm v v2 w (w2.setCell ⟨M, 1, none⟩ v2) ∧ w2.heap[M]? = some (.cells #[.map (some bm), v] 67) ∧ v2.ownBlock ≠ some M := by
  have hz : (w.alloc o).heap.size = w.heap.size + 1 := by simp
  have hold : ∀ k, k < w.heap.size → v.ownBlock ≠ some k → w2.heap[k]? = w.heap[k]? := fun k hk hne => (hg.block k (by omega) (fun e => hne e.symm)).trans (Below.heap_alloc w o k hk)
  have hb2 : w2.heap[M]? = some (.cells #[.map (some bm), v] 67) := (hold M h.mlt h.apM).trans h.box
  have hn2 : ∀ k, k < w.heap.size → v.ownBlock ≠ some k → v2.ownBlock ≠ some k := fun k hk hne e => by
    rcases hb with h1 | h1
    · exact hne (h1.symm.trans e)
    · rw [h1] at e; have := Option.some.inj e; omega
  have hM2 := hn2 M h.mlt h.apM
  refine ⟨⟨heap_setCell_same w2 M 1 _ _ _ hb2, h.map.keep ((Below.heap_setCell _ _ _ _ h.ne).trans (hold bm h.map.lt h.apb)), ?_, h.loM, h.lob, h.ne, hM2, hn2 bm h.map.lt h.apb⟩, ?_, hb2, hM2⟩
  · have h3 := ownsRow_keep (w' := w2.setCell ⟨M, 1, none⟩ v2) ho fun k hk => Below.heap_setCell _ _ _ _ fun e => hM2 (by rw [hk, e])
    rw [List.length_append, List.map_append]
    exact h3
  · refine ⟨hg.os, hg.tape, hg.output, by have := hg.size; simp [World.setCell]; omega, fun k hk h1 _ h3 => (Below.heap_setCell _ _ _ _ h1).trans (hold k hk h3), ?_⟩
    rcases hb with h1 | h1
    · exact .inl h1
    · exact .inr fun b hb => by rw [h1] at hb; have := Option.some.inj hb; omega
theorem Mn.keepAt {w w' : World} {B M bm : Nat} {v : Value} {nm : List ByteArray} {nx : List Nat} (h : Mn w B M bm v nm nx) (hk : ∀ k, k = M ∨ k = bm ∨ v.ownBlock = some k → w'.heap[k]? = w.heap[k]?) : Mn w' B M bm v nm nx :=
  ⟨(hk M (.inl rfl)).trans h.box, h.map.keep (hk bm (.inr (.inl rfl))), ownsRow_keep h.row fun k e => hk k (.inr (.inr e)), h.loM, h.lob, h.ne, h.apM, h.apb⟩
theorem Grw.after {M bm : Nat} {v v' : Value} {w a b : World} (h : Grw M bm v v' w a) (ho : b.os = a.os) (ht : b.tape = a.tape) (hp : b.output = a.output) (hz : a.heap.size ≤ b.heap.size) (hk : ∀ k, k < w.heap.size → b.heap[k]? = a.heap[k]?) : Grw M bm v v' w b :=
  ⟨ho.trans h.os, ht.trans h.tape, hp.trans h.output, Nat.le_trans h.size hz, fun k hl h1 h2 h3 => (hk k hl).trans (h.block k hl h1 h2 h3), h.own⟩
theorem pow_mod {n : Nat} (h : 2 ^ n < 4294967296) : (2 : Int) ^ n % 4294967296 = ((2 ^ n : Nat) : Int) := by
  have e : (2 : Int) ^ n = ((2 ^ n : Nat) : Int) := (Int.natCast_pow 2 n).symm
  rw [e]
  generalize 2 ^ n = q at *
  omega
/-- Three cells stored. -/
theorem put3x {w : World} {g : Nat} {u0 u1 u2 v0 v1 v2 : Value} {T : TypeId} (h : w.heap[g]? = some (.cells #[u0, u1, u2] T)) :
    (((w.setCell ⟨g, 0, none⟩ v0).setCell ⟨g, 1, none⟩ v1).setCell ⟨g, 2, none⟩ v2).heap[g]? = some (.cells #[v0, v1, v2] T) ∧
    (∀ b, b ≠ g → (((w.setCell ⟨g, 0, none⟩ v0).setCell ⟨g, 1, none⟩ v1).setCell ⟨g, 2, none⟩ v2).heap[b]? = w.heap[b]?) ∧
    (((w.setCell ⟨g, 0, none⟩ v0).setCell ⟨g, 1, none⟩ v1).setCell ⟨g, 2, none⟩ v2).heap.size = w.heap.size :=
  ⟨heap_setCell_same _ g 2 _ _ _ (heap_setCell_same _ g 1 _ _ _ (heap_setCell_same _ g 0 _ _ _ h)),
    fun b hb => (Below.heap_setCell _ _ _ _ hb).trans ((Below.heap_setCell _ _ _ _ hb).trans (Below.heap_setCell _ _ _ _ hb)), by simp [World.setCell]⟩
theorem three_cells {w : World} {g : Nat} {u0 u1 u2 : Value} {T : TypeId} (h : w.heap[g]? = some (.cells #[u0, u1, u2] T)) :
    w.cell? ⟨g, 0, none⟩ = some u0 ∧ w.cell? ⟨g, 1, none⟩ = some u1 ∧ w.cell? ⟨g, 2, none⟩ = some u2 := by simp [World.cell?, h]
set_option maxRecDepth 100000 in
set_option maxHeartbeats 2000000 in
theorem addName_any (B M bm : Nat) (v : Value) (nm : List ByteArray) (nx : List Nat) (s : ByteArray) (w : World) (hM : Mn w B M bm v nm nx) (hs : s.size ≤ maxLen) (hl : nm.length = nx.length) (hn : nx.length < 32) (hB : B ≤ w.heap.size) :
    Calls Tryd.prog 50 #[.pointer (some ⟨M, 0, none⟩), .string s] w fun e w' => e = .returned (.agg #[.int .u32 ((2 ^ nx.length : Nat) : Int), .int .u32 ((2 ^ nx.length : Nat) : Int), .bool false]) ∧ ∃ v', Mn w' B M bm v' (nm ++ [s]) (nx ++ [0]) ∧ Grw M bm v v' w w' := by
  have hMl := hM.mlt
  have HVB : Hid (∀ b, v.ownBlock = some b → b < w.heap.size) := Lib.hid fun b hb => (hM.row.lt b hb).2
  have c0 := hM.cell0
  have c1 := hM.cell1
  have f1 := hM.free 1
  have HB : Hid (Below w.heap.size w (w.alloc (.cells #[.int .u32 0, .int .u32 0, .bool false] 71))) := Lib.hid ((Below.refl _ _).alloc (Nat.le_refl _) _)
  have HM := Lib.hid (hM.below HB.out)
  have hbl := hM.map.lt
  obtain ⟨n, D, hn1, hown, hism, hat⟩ := HM.out.map
  obtain ⟨c, hc, hbits⟩ := hat s hs
  obtain ⟨i, hrun, hat2, _⟩ := hown.lookup_int keyS Tryd.underlying64 Tryd.underlying69 (zeroU _) (keyOf_string_mk Tryd.underlying9 hs)
  rw [hc] at hat2
  injection hat2 with hat2
  injection hat2 with _ hat2
  subst hat2
  have hkey : keyOf Tryd.prog 9 (.string s) = some (.string s.data.toList) := keyOf_string_mk Tryd.underlying9 hs
  have hp : 2 ^ nx.length < 4294967296 := by have := Nat.pow_lt_pow_right (a := 2) (by omega) hn; omega
  obtain ⟨P, hP, hsh, hPl⟩ : ∃ P : Nat, Hid (P = 2 ^ nx.length) ∧ (2 : Int) ^ nx.length % 4294967296 = (P : Int) ∧ P < 4294967296 := ⟨2 ^ nx.length, rfl, pow_mod hp, hp⟩
  rw [← hP.out]
  have eo : bits .or .u32 (c : Int) (P : Int) = ((c ||| P : Nat) : Int) := u32_or_nat _ _ hbits.1 hPl
  have hcP : c ||| P < 4294967296 := by have := Nat.or_lt_two_pow (n := 32) hbits.1 hPl; omega
  have HPUT := Lib.hid (fun (w' : World) h => mapAt_put (w' := w') (b := bm) (v := c ||| P) hn1 hism hat (by rw [hP.out, ← hl]; exact bitsAt_same hbits (by omega)) h)
  have hnn : n < maxLen := by unfold maxLen; omega
  obtain ⟨A, k, hv⟩ : ∃ A k, v = .slice A nx.length k := by
    obtain ⟨_, ⟨h, h0⟩ | ⟨g, cap, cur, h, _⟩⟩ := hM.row
    · exact ⟨none, 0, by rw [h, h0]⟩
    · exact ⟨_, _, h⟩
  subst hv
  clear hM hbits hp hc hat hism
  go_enter Tryd.func50, Tryd.ntmps50
  go_wp2_with (first
    | (at_mapUpdate; refine wpList_mapUpdate_own _ rfl _ _ _ 64 rfl 9 69 keyS Tryd.underlying64 _ bm n _ rfl hown hnn _ _ _ rfl rfl hkey _ [] (plainElem_int Tryd.underlying69 (by exact wfE_u32 hcP)) ?_)
    | fail)
  intro w1 hown1 hgrow1
  have HN := Lib.hid (HM.out.named (HPUT.out w1 hown1) hgrow1)
  clear hown1 hown hrun HPUT c0 c1 f1
  have hM1 := HN.out.1.mlt
  have c1 := HN.out.1.cell1
  have f1 := HN.out.1.free 1
  have hw1 : w.heap.size < w1.heap.size := by have := hgrow1.size; simp at this; omega
  have r0 : w1.heap[w.heap.size]? = some (.cells #[.int .u32 0, .int .u32 0, .bool false] 71) := (hgrow1.block _ (by simp) (fun e => by have := Option.some.inj e; omega)).trans (heap_new _ _)
  have HR0 := Lib.hid r0
  clear hgrow1 r0
  go_wp2_with (at_builtin; refine wpList_append_one Tryd.underlying65 u32_info rfl (by decide) rfl (.tmp 24) (.tmp 25) rfl B (.slice A nx.length k) nx.length (nx.map fun x : Nat => Value.int .u32 (x : Int)) w1.heap.size 1 (.int .u32 0) rfl rfl (HN.out.1.row.alloc _) (by simp only [World.cell?, heap_new]; rfl) rfl (by omega) (by simp; omega) ?_; intro v2 w2 ho2 hg2 hb2; obtain ⟨g2, k2, rfl⟩ := own_slice ho2; have HG := Lib.hid (HN.out.1.grown ho2 hg2 hb2); have HR2 : Hid (w2.heap[w.heap.size]? = some (.cells #[.int .u32 0, .int .u32 0, .bool false] 71)) := Lib.hid (((hg2.block _ (by simp; omega) (fun e => by have := HVB.out _ e.symm; omega)).trans (Below.heap_alloc _ _ _ hw1)).trans HR0.out); have HV2 : Hid (∀ k, (Value.slice (some ⟨g2, 0, none⟩) (nx.length + 1) k2).ownBlock = some k → k ≠ w.heap.size) := Lib.hid (fun k hk e => by { rcases hb2 with h1 | h1; · { rw [h1] at hk; have := HVB.out k hk; omega }; · { rw [h1] at hk; have := Option.some.inj hk; simp at this; omega } }); have cM : w2.cell? ⟨M, 1, none⟩ = some (.slice A nx.length k) := by { simp only [World.cell?, HG.out.2.2.1]; rfl }; have fM := frozen_of_row w2 M 1 _ _ HG.out.2.2.1; have hz2 : w.heap.size < w2.heap.size := (Array.getElem?_eq_some_iff.1 HR2.out).1; have HR3 := Lib.hid ((Below.heap_setCell w2 ⟨M, 1, none⟩ (.slice (some ⟨g2, 0, none⟩) (nx.length + 1) k2) _ (Nat.ne_of_gt hMl)).trans HR2.out); obtain ⟨q0, q1, q2⟩ := three_cells HR3.out; have z0 := frozen_of_row _ w.heap.size 0 _ _ HR3.out; have z1 := frozen_of_row _ w.heap.size 1 _ _ HR3.out; have z2 := frozen_of_row _ w.heap.size 2 _ _ HR3.out; clear ho2 hg2 hb2 c1 f1)
  have HG3 := Lib.hid (And.intro HG.out.1 HG.out.2.1)
  have HO3 : Hid (Grw M bm (.slice A nx.length k) (.slice (some ⟨g2, 0, none⟩) (nx.length + 1) k2) w (w2.setCell ⟨M, 1, none⟩ (.slice (some ⟨g2, 0, none⟩) (nx.length + 1) k2))) := Lib.hid (((Grw.of_below M bm _ HB.out).trans HN.out.2).trans HG3.out.2)
  clear HG cM fM
  generalize w2.setCell ⟨M, 1, none⟩ (.slice (some ⟨g2, 0, none⟩) (nx.length + 1) k2) = W3 at *
  obtain ⟨x0, hx, hz⟩ := put3x (v0 := .int .u32 P) (v1 := .int .u32 P) (v2 := .bool false) HR3.out
  obtain ⟨y0, y1, y2⟩ := three_cells x0
  refine bodyPost_ret (v := .agg #[.int .u32 P, .int .u32 P, .bool false]) (by simp [results, Tryd.results50, go_sem, y0, y1, y2]) rfl ⟨rfl, _, HG3.out.1.keepAt fun b hb => hx b ?_, HO3.out.after rfl rfl rfl (Nat.le_of_eq hz.symm) fun b hb => hx b (Nat.ne_of_lt hb)⟩
  rcases hb with rfl | rfl | hb
  · exact Nat.ne_of_lt hMl
  · exact Nat.ne_of_lt hbl
  · exact HV2.out b hb
end Go.Proofs.YtldmimekmjmkgaaDoor
