/-
  The law's as: an expression as the reference has it. Rows of the reference's expressions; the walk.
-/
import Derived.Test.YtldmimekmjmkgaaDoorGh
import Derived.Deep.DrawnRows
namespace Go.Proofs.YtldmimekmjmkgaaDoor
open Go.RowKit Go.Sort Go.Maps Go.WideMaps

/-- A row of kids of the call's own: what lies in the kids lies elsewhere. -/
def KRowR (w : World) (lo : Nat) (v : Value) (ks : List Ex) : Prop :=
  ∃ xs, w.ownsRow lo 30 3 v ks.length xs ∧ KC w (fun b => lo ≤ b ∧ b < w.heap.size ∧ v.ownBlock ≠ some b) ks xs
theorem KRowR.keep {w w' : World} {lo : Nat} {v : Value} {ks : List Ex} (h : KRowR w lo v ks) (hz : w.heap.size ≤ w'.heap.size) (hk : ∀ b, lo ≤ b → b < w.heap.size → w'.heap[b]? = w.heap[b]?) : KRowR w' lo v ks := by
  obtain ⟨xs, h1, h2⟩ := h
  exact ⟨xs, ownsRow_keep h1 fun b hb => hk b (h1.lt b hb).1 (h1.lt b hb).2, h2.keep (fun b hb => ⟨hb.1, Nat.lt_of_lt_of_le hb.2.1 hz, hb.2.2⟩) fun b hb => hk b hb.1 hb.2.1⟩
theorem KRowR.exs {w : World} {lo : Nat} {v : Value} {ks : List Ex} (h : KRowR w lo v ks) : Exs w (From lo w.heap.size) v ks := by
  obtain ⟨xs, h1, h2⟩ := h
  have hc := fun g hg => h1.cells (g := g) hg
  have hlt := h1.lt
  obtain ⟨hl, ⟨hv, h0⟩ | ⟨g, cap, cur, hv, _, _, hn, hcap, _⟩⟩ := h1
  · subst hv
    have : ks = [] := List.eq_nil_of_length_eq_zero h0
    subst this
    exact exs_nil w _
  · subst hv
    refine ⟨_, cap, rfl, hn, hcap, .inr ⟨g, 0, rfl, hlt g rfl, ?_⟩⟩
    refine (h2.keep (S' := From lo w.heap.size) (fun b hb => ⟨hb.1, hb.2.1⟩) fun _ _ => rfl).at fun j u hj => ?_
    have := hc g rfl j u hj
    rwa [add_cell] at this
/-- One kid more. -/
theorem KRowR.more {w w1 : World} {lo : Nat} {v v1 vk : Value} {ks : List Ex} {xs : List Value} {e : Ex} (hc : KC w (fun b => lo ≤ b ∧ b < w.heap.size ∧ v.ownBlock ≠ some b) ks xs)
    (ho : w1.ownsRow lo 30 3 v1 (ks.length + 1) (xs ++ [.int .u8 (e.op : Int), .string e.name, vk])) (hg : w.grownBy w1 v.ownBlock) (hb : v1.ownBlock = v.ownBlock ∨ v1.ownBlock = some w.heap.size)
    (hk : Exs w (fun b => lo ≤ b ∧ b < w.heap.size ∧ v.ownBlock ≠ some b) vk e.kids) : KRowR w1 lo v1 (ks ++ [e]) := by
  have hS : ∀ b, (lo ≤ b ∧ b < w.heap.size ∧ v.ownBlock ≠ some b) → lo ≤ b ∧ b < w1.heap.size ∧ v1.ownBlock ≠ some b := fun b h => ⟨h.1, Nat.lt_of_lt_of_le h.2.1 hg.size, by
    rcases hb with h1 | h1
    · rw [h1]; exact h.2.2
    · rw [h1]; intro h2; have := Option.some.inj h2; omega⟩
  have hK : ∀ b, (lo ≤ b ∧ b < w.heap.size ∧ v.ownBlock ≠ some b) → w1.heap[b]? = w.heap[b]? := fun b h => hg.block b h.2.1 fun h1 => h.2.2 h1.symm
  refine ⟨_, by rw [List.length_append]; exact ho, (hc.keep hS hK).append ⟨vk, [], rfl, hk.keep hS hK, rfl⟩⟩

section
variable {w : World} {ops : Array Oper} {rest : List Oper} {o : Oper} {a : Act} {Q : Exit → Act → World → Prop} {K : Act → World → Prop} {E : Prop}
theorem exprR_info : (Tryd.prog.info? 30).map (fun i => (i.zero, i.size, i.bytes)) = some (some (.agg #[.int .u8 0, .string ⟨#[]⟩, .slice none 0 0]), 3, 48) := by kernel_rfl
theorem wp_append_exR (s x : Operand) (ho : o.op = .call { callee := .builtin .append, args := #[s, x], argTypes := #[28, 28] })
    (base : Nat) (v : Value) (n : Nat) (xs : List Value) (g c : Nat) (u0 u1 u2 : Value) (hs : a.eval s = v) (hx : a.eval x = .slice (some ⟨g, 0, none⟩) 1 c) (hown : w.ownsRow base 30 3 v n xs)
    (hg : w.heap[g]? = some (.cells #[u0, u1, u2] 30)) (h1 : ∀ u ∈ [u0, u1, u2], u.oneCell' = true) (hn : n + 1 ≤ 100000000) (hbase : base ≤ w.heap.size)
    (h : ∀ v' w', w'.ownsRow base 30 3 v' (n + 1) (xs ++ [u0, u1, u2]) → w.grownBy w' v.ownBlock → (v'.ownBlock = v.ownBlock ∨ v'.ownBlock = some w.heap.size) → K (a.put o.dst v') w') : o.wp Tryd.prog a w K Q := by
  obtain ⟨i, hi, hz0, hz1, hz2⟩ := info_parts exprR_info
  obtain ⟨y0, y1, y2⟩ := three_cells hg
  have hnews : ∀ j u, [u0, u1, u2][j]? = some u → w.cell? (Addr.add ⟨g, 0, none⟩ j) = some u := fun j u hj => by
    rw [add_cell, Nat.zero_add]
    match j, hj with
    | 0, hj => rw [y0]; simpa using hj
    | 1, hj => rw [y1]; simpa using hj
    | 2, hj => rw [y2]; simpa using hj
    | j + 3, hj => simp at hj
  obtain ⟨v', w', hr, h2, h3, _, h4⟩ := run_append_own_at (P := Tryd.prog) w base 28 o.type 30 i _ 3 48 Tryd.underlying28 hi hz0 hz1 hz2 rfl (by omega) v n xs hown ⟨g, 0, none⟩ 1 c [u0, u1, u2] rfl hnews h1 (by unfold maxLen; omega) (Nat.le_trans (Nat.mul_le_mul_right _ hn) (by decide)) hbase
  unfold Oper.wp execOp
  simp only [ho, resolve, invoke, builtin, Sem.run_bind, Sem.run_pure, Result.andThen_ok, List.map_toArray, List.map_cons, List.map_nil, hs, hx, hr]
  exact h v' w' h2 h3 h4
theorem step_append_exR (hw : Region.wanted o (yielded ops a.tmps) = true) (s x : Operand) (ho : o.op = .call { callee := .builtin .append, args := #[s, x], argTypes := #[28, 28] })
    (base : Nat) (v : Value) (n : Nat) (xs : List Value) (g c : Nat) (u0 u1 u2 : Value) (hs : a.eval s = v) (hx : a.eval x = .slice (some ⟨g, 0, none⟩) 1 c) (hown : w.ownsRow base 30 3 v n xs)
    (hg : w.heap[g]? = some (.cells #[u0, u1, u2] 30)) (h1 : ∀ u ∈ [u0, u1, u2], u.oneCell' = true) (hn : n + 1 ≤ 100000000) (hbase : base ≤ w.heap.size)
    (h : ∀ v' w', w'.ownsRow base 30 3 v' (n + 1) (xs ++ [u0, u1, u2]) → w.grownBy w' v.ownBlock → (v'.ownBlock = v.ownBlock ∨ v'.ownBlock = some w.heap.size) → K (a.put o.dst v') w') : if Region.wanted o (yielded ops a.tmps) = true then Oper.wp Tryd.prog o a w K Q else E := by
  rw [if_pos hw]
  exact wp_append_exR s x ho base v n xs g c u0 u1 u2 hs hx hown hg h1 hn hbase h
theorem step_as {v : Value} {x : Ex} (hw : Region.wanted o (yielded ops a.tmps) = true) (p : Operand) (ho : o.op = .call { callee := .value (.func 13), args := #[p], argTypes := #[24] })
    (hp : a.eval p = v) (hC : Calls Tryd.prog 13 #[v] w (EPost w x))
    (h : ∀ (A : Option Addr) (n c : Nat) (w' : World), Exs w' (From w.heap.size w'.heap.size) (.slice A n c) x.kids → Below w.heap.size w w' → K (a.put o.dst (.agg #[.int .u8 (x.op : Int), .string x.name, .slice A n c])) w') : if Region.wanted o (yielded ops a.tmps) = true then Oper.wp Tryd.prog o a w K Q else E := by
  rw [if_pos hw]
  have hrun : (execOp a.eval o).run Tryd.prog w = .ok (.enter 13 #[v]) w := by
    have hf : a.eval (.func 13) = .func (.func 13) #[] #[] := rfl
    obtain ⟨c, hc⟩ : ∃ c, Tryd.f13.body = some c := Option.isSome_iff_exists.1 (by kernel_rfl)
    have hne : ¬ Tryd.f13.name = "runtime.NumGoroutine" := of_decide_eq_false (by kernel_rfl)
    simp [execOp, ho, resolve, invoke, hp, hf, Deferred.ofValue, callFunc, hne, hc]
  unfold Oper.wp
  rw [hrun, Oper.upon_enter]
  refine hC.mono fun e w'' hh => ?_
  obtain ⟨A, n, c, rfl, h1, h2⟩ := hh
  exact h A n c w'' h1 h2
end
theorem below_drewX (w : World) : Below w.heap.size w w.drew := ⟨rfl, rfl, rfl, Nat.le_refl _, fun _ _ => rfl⟩

def ASaid (e : Ex) : Prop := ∀ (A : Option Addr) (n c B : Nat) (w : World), sizeE e ≤ 1000 → Exs w (Under B) (.slice A n c) e.kids → B ≤ w.heap.size →
  Calls Tryd.prog 13 #[.agg #[.int .u8 (e.op : Int), .string e.name, .slice A n c]] w (EPost w e)
/-- Where as's loop stands. -/
structure AsAt (w wx : World) (o : Nat) (s : ByteArray) (l : List Ex) (A : Option Addr) (c : Nat) (i : Nat) (vk : Value) : Prop where
  below : Below w.heap.size w wx
  box : wx.heap[w.heap.size]? = some (.cells #[.int .u8 (o : Int), .string s, .slice A l.length c] 24)
  res : wx.heap[w.heap.size + 1]? = some (.cells #[.int .u8 0, .string ⟨#[]⟩, .slice none 0 0] 30)
  out : wx.heap[w.heap.size + 2]? = some (.cells #[.int .u8 (o : Int), .string s, vk] 30)
  row : KRowR wx (w.heap.size + 3) vk (l.take i)
theorem AsAt.low {w wx : World} {o : Nat} {s : ByteArray} {l : List Ex} {A : Option Addr} {c i : Nat} {vk : Value} (h : AsAt w wx o s l A c i vk) : w.heap.size + 2 < wx.heap.size := (Array.getElem?_eq_some_iff.1 h.out).1
theorem AsAt.keep {w wx wy : World} {o : Nat} {s : ByteArray} {l : List Ex} {A : Option Addr} {c i : Nat} {vk : Value} (h : AsAt w wx o s l A c i vk) (hb : Below wx.heap.size wx wy) : AsAt w wy o s l A c i vk := by
  have hl := h.low
  exact ⟨belowNext h.below hb, (hb.block _ (by omega)).trans h.box, (hb.block _ (by omega)).trans h.res, (hb.block _ (by omega)).trans h.out, h.row.keep hb.size fun b _ hb2 => hb.block b hb2⟩
theorem AsAt.next {w W w5 : World} {o : Nat} {s : ByteArray} {l : List Ex} {A : Option Addr} {c i : Nat} {vk v5 vx : Value} {x : Ex} {xs : List Value} (h : AsAt w W o s l A c i vk) (hx : l.take (i + 1) = l.take i ++ [x])
    (hvk : ∀ b, vk.ownBlock = some b → w.heap.size + 3 ≤ b) (hkc : KC W (fun b => w.heap.size + 3 ≤ b ∧ b < W.heap.size ∧ vk.ownBlock ≠ some b) (l.take i) xs)
    (ho : w5.ownsRow (w.heap.size + 3) 30 3 v5 ((l.take i).length + 1) (xs ++ [.int .u8 (x.op : Int), .string x.name, vx])) (hg : W.grownBy w5 vk.ownBlock) (hb : v5.ownBlock = vk.ownBlock ∨ v5.ownBlock = some W.heap.size)
    (hk : Exs W (fun b => w.heap.size + 3 ≤ b ∧ b < W.heap.size ∧ vk.ownBlock ≠ some b) vx x.kids) : AsAt w (w5.setCell ⟨w.heap.size + 2, 2, none⟩ v5) o s l A c (i + 1) v5 := by
  have hl := h.low
  have hblk : ∀ b, b < w.heap.size + 3 → w5.heap[b]? = W.heap[b]? := fun b hb' => hg.block b (by omega) fun e => by have := hvk b e.symm; omega
  have hrow := KRowR.more hkc ho hg hb hk
  refine ⟨⟨hg.os.trans h.below.os, hg.tape.trans h.below.tape, hg.output.trans h.below.output, by have h1 := h.below.size; have h2 := hg.size; simp [World.setCell]; omega, fun b hb' => (Below.heap_setCell _ _ _ _ (by dsimp only; omega)).trans ((hblk b (by omega)).trans (h.below.block b hb'))⟩, ?_, ?_, ?_, ?_⟩
  · exact (Below.heap_setCell _ _ _ _ (by dsimp only; omega)).trans ((hblk _ (by omega)).trans h.box)
  · exact (Below.heap_setCell _ _ _ _ (by dsimp only; omega)).trans ((hblk _ (by omega)).trans h.res)
  · exact heap_setCell_same w5 _ 2 _ _ _ ((hblk _ (by omega)).trans h.out)
  · rw [hx]
    exact hrow.keep (by simp [World.setCell]) fun b hb1 _ => Below.heap_setCell _ _ _ _ (by dsimp only; omega)
theorem AsAt.fin {w W : World} {o : Nat} {s : ByteArray} {l : List Ex} {A : Option Addr} {c i : Nat} {A' : Option Addr} {n' c' : Nat} (h : AsAt w W o s l A c i (.slice A' n' c')) (hi : l.take i = l) :
    (((W.setCell ⟨w.heap.size + 1, 0, none⟩ (.int .u8 (o : Int))).setCell ⟨w.heap.size + 1, 1, none⟩ (.string s)).setCell ⟨w.heap.size + 1, 2, none⟩ (.slice A' n' c')).heap[w.heap.size + 1]? = some (.cells #[.int .u8 (o : Int), .string s, .slice A' n' c'] 30) ∧
    EPost w (.mk o s l) (.returned (.agg #[.int .u8 (o : Int), .string s, .slice A' n' c'])) (((W.setCell ⟨w.heap.size + 1, 0, none⟩ (.int .u8 (o : Int))).setCell ⟨w.heap.size + 1, 1, none⟩ (.string s)).setCell ⟨w.heap.size + 1, 2, none⟩ (.slice A' n' c')) := by
  obtain ⟨x0, hx, hzz⟩ := put3x (v0 := .int .u8 (o : Int)) (v1 := .string s) (v2 := .slice A' n' c') h.res
  have he := h.row.exs
  rw [hi] at he
  refine ⟨x0, A', n', c', rfl, he.keep (fun b hb => ⟨by have := hb.1; omega, by rw [hzz]; exact hb.2⟩) fun b hb => hx b (by have := hb.1; omega), h.below.os, h.below.tape, h.below.output, by rw [hzz]; exact h.below.size, fun b hb => (hx b (by omega)).trans (h.below.block b hb)⟩
attribute [local go_sem ↓] Go.wp_at_zero Go.wp_at_succ
set_option maxRecDepth 100000 in
set_option maxHeartbeats 4000000 in
theorem as_walk : ∀ e, ASaid e := by
  intro e
  induction e using Ex.induct_one with
  | h o s l ih =>
    intro A n c B w hsz hl hB
    have IH := Lib.hid ih
    clear ih
    simp only [Ex.op, Ex.name, Ex.kids] at *
    have hlen := hl.len
    obtain ⟨A', c', hv, hc, hm, _⟩ := id hl
    injection hv with hA hn hc'
    subst hA hn hc'
    unfold maxLen at hm
    have HSZ := Lib.hid hsz
    have hll : l.length ≤ 1000 := by
      have h1 : ∀ l : List Ex, l.length ≤ sizeEs l := fun l => by
        induction l with
        | nil => exact Nat.le_refl _
        | cons x l ih => obtain ⟨_, _, _⟩ := x; simp only [sizeEs, sizeE, List.length_cons]; omega
      have := h1 l
      simp only [sizeE] at hsz
      omega
    have HA := Lib.hid hl
    have hz1 : (w.alloc (.cells #[.int .u8 (o : Int), .string s, .slice A l.length c] 24)).heap.size = w.heap.size + 1 := by simp
    have hz2 : ((w.alloc (.cells #[.int .u8 (o : Int), .string s, .slice A l.length c] 24)).alloc (.cells #[.int .u8 0, .string ⟨#[]⟩, .slice none 0 0] 30)).heap.size = w.heap.size + 2 := by simp
    have HAT : Hid (AsAt w (((w.alloc (.cells #[.int .u8 (o : Int), .string s, .slice A l.length c] 24)).alloc (.cells #[.int .u8 0, .string ⟨#[]⟩, .slice none 0 0] 30)).alloc (.cells #[.int .u8 (o : Int), .string s, .slice none 0 0] 30)) o s l A c 0 (.slice none 0 0)) := Lib.hid
      ⟨(((Below.refl _ _).alloc (Nat.le_refl _) _).alloc (by omega) _).alloc (by omega) _,
       (Below.heap_alloc _ _ _ (by omega)).trans ((Below.heap_alloc _ _ _ (by omega)).trans (heap_new _ _)),
       (Below.heap_alloc _ _ _ (by omega)).trans (heap_new' _ _ hz1), heap_new' _ _ hz2, ⟨[], World.ownsRow_nil _ _ _ _, rfl⟩⟩
    clear hl hsz hz1 hz2
    go_enter Tryd.func13, Tryd.ntmps13
    go_wp2
    generalize ((w.alloc (.cells #[.int .u8 (o : Int), .string s, .slice A l.length c] 24)).alloc (.cells #[.int .u8 0, .string ⟨#[]⟩, .slice none 0 0] 30)).alloc (.cells #[.int .u8 (o : Int), .string s, .slice none 0 0] 30) = w1 at *
    go_loopg [4] l.length (fun g u wx => ∃ (i : Nat) (vk : Value), u = .int .i64 i ∧ i + g = l.length ∧ Hid (AsAt w wx o s l A c i vk))
    case atStart => exact ⟨0, _, rfl, by omega, HAT⟩
    case round =>
      clear HAT
      obtain ⟨i, vk, rfl, hig, HR⟩ := hrel
      obtain ⟨Ak, ck, rfl, hck, hckm, _⟩ := id HR.out.row.exs
      generalize hnk : (l.take i).length = nk at *
      have HNK := Lib.hid hnk
      have hnk2 : nk ≤ 1000 := by rw [← hnk, List.length_take]; omega
      clear hnk
      obtain ⟨b0, b1, b2⟩ := three_cells HR.out.box
      obtain ⟨r0, r1, r2⟩ := three_cells HR.out.res
      obtain ⟨q0, q1, q2⟩ := three_cells HR.out.out
      have fb := fun j => frozen_of_row _ (w.heap.size + 2) j _ _ HR.out.out
      have t2 := fb 2
      have z0 := frozen_of_row _ (w.heap.size + 1) 0 _ _ HR.out.res
      have z1 := frozen_of_row _ (w.heap.size + 1) 1 _ _ HR.out.res
      have z2 := frozen_of_row _ (w.heap.size + 1) 2 _ _ HR.out.res
      have hlow := HR.out.low
      clear fb
      by_cases hi : i < l.length
      · have hlx : l[i]? = some l[i] := List.getElem?_eq_getElem hi
        generalize hx : l[i] = x at *
        have hlxx : l.take (i + 1) = l.take i ++ [x] := by rw [List.take_add_one, hlx]; rfl
        have HLX := Lib.hid hlxx
        have HAR : Hid (Exs wr (Under B) (.slice A l.length c) l) := Lib.hid (HA.out.keep (fun _ h => h) fun b hb => HR.out.below.block b (Nat.lt_of_lt_of_le hb hB))
        obtain ⟨b, off, rfl, hb, hat⟩ := HAR.out.get hlx
        obtain ⟨v3, f0, f1, f2, exk⟩ := (exAt_iff x b _).1 hat
        obtain ⟨A3, c3, rfl, _⟩ := id exk
        have hl3 := cell_lt f0
        have HX := Lib.hid hlx
        have hbw : b < w.heap.size := Nat.lt_of_lt_of_le hb hB
        have HXS : Hid (sizeE x ≤ 1000) := Lib.hid (by have h1 := size_mem (List.mem_of_getElem? hlx); have h2 := HSZ.out; simp only [sizeE] at h2; omega)
        have HCALL := Lib.hid (IH.out x (List.mem_of_getElem? hlx) A3 _ c3 B wr.drew HXS.out (exk.keep (fun _ h => h) fun _ _ => rfl) (Nat.le_trans hB HR.out.below.size))
        obtain ⟨g, rfl⟩ : ∃ g, gk = g + 1 := ⟨gk - 1, by omega⟩
        clear exk hx hlx hat hb hlxx r0 r1 r2 z0 z1 z2
        have HONE : Hid (∀ u ∈ [Value.int .u8 (x.op : Int), .string x.name, .slice none 0 0], u.oneCell' = true) := Lib.hid (by simp [Value.oneCell'])
        have HVK : Hid (∀ b, (Value.slice Ak nk ck).ownBlock = some b → w.heap.size + 3 ≤ b) := Lib.hid (by obtain ⟨xs, h, _⟩ := HR.out.row; exact fun b hb => (h.lt b hb).1)
        go_wp2_with fail
        go_region_law (first
          | ((with_reducible refine step_as (v := .agg #[.int .u8 (x.op : Int), .string x.name, .slice A3 x.kids.length c3]) (x := x) (by kernel_rfl) (.tmp 23) rfl rfl HCALL.out ?_); intro A4 n4 c4 w2 hk2 hb2; have HB2 : Hid (Below wr.heap.size wr w2) := Lib.hid ((below_drewX wr).trans hb2); have HR2 := Lib.hid (HR.out.keep HB2.out); obtain ⟨p0, p1, p2⟩ := three_cells HR2.out.out; have s2 := frozen_of_row _ (w.heap.size + 2) 2 _ _ HR2.out.out; have hlow2 := HR2.out.low; have HR3 := Lib.hid (HR2.out.keep (wy := w2.alloc (.cells #[.int .u8 (x.op : Int), .string x.name, .slice A4 n4 c4] 30)) ((Below.refl _ _).alloc (Nat.le_refl _) _)); obtain ⟨xs, hxs, hkc⟩ := HR3.out.row; rw [HNK.out] at hxs; have HXS4 := Lib.hid hxs; have HKC := Lib.hid hkc; have HNEW : Hid ((w2.alloc (.cells #[.int .u8 (x.op : Int), .string x.name, .slice A4 n4 c4] 30)).heap[w2.heap.size]? = some (.cells #[.int .u8 (x.op : Int), .string x.name, .slice A4 n4 c4] 30)) := Lib.hid (heap_new _ _); have HON4 : Hid (∀ u ∈ [Value.int .u8 (x.op : Int), .string x.name, .slice A4 n4 c4], u.oneCell' = true) := Lib.hid (by simp [Value.oneCell']); have HN1 : Hid (nk + 1 ≤ 100000000) := Lib.hid (by omega); have HBS : Hid (w.heap.size + 3 ≤ (w2.alloc (.cells #[.int .u8 (x.op : Int), .string x.name, .slice A4 n4 c4] 30)).heap.size) := Lib.hid (by simp; omega); have HKX : Hid (Exs (w2.alloc (.cells #[.int .u8 (x.op : Int), .string x.name, .slice A4 n4 c4] 30)) (fun b => w.heap.size + 3 ≤ b ∧ b < (w2.alloc (.cells #[.int .u8 (x.op : Int), .string x.name, .slice A4 n4 c4] 30)).heap.size ∧ (Value.slice Ak nk ck).ownBlock ≠ some b) (.slice A4 n4 c4) x.kids) := Lib.hid (hk2.keep (fun b hb => ⟨by have h1 : wr.heap.size ≤ b := hb.1; omega, by have := hb.2; simp; omega, by intro h5; obtain ⟨ys, h6, _⟩ := HR.out.row; have h7 := (h6.lt b h5).2; have h8 : wr.heap.size ≤ b := hb.1; omega⟩) fun b hb => Below.heap_alloc _ _ _ hb.2); clear hk2 hb2 hxs hkc)
          | ((with_reducible refine step_append_exR (by kernel_rfl) (.tmp 18) (.tmp 25) rfl (w.heap.size + 3) (.slice Ak nk ck) nk xs w2.heap.size 1 (.int .u8 (x.op : Int)) (.string x.name) (.slice A4 n4 c4) rfl rfl HXS4.out HNEW.out HON4.out HN1.out HBS.out ?_); intro v5 w5 ho5 hg5 hb5; obtain ⟨G5, d5, rfl⟩ := own_slice ho5; have HFIN := Lib.hid (HR3.out.next HLX.out HVK.out HKC.out (by rw [HNK.out]; exact ho5) hg5 hb5 HKX.out); have hw5 : w5.heap[w.heap.size + 2]? = some (.cells #[.int .u8 (o : Int), .string s, .slice Ak nk ck] 30) := (hg5.block _ (by simp; omega) (fun e5 => by have := HVK.out _ e5.symm; omega)).trans HR3.out.out; obtain ⟨y0, y1, y2⟩ := three_cells hw5; have u2 := frozen_of_row _ (w.heap.size + 2) 2 _ _ hw5; have hlow5 := cell_lt y0; clear ho5 hg5 hb5 hw5))
        all_goals
          go_wp2
          go_roundg g
          case measure => omega
          case rel => exact ⟨i + 1, _, by go_num, by omega, HFIN⟩
      · have HE : Hid (l.take i = l) := Lib.hid (List.take_of_length_le (by omega))
        go_wp2
        obtain ⟨x0, x1⟩ := HR.out.fin HE.out
        obtain ⟨y0, y1, y2⟩ := three_cells x0
        refine bodyPost_ret (v := .agg #[.int .u8 (o : Int), .string s, .slice Ak nk ck]) (by simp [results, Tryd.results13, go_sem, y0, y1, y2]) rfl x1
end Go.Proofs.YtldmimekmjmkgaaDoor
