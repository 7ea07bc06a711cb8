/-
  The law's as: an expression as the reference has it. Rows of the reference's expressions; the walk.
  The law's sameExpr: of one and the same expression it answers true.
  Rename: what its loop keeps.
  Rename: it answers the expression renamed.
-/
import Derived.Test.YtldmimekmjmkgaaDoorGh
import Derived.Deep.DrawnRows
import Derived.OwnWalk
namespace Go.Proofs.YtldmimekmjmkgaaDoor
open Go.RowKit Go.Sort Go.Maps Go.WideMaps

/-- A row of kids of the call's own: what lies in the kids lies elsewhere. -/
def KRowR (w : World) (lo : Nat) (v : Value) (ks : List Ex) : Prop :=
  ∃ xs, w.ownsRow lo 30 3 v ks.length xs ∧ KC w (fun b => lo ≤ b ∧ b < w.heap.size ∧ v.ownBlock ≠ some b) ks xs
theorem KRowR.keep {w w' : World} {lo : Nat} {v : Value} {ks : List Ex} (h : KRowR w lo v ks) (hz : w.heap.size ≤ w'.heap.size) (hk : ∀ b, lo ≤ b → b < w.heap.size → w'.heap[b]? = w.heap[b]?) : KRowR w' lo v ks := by
  obtain ⟨xs, h1, h2⟩ := h
  exact ⟨xs, ownsRow_keep h1 fun b hb => hk b (h1.lt b hb).1 (h1.lt b hb).2, h2.keep (fun b hb => ⟨hb.1, Nat.lt_of_lt_of_le hb.2.1 hz, hb.2.2⟩) fun b hb => hk b hb.1 hb.2.1⟩
theorem KRowR.exs {w : World} {lo : Nat} {v : Value} {ks : List Ex} (h : KRowR w lo v ks) : Exs w (From lo w.heap.size) v ks := by
  obtain ⟨xs, h1, h2⟩ := h
  have hc := fun g hg => h1.cells (g := g) hg
  have hlt := h1.lt
  obtain ⟨hl, ⟨hv, h0⟩ | ⟨g, cap, cur, hv, _, _, hn, hcap, _⟩⟩ := h1
  · subst hv
    have : ks = [] := List.eq_nil_of_length_eq_zero h0
    subst this
    exact exs_nil w _
  · subst hv
    refine ⟨_, cap, rfl, hn, hcap, .inr ⟨g, 0, rfl, hlt g rfl, ?_⟩⟩
    refine (h2.keep (S' := From lo w.heap.size) (fun b hb => ⟨hb.1, hb.2.1⟩) fun _ _ => rfl).at fun j u hj => ?_
    have := hc g rfl j u hj
    rwa [add_cell] at this
/-- One kid more. -/
theorem KRowR.more {w w1 : World} {lo : Nat} {v v1 vk : Value} {ks : List Ex} {xs : List Value} {e : Ex} (hc : KC w (fun b => lo ≤ b ∧ b < w.heap.size ∧ v.ownBlock ≠ some b) ks xs)
    (ho : w1.ownsRow lo 30 3 v1 (ks.length + 1) (xs ++ [.int .u8 (e.op : Int), .string e.name, vk])) (hg : w.grownBy w1 v.ownBlock) (hb : v1.ownBlock = v.ownBlock ∨ v1.ownBlock = some w.heap.size)
    (hk : Exs w (fun b => lo ≤ b ∧ b < w.heap.size ∧ v.ownBlock ≠ some b) vk e.kids) : KRowR w1 lo v1 (ks ++ [e]) := by
  have hS : ∀ b, (lo ≤ b ∧ b < w.heap.size ∧ v.ownBlock ≠ some b) → lo ≤ b ∧ b < w1.heap.size ∧ v1.ownBlock ≠ some b := fun b h => ⟨h.1, Nat.lt_of_lt_of_le h.2.1 hg.size, by
    rcases hb with h1 | h1
    · rw [h1]; exact h.2.2
    · rw [h1]; intro h2; have := Option.some.inj h2; omega⟩
  have hK : ∀ b, (lo ≤ b ∧ b < w.heap.size ∧ v.ownBlock ≠ some b) → w1.heap[b]? = w.heap[b]? := fun b h => hg.block b h.2.1 fun h1 => h.2.2 h1.symm
  refine ⟨_, by rw [List.length_append]; exact ho, (hc.keep hS hK).append ⟨vk, [], rfl, hk.keep hS hK, rfl⟩⟩

section
variable {w : World} {ops : Array Oper} {rest : List Oper} {o : Oper} {a : Act} {Q : Exit → Act → World → Prop} {K : Act → World → Prop} {E : Prop}
theorem exprR_info : (Tryd.prog.info? 30).map (fun i => (i.zero, i.size, i.bytes)) = some (some (.agg #[.int .u8 0, .string ⟨#[]⟩, .slice none 0 0]), 3, 48) := by kernel_rfl
theorem wp_append_exR (s x : Operand) (ho : o.op = .call { callee := .builtin .append, args := #[s, x], argTypes := #[28, 28] })
    (base : Nat) (v : Value) (n : Nat) (xs : List Value) (g c : Nat) (u0 u1 u2 : Value) (hs : a.eval s = v) (hx : a.eval x = .slice (some ⟨g, 0, none⟩) 1 c) (hown : w.ownsRow base 30 3 v n xs)
    (hg : w.heap[g]? = some (.cells #[u0, u1, u2] 30)) (h1 : ∀ u ∈ [u0, u1, u2], u.oneCell' = true) (hn : n + 1 ≤ 100000000) (hbase : base ≤ w.heap.size)
    (h : ∀ v' w', w'.ownsRow base 30 3 v' (n + 1) (xs ++ [u0, u1, u2]) → w.grownBy w' v.ownBlock → (v'.ownBlock = v.ownBlock ∨ v'.ownBlock = some w.heap.size) → K (a.put o.dst v') w') : o.wp Tryd.prog a w K Q := by
  obtain ⟨i, hi, hz0, hz1, hz2⟩ := info_parts exprR_info
  obtain ⟨y0, y1, y2⟩ := three_cells hg
  have hnews : ∀ j u, [u0, u1, u2][j]? = some u → w.cell? (Addr.add ⟨g, 0, none⟩ j) = some u := fun j u hj => by
    rw [add_cell, Nat.zero_add]
    match j, hj with
    | 0, hj => rw [y0]; simpa using hj
    | 1, hj => rw [y1]; simpa using hj
    | 2, hj => rw [y2]; simpa using hj
    | j + 3, hj => simp at hj
  obtain ⟨v', w', hr, h2, h3, _, h4⟩ := run_append_own_at (P := Tryd.prog) w base 28 o.type 30 i _ 3 48 Tryd.underlying28 hi hz0 hz1 hz2 rfl (by omega) v n xs hown ⟨g, 0, none⟩ 1 c [u0, u1, u2] rfl hnews h1 (by unfold maxLen; omega) (Nat.le_trans (Nat.mul_le_mul_right _ hn) (by decide)) hbase
  unfold Oper.wp execOp
  simp only [ho, resolve, invoke, builtin, Sem.run_bind, Sem.run_pure, Result.andThen_ok, List.map_toArray, List.map_cons, List.map_nil, hs, hx, hr]
  exact h v' w' h2 h3 h4
theorem step_append_exR (hw : Region.wanted o (yielded ops a.tmps) = true) (s x : Operand) (ho : o.op = .call { callee := .builtin .append, args := #[s, x], argTypes := #[28, 28] })
    (base : Nat) (v : Value) (n : Nat) (xs : List Value) (g c : Nat) (u0 u1 u2 : Value) (hs : a.eval s = v) (hx : a.eval x = .slice (some ⟨g, 0, none⟩) 1 c) (hown : w.ownsRow base 30 3 v n xs)
    (hg : w.heap[g]? = some (.cells #[u0, u1, u2] 30)) (h1 : ∀ u ∈ [u0, u1, u2], u.oneCell' = true) (hn : n + 1 ≤ 100000000) (hbase : base ≤ w.heap.size)
    (h : ∀ v' w', w'.ownsRow base 30 3 v' (n + 1) (xs ++ [u0, u1, u2]) → w.grownBy w' v.ownBlock → (v'.ownBlock = v.ownBlock ∨ v'.ownBlock = some w.heap.size) → K (a.put o.dst v') w') : if Region.wanted o (yielded ops a.tmps) = true then Oper.wp Tryd.prog o a w K Q else E := by
  rw [if_pos hw]
  exact wp_append_exR s x ho base v n xs g c u0 u1 u2 hs hx hown hg h1 hn hbase h
theorem step_as {v : Value} {x : Ex} (hw : Region.wanted o (yielded ops a.tmps) = true) (p : Operand) (ho : o.op = .call { callee := .value (.func 13), args := #[p], argTypes := #[24] })
    (hp : a.eval p = v) (hC : Calls Tryd.prog 13 #[v] w (EPost w x))
    (h : ∀ (A : Option Addr) (n c : Nat) (w' : World), Exs w' (From w.heap.size w'.heap.size) (.slice A n c) x.kids → Below w.heap.size w w' → K (a.put o.dst (.agg #[.int .u8 (x.op : Int), .string x.name, .slice A n c])) w') : if Region.wanted o (yielded ops a.tmps) = true then Oper.wp Tryd.prog o a w K Q else E := by
  rw [if_pos hw]
  have hrun : (execOp a.eval o).run Tryd.prog w = .ok (.enter 13 #[v]) w := by
    have hf : a.eval (.func 13) = .func (.func 13) #[] #[] := rfl
    obtain ⟨c, hc⟩ : ∃ c, Tryd.f13.body = some c := Option.isSome_iff_exists.1 (by kernel_rfl)
    have hne : ¬ Tryd.f13.name = "runtime.NumGoroutine" := of_decide_eq_false (by kernel_rfl)
    simp [execOp, ho, resolve, invoke, hp, hf, Deferred.ofValue, callFunc, hne, hc]
  unfold Oper.wp
  rw [hrun, Oper.upon_enter]
  refine hC.mono fun e w'' hh => ?_
  obtain ⟨A, n, c, rfl, h1, h2⟩ := hh
  exact h A n c w'' h1 h2
end
theorem below_drewX (w : World) : Below w.heap.size w w.drew := ⟨rfl, rfl, rfl, Nat.le_refl _, fun _ _ => rfl⟩

def ASaid (e : Ex) : Prop := ∀ (A : Option Addr) (n c B : Nat) (w : World), sizeE e ≤ 1000 → Exs w (Under B) (.slice A n c) e.kids → B ≤ w.heap.size →
  Calls Tryd.prog 13 #[.agg #[.int .u8 (e.op : Int), .string e.name, .slice A n c]] w (EPost w e)
/-- Where as's loop stands. -/
structure AsAt (w wx : World) (o : Nat) (s : ByteArray) (l : List Ex) (A : Option Addr) (c : Nat) (i : Nat) (vk : Value) : Prop where
  below : Below w.heap.size w wx
  box : wx.heap[w.heap.size]? = some (.cells #[.int .u8 (o : Int), .string s, .slice A l.length c] 24)
  res : wx.heap[w.heap.size + 1]? = some (.cells #[.int .u8 0, .string ⟨#[]⟩, .slice none 0 0] 30)
  out : wx.heap[w.heap.size + 2]? = some (.cells #[.int .u8 (o : Int), .string s, vk] 30)
  row : KRowR wx (w.heap.size + 3) vk (l.take i)
theorem AsAt.low {w wx : World} {o : Nat} {s : ByteArray} {l : List Ex} {A : Option Addr} {c i : Nat} {vk : Value} (h : AsAt w wx o s l A c i vk) : w.heap.size + 2 < wx.heap.size := (Array.getElem?_eq_some_iff.1 h.out).1
theorem AsAt.keep {w wx wy : World} {o : Nat} {s : ByteArray} {l : List Ex} {A : Option Addr} {c i : Nat} {vk : Value} (h : AsAt w wx o s l A c i vk) (hb : Below wx.heap.size wx wy) : AsAt w wy o s l A c i vk := by
  have hl := h.low
  exact ⟨belowNext h.below hb, (hb.block _ (by omega)).trans h.box, (hb.block _ (by omega)).trans h.res, (hb.block _ (by omega)).trans h.out, h.row.keep hb.size fun b _ hb2 => hb.block b hb2⟩
theorem AsAt.next {w W w5 : World} {o : Nat} {s : ByteArray} {l : List Ex} {A : Option Addr} {c i : Nat} {vk v5 vx : Value} {x : Ex} {xs : List Value} (h : AsAt w W o s l A c i vk) (hx : l.take (i + 1) = l.take i ++ [x])
    (hvk : ∀ b, vk.ownBlock = some b → w.heap.size + 3 ≤ b) (hkc : KC W (fun b => w.heap.size + 3 ≤ b ∧ b < W.heap.size ∧ vk.ownBlock ≠ some b) (l.take i) xs)
    (ho : w5.ownsRow (w.heap.size + 3) 30 3 v5 ((l.take i).length + 1) (xs ++ [.int .u8 (x.op : Int), .string x.name, vx])) (hg : W.grownBy w5 vk.ownBlock) (hb : v5.ownBlock = vk.ownBlock ∨ v5.ownBlock = some W.heap.size)
    (hk : Exs W (fun b => w.heap.size + 3 ≤ b ∧ b < W.heap.size ∧ vk.ownBlock ≠ some b) vx x.kids) : AsAt w (w5.setCell ⟨w.heap.size + 2, 2, none⟩ v5) o s l A c (i + 1) v5 := by
  have hl := h.low
  have hblk : ∀ b, b < w.heap.size + 3 → w5.heap[b]? = W.heap[b]? := fun b hb' => hg.block b (by omega) fun e => by have := hvk b e.symm; omega
  have hrow := KRowR.more hkc ho hg hb hk
  refine ⟨⟨hg.os.trans h.below.os, hg.tape.trans h.below.tape, hg.output.trans h.below.output, by have h1 := h.below.size; have h2 := hg.size; simp [World.setCell]; omega, fun b hb' => (Below.heap_setCell _ _ _ _ (by dsimp only; omega)).trans ((hblk b (by omega)).trans (h.below.block b hb'))⟩, ?_, ?_, ?_, ?_⟩
  · exact (Below.heap_setCell _ _ _ _ (by dsimp only; omega)).trans ((hblk _ (by omega)).trans h.box)
  · exact (Below.heap_setCell _ _ _ _ (by dsimp only; omega)).trans ((hblk _ (by omega)).trans h.res)
  · exact heap_setCell_same w5 _ 2 _ _ _ ((hblk _ (by omega)).trans h.out)
  · rw [hx]
    exact hrow.keep (by simp [World.setCell]) fun b hb1 _ => Below.heap_setCell _ _ _ _ (by dsimp only; omega)
theorem AsAt.fin {w W : World} {o : Nat} {s : ByteArray} {l : List Ex} {A : Option Addr} {c i : Nat} {A' : Option Addr} {n' c' : Nat} (h : AsAt w W o s l A c i (.slice A' n' c')) (hi : l.take i = l) :
    (((W.setCell ⟨w.heap.size + 1, 0, none⟩ (.int .u8 (o : Int))).setCell ⟨w.heap.size + 1, 1, none⟩ (.string s)).setCell ⟨w.heap.size + 1, 2, none⟩ (.slice A' n' c')).heap[w.heap.size + 1]? = some (.cells #[.int .u8 (o : Int), .string s, .slice A' n' c'] 30) ∧
    EPost w (.mk o s l) (.returned (.agg #[.int .u8 (o : Int), .string s, .slice A' n' c'])) (((W.setCell ⟨w.heap.size + 1, 0, none⟩ (.int .u8 (o : Int))).setCell ⟨w.heap.size + 1, 1, none⟩ (.string s)).setCell ⟨w.heap.size + 1, 2, none⟩ (.slice A' n' c')) := by
  obtain ⟨x0, hx, hzz⟩ := put3x (v0 := .int .u8 (o : Int)) (v1 := .string s) (v2 := .slice A' n' c') h.res
  have he := h.row.exs
  rw [hi] at he
  refine ⟨x0, A', n', c', rfl, he.keep (fun b hb => ⟨by have := hb.1; omega, by rw [hzz]; exact hb.2⟩) fun b hb => hx b (by have := hb.1; omega), h.below.os, h.below.tape, h.below.output, by rw [hzz]; exact h.below.size, fun b hb => (hx b (by omega)).trans (h.below.block b hb)⟩
attribute [local go_sem ↓] Go.wp_at_zero Go.wp_at_succ
set_option maxRecDepth 100000 in
set_option maxHeartbeats 4000000 in
theorem as_walk : ∀ e, ASaid e := by
  intro e
  induction e using Ex.induct_one with
  | h o s l ih =>
    intro A n c B w hsz hl hB
    have IH := Lib.hid ih
    clear ih
    simp only [Ex.op, Ex.name, Ex.kids] at *
    have hlen := hl.len
    obtain ⟨A', c', hv, hc, hm, _⟩ := id hl
    injection hv with hA hn hc'
    subst hA hn hc'
    unfold maxLen at hm
    have HSZ := Lib.hid hsz
    have hll : l.length ≤ 1000 := by
      have h1 : ∀ l : List Ex, l.length ≤ sizeEs l := fun l => by
        induction l with
        | nil => exact Nat.le_refl _
        | cons x l ih => obtain ⟨_, _, _⟩ := x; simp only [sizeEs, sizeE, List.length_cons]; omega
      have := h1 l
      simp only [sizeE] at hsz
      omega
    have HA := Lib.hid hl
    have hz1 : (w.alloc (.cells #[.int .u8 (o : Int), .string s, .slice A l.length c] 24)).heap.size = w.heap.size + 1 := by simp
    have hz2 : ((w.alloc (.cells #[.int .u8 (o : Int), .string s, .slice A l.length c] 24)).alloc (.cells #[.int .u8 0, .string ⟨#[]⟩, .slice none 0 0] 30)).heap.size = w.heap.size + 2 := by simp
    have HAT : Hid (AsAt w (((w.alloc (.cells #[.int .u8 (o : Int), .string s, .slice A l.length c] 24)).alloc (.cells #[.int .u8 0, .string ⟨#[]⟩, .slice none 0 0] 30)).alloc (.cells #[.int .u8 (o : Int), .string s, .slice none 0 0] 30)) o s l A c 0 (.slice none 0 0)) := Lib.hid
      ⟨(((Below.refl _ _).alloc (Nat.le_refl _) _).alloc (by omega) _).alloc (by omega) _,
       (Below.heap_alloc _ _ _ (by omega)).trans ((Below.heap_alloc _ _ _ (by omega)).trans (heap_new _ _)),
       (Below.heap_alloc _ _ _ (by omega)).trans (heap_new' _ _ hz1), heap_new' _ _ hz2, ⟨[], World.ownsRow_nil _ _ _ _, rfl⟩⟩
    clear hl hsz hz1 hz2
    go_enter Tryd.func13, Tryd.ntmps13
    go_wp2
    generalize ((w.alloc (.cells #[.int .u8 (o : Int), .string s, .slice A l.length c] 24)).alloc (.cells #[.int .u8 0, .string ⟨#[]⟩, .slice none 0 0] 30)).alloc (.cells #[.int .u8 (o : Int), .string s, .slice none 0 0] 30) = w1 at *
    go_loopg [4] l.length (fun g u wx => ∃ (i : Nat) (vk : Value), u = .int .i64 i ∧ i + g = l.length ∧ Hid (AsAt w wx o s l A c i vk))
    case atStart => exact ⟨0, _, rfl, by omega, HAT⟩
    case round =>
      clear HAT
      obtain ⟨i, vk, rfl, hig, HR⟩ := hrel
      obtain ⟨Ak, ck, rfl, hck, hckm, _⟩ := id HR.out.row.exs
      generalize hnk : (l.take i).length = nk at *
      have HNK := Lib.hid hnk
      have hnk2 : nk ≤ 1000 := by rw [← hnk, List.length_take]; omega
      clear hnk
      obtain ⟨b0, b1, b2⟩ := three_cells HR.out.box
      obtain ⟨r0, r1, r2⟩ := three_cells HR.out.res
      obtain ⟨q0, q1, q2⟩ := three_cells HR.out.out
      have fb := fun j => frozen_of_row _ (w.heap.size + 2) j _ _ HR.out.out
      have t2 := fb 2
      have z0 := frozen_of_row _ (w.heap.size + 1) 0 _ _ HR.out.res
      have z1 := frozen_of_row _ (w.heap.size + 1) 1 _ _ HR.out.res
      have z2 := frozen_of_row _ (w.heap.size + 1) 2 _ _ HR.out.res
      have hlow := HR.out.low
      clear fb
      by_cases hi : i < l.length
      · have hlx : l[i]? = some l[i] := List.getElem?_eq_getElem hi
        generalize hx : l[i] = x at *
        have hlxx : l.take (i + 1) = l.take i ++ [x] := by rw [List.take_add_one, hlx]; rfl
        have HLX := Lib.hid hlxx
        have HAR : Hid (Exs wr (Under B) (.slice A l.length c) l) := Lib.hid (HA.out.keep (fun _ h => h) fun b hb => HR.out.below.block b (Nat.lt_of_lt_of_le hb hB))
        obtain ⟨b, off, rfl, hb, hat⟩ := HAR.out.get hlx
        obtain ⟨v3, f0, f1, f2, exk⟩ := (exAt_iff x b _).1 hat
        obtain ⟨A3, c3, rfl, _⟩ := id exk
        have hl3 := cell_lt f0
        have HX := Lib.hid hlx
        have hbw : b < w.heap.size := Nat.lt_of_lt_of_le hb hB
        have HXS : Hid (sizeE x ≤ 1000) := Lib.hid (by have h1 := size_mem (List.mem_of_getElem? hlx); have h2 := HSZ.out; simp only [sizeE] at h2; omega)
        have HCALL := Lib.hid (IH.out x (List.mem_of_getElem? hlx) A3 _ c3 B wr.drew HXS.out (exk.keep (fun _ h => h) fun _ _ => rfl) (Nat.le_trans hB HR.out.below.size))
        obtain ⟨g, rfl⟩ : ∃ g, gk = g + 1 := ⟨gk - 1, by omega⟩
        clear exk hx hlx hat hb hlxx r0 r1 r2 z0 z1 z2
        have HONE : Hid (∀ u ∈ [Value.int .u8 (x.op : Int), .string x.name, .slice none 0 0], u.oneCell' = true) := Lib.hid (by simp [Value.oneCell'])
        have HVK : Hid (∀ b, (Value.slice Ak nk ck).ownBlock = some b → w.heap.size + 3 ≤ b) := Lib.hid (by obtain ⟨xs, h, _⟩ := HR.out.row; exact fun b hb => (h.lt b hb).1)
        go_wp2_with fail
        go_region_law (first
          | ((with_reducible refine step_as (v := .agg #[.int .u8 (x.op : Int), .string x.name, .slice A3 x.kids.length c3]) (x := x) (by kernel_rfl) (.tmp 23) rfl rfl HCALL.out ?_); intro A4 n4 c4 w2 hk2 hb2; have HB2 : Hid (Below wr.heap.size wr w2) := Lib.hid ((below_drewX wr).trans hb2); have HR2 := Lib.hid (HR.out.keep HB2.out); obtain ⟨p0, p1, p2⟩ := three_cells HR2.out.out; have s2 := frozen_of_row _ (w.heap.size + 2) 2 _ _ HR2.out.out; have hlow2 := HR2.out.low; have HR3 := Lib.hid (HR2.out.keep (wy := w2.alloc (.cells #[.int .u8 (x.op : Int), .string x.name, .slice A4 n4 c4] 30)) ((Below.refl _ _).alloc (Nat.le_refl _) _)); obtain ⟨xs, hxs, hkc⟩ := HR3.out.row; rw [HNK.out] at hxs; have HXS4 := Lib.hid hxs; have HKC := Lib.hid hkc; have HNEW : Hid ((w2.alloc (.cells #[.int .u8 (x.op : Int), .string x.name, .slice A4 n4 c4] 30)).heap[w2.heap.size]? = some (.cells #[.int .u8 (x.op : Int), .string x.name, .slice A4 n4 c4] 30)) := Lib.hid (heap_new _ _); have HON4 : Hid (∀ u ∈ [Value.int .u8 (x.op : Int), .string x.name, .slice A4 n4 c4], u.oneCell' = true) := Lib.hid (by simp [Value.oneCell']); have HN1 : Hid (nk + 1 ≤ 100000000) := Lib.hid (by omega); have HBS : Hid (w.heap.size + 3 ≤ (w2.alloc (.cells #[.int .u8 (x.op : Int), .string x.name, .slice A4 n4 c4] 30)).heap.size) := Lib.hid (by simp; omega); have HKX : Hid (Exs (w2.alloc (.cells #[.int .u8 (x.op : Int), .string x.name, .slice A4 n4 c4] 30)) (fun b => w.heap.size + 3 ≤ b ∧ b < (w2.alloc (.cells #[.int .u8 (x.op : Int), .string x.name, .slice A4 n4 c4] 30)).heap.size ∧ (Value.slice Ak nk ck).ownBlock ≠ some b) (.slice A4 n4 c4) x.kids) := Lib.hid (hk2.keep (fun b hb => ⟨by have h1 : wr.heap.size ≤ b := hb.1; omega, by have := hb.2; simp; omega, by intro h5; obtain ⟨ys, h6, _⟩ := HR.out.row; have h7 := (h6.lt b h5).2; have h8 : wr.heap.size ≤ b := hb.1; omega⟩) fun b hb => Below.heap_alloc _ _ _ hb.2); clear hk2 hb2 hxs hkc)
          | ((with_reducible refine step_append_exR (by kernel_rfl) (.tmp 18) (.tmp 25) rfl (w.heap.size + 3) (.slice Ak nk ck) nk xs w2.heap.size 1 (.int .u8 (x.op : Int)) (.string x.name) (.slice A4 n4 c4) rfl rfl HXS4.out HNEW.out HON4.out HN1.out HBS.out ?_); intro v5 w5 ho5 hg5 hb5; obtain ⟨G5, d5, rfl⟩ := own_slice ho5; have HFIN := Lib.hid (HR3.out.next HLX.out HVK.out HKC.out (by rw [HNK.out]; exact ho5) hg5 hb5 HKX.out); have hw5 : w5.heap[w.heap.size + 2]? = some (.cells #[.int .u8 (o : Int), .string s, .slice Ak nk ck] 30) := (hg5.block _ (by simp; omega) (fun e5 => by have := HVK.out _ e5.symm; omega)).trans HR3.out.out; obtain ⟨y0, y1, y2⟩ := three_cells hw5; have u2 := frozen_of_row _ (w.heap.size + 2) 2 _ _ hw5; have hlow5 := cell_lt y0; clear ho5 hg5 hb5 hw5))
        all_goals
          go_wp2
          go_roundg g
          case measure => omega
          case rel => exact ⟨i + 1, _, by go_num, by omega, HFIN⟩
      · have HE : Hid (l.take i = l) := Lib.hid (List.take_of_length_le (by omega))
        go_wp2
        obtain ⟨x0, x1⟩ := HR.out.fin HE.out
        obtain ⟨y0, y1, y2⟩ := three_cells x0
        refine bodyPost_ret (v := .agg #[.int .u8 (o : Int), .string s, .slice Ak nk ck]) (by simp [results, Tryd.results13, go_sem, y0, y1, y2]) rfl x1
end Go.Proofs.YtldmimekmjmkgaaDoor

namespace Go.Proofs.YtldmimekmjmkgaaDoor
open Go.RowKit Go.Sort Go.Maps Go.WideMaps

def SSaid (e : Ex) : Prop := ∀ (A A' : Option Addr) (n c n' c' B : Nat) (w : World), Exs w (Under B) (.slice A n c) e.kids → Exs w (Under B) (.slice A' n' c') e.kids → B ≤ w.heap.size →
  Calls Tryd.prog 21 #[.agg #[.int .u8 (e.op : Int), .string e.name, .slice A n c], .agg #[.int .u8 (e.op : Int), .string e.name, .slice A' n' c']] w fun x w' => x = .returned (.bool true) ∧ Below w.heap.size w w'
set_option maxRecDepth 100000 in
set_option maxHeartbeats 4000000 in
theorem same_walk : ∀ e, SSaid e := by
  intro e
  induction e using Ex.induct_one with
  | h o s l ih =>
    intro A1 A2 n1 c1 n2 c2 B w hl hl' hB
    have IH := Lib.hid ih
    clear ih
    simp only [Ex.op, Ex.name, Ex.kids] at *
    obtain ⟨Aa, ca, hv, hca, hma, _⟩ := id hl
    injection hv with hA hn hc'
    subst hA hn hc'
    obtain ⟨Ab, cb, hv, hcb, hmb, _⟩ := id hl'
    injection hv with hA hn hc'
    subst hA hn hc'
    unfold maxLen at hma hmb
    have HA := Lib.hid hl
    have HA2 := Lib.hid hl'
    have hz1 : (w.alloc (.cells #[.int .u8 (o : Int), .string s, .slice A1 l.length c1] 24)).heap.size = w.heap.size + 1 := by simp
    have HB0 : Hid (Below w.heap.size w ((w.alloc (.cells #[.int .u8 (o : Int), .string s, .slice A1 l.length c1] 24)).alloc (.cells #[.int .u8 (o : Int), .string s, .slice A2 l.length c2] 30))) := Lib.hid (((Below.refl _ _).alloc (Nat.le_refl _) _).alloc (by omega) _)
    have HN1 : Hid (((w.alloc (.cells #[.int .u8 (o : Int), .string s, .slice A1 l.length c1] 24)).alloc (.cells #[.int .u8 (o : Int), .string s, .slice A2 l.length c2] 30)).heap[w.heap.size]? = some (.cells #[.int .u8 (o : Int), .string s, .slice A1 l.length c1] 24)) := Lib.hid ((Below.heap_alloc _ _ _ (by omega)).trans (heap_new _ _))
    have HN2 : Hid (((w.alloc (.cells #[.int .u8 (o : Int), .string s, .slice A1 l.length c1] 24)).alloc (.cells #[.int .u8 (o : Int), .string s, .slice A2 l.length c2] 30)).heap[w.heap.size + 1]? = some (.cells #[.int .u8 (o : Int), .string s, .slice A2 l.length c2] 30)) := Lib.hid (heap_new' _ _ hz1)
    clear hl hl' hz1
    have hss : (s.toList == s.toList) = true := by simp
    go_enter Tryd.func21, Tryd.ntmps21
    go_wp2
    generalize (w.alloc (.cells #[.int .u8 (o : Int), .string s, .slice A1 l.length c1] 24)).alloc (.cells #[.int .u8 (o : Int), .string s, .slice A2 l.length c2] 30) = w1 at *
    go_loopg [5] l.length (fun g u wx => ∃ i : Nat, u = .int .i64 i ∧ i + g = l.length ∧ Hid (Below w1.heap.size w1 wx))
    case atStart => exact ⟨0, rfl, by omega, Lib.hid (Below.refl _ _)⟩
    case round =>
      obtain ⟨i, rfl, hig, HR⟩ := hrel
      have HR1 := Lib.hid ((HR.out.block _ (Array.getElem?_eq_some_iff.1 HN1.out).1).trans HN1.out)
      have HR2 := Lib.hid ((HR.out.block _ (Array.getElem?_eq_some_iff.1 HN2.out).1).trans HN2.out)
      have HBR : Hid (Below w.heap.size w wr) := Lib.hid (belowNext HB0.out HR.out)
      obtain ⟨d0, d1, d2⟩ := three_cells HR1.out
      obtain ⟨e0, e1, e2⟩ := three_cells HR2.out
      have hz1 := cell_lt d0
      have hz2 := cell_lt e0
      by_cases hi : i < l.length
      · have hlx : l[i]? = some l[i] := List.getElem?_eq_getElem hi
        generalize hx : l[i] = x at *
        have HAR : Hid (Exs wr (Under B) (.slice A1 l.length c1) l) := Lib.hid (HA.out.keep (fun _ h => h) fun b hb => HBR.out.block b (Nat.lt_of_lt_of_le hb hB))
        have HAR2 : Hid (Exs wr (Under B) (.slice A2 l.length c2) l) := Lib.hid (HA2.out.keep (fun _ h => h) fun b hb => HBR.out.block b (Nat.lt_of_lt_of_le hb hB))
        obtain ⟨b, off, rfl, hb, hat⟩ := HAR.out.get hlx
        obtain ⟨v3, f0, f1, f2, exk⟩ := (exAt_iff x b _).1 hat
        obtain ⟨A3, c3, rfl, _⟩ := id exk
        obtain ⟨b', off', rfl, hb', hat'⟩ := HAR2.out.get hlx
        obtain ⟨v4, g0, g1, g2, exk'⟩ := (exAt_iff x b' _).1 hat'
        obtain ⟨A4, c4, rfl, _⟩ := id exk'
        have hl3 := cell_lt f0
        have hl4 := cell_lt g0
        have HEK := Lib.hid exk
        have HEK2 := Lib.hid exk'
        have HMEM := Lib.hid (List.mem_of_getElem? hlx)
        have HC := Lib.hid (regrown_any (w := wr) fun W hW => IH.out x HMEM.out A3 A4 _ c3 _ c4 B W (HEK.out.keep (fun _ h => h) fun k hk => hW.block k (Nat.lt_of_lt_of_le hk (Nat.le_trans hB HBR.out.size))) (HEK2.out.keep (fun _ h => h) fun k hk => hW.block k (Nat.lt_of_lt_of_le hk (Nat.le_trans hB HBR.out.size))) (Nat.le_trans hB (Nat.le_trans HBR.out.size hW.size)))
        obtain ⟨g, rfl⟩ : ∃ g, gk = g + 1 := ⟨gk - 1, by omega⟩
        clear exk exk' hx hlx hat hat' hb hb'
        go_wp2
        have k0 := cell_regrown d0
        have k1 := cell_regrown d1
        have k2 := cell_regrown d2
        have j0 := cell_regrown e0
        have j1 := cell_regrown e1
        have j2 := cell_regrown e2
        have m0 := cell_regrown f0
        have m1 := cell_regrown f1
        have m2 := cell_regrown f2
        have n0 := cell_regrown g0
        have n1 := cell_regrown g1
        have n2 := cell_regrown g2
        refine wp_region_quiet_below (by kernel_rfl) (by kernel_rfl) ?_
        repeat (first | go_big_quiet_step (with_reducible exact HC.out _ _) | quiet_step (with_reducible exact HC.out _ _))
        refine wpQuiet_nil ?_
        intro _ hw'
        obtain ⟨⟨dq, osq⟩, hw''⟩ := hw'
        subst hw''
        have HRN : Hid (Below w1.heap.size w1 (grow (redrawn wr dq) osq)) := Lib.hid (belowNext HR.out (below_regrown wr dq osq))
        clear k0 k1 k2 j0 j1 j2 m0 m1 m2 n0 n1 n2 d0 d1 d2 e0 e1 e2 f0 f1 f2 g0 g1 g2
        generalize grow (redrawn wr dq) osq = wn at *
        go_wp2
        go_roundg g
        case measure => omega
        case rel => exact ⟨i + 1, by go_num, by omega, HRN⟩
      · go_wp2
        go_ret
        exact ⟨rfl, HBR.out⟩
end Go.Proofs.YtldmimekmjmkgaaDoor

namespace Go.Proofs.YtldmimekmjmkgaaDoor
open Go.RowKit Go.Sort Go.Maps Go.WideMaps

theorem ren_op (f t : ByteArray) (e : Ex) : (renE f t e).op = e.op := by obtain ⟨o, s, l⟩ := e; rw [renE]; rfl
theorem rens_map (f t : ByteArray) : ∀ l, renEs f t l = l.map (renE f t)
  | [] => rfl
  | x :: l => by rw [renEs, rens_map f t l]; rfl
section
variable {w : World} {ops : Array Oper} {o : Oper} {a : Act} {Q : Exit → Act → World → Prop} {K : Act → World → Prop} {E : Prop}
theorem step_ren {v : Value} {f t : ByteArray} {x : Ex} (hw : Region.wanted o (yielded ops a.tmps) = true) (p q r : Operand) (ho : o.op = .call { callee := .value (.func 22), args := #[p, q, r], argTypes := #[24, 9, 9] })
    (hp : a.eval p = v) (hq : a.eval q = .string f) (hr : a.eval r = .string t) (hC : Calls Tryd.prog 22 #[v, .string f, .string t] w (EPost w x))
    (h : ∀ (A : Option Addr) (n c : Nat) (w' : World), Exs w' (From w.heap.size w'.heap.size) (.slice A n c) x.kids → Below w.heap.size w w' → K (a.put o.dst (.agg #[.int .u8 (x.op : Int), .string x.name, .slice A n c])) w') : if Region.wanted o (yielded ops a.tmps) = true then Oper.wp Tryd.prog o a w K Q else E := by
  rw [if_pos hw]
  have hrun : (execOp a.eval o).run Tryd.prog w = .ok (.enter 22 #[v, .string f, .string t]) w := by
    have hf : a.eval (.func 22) = .func (.func 22) #[] #[] := rfl
    obtain ⟨c, hc⟩ : ∃ c, Tryd.f22.body = some c := Option.isSome_iff_exists.1 (by kernel_rfl)
    have hne : ¬ Tryd.f22.name = "runtime.NumGoroutine" := of_decide_eq_false (by kernel_rfl)
    simp [execOp, ho, resolve, invoke, hp, hq, hr, hf, Deferred.ofValue, callFunc, hne, hc]
  unfold Oper.wp
  rw [hrun, Oper.upon_enter]
  refine hC.mono fun e w'' hh => ?_
  obtain ⟨A, n, c, rfl, h1, h2⟩ := hh
  exact h A n c w'' h1 h2
end

/-- Where Rename's loop stands: i kids are renamed. -/
structure RnAt (w wx : World) (o : Nat) (s : ByteArray) (f t : ByteArray) (l : List Ex) (i : Nat) : Prop where
  below : Below w.heap.size w wx
  res : wx.heap[w.heap.size + 1]? = some (.cells #[.int .u8 0, .string ⟨#[]⟩, .slice none 0 0] 24)
  out : wx.heap[w.heap.size + 2]? = some (.cells #[.int .u8 (o : Int), .string s, .slice (some ⟨w.heap.size + 3, 0, none⟩) l.length l.length] 24)
  row : ∃ cur : Array Value, wx.heap[w.heap.size + 3]? = some (.cells cur 24) ∧ cur.size = l.length * 3 ∧ ∀ j x, j < i → l[j]? = some x → ∃ vk, cur[j * 3]? = some (.int .u8 ((renE f t x).op : Int)) ∧ cur[j * 3 + 1]? = some (.string (renE f t x).name) ∧ cur[j * 3 + 2]? = some vk ∧ Exs wx (fun b => w.heap.size + 4 ≤ b ∧ b < wx.heap.size) vk (renE f t x).kids
theorem RnAt.low {w wx : World} {o : Nat} {s f t : ByteArray} {l : List Ex} {i : Nat} (h : RnAt w wx o s f t l i) : w.heap.size + 3 < wx.heap.size := by
  obtain ⟨cur, h1, _⟩ := h.row
  exact (Array.getElem?_eq_some_iff.1 h1).1
theorem RnAt.keep {w wx wy : World} {o : Nat} {s f t : ByteArray} {l : List Ex} {i : Nat} (h : RnAt w wx o s f t l i) (hb : Below wx.heap.size wx wy) : RnAt w wy o s f t l i := by
  have hl := h.low
  obtain ⟨cur, h1, h2, h3⟩ := h.row
  refine ⟨belowNext h.below hb, (hb.block _ (by omega)).trans h.res, (hb.block _ (by omega)).trans h.out, cur, (hb.block _ hl).trans h1, h2, fun j x hj hx => ?_⟩
  obtain ⟨vk, c0, c1, c2, hk⟩ := h3 j x hj hx
  exact ⟨vk, c0, c1, c2, hk.keep (fun b hb' => ⟨hb'.1, Nat.lt_of_lt_of_le hb'.2 hb.size⟩) fun b hb' => hb.block b hb'.2⟩
/-- One more is renamed. -/
theorem RnAt.next {w W : World} {o : Nat} {s f t : ByteArray} {l : List Ex} {i : Nat} {x : Ex} {vk : Value} (h : RnAt w W o s f t l i) (hi : i < l.length) (hx : l[i]? = some x) (hk : Exs W (fun b => w.heap.size + 4 ≤ b ∧ b < W.heap.size) vk (renE f t x).kids) :
    RnAt w (((W.setCell ⟨w.heap.size + 3, i * 3, none⟩ (.int .u8 ((renE f t x).op : Int))).setCell ⟨w.heap.size + 3, i * 3 + 1, none⟩ (.string (renE f t x).name)).setCell ⟨w.heap.size + 3, i * 3 + 2, none⟩ vk) o s f t l (i + 1) := by
  have hl := h.low
  obtain ⟨cur, h1, h2, h3⟩ := h.row
  have hz : (((W.setCell ⟨w.heap.size + 3, i * 3, none⟩ (.int .u8 ((renE f t x).op : Int))).setCell ⟨w.heap.size + 3, i * 3 + 1, none⟩ (.string (renE f t x).name)).setCell ⟨w.heap.size + 3, i * 3 + 2, none⟩ vk).heap.size = W.heap.size := by simp [World.setCell]
  have hb : ∀ b, b ≠ w.heap.size + 3 → (((W.setCell ⟨w.heap.size + 3, i * 3, none⟩ (.int .u8 ((renE f t x).op : Int))).setCell ⟨w.heap.size + 3, i * 3 + 1, none⟩ (.string (renE f t x).name)).setCell ⟨w.heap.size + 3, i * 3 + 2, none⟩ vk).heap[b]? = W.heap[b]? := fun b hb =>
    (Below.heap_setCell _ _ _ _ hb).trans ((Below.heap_setCell _ _ _ _ hb).trans (Below.heap_setCell _ _ _ _ hb))
  have hrow : (((W.setCell ⟨w.heap.size + 3, i * 3, none⟩ (.int .u8 ((renE f t x).op : Int))).setCell ⟨w.heap.size + 3, i * 3 + 1, none⟩ (.string (renE f t x).name)).setCell ⟨w.heap.size + 3, i * 3 + 2, none⟩ vk).heap[w.heap.size + 3]? = some (.cells (((cur.setIfInBounds (i * 3) (.int .u8 ((renE f t x).op : Int))).setIfInBounds (i * 3 + 1) (.string (renE f t x).name)).setIfInBounds (i * 3 + 2) vk) 24) :=
    heap_setCell_same _ _ _ _ _ _ (heap_setCell_same _ _ _ _ _ _ (heap_setCell_same _ _ _ _ _ _ h1))
  refine ⟨⟨h.below.os, h.below.tape, h.below.output, by rw [hz]; exact h.below.size, fun b hb' => (hb b (by omega)).trans (h.below.block b hb')⟩, (hb _ (by omega)).trans h.res, (hb _ (by omega)).trans h.out, _, hrow, by simpa using h2, fun j y hj hy => ?_⟩
  by_cases e : j = i
  · subst e
    obtain rfl : x = y := Option.some.inj (hx.symm.trans hy)
    refine ⟨vk, ?_, ?_, ?_, hk.keep (fun b hb' => by rw [hz]; exact hb') fun b hb' => hb b (by omega)⟩
    · rw [Array.getElem?_setIfInBounds_ne (by omega), Array.getElem?_setIfInBounds_ne (by omega), Array.getElem?_setIfInBounds_self_of_lt (by omega)]
    · rw [Array.getElem?_setIfInBounds_ne (by omega), Array.getElem?_setIfInBounds_self_of_lt (by simp; omega)]
    · rw [Array.getElem?_setIfInBounds_self_of_lt (by simp; omega)]
  · obtain ⟨vj, c0, c1, c2, hkj⟩ := h3 j y (by omega) hy
    refine ⟨vj, ?_, ?_, ?_, hkj.keep (fun b hb' => by rw [hz]; exact hb') fun b hb' => hb b (by omega)⟩
    · rw [Array.getElem?_setIfInBounds_ne (by omega), Array.getElem?_setIfInBounds_ne (by omega), Array.getElem?_setIfInBounds_ne (by omega)]; exact c0
    · rw [Array.getElem?_setIfInBounds_ne (by omega), Array.getElem?_setIfInBounds_ne (by omega), Array.getElem?_setIfInBounds_ne (by omega)]; exact c1
    · rw [Array.getElem?_setIfInBounds_ne (by omega), Array.getElem?_setIfInBounds_ne (by omega), Array.getElem?_setIfInBounds_ne (by omega)]; exact c2
/-- All are. -/
theorem RnAt.all {w W : World} {o : Nat} {s f t : ByteArray} {l : List Ex} {i : Nat} (h : RnAt w W o s f t l i) (hi : l.length ≤ i) (hm : l.length ≤ maxLen) : Exs W (fun b => w.heap.size ≤ b ∧ b < W.heap.size ∧ b ≠ w.heap.size + 1) (.slice (some ⟨w.heap.size + 3, 0, none⟩) l.length l.length) (renEs f t l) := by
  have hl := h.low
  obtain ⟨cur, h1, h2, h3⟩ := h.row
  rw [rens_map]
  refine ⟨some ⟨w.heap.size + 3, 0, none⟩, l.length, by rw [List.length_map], by rw [List.length_map]; exact Nat.le_refl _, hm, .inr ⟨w.heap.size + 3, 0, rfl, ⟨by omega, by omega, by omega⟩, exsAt_of _ _ _ fun j y hj => ?_⟩⟩
  rw [List.getElem?_map] at hj
  cases hx : l[j]? with
  | none => rw [hx] at hj; simp at hj
  | some x =>
    rw [hx] at hj
    simp only [Option.map_some, Option.some.injEq] at hj
    subst hj
    obtain ⟨vk, c0, c1, c2, hk⟩ := h3 j x (by have := (List.getElem?_eq_some_iff.1 hx).1; omega) hx
    refine (exAt_iff _ _ _).2 ⟨vk, ?_, ?_, ?_, hk.keep (fun b hb => ⟨by have := hb.1; omega, hb.2, by have := hb.1; omega⟩) fun _ _ => rfl⟩
    · simp only [World.cell?, h1, Nat.zero_add]; exact c0
    · simp only [World.cell?, h1, Nat.zero_add]; exact c1
    · simp only [World.cell?, h1, Nat.zero_add]; exact c2
theorem ren_fin {w W : World} {e : Ex} {A : Option Addr} {n c : Nat} {u0 u1 u2 : Value} (hB : Below w.heap.size w W) (hz : W.heap[w.heap.size + 1]? = some (.cells #[u0, u1, u2] 24)) (hk : Exs W (fun b => w.heap.size ≤ b ∧ b < W.heap.size ∧ b ≠ w.heap.size + 1) (.slice A n c) e.kids) :
    (((W.setCell ⟨w.heap.size + 1, 0, none⟩ (.int .u8 (e.op : Int))).setCell ⟨w.heap.size + 1, 1, none⟩ (.string e.name)).setCell ⟨w.heap.size + 1, 2, none⟩ (.slice A n c)).heap[w.heap.size + 1]? = some (.cells #[.int .u8 (e.op : Int), .string e.name, .slice A n c] 24) ∧
    EPost w e (.returned (.agg #[.int .u8 (e.op : Int), .string e.name, .slice A n c])) (((W.setCell ⟨w.heap.size + 1, 0, none⟩ (.int .u8 (e.op : Int))).setCell ⟨w.heap.size + 1, 1, none⟩ (.string e.name)).setCell ⟨w.heap.size + 1, 2, none⟩ (.slice A n c)) := by
  obtain ⟨x0, hx, hzz⟩ := put3x (v0 := .int .u8 (e.op : Int)) (v1 := .string e.name) (v2 := .slice A n c) hz
  exact ⟨x0, A, n, c, rfl, hk.keep (fun b hb => ⟨hb.1, by rw [hzz]; exact hb.2.1⟩) fun b hb => hx b hb.2.2, hB.os, hB.tape, hB.output, by rw [hzz]; exact hB.size, fun b hb => (hx b (by omega)).trans (hB.block b hb)⟩
/-- The three boxes that it begins with. -/
theorem ren_start (w : World) (o : Int) (s s' : ByteArray) (v : Value) : Below w.heap.size w (((w.alloc (.cells #[.int .u8 o, .string s, v] 24)).alloc (.cells #[.int .u8 0, .string ⟨#[]⟩, .slice none 0 0] 24)).alloc (.cells #[.int .u8 o, .string s', .slice none 0 0] 24)) ∧
    (((w.alloc (.cells #[.int .u8 o, .string s, v] 24)).alloc (.cells #[.int .u8 0, .string ⟨#[]⟩, .slice none 0 0] 24)).alloc (.cells #[.int .u8 o, .string s', .slice none 0 0] 24)).heap[w.heap.size]? = some (.cells #[.int .u8 o, .string s, v] 24) ∧
    (((w.alloc (.cells #[.int .u8 o, .string s, v] 24)).alloc (.cells #[.int .u8 0, .string ⟨#[]⟩, .slice none 0 0] 24)).alloc (.cells #[.int .u8 o, .string s', .slice none 0 0] 24)).heap[w.heap.size + 1]? = some (.cells #[.int .u8 0, .string ⟨#[]⟩, .slice none 0 0] 24) ∧
    (((w.alloc (.cells #[.int .u8 o, .string s, v] 24)).alloc (.cells #[.int .u8 0, .string ⟨#[]⟩, .slice none 0 0] 24)).alloc (.cells #[.int .u8 o, .string s', .slice none 0 0] 24)).heap[w.heap.size + 2]? = some (.cells #[.int .u8 o, .string s', .slice none 0 0] 24) ∧
    (((w.alloc (.cells #[.int .u8 o, .string s, v] 24)).alloc (.cells #[.int .u8 0, .string ⟨#[]⟩, .slice none 0 0] 24)).alloc (.cells #[.int .u8 o, .string s', .slice none 0 0] 24)).heap.size = w.heap.size + 3 := by
  have hz1 : (w.alloc (.cells #[.int .u8 o, .string s, v] 24)).heap.size = w.heap.size + 1 := by simp
  have hz2 : ((w.alloc (.cells #[.int .u8 o, .string s, v] 24)).alloc (.cells #[.int .u8 0, .string ⟨#[]⟩, .slice none 0 0] 24)).heap.size = w.heap.size + 2 := by simp
  exact ⟨(((Below.refl _ _).alloc (Nat.le_refl _) _).alloc (by omega) _).alloc (by omega) _, (Below.heap_alloc _ _ _ (by omega)).trans ((Below.heap_alloc _ _ _ (by omega)).trans (heap_new _ _)), (Below.heap_alloc _ _ _ (by omega)).trans (heap_new' _ _ hz1), heap_new' _ _ hz2, by simp⟩
/-- The row is made. -/
theorem RnAt.start {w W w1 : World} {o n : Nat} {s f t : ByteArray} {l : List Ex} (hn : l.length = n) (hB : Below w.heap.size w W) (hr : W.heap[w.heap.size + 1]? = some (.cells #[.int .u8 0, .string ⟨#[]⟩, .slice none 0 0] 24)) (ho : W.heap[w.heap.size + 2]? = some (.cells #[.int .u8 (o : Int), .string s, .slice none 0 0] 24)) (hz : W.heap.size = w.heap.size + 3)
    {xs : List Value} (hown : w1.ownsRow (w.heap.size + 3) 24 3 (.slice (some ⟨w.heap.size + 3, 0, none⟩) n n) n xs) (hg : W.grownBy w1 none) :
    RnAt w (w1.setCell ⟨w.heap.size + 2, 2, none⟩ (.slice (some ⟨w.heap.size + 3, 0, none⟩) n n)) o s f t l 0 := by
  have hb : Below W.heap.size W w1 := (Below.refl W.heap.size W).grown hg (Nat.le_refl _) (fun j hj => by cases hj)
  have hx : ∀ b, b ≠ w.heap.size + 2 → (w1.setCell ⟨w.heap.size + 2, 2, none⟩ (.slice (some ⟨w.heap.size + 3, 0, none⟩) n n)).heap[b]? = w1.heap[b]? := fun b hb => Below.heap_setCell _ _ _ _ hb
  have hzz : (w1.setCell ⟨w.heap.size + 2, 2, none⟩ (.slice (some ⟨w.heap.size + 3, 0, none⟩) n n)).heap.size = w1.heap.size := by simp [World.setCell]
  have hbw := belowNext hB hb
  subst hn
  refine ⟨⟨hbw.os, hbw.tape, hbw.output, by rw [hzz]; exact hbw.size, fun b hb' => (hx b (by omega)).trans (hbw.block b hb')⟩, (hx _ (by omega)).trans ((hb.block _ (by omega)).trans hr), heap_setCell_same w1 _ 2 _ _ _ ((hb.block _ (by omega)).trans ho), ?_⟩
  obtain ⟨_, ⟨h, _⟩ | ⟨g, cap, cur, h, _, hg', _, _, hcs, _⟩⟩ := hown
  · cases h
  · injection h with h1 _ h3
    injection h1 with h1
    injection h1 with h1 _ _
    subst h1 h3
    exact ⟨cur, (hx _ (by omega)).trans hg', hcs, fun j x hj => absurd hj (by omega)⟩
theorem row_three {W : World} {g : Nat} {cur : Array Value} {T : TypeId} (h : W.heap[g]? = some (.cells cur T)) {i : Nat} (hi : i * 3 + 2 < cur.size) : (∃ v, W.cell? ⟨g, i * 3, none⟩ = some v) ∧ (∃ v, W.cell? ⟨g, i * 3 + 1, none⟩ = some v) ∧ ∃ v, W.cell? ⟨g, i * 3 + 2, none⟩ = some v := by
  simp only [World.cell?, h]
  exact ⟨⟨_, Array.getElem?_eq_getElem (by omega)⟩, ⟨_, Array.getElem?_eq_getElem (by omega)⟩, _, Array.getElem?_eq_getElem (by omega)⟩
end Go.Proofs.YtldmimekmjmkgaaDoor

namespace Go.Proofs.YtldmimekmjmkgaaDoor
open Go.RowKit Go.Sort Go.Maps Go.WideMaps

def RnSaid (e : Ex) : Prop := ∀ (f t : ByteArray) (A : Option Addr) (n c B : Nat) (w : World), sizeE e ≤ 1000 → Exs w (Under B) (.slice A n c) e.kids → B ≤ w.heap.size →
  Calls Tryd.prog 22 #[.agg #[.int .u8 (e.op : Int), .string e.name, .slice A n c], .string f, .string t] w (EPost w (renE f t e))
attribute [local go_sem ↓] Go.wp_at_zero Go.wp_at_succ
set_option maxRecDepth 100000 in
set_option maxHeartbeats 4000000 in
theorem ren_walk : ∀ e, RnSaid e := by
  intro e
  induction e using Ex.induct_one with
  | h o s l ih =>
    intro f t A n c B w hsz hl hB
    have IH := Lib.hid ih
    clear ih
    simp only [Ex.op, Ex.name, Ex.kids] at *
    have hlen := hl.len
    obtain ⟨A', c', hv, hc, hm, _⟩ := id hl
    injection hv with hA hn hc'
    subst hA hn hc'
    unfold maxLen at hm
    have HSZ := Lib.hid hsz
    have hll : l.length ≤ 1000 := by
      have h1 : ∀ l : List Ex, l.length ≤ sizeEs l := fun l => by
        induction l with
        | nil => exact Nat.le_refl _
        | cons x l ih => obtain ⟨_, _, _⟩ := x; simp only [sizeEs, sizeE, List.length_cons]; omega
      have := h1 l
      simp only [sizeE] at hsz
      omega
    have HA := Lib.hid hl
    clear hl hsz
    by_cases ho : o = 110
    · subst ho
      by_cases hsf : s = f
      · subst hsf
        have hse : (s.toList == s.toList) = true := by simp
        have HR : Hid (renE s t (.mk 110 s l) = .mk 110 t (renEs s t l)) := Lib.hid (by rw [renE, if_pos ⟨rfl, rfl⟩])
        have H0 := Lib.hid (ren_start w 110 s s (.slice A l.length c))
        have H4 := Lib.hid (ren_start w 110 s t (.slice A l.length c))
        go_enter Tryd.func22, Tryd.ntmps22
        obtain ⟨b0, b1, b2⟩ := three_cells H0.out.2.1
        obtain ⟨r0, r1, r2⟩ := three_cells H0.out.2.2.1
        obtain ⟨o0, o1, o2⟩ := three_cells H0.out.2.2.2.1
        have t1 := frozen_of_row _ (w.heap.size + 2) 1 _ _ H0.out.2.2.2.1
        have hzl := cell_lt o0
        go_upto_region 4 with fail
        generalize ((w.alloc (.cells #[.int .u8 110, .string s, .slice A l.length c] 24)).alloc (.cells #[.int .u8 0, .string ⟨#[]⟩, .slice none 0 0] 24)).alloc (.cells #[.int .u8 110, .string t, .slice none 0 0] 24) = W4 at *
        clear b0 b1 b2 r0 r1 r2 o0 o1 o2 t1 hzl H0
        obtain ⟨b0, b1, b2⟩ := three_cells H4.out.2.1
        obtain ⟨o0, o1, o2⟩ := three_cells H4.out.2.2.2.1
        have hzl := cell_lt o0
        by_cases hk0 : l = []
        · subst hk0
          go_wp2
          go_loopg [38] 0 (fun g u wx => u = .int .i64 0 ∧ wx = W4)
          case atStart => exact ⟨rfl, rfl⟩
          case round =>
            obtain ⟨rfl, rfl⟩ := hrel
            obtain ⟨z0, z1, z2⟩ := three_cells H4.out.2.2.1
            have y0 := frozen_of_row _ (w.heap.size + 1) 0 _ _ H4.out.2.2.1
            have y1 := frozen_of_row _ (w.heap.size + 1) 1 _ _ H4.out.2.2.1
            have y2 := frozen_of_row _ (w.heap.size + 1) 2 _ _ H4.out.2.2.1
            go_wp2
            obtain ⟨x0, x1⟩ := ren_fin (e := .mk 110 t []) H4.out.1 H4.out.2.2.1 (exs_nil _ _)
            have x0' : (((wr.setCell ⟨w.heap.size + 1, 0, none⟩ (.int .u8 110)).setCell ⟨w.heap.size + 1, 1, none⟩ (.string t)).setCell ⟨w.heap.size + 1, 2, none⟩ (.slice none 0 0)).heap[w.heap.size + 1]? = some (.cells #[.int .u8 110, .string t, .slice none 0 0] 24) := x0
            obtain ⟨v0, v1, v2⟩ := three_cells x0'
            refine bodyPost_ret (v := .agg #[.int .u8 110, .string t, .slice none 0 0]) (by simp [results, Tryd.results22, go_sem, v0, v1, v2]) rfl ?_
            rw [HR.out]
            exact x1
        · have hn0 : 0 < l.length := List.length_pos_iff.2 hk0
          generalize hn : l.length = n at *
          have HN := Lib.hid hn
          clear hn hk0
          have HZ4 := Lib.hid H4.out.2.2.2.2
          obtain ⟨i0, hi, hz0, hz1, hz2⟩ := info_parts exprE_info
          go_upto_region 6 with (first
            | (at_make; refine wpList_make_full _ rfl _ _ 22 rfl (w.heap.size + 3) 24 i0 (.agg #[.int .u8 0, .string ⟨#[]⟩, .slice none 0 0]) 3 Tryd.underlying22 hi hz0 hz1 .i64 .i64 _ _ n rfl rfl rfl rfl (by rw [hz2]; omega) (by unfold maxLen; omega) (by rw [HZ4.out]; exact Nat.le_refl _) ?_; intro w1 hown hgrow; rw [HZ4.out] at hown; rw [HZ4.out]; have HGR : Hid (Below W4.heap.size W4 w1) := Lib.hid ((Below.refl W4.heap.size W4).grown hgrow (Nat.le_refl _) (fun j hj => by cases hj)); have HR5 := Lib.hid (RnAt.start (o := 110) (s := t) (f := s) (t := t) HN.out H4.out.1 H4.out.2.2.1 H4.out.2.2.2.1 HZ4.out hown hgrow); have hbo : w1.heap[w.heap.size + 2]? = some (.cells #[.int .u8 110, .string t, .slice none 0 0] 24) := (HGR.out.block _ (by have := HZ4.out; omega)).trans H4.out.2.2.2.1; have HBX : Hid (w1.heap[w.heap.size]? = some (.cells #[.int .u8 110, .string s, .slice A n c] 24)) := Lib.hid ((HGR.out.block _ (by have := HZ4.out; omega)).trans H4.out.2.1); obtain ⟨u0, u1, u2⟩ := three_cells hbo; have t2 := frozen_of_row _ (w.heap.size + 2) 2 _ _ hbo; have hul := cell_lt u0; clear hown hgrow hbo b0 b1 b2 o0 o1 o2 hzl)
            | fail)
          have HB5 : Hid ((w1.setCell ⟨w.heap.size + 2, 2, none⟩ (.slice (some ⟨w.heap.size + 3, 0, none⟩) n n)).heap[w.heap.size]? = some (.cells #[.int .u8 110, .string s, .slice A n c] 24)) := Lib.hid ((Below.heap_setCell _ _ _ _ (by dsimp only; omega)).trans HBX.out)
          generalize w1.setCell ⟨w.heap.size + 2, 2, none⟩ (.slice (some ⟨w.heap.size + 3, 0, none⟩) n n) = W5 at *
          clear u0 u1 u2 t2 hul HGR HBX H4 HZ4 hi hz0 hz1 hz2
          obtain ⟨b0, b1, b2⟩ := three_cells HB5.out
          have hzl := cell_lt b0
          go_wp2
          clear b0 b1 b2 hzl HB5
          go_loopg [38] n (fun g u wx => ∃ i : Nat, u = .int .i64 i ∧ i + g = n ∧ Hid (RnAt w wx 110 t s t l i))
          case atStart => exact ⟨0, rfl, by omega, HR5⟩
          case round =>
            clear HR5
            obtain ⟨i, rfl, hig, HQ⟩ := hrel
            have hlow := HQ.out.low
            by_cases hi : i < n
            · obtain ⟨x, hlx⟩ : ∃ x, l[i]? = some x := ⟨_, List.getElem?_eq_getElem (by rw [HN.out]; exact hi)⟩
              have HAR : Hid (Exs wr (Under B) (.slice A n c) l) := Lib.hid (HA.out.keep (fun _ h => h) fun b hb => HQ.out.below.block b (Nat.lt_of_lt_of_le hb hB))
              obtain ⟨b, off, rfl, hb, hat⟩ := HAR.out.get hlx
              obtain ⟨v3, f0, f1, f2, exk⟩ := (exAt_iff x b _).1 hat
              obtain ⟨A3, c3, rfl, _⟩ := id exk
              have hl3 := cell_lt f0
              have HX := Lib.hid hlx
              have HXS : Hid (sizeE x ≤ 1000) := Lib.hid (by have h1 := size_mem (List.mem_of_getElem? hlx); have h2 := HSZ.out; simp only [sizeE] at h2; omega)
              have HEK := Lib.hid exk
              obtain ⟨g, rfl⟩ : ∃ g, gk = g + 1 := ⟨gk - 1, by omega⟩
              clear exk hlx hat hb
              go_upto_region 9 with fail
              have HBB : Hid (Below wr.heap.size wr (wr.alloc (.cells #[.int .u8 (x.op : Int), .string x.name, .slice A3 x.kids.length c3] 24))) := Lib.hid ((Below.refl _ _).alloc (Nat.le_refl _) _)
              have HBX : Hid ((wr.alloc (.cells #[.int .u8 (x.op : Int), .string x.name, .slice A3 x.kids.length c3] 24)).heap[wr.heap.size]? = some (.cells #[.int .u8 (x.op : Int), .string x.name, .slice A3 x.kids.length c3] 24)) := Lib.hid (heap_new _ _)
              have HSB : Hid (wr.heap.size < (wr.alloc (.cells #[.int .u8 (x.op : Int), .string x.name, .slice A3 x.kids.length c3] 24)).heap.size) := Lib.hid (by simp)
              generalize wr.alloc (.cells #[.int .u8 (x.op : Int), .string x.name, .slice A3 x.kids.length c3] 24) = wb at *
              have HQB := Lib.hid (HQ.out.keep HBB.out)
              have HCALL := Lib.hid (IH.out x (List.mem_of_getElem? HX.out) s t A3 _ c3 B wb.drew HXS.out ((HEK.out.keep (fun _ h => h) fun b hb => HBB.out.block b (Nat.lt_of_lt_of_le hb (Nat.le_trans hB HQ.out.below.size))).keep (fun _ h => h) fun _ _ => rfl) (Nat.le_trans hB HQB.out.below.size))
              clear f0 f1 f2 hl3 HEK
              have hob := HQB.out.out
              rw [HN.out] at hob
              obtain ⟨p0, p1, p2⟩ := three_cells hob
              obtain ⟨g0, g1, g2⟩ := three_cells HBX.out
              have m0 := cell_lt g0
              have m1 := cell_lt p0
              clear hob
              go_wp2_with fail
              go_region_law (first
                | ((with_reducible refine step_ren (v := .agg #[.int .u8 (x.op : Int), .string x.name, .slice A3 x.kids.length c3]) (f := s) (t := t) (x := renE s t x) (by kernel_rfl) (.tmp 46) (.tmp 47) (.tmp 48) rfl rfl rfl rfl HCALL.out ?_); intro A4 n4 c4 w2 hk2 hb2; have HB2 : Hid (Below wb.heap.size wb w2) := Lib.hid ((below_drewX wb).trans hb2); have HR2 := Lib.hid (HQB.out.keep HB2.out); have hob2 := HR2.out.out; rw [HN.out] at hob2; obtain ⟨q0, q1, q2⟩ := three_cells hob2; have k1 := cell_lt q0; obtain ⟨cur, hcur, hcsz, _⟩ := id HR2.out.row; rw [HN.out] at hcsz; obtain ⟨⟨yv0, y0⟩, ⟨yv1, y1⟩, yv2, y2⟩ := row_three hcur (i := i) (by omega); have z0 := frozen_of_row _ (w.heap.size + 3) (i * 3) _ _ hcur; have z1 := frozen_of_row _ (w.heap.size + 3) (i * 3 + 1) _ _ hcur; have z2 := frozen_of_row _ (w.heap.size + 3) (i * 3 + 2) _ _ hcur; have k2 := cell_lt y0; have HFIN := Lib.hid (HR2.out.next (by rw [HN.out]; exact hi) HX.out (hk2.keep (fun b hb => ⟨by have h1 : wb.heap.size ≤ b := hb.1; have := HSB.out; omega, hb.2⟩) fun _ _ => rfl)); clear hk2 hb2 hob2 hcur))
              all_goals
                go_wp2
                go_roundg g
                case measure => omega
                case rel => exact ⟨i + 1, by go_num, by omega, HFIN⟩
            · have hob := HQ.out.out
              rw [HN.out] at hob
              obtain ⟨q0, q1, q2⟩ := three_cells hob
              have k1 := cell_lt q0
              obtain ⟨z0, z1, z2⟩ := three_cells HQ.out.res
              have y0 := frozen_of_row _ (w.heap.size + 1) 0 _ _ HQ.out.res
              have y1 := frozen_of_row _ (w.heap.size + 1) 1 _ _ HQ.out.res
              have y2 := frozen_of_row _ (w.heap.size + 1) 2 _ _ HQ.out.res
              clear hob
              go_wp2
              have h9 := HQ.out.all (by rw [HN.out]; omega) (by rw [HN.out]; unfold maxLen; omega)
              rw [HN.out] at h9
              obtain ⟨x0, x1⟩ := ren_fin (e := .mk 110 t (renEs s t l)) HQ.out.below HQ.out.res h9
              have x0' : (((wr.setCell ⟨w.heap.size + 1, 0, none⟩ (.int .u8 110)).setCell ⟨w.heap.size + 1, 1, none⟩ (.string t)).setCell ⟨w.heap.size + 1, 2, none⟩ (.slice (some ⟨w.heap.size + 3, 0, none⟩) n n)).heap[w.heap.size + 1]? = some (.cells #[.int .u8 110, .string t, .slice (some ⟨w.heap.size + 3, 0, none⟩) n n] 24) := x0
              obtain ⟨v0, v1, v2⟩ := three_cells x0'
              refine bodyPost_ret (v := .agg #[.int .u8 110, .string t, .slice (some ⟨w.heap.size + 3, 0, none⟩) n n]) (by simp [results, Tryd.results22, go_sem, v0, v1, v2]) rfl ?_
              rw [HR.out]
              exact x1
      · have hse : (s.toList == f.toList) = false := by
          rw [beq_eq_false_iff_ne]; intro h; rw [Lib.toList_data, Lib.toList_data] at h; exact hsf (bytesE_of h)
        have HR : Hid (renE f t (.mk 110 s l) = .mk 110 s (renEs f t l)) := Lib.hid (by rw [renE, if_neg (fun h => hsf h.2)])
        clear hsf
        have H0 := Lib.hid (ren_start w 110 s s (.slice A l.length c))
        have H4 := Lib.hid (ren_start w 110 s s (.slice A l.length c))
        go_enter Tryd.func22, Tryd.ntmps22
        obtain ⟨b0, b1, b2⟩ := three_cells H0.out.2.1
        obtain ⟨r0, r1, r2⟩ := three_cells H0.out.2.2.1
        obtain ⟨o0, o1, o2⟩ := three_cells H0.out.2.2.2.1
        have t1 := frozen_of_row _ (w.heap.size + 2) 1 _ _ H0.out.2.2.2.1
        have hzl := cell_lt o0
        go_upto_region 4 with fail
        generalize ((w.alloc (.cells #[.int .u8 110, .string s, .slice A l.length c] 24)).alloc (.cells #[.int .u8 0, .string ⟨#[]⟩, .slice none 0 0] 24)).alloc (.cells #[.int .u8 110, .string s, .slice none 0 0] 24) = W4 at *
        clear b0 b1 b2 r0 r1 r2 o0 o1 o2 t1 hzl H0
        obtain ⟨b0, b1, b2⟩ := three_cells H4.out.2.1
        obtain ⟨o0, o1, o2⟩ := three_cells H4.out.2.2.2.1
        have hzl := cell_lt o0
        by_cases hk0 : l = []
        · subst hk0
          go_wp2
          go_loopg [38] 0 (fun g u wx => u = .int .i64 0 ∧ wx = W4)
          case atStart => exact ⟨rfl, rfl⟩
          case round =>
            obtain ⟨rfl, rfl⟩ := hrel
            obtain ⟨z0, z1, z2⟩ := three_cells H4.out.2.2.1
            have y0 := frozen_of_row _ (w.heap.size + 1) 0 _ _ H4.out.2.2.1
            have y1 := frozen_of_row _ (w.heap.size + 1) 1 _ _ H4.out.2.2.1
            have y2 := frozen_of_row _ (w.heap.size + 1) 2 _ _ H4.out.2.2.1
            go_wp2
            obtain ⟨x0, x1⟩ := ren_fin (e := .mk 110 s []) H4.out.1 H4.out.2.2.1 (exs_nil _ _)
            have x0' : (((wr.setCell ⟨w.heap.size + 1, 0, none⟩ (.int .u8 110)).setCell ⟨w.heap.size + 1, 1, none⟩ (.string s)).setCell ⟨w.heap.size + 1, 2, none⟩ (.slice none 0 0)).heap[w.heap.size + 1]? = some (.cells #[.int .u8 110, .string s, .slice none 0 0] 24) := x0
            obtain ⟨v0, v1, v2⟩ := three_cells x0'
            refine bodyPost_ret (v := .agg #[.int .u8 110, .string s, .slice none 0 0]) (by simp [results, Tryd.results22, go_sem, v0, v1, v2]) rfl ?_
            rw [HR.out]
            exact x1
        · have hn0 : 0 < l.length := List.length_pos_iff.2 hk0
          generalize hn : l.length = n at *
          have HN := Lib.hid hn
          clear hn hk0
          have HZ4 := Lib.hid H4.out.2.2.2.2
          obtain ⟨i0, hi, hz0, hz1, hz2⟩ := info_parts exprE_info
          go_upto_region 6 with (first
            | (at_make; refine wpList_make_full _ rfl _ _ 22 rfl (w.heap.size + 3) 24 i0 (.agg #[.int .u8 0, .string ⟨#[]⟩, .slice none 0 0]) 3 Tryd.underlying22 hi hz0 hz1 .i64 .i64 _ _ n rfl rfl rfl rfl (by rw [hz2]; omega) (by unfold maxLen; omega) (by rw [HZ4.out]; exact Nat.le_refl _) ?_; intro w1 hown hgrow; rw [HZ4.out] at hown; rw [HZ4.out]; have HGR : Hid (Below W4.heap.size W4 w1) := Lib.hid ((Below.refl W4.heap.size W4).grown hgrow (Nat.le_refl _) (fun j hj => by cases hj)); have HR5 := Lib.hid (RnAt.start (o := 110) (s := s) (f := f) (t := t) HN.out H4.out.1 H4.out.2.2.1 H4.out.2.2.2.1 HZ4.out hown hgrow); have hbo : w1.heap[w.heap.size + 2]? = some (.cells #[.int .u8 110, .string s, .slice none 0 0] 24) := (HGR.out.block _ (by have := HZ4.out; omega)).trans H4.out.2.2.2.1; have HBX : Hid (w1.heap[w.heap.size]? = some (.cells #[.int .u8 110, .string s, .slice A n c] 24)) := Lib.hid ((HGR.out.block _ (by have := HZ4.out; omega)).trans H4.out.2.1); obtain ⟨u0, u1, u2⟩ := three_cells hbo; have t2 := frozen_of_row _ (w.heap.size + 2) 2 _ _ hbo; have hul := cell_lt u0; clear hown hgrow hbo b0 b1 b2 o0 o1 o2 hzl)
            | fail)
          have HB5 : Hid ((w1.setCell ⟨w.heap.size + 2, 2, none⟩ (.slice (some ⟨w.heap.size + 3, 0, none⟩) n n)).heap[w.heap.size]? = some (.cells #[.int .u8 110, .string s, .slice A n c] 24)) := Lib.hid ((Below.heap_setCell _ _ _ _ (by dsimp only; omega)).trans HBX.out)
          generalize w1.setCell ⟨w.heap.size + 2, 2, none⟩ (.slice (some ⟨w.heap.size + 3, 0, none⟩) n n) = W5 at *
          clear u0 u1 u2 t2 hul HGR HBX H4 HZ4 hi hz0 hz1 hz2
          obtain ⟨b0, b1, b2⟩ := three_cells HB5.out
          have hzl := cell_lt b0
          go_wp2
          clear b0 b1 b2 hzl HB5
          go_loopg [38] n (fun g u wx => ∃ i : Nat, u = .int .i64 i ∧ i + g = n ∧ Hid (RnAt w wx 110 s f t l i))
          case atStart => exact ⟨0, rfl, by omega, HR5⟩
          case round =>
            clear HR5
            obtain ⟨i, rfl, hig, HQ⟩ := hrel
            have hlow := HQ.out.low
            by_cases hi : i < n
            · obtain ⟨x, hlx⟩ : ∃ x, l[i]? = some x := ⟨_, List.getElem?_eq_getElem (by rw [HN.out]; exact hi)⟩
              have HAR : Hid (Exs wr (Under B) (.slice A n c) l) := Lib.hid (HA.out.keep (fun _ h => h) fun b hb => HQ.out.below.block b (Nat.lt_of_lt_of_le hb hB))
              obtain ⟨b, off, rfl, hb, hat⟩ := HAR.out.get hlx
              obtain ⟨v3, f0, f1, f2, exk⟩ := (exAt_iff x b _).1 hat
              obtain ⟨A3, c3, rfl, _⟩ := id exk
              have hl3 := cell_lt f0
              have HX := Lib.hid hlx
              have HXS : Hid (sizeE x ≤ 1000) := Lib.hid (by have h1 := size_mem (List.mem_of_getElem? hlx); have h2 := HSZ.out; simp only [sizeE] at h2; omega)
              have HEK := Lib.hid exk
              obtain ⟨g, rfl⟩ : ∃ g, gk = g + 1 := ⟨gk - 1, by omega⟩
              clear exk hlx hat hb
              go_upto_region 9 with fail
              have HBB : Hid (Below wr.heap.size wr (wr.alloc (.cells #[.int .u8 (x.op : Int), .string x.name, .slice A3 x.kids.length c3] 24))) := Lib.hid ((Below.refl _ _).alloc (Nat.le_refl _) _)
              have HBX : Hid ((wr.alloc (.cells #[.int .u8 (x.op : Int), .string x.name, .slice A3 x.kids.length c3] 24)).heap[wr.heap.size]? = some (.cells #[.int .u8 (x.op : Int), .string x.name, .slice A3 x.kids.length c3] 24)) := Lib.hid (heap_new _ _)
              have HSB : Hid (wr.heap.size < (wr.alloc (.cells #[.int .u8 (x.op : Int), .string x.name, .slice A3 x.kids.length c3] 24)).heap.size) := Lib.hid (by simp)
              generalize wr.alloc (.cells #[.int .u8 (x.op : Int), .string x.name, .slice A3 x.kids.length c3] 24) = wb at *
              have HQB := Lib.hid (HQ.out.keep HBB.out)
              have HCALL := Lib.hid (IH.out x (List.mem_of_getElem? HX.out) f t A3 _ c3 B wb.drew HXS.out ((HEK.out.keep (fun _ h => h) fun b hb => HBB.out.block b (Nat.lt_of_lt_of_le hb (Nat.le_trans hB HQ.out.below.size))).keep (fun _ h => h) fun _ _ => rfl) (Nat.le_trans hB HQB.out.below.size))
              clear f0 f1 f2 hl3 HEK
              have hob := HQB.out.out
              rw [HN.out] at hob
              obtain ⟨p0, p1, p2⟩ := three_cells hob
              obtain ⟨g0, g1, g2⟩ := three_cells HBX.out
              have m0 := cell_lt g0
              have m1 := cell_lt p0
              clear hob
              go_wp2_with fail
              go_region_law (first
                | ((with_reducible refine step_ren (v := .agg #[.int .u8 (x.op : Int), .string x.name, .slice A3 x.kids.length c3]) (f := f) (t := t) (x := renE f t x) (by kernel_rfl) (.tmp 46) (.tmp 47) (.tmp 48) rfl rfl rfl rfl HCALL.out ?_); intro A4 n4 c4 w2 hk2 hb2; have HB2 : Hid (Below wb.heap.size wb w2) := Lib.hid ((below_drewX wb).trans hb2); have HR2 := Lib.hid (HQB.out.keep HB2.out); have hob2 := HR2.out.out; rw [HN.out] at hob2; obtain ⟨q0, q1, q2⟩ := three_cells hob2; have k1 := cell_lt q0; obtain ⟨cur, hcur, hcsz, _⟩ := id HR2.out.row; rw [HN.out] at hcsz; obtain ⟨⟨yv0, y0⟩, ⟨yv1, y1⟩, yv2, y2⟩ := row_three hcur (i := i) (by omega); have z0 := frozen_of_row _ (w.heap.size + 3) (i * 3) _ _ hcur; have z1 := frozen_of_row _ (w.heap.size + 3) (i * 3 + 1) _ _ hcur; have z2 := frozen_of_row _ (w.heap.size + 3) (i * 3 + 2) _ _ hcur; have k2 := cell_lt y0; have HFIN := Lib.hid (HR2.out.next (by rw [HN.out]; exact hi) HX.out (hk2.keep (fun b hb => ⟨by have h1 : wb.heap.size ≤ b := hb.1; have := HSB.out; omega, hb.2⟩) fun _ _ => rfl)); clear hk2 hb2 hob2 hcur))
              all_goals
                go_wp2
                go_roundg g
                case measure => omega
                case rel => exact ⟨i + 1, by go_num, by omega, HFIN⟩
            · have hob := HQ.out.out
              rw [HN.out] at hob
              obtain ⟨q0, q1, q2⟩ := three_cells hob
              have k1 := cell_lt q0
              obtain ⟨z0, z1, z2⟩ := three_cells HQ.out.res
              have y0 := frozen_of_row _ (w.heap.size + 1) 0 _ _ HQ.out.res
              have y1 := frozen_of_row _ (w.heap.size + 1) 1 _ _ HQ.out.res
              have y2 := frozen_of_row _ (w.heap.size + 1) 2 _ _ HQ.out.res
              clear hob
              go_wp2
              have h9 := HQ.out.all (by rw [HN.out]; omega) (by rw [HN.out]; unfold maxLen; omega)
              rw [HN.out] at h9
              obtain ⟨x0, x1⟩ := ren_fin (e := .mk 110 s (renEs f t l)) HQ.out.below HQ.out.res h9
              have x0' : (((wr.setCell ⟨w.heap.size + 1, 0, none⟩ (.int .u8 110)).setCell ⟨w.heap.size + 1, 1, none⟩ (.string s)).setCell ⟨w.heap.size + 1, 2, none⟩ (.slice (some ⟨w.heap.size + 3, 0, none⟩) n n)).heap[w.heap.size + 1]? = some (.cells #[.int .u8 110, .string s, .slice (some ⟨w.heap.size + 3, 0, none⟩) n n] 24) := x0
              obtain ⟨v0, v1, v2⟩ := three_cells x0'
              refine bodyPost_ret (v := .agg #[.int .u8 110, .string s, .slice (some ⟨w.heap.size + 3, 0, none⟩) n n]) (by simp [results, Tryd.results22, go_sem, v0, v1, v2]) rfl ?_
              rw [HR.out]
              exact x1
    · have HR : Hid (renE f t (.mk o s l) = .mk o s (renEs f t l)) := Lib.hid (by rw [renE, if_neg (fun h => ho h.1)])
      have ho' : ¬ (o : Int) = 110 := by omega
      clear ho
      have H0 := Lib.hid (ren_start w (o : Int) s s (.slice A l.length c))
      have H4 := Lib.hid (ren_start w (o : Int) s s (.slice A l.length c))
      go_enter Tryd.func22, Tryd.ntmps22
      obtain ⟨b0, b1, b2⟩ := three_cells H0.out.2.1
      obtain ⟨r0, r1, r2⟩ := three_cells H0.out.2.2.1
      obtain ⟨o0, o1, o2⟩ := three_cells H0.out.2.2.2.1
      have t1 := frozen_of_row _ (w.heap.size + 2) 1 _ _ H0.out.2.2.2.1
      have hzl := cell_lt o0
      go_upto_region 4 with fail
      generalize ((w.alloc (.cells #[.int .u8 (o : Int), .string s, .slice A l.length c] 24)).alloc (.cells #[.int .u8 0, .string ⟨#[]⟩, .slice none 0 0] 24)).alloc (.cells #[.int .u8 (o : Int), .string s, .slice none 0 0] 24) = W4 at *
      clear b0 b1 b2 r0 r1 r2 o0 o1 o2 t1 hzl H0
      obtain ⟨b0, b1, b2⟩ := three_cells H4.out.2.1
      obtain ⟨o0, o1, o2⟩ := three_cells H4.out.2.2.2.1
      have hzl := cell_lt o0
      by_cases hk0 : l = []
      · subst hk0
        go_wp2
        go_loopg [38] 0 (fun g u wx => u = .int .i64 0 ∧ wx = W4)
        case atStart => exact ⟨rfl, rfl⟩
        case round =>
          obtain ⟨rfl, rfl⟩ := hrel
          obtain ⟨z0, z1, z2⟩ := three_cells H4.out.2.2.1
          have y0 := frozen_of_row _ (w.heap.size + 1) 0 _ _ H4.out.2.2.1
          have y1 := frozen_of_row _ (w.heap.size + 1) 1 _ _ H4.out.2.2.1
          have y2 := frozen_of_row _ (w.heap.size + 1) 2 _ _ H4.out.2.2.1
          go_wp2
          obtain ⟨x0, x1⟩ := ren_fin (e := .mk o s []) H4.out.1 H4.out.2.2.1 (exs_nil _ _)
          have x0' : (((wr.setCell ⟨w.heap.size + 1, 0, none⟩ (.int .u8 (o : Int))).setCell ⟨w.heap.size + 1, 1, none⟩ (.string s)).setCell ⟨w.heap.size + 1, 2, none⟩ (.slice none 0 0)).heap[w.heap.size + 1]? = some (.cells #[.int .u8 (o : Int), .string s, .slice none 0 0] 24) := x0
          obtain ⟨v0, v1, v2⟩ := three_cells x0'
          refine bodyPost_ret (v := .agg #[.int .u8 (o : Int), .string s, .slice none 0 0]) (by simp [results, Tryd.results22, go_sem, v0, v1, v2]) rfl ?_
          rw [HR.out]
          exact x1
      · have hn0 : 0 < l.length := List.length_pos_iff.2 hk0
        generalize hn : l.length = n at *
        have HN := Lib.hid hn
        clear hn hk0
        have HZ4 := Lib.hid H4.out.2.2.2.2
        obtain ⟨i0, hi, hz0, hz1, hz2⟩ := info_parts exprE_info
        go_upto_region 6 with (first
          | (at_make; refine wpList_make_full _ rfl _ _ 22 rfl (w.heap.size + 3) 24 i0 (.agg #[.int .u8 0, .string ⟨#[]⟩, .slice none 0 0]) 3 Tryd.underlying22 hi hz0 hz1 .i64 .i64 _ _ n rfl rfl rfl rfl (by rw [hz2]; omega) (by unfold maxLen; omega) (by rw [HZ4.out]; exact Nat.le_refl _) ?_; intro w1 hown hgrow; rw [HZ4.out] at hown; rw [HZ4.out]; have HGR : Hid (Below W4.heap.size W4 w1) := Lib.hid ((Below.refl W4.heap.size W4).grown hgrow (Nat.le_refl _) (fun j hj => by cases hj)); have HR5 := Lib.hid (RnAt.start (o := o) (s := s) (f := f) (t := t) HN.out H4.out.1 H4.out.2.2.1 H4.out.2.2.2.1 HZ4.out hown hgrow); have hbo : w1.heap[w.heap.size + 2]? = some (.cells #[.int .u8 (o : Int), .string s, .slice none 0 0] 24) := (HGR.out.block _ (by have := HZ4.out; omega)).trans H4.out.2.2.2.1; have HBX : Hid (w1.heap[w.heap.size]? = some (.cells #[.int .u8 (o : Int), .string s, .slice A n c] 24)) := Lib.hid ((HGR.out.block _ (by have := HZ4.out; omega)).trans H4.out.2.1); obtain ⟨u0, u1, u2⟩ := three_cells hbo; have t2 := frozen_of_row _ (w.heap.size + 2) 2 _ _ hbo; have hul := cell_lt u0; clear hown hgrow hbo b0 b1 b2 o0 o1 o2 hzl)
          | fail)
        have HB5 : Hid ((w1.setCell ⟨w.heap.size + 2, 2, none⟩ (.slice (some ⟨w.heap.size + 3, 0, none⟩) n n)).heap[w.heap.size]? = some (.cells #[.int .u8 (o : Int), .string s, .slice A n c] 24)) := Lib.hid ((Below.heap_setCell _ _ _ _ (by dsimp only; omega)).trans HBX.out)
        generalize w1.setCell ⟨w.heap.size + 2, 2, none⟩ (.slice (some ⟨w.heap.size + 3, 0, none⟩) n n) = W5 at *
        clear u0 u1 u2 t2 hul HGR HBX H4 HZ4 hi hz0 hz1 hz2
        obtain ⟨b0, b1, b2⟩ := three_cells HB5.out
        have hzl := cell_lt b0
        go_wp2
        clear b0 b1 b2 hzl HB5
        go_loopg [38] n (fun g u wx => ∃ i : Nat, u = .int .i64 i ∧ i + g = n ∧ Hid (RnAt w wx o s f t l i))
        case atStart => exact ⟨0, rfl, by omega, HR5⟩
        case round =>
          clear HR5
          obtain ⟨i, rfl, hig, HQ⟩ := hrel
          have hlow := HQ.out.low
          by_cases hi : i < n
          · obtain ⟨x, hlx⟩ : ∃ x, l[i]? = some x := ⟨_, List.getElem?_eq_getElem (by rw [HN.out]; exact hi)⟩
            have HAR : Hid (Exs wr (Under B) (.slice A n c) l) := Lib.hid (HA.out.keep (fun _ h => h) fun b hb => HQ.out.below.block b (Nat.lt_of_lt_of_le hb hB))
            obtain ⟨b, off, rfl, hb, hat⟩ := HAR.out.get hlx
            obtain ⟨v3, f0, f1, f2, exk⟩ := (exAt_iff x b _).1 hat
            obtain ⟨A3, c3, rfl, _⟩ := id exk
            have hl3 := cell_lt f0
            have HX := Lib.hid hlx
            have HXS : Hid (sizeE x ≤ 1000) := Lib.hid (by have h1 := size_mem (List.mem_of_getElem? hlx); have h2 := HSZ.out; simp only [sizeE] at h2; omega)
            have HEK := Lib.hid exk
            obtain ⟨g, rfl⟩ : ∃ g, gk = g + 1 := ⟨gk - 1, by omega⟩
            clear exk hlx hat hb
            go_upto_region 9 with fail
            have HBB : Hid (Below wr.heap.size wr (wr.alloc (.cells #[.int .u8 (x.op : Int), .string x.name, .slice A3 x.kids.length c3] 24))) := Lib.hid ((Below.refl _ _).alloc (Nat.le_refl _) _)
            have HBX : Hid ((wr.alloc (.cells #[.int .u8 (x.op : Int), .string x.name, .slice A3 x.kids.length c3] 24)).heap[wr.heap.size]? = some (.cells #[.int .u8 (x.op : Int), .string x.name, .slice A3 x.kids.length c3] 24)) := Lib.hid (heap_new _ _)
            have HSB : Hid (wr.heap.size < (wr.alloc (.cells #[.int .u8 (x.op : Int), .string x.name, .slice A3 x.kids.length c3] 24)).heap.size) := Lib.hid (by simp)
            generalize wr.alloc (.cells #[.int .u8 (x.op : Int), .string x.name, .slice A3 x.kids.length c3] 24) = wb at *
            have HQB := Lib.hid (HQ.out.keep HBB.out)
            have HCALL := Lib.hid (IH.out x (List.mem_of_getElem? HX.out) f t A3 _ c3 B wb.drew HXS.out ((HEK.out.keep (fun _ h => h) fun b hb => HBB.out.block b (Nat.lt_of_lt_of_le hb (Nat.le_trans hB HQ.out.below.size))).keep (fun _ h => h) fun _ _ => rfl) (Nat.le_trans hB HQB.out.below.size))
            clear f0 f1 f2 hl3 HEK
            have hob := HQB.out.out
            rw [HN.out] at hob
            obtain ⟨p0, p1, p2⟩ := three_cells hob
            obtain ⟨g0, g1, g2⟩ := three_cells HBX.out
            have m0 := cell_lt g0
            have m1 := cell_lt p0
            clear hob
            go_wp2_with fail
            go_region_law (first
              | ((with_reducible refine step_ren (v := .agg #[.int .u8 (x.op : Int), .string x.name, .slice A3 x.kids.length c3]) (f := f) (t := t) (x := renE f t x) (by kernel_rfl) (.tmp 46) (.tmp 47) (.tmp 48) rfl rfl rfl rfl HCALL.out ?_); intro A4 n4 c4 w2 hk2 hb2; have HB2 : Hid (Below wb.heap.size wb w2) := Lib.hid ((below_drewX wb).trans hb2); have HR2 := Lib.hid (HQB.out.keep HB2.out); have hob2 := HR2.out.out; rw [HN.out] at hob2; obtain ⟨q0, q1, q2⟩ := three_cells hob2; have k1 := cell_lt q0; obtain ⟨cur, hcur, hcsz, _⟩ := id HR2.out.row; rw [HN.out] at hcsz; obtain ⟨⟨yv0, y0⟩, ⟨yv1, y1⟩, yv2, y2⟩ := row_three hcur (i := i) (by omega); have z0 := frozen_of_row _ (w.heap.size + 3) (i * 3) _ _ hcur; have z1 := frozen_of_row _ (w.heap.size + 3) (i * 3 + 1) _ _ hcur; have z2 := frozen_of_row _ (w.heap.size + 3) (i * 3 + 2) _ _ hcur; have k2 := cell_lt y0; have HFIN := Lib.hid (HR2.out.next (by rw [HN.out]; exact hi) HX.out (hk2.keep (fun b hb => ⟨by have h1 : wb.heap.size ≤ b := hb.1; have := HSB.out; omega, hb.2⟩) fun _ _ => rfl)); clear hk2 hb2 hob2 hcur))
            all_goals
              go_wp2
              go_roundg g
              case measure => omega
              case rel => exact ⟨i + 1, by go_num, by omega, HFIN⟩
          · have hob := HQ.out.out
            rw [HN.out] at hob
            obtain ⟨q0, q1, q2⟩ := three_cells hob
            have k1 := cell_lt q0
            obtain ⟨z0, z1, z2⟩ := three_cells HQ.out.res
            have y0 := frozen_of_row _ (w.heap.size + 1) 0 _ _ HQ.out.res
            have y1 := frozen_of_row _ (w.heap.size + 1) 1 _ _ HQ.out.res
            have y2 := frozen_of_row _ (w.heap.size + 1) 2 _ _ HQ.out.res
            clear hob
            go_wp2
            have h9 := HQ.out.all (by rw [HN.out]; omega) (by rw [HN.out]; unfold maxLen; omega)
            rw [HN.out] at h9
            obtain ⟨x0, x1⟩ := ren_fin (e := .mk o s (renEs f t l)) HQ.out.below HQ.out.res h9
            have x0' : (((wr.setCell ⟨w.heap.size + 1, 0, none⟩ (.int .u8 (o : Int))).setCell ⟨w.heap.size + 1, 1, none⟩ (.string s)).setCell ⟨w.heap.size + 1, 2, none⟩ (.slice (some ⟨w.heap.size + 3, 0, none⟩) n n)).heap[w.heap.size + 1]? = some (.cells #[.int .u8 (o : Int), .string s, .slice (some ⟨w.heap.size + 3, 0, none⟩) n n] 24) := x0
            obtain ⟨v0, v1, v2⟩ := three_cells x0'
            refine bodyPost_ret (v := .agg #[.int .u8 (o : Int), .string s, .slice (some ⟨w.heap.size + 3, 0, none⟩) n n]) (by simp [results, Tryd.results22, go_sem, v0, v1, v2]) rfl ?_
            rw [HR.out]
            exact x1
end Go.Proofs.YtldmimekmjmkgaaDoor
