/-
  The law's as: an expression as the reference has it. Rows of the reference's expressions; the walk.
  The law's sameExpr: of one and the same expression it answers true.
  The document's Name, after, many, formed and Right: what they answer.
  The document's formed and Right: what they answer.
-/
import Derived.Test.YtldmimekmjmkgaaDoorGh
import Derived.Deep.DrawnRows
namespace Go.Proofs.YtldmimekmjmkgaaDoor
open Go.RowKit Go.Sort Go.Maps Go.WideMaps

/-- A row of kids of the call's own: what lies in the kids lies elsewhere. -/
def KRowR (w : World) (lo : Nat) (v : Value) (ks : List Ex) : Prop :=
  ∃ xs, w.ownsRow lo 30 3 v ks.length xs ∧ KC w (fun b => lo ≤ b ∧ b < w.heap.size ∧ v.ownBlock ≠ some b) ks xs
theorem KRowR.keep {w w' : World} {lo : Nat} {v : Value} {ks : List Ex} (h : KRowR w lo v ks) (hz : w.heap.size ≤ w'.heap.size) (hk : ∀ b, lo ≤ b → b < w.heap.size → w'.heap[b]? = w.heap[b]?) : KRowR w' lo v ks := by
  obtain ⟨xs, h1, h2⟩ := h
  exact ⟨xs, ownsRow_keep h1 fun b hb => hk b (h1.lt b hb).1 (h1.lt b hb).2, h2.keep (fun b hb => ⟨hb.1, Nat.lt_of_lt_of_le hb.2.1 hz, hb.2.2⟩) fun b hb => hk b hb.1 hb.2.1⟩
theorem KRowR.exs {w : World} {lo : Nat} {v : Value} {ks : List Ex} (h : KRowR w lo v ks) : Exs w (From lo w.heap.size) v ks := by
  obtain ⟨xs, h1, h2⟩ := h
  have hc := fun g hg => h1.cells (g := g) hg
  have hlt := h1.lt
  obtain ⟨hl, ⟨hv, h0⟩ | ⟨g, cap, cur, hv, _, _, hn, hcap, _⟩⟩ := h1
  · subst hv
    have : ks = [] := List.eq_nil_of_length_eq_zero h0
    subst this
    exact exs_nil w _
  · subst hv
    refine ⟨_, cap, rfl, hn, hcap, .inr ⟨g, 0, rfl, hlt g rfl, ?_⟩⟩
    refine (h2.keep (S' := From lo w.heap.size) (fun b hb => ⟨hb.1, hb.2.1⟩) fun _ _ => rfl).at fun j u hj => ?_
    have := hc g rfl j u hj
    rwa [add_cell] at this
/-- One kid more. -/
theorem KRowR.more {w w1 : World} {lo : Nat} {v v1 vk : Value} {ks : List Ex} {xs : List Value} {e : Ex} (hc : KC w (fun b => lo ≤ b ∧ b < w.heap.size ∧ v.ownBlock ≠ some b) ks xs)
    (ho : w1.ownsRow lo 30 3 v1 (ks.length + 1) (xs ++ [.int .u8 (e.op : Int), .string e.name, vk])) (hg : w.grownBy w1 v.ownBlock) (hb : v1.ownBlock = v.ownBlock ∨ v1.ownBlock = some w.heap.size)
    (hk : Exs w (fun b => lo ≤ b ∧ b < w.heap.size ∧ v.ownBlock ≠ some b) vk e.kids) : KRowR w1 lo v1 (ks ++ [e]) := by
  have hS : ∀ b, (lo ≤ b ∧ b < w.heap.size ∧ v.ownBlock ≠ some b) → lo ≤ b ∧ b < w1.heap.size ∧ v1.ownBlock ≠ some b := fun b h => ⟨h.1, Nat.lt_of_lt_of_le h.2.1 hg.size, by
    rcases hb with h1 | h1
    · rw [h1]; exact h.2.2
    · rw [h1]; intro h2; have := Option.some.inj h2; omega⟩
  have hK : ∀ b, (lo ≤ b ∧ b < w.heap.size ∧ v.ownBlock ≠ some b) → w1.heap[b]? = w.heap[b]? := fun b h => hg.block b h.2.1 fun h1 => h.2.2 h1.symm
  refine ⟨_, by rw [List.length_append]; exact ho, (hc.keep hS hK).append ⟨vk, [], rfl, hk.keep hS hK, rfl⟩⟩

section
variable {w : World} {ops : Array Oper} {rest : List Oper} {o : Oper} {a : Act} {Q : Exit → Act → World → Prop} {K : Act → World → Prop} {E : Prop}
theorem exprR_info : (Tryd.prog.info? 30).map (fun i => (i.zero, i.size, i.bytes)) = some (some (.agg #[.int .u8 0, .string ⟨#[]⟩, .slice none 0 0]), 3, 48) := by kernel_rfl
theorem wp_append_exR (s x : Operand) (ho : o.op = .call { callee := .builtin .append, args := #[s, x], argTypes := #[28, 28] })
    (base : Nat) (v : Value) (n : Nat) (xs : List Value) (g c : Nat) (u0 u1 u2 : Value) (hs : a.eval s = v) (hx : a.eval x = .slice (some ⟨g, 0, none⟩) 1 c) (hown : w.ownsRow base 30 3 v n xs)
    (hg : w.heap[g]? = some (.cells #[u0, u1, u2] 30)) (h1 : ∀ u ∈ [u0, u1, u2], u.oneCell' = true) (hn : n + 1 ≤ 100000000) (hbase : base ≤ w.heap.size)
    (h : ∀ v' w', w'.ownsRow base 30 3 v' (n + 1) (xs ++ [u0, u1, u2]) → w.grownBy w' v.ownBlock → (v'.ownBlock = v.ownBlock ∨ v'.ownBlock = some w.heap.size) → K (a.put o.dst v') w') : o.wp Tryd.prog a w K Q := by
  obtain ⟨i, hi, hz0, hz1, hz2⟩ := info_parts exprR_info
  obtain ⟨y0, y1, y2⟩ := three_cells hg
  have hnews : ∀ j u, [u0, u1, u2][j]? = some u → w.cell? (Addr.add ⟨g, 0, none⟩ j) = some u := fun j u hj => by
    rw [add_cell, Nat.zero_add]
    match j, hj with
    | 0, hj => rw [y0]; simpa using hj
    | 1, hj => rw [y1]; simpa using hj
    | 2, hj => rw [y2]; simpa using hj
    | j + 3, hj => simp at hj
  obtain ⟨v', w', hr, h2, h3, _, h4⟩ := run_append_own_at (P := Tryd.prog) w base 28 o.type 30 i _ 3 48 Tryd.underlying28 hi hz0 hz1 hz2 rfl (by omega) v n xs hown ⟨g, 0, none⟩ 1 c [u0, u1, u2] rfl hnews h1 (by unfold maxLen; omega) (Nat.le_trans (Nat.mul_le_mul_right _ hn) (by decide)) hbase
  unfold Oper.wp execOp
  simp only [ho, resolve, invoke, builtin, Sem.run_bind, Sem.run_pure, Result.andThen_ok, List.map_toArray, List.map_cons, List.map_nil, hs, hx, hr]
  exact h v' w' h2 h3 h4
theorem step_append_exR (hw : Region.wanted o (yielded ops a.tmps) = true) (s x : Operand) (ho : o.op = .call { callee := .builtin .append, args := #[s, x], argTypes := #[28, 28] })
    (base : Nat) (v : Value) (n : Nat) (xs : List Value) (g c : Nat) (u0 u1 u2 : Value) (hs : a.eval s = v) (hx : a.eval x = .slice (some ⟨g, 0, none⟩) 1 c) (hown : w.ownsRow base 30 3 v n xs)
    (hg : w.heap[g]? = some (.cells #[u0, u1, u2] 30)) (h1 : ∀ u ∈ [u0, u1, u2], u.oneCell' = true) (hn : n + 1 ≤ 100000000) (hbase : base ≤ w.heap.size)
    (h : ∀ v' w', w'.ownsRow base 30 3 v' (n + 1) (xs ++ [u0, u1, u2]) → w.grownBy w' v.ownBlock → (v'.ownBlock = v.ownBlock ∨ v'.ownBlock = some w.heap.size) → K (a.put o.dst v') w') : if Region.wanted o (yielded ops a.tmps) = true then Oper.wp Tryd.prog o a w K Q else E := by
  rw [if_pos hw]
  exact wp_append_exR s x ho base v n xs g c u0 u1 u2 hs hx hown hg h1 hn hbase h
theorem step_as {v : Value} {x : Ex} (hw : Region.wanted o (yielded ops a.tmps) = true) (p : Operand) (ho : o.op = .call { callee := .value (.func 13), args := #[p], argTypes := #[24] })
    (hp : a.eval p = v) (hC : Calls Tryd.prog 13 #[v] w (EPost w x))
    (h : ∀ (A : Option Addr) (n c : Nat) (w' : World), Exs w' (From w.heap.size w'.heap.size) (.slice A n c) x.kids → Below w.heap.size w w' → K (a.put o.dst (.agg #[.int .u8 (x.op : Int), .string x.name, .slice A n c])) w') : if Region.wanted o (yielded ops a.tmps) = true then Oper.wp Tryd.prog o a w K Q else E := by
  rw [if_pos hw]
  have hrun : (execOp a.eval o).run Tryd.prog w = .ok (.enter 13 #[v]) w := by
    have hf : a.eval (.func 13) = .func (.func 13) #[] #[] := rfl
    obtain ⟨c, hc⟩ : ∃ c, Tryd.f13.body = some c := Option.isSome_iff_exists.1 (by kernel_rfl)
    have hne : ¬ Tryd.f13.name = "runtime.NumGoroutine" := of_decide_eq_false (by kernel_rfl)
    simp [execOp, ho, resolve, invoke, hp, hf, Deferred.ofValue, callFunc, hne, hc]
  unfold Oper.wp
  rw [hrun, Oper.upon_enter]
  refine hC.mono fun e w'' hh => ?_
  obtain ⟨A, n, c, rfl, h1, h2⟩ := hh
  exact h A n c w'' h1 h2
end
theorem below_drewX (w : World) : Below w.heap.size w w.drew := ⟨rfl, rfl, rfl, Nat.le_refl _, fun _ _ => rfl⟩

def ASaid (e : Ex) : Prop := ∀ (A : Option Addr) (n c B : Nat) (w : World), sizeE e ≤ 1000 → Exs w (Under B) (.slice A n c) e.kids → B ≤ w.heap.size →
  Calls Tryd.prog 13 #[.agg #[.int .u8 (e.op : Int), .string e.name, .slice A n c]] w (EPost w e)
/-- Where as's loop stands. -/
structure AsAt (w wx : World) (o : Nat) (s : ByteArray) (l : List Ex) (A : Option Addr) (c : Nat) (i : Nat) (vk : Value) : Prop where
  below : Below w.heap.size w wx
  box : wx.heap[w.heap.size]? = some (.cells #[.int .u8 (o : Int), .string s, .slice A l.length c] 24)
  res : wx.heap[w.heap.size + 1]? = some (.cells #[.int .u8 0, .string ⟨#[]⟩, .slice none 0 0] 30)
  out : wx.heap[w.heap.size + 2]? = some (.cells #[.int .u8 (o : Int), .string s, vk] 30)
  row : KRowR wx (w.heap.size + 3) vk (l.take i)
theorem AsAt.low {w wx : World} {o : Nat} {s : ByteArray} {l : List Ex} {A : Option Addr} {c i : Nat} {vk : Value} (h : AsAt w wx o s l A c i vk) : w.heap.size + 2 < wx.heap.size := (Array.getElem?_eq_some_iff.1 h.out).1
theorem AsAt.keep {w wx wy : World} {o : Nat} {s : ByteArray} {l : List Ex} {A : Option Addr} {c i : Nat} {vk : Value} (h : AsAt w wx o s l A c i vk) (hb : Below wx.heap.size wx wy) : AsAt w wy o s l A c i vk := by
  have hl := h.low
  exact ⟨belowNext h.below hb, (hb.block _ (by omega)).trans h.box, (hb.block _ (by omega)).trans h.res, (hb.block _ (by omega)).trans h.out, h.row.keep hb.size fun b _ hb2 => hb.block b hb2⟩
theorem AsAt.next {w W w5 : World} {o : Nat} {s : ByteArray} {l : List Ex} {A : Option Addr} {c i : Nat} {vk v5 vx : Value} {x : Ex} {xs : List Value} (h : AsAt w W o s l A c i vk) (hx : l.take (i + 1) = l.take i ++ [x])
    (hvk : ∀ b, vk.ownBlock = some b → w.heap.size + 3 ≤ b) (hkc : KC W (fun b => w.heap.size + 3 ≤ b ∧ b < W.heap.size ∧ vk.ownBlock ≠ some b) (l.take i) xs)
    (ho : w5.ownsRow (w.heap.size + 3) 30 3 v5 ((l.take i).length + 1) (xs ++ [.int .u8 (x.op : Int), .string x.name, vx])) (hg : W.grownBy w5 vk.ownBlock) (hb : v5.ownBlock = vk.ownBlock ∨ v5.ownBlock = some W.heap.size)
    (hk : Exs W (fun b => w.heap.size + 3 ≤ b ∧ b < W.heap.size ∧ vk.ownBlock ≠ some b) vx x.kids) : AsAt w (w5.setCell ⟨w.heap.size + 2, 2, none⟩ v5) o s l A c (i + 1) v5 := by
  have hl := h.low
  have hblk : ∀ b, b < w.heap.size + 3 → w5.heap[b]? = W.heap[b]? := fun b hb' => hg.block b (by omega) fun e => by have := hvk b e.symm; omega
  have hrow := KRowR.more hkc ho hg hb hk
  refine ⟨⟨hg.os.trans h.below.os, hg.tape.trans h.below.tape, hg.output.trans h.below.output, by have h1 := h.below.size; have h2 := hg.size; simp [World.setCell]; omega, fun b hb' => (Below.heap_setCell _ _ _ _ (by dsimp only; omega)).trans ((hblk b (by omega)).trans (h.below.block b hb'))⟩, ?_, ?_, ?_, ?_⟩
  · exact (Below.heap_setCell _ _ _ _ (by dsimp only; omega)).trans ((hblk _ (by omega)).trans h.box)
  · exact (Below.heap_setCell _ _ _ _ (by dsimp only; omega)).trans ((hblk _ (by omega)).trans h.res)
  · exact heap_setCell_same w5 _ 2 _ _ _ ((hblk _ (by omega)).trans h.out)
  · rw [hx]
    exact hrow.keep (by simp [World.setCell]) fun b hb1 _ => Below.heap_setCell _ _ _ _ (by dsimp only; omega)
theorem AsAt.fin {w W : World} {o : Nat} {s : ByteArray} {l : List Ex} {A : Option Addr} {c i : Nat} {A' : Option Addr} {n' c' : Nat} (h : AsAt w W o s l A c i (.slice A' n' c')) (hi : l.take i = l) :
    (((W.setCell ⟨w.heap.size + 1, 0, none⟩ (.int .u8 (o : Int))).setCell ⟨w.heap.size + 1, 1, none⟩ (.string s)).setCell ⟨w.heap.size + 1, 2, none⟩ (.slice A' n' c')).heap[w.heap.size + 1]? = some (.cells #[.int .u8 (o : Int), .string s, .slice A' n' c'] 30) ∧
    EPost w (.mk o s l) (.returned (.agg #[.int .u8 (o : Int), .string s, .slice A' n' c'])) (((W.setCell ⟨w.heap.size + 1, 0, none⟩ (.int .u8 (o : Int))).setCell ⟨w.heap.size + 1, 1, none⟩ (.string s)).setCell ⟨w.heap.size + 1, 2, none⟩ (.slice A' n' c')) := by
  obtain ⟨x0, hx, hzz⟩ := put3x (v0 := .int .u8 (o : Int)) (v1 := .string s) (v2 := .slice A' n' c') h.res
  have he := h.row.exs
  rw [hi] at he
  refine ⟨x0, A', n', c', rfl, he.keep (fun b hb => ⟨by have := hb.1; omega, by rw [hzz]; exact hb.2⟩) fun b hb => hx b (by have := hb.1; omega), h.below.os, h.below.tape, h.below.output, by rw [hzz]; exact h.below.size, fun b hb => (hx b (by omega)).trans (h.below.block b hb)⟩
attribute [local go_sem ↓] Go.wp_at_zero Go.wp_at_succ
set_option maxRecDepth 100000 in
set_option maxHeartbeats 4000000 in
theorem as_walk : ∀ e, ASaid e := by
  intro e
  induction e using Ex.induct_one with
  | h o s l ih =>
    intro A n c B w hsz hl hB
    have IH := Lib.hid ih
    clear ih
    simp only [Ex.op, Ex.name, Ex.kids] at *
    have hlen := hl.len
    obtain ⟨A', c', hv, hc, hm, _⟩ := id hl
    injection hv with hA hn hc'
    subst hA hn hc'
    unfold maxLen at hm
    have HSZ := Lib.hid hsz
    have hll : l.length ≤ 1000 := by
      have h1 : ∀ l : List Ex, l.length ≤ sizeEs l := fun l => by
        induction l with
        | nil => exact Nat.le_refl _
        | cons x l ih => obtain ⟨_, _, _⟩ := x; simp only [sizeEs, sizeE, List.length_cons]; omega
      have := h1 l
      simp only [sizeE] at hsz
      omega
    have HA := Lib.hid hl
    have hz1 : (w.alloc (.cells #[.int .u8 (o : Int), .string s, .slice A l.length c] 24)).heap.size = w.heap.size + 1 := by simp
    have hz2 : ((w.alloc (.cells #[.int .u8 (o : Int), .string s, .slice A l.length c] 24)).alloc (.cells #[.int .u8 0, .string ⟨#[]⟩, .slice none 0 0] 30)).heap.size = w.heap.size + 2 := by simp
    have HAT : Hid (AsAt w (((w.alloc (.cells #[.int .u8 (o : Int), .string s, .slice A l.length c] 24)).alloc (.cells #[.int .u8 0, .string ⟨#[]⟩, .slice none 0 0] 30)).alloc (.cells #[.int .u8 (o : Int), .string s, .slice none 0 0] 30)) o s l A c 0 (.slice none 0 0)) := Lib.hid
      ⟨(((Below.refl _ _).alloc (Nat.le_refl _) _).alloc (by omega) _).alloc (by omega) _,
       (Below.heap_alloc _ _ _ (by omega)).trans ((Below.heap_alloc _ _ _ (by omega)).trans (heap_new _ _)),
       (Below.heap_alloc _ _ _ (by omega)).trans (heap_new' _ _ hz1), heap_new' _ _ hz2, ⟨[], World.ownsRow_nil _ _ _ _, rfl⟩⟩
    clear hl hsz hz1 hz2
    go_enter Tryd.func13, Tryd.ntmps13
    go_wp2
    generalize ((w.alloc (.cells #[.int .u8 (o : Int), .string s, .slice A l.length c] 24)).alloc (.cells #[.int .u8 0, .string ⟨#[]⟩, .slice none 0 0] 30)).alloc (.cells #[.int .u8 (o : Int), .string s, .slice none 0 0] 30) = w1 at *
    go_loopg [4] l.length (fun g u wx => ∃ (i : Nat) (vk : Value), u = .int .i64 i ∧ i + g = l.length ∧ Hid (AsAt w wx o s l A c i vk))
    case atStart => exact ⟨0, _, rfl, by omega, HAT⟩
    case round =>
      clear HAT
      obtain ⟨i, vk, rfl, hig, HR⟩ := hrel
      obtain ⟨Ak, ck, rfl, hck, hckm, _⟩ := id HR.out.row.exs
      generalize hnk : (l.take i).length = nk at *
      have HNK := Lib.hid hnk
      have hnk2 : nk ≤ 1000 := by rw [← hnk, List.length_take]; omega
      clear hnk
      obtain ⟨b0, b1, b2⟩ := three_cells HR.out.box
      obtain ⟨r0, r1, r2⟩ := three_cells HR.out.res
      obtain ⟨q0, q1, q2⟩ := three_cells HR.out.out
      have fb := fun j => frozen_of_row _ (w.heap.size + 2) j _ _ HR.out.out
      have t2 := fb 2
      have z0 := frozen_of_row _ (w.heap.size + 1) 0 _ _ HR.out.res
      have z1 := frozen_of_row _ (w.heap.size + 1) 1 _ _ HR.out.res
      have z2 := frozen_of_row _ (w.heap.size + 1) 2 _ _ HR.out.res
      have hlow := HR.out.low
      clear fb
      by_cases hi : i < l.length
      · have hlx : l[i]? = some l[i] := List.getElem?_eq_getElem hi
        generalize hx : l[i] = x at *
        have hlxx : l.take (i + 1) = l.take i ++ [x] := by rw [List.take_add_one, hlx]; rfl
        have HLX := Lib.hid hlxx
        have HAR : Hid (Exs wr (Under B) (.slice A l.length c) l) := Lib.hid (HA.out.keep (fun _ h => h) fun b hb => HR.out.below.block b (Nat.lt_of_lt_of_le hb hB))
        obtain ⟨b, off, rfl, hb, hat⟩ := HAR.out.get hlx
        obtain ⟨v3, f0, f1, f2, exk⟩ := (exAt_iff x b _).1 hat
        obtain ⟨A3, c3, rfl, _⟩ := id exk
        have hl3 := cell_lt f0
        have HX := Lib.hid hlx
        have hbw : b < w.heap.size := Nat.lt_of_lt_of_le hb hB
        have HXS : Hid (sizeE x ≤ 1000) := Lib.hid (by have h1 := size_mem (List.mem_of_getElem? hlx); have h2 := HSZ.out; simp only [sizeE] at h2; omega)
        have HCALL := Lib.hid (IH.out x (List.mem_of_getElem? hlx) A3 _ c3 B wr.drew HXS.out (exk.keep (fun _ h => h) fun _ _ => rfl) (Nat.le_trans hB HR.out.below.size))
        obtain ⟨g, rfl⟩ : ∃ g, gk = g + 1 := ⟨gk - 1, by omega⟩
        clear exk hx hlx hat hb hlxx r0 r1 r2 z0 z1 z2
        have HONE : Hid (∀ u ∈ [Value.int .u8 (x.op : Int), .string x.name, .slice none 0 0], u.oneCell' = true) := Lib.hid (by simp [Value.oneCell'])
        have HVK : Hid (∀ b, (Value.slice Ak nk ck).ownBlock = some b → w.heap.size + 3 ≤ b) := Lib.hid (by obtain ⟨xs, h, _⟩ := HR.out.row; exact fun b hb => (h.lt b hb).1)
        go_wp2_with fail
        go_region_law (first
          | ((with_reducible refine step_as (v := .agg #[.int .u8 (x.op : Int), .string x.name, .slice A3 x.kids.length c3]) (x := x) (by kernel_rfl) (.tmp 23) rfl rfl HCALL.out ?_); intro A4 n4 c4 w2 hk2 hb2; have HB2 : Hid (Below wr.heap.size wr w2) := Lib.hid ((below_drewX wr).trans hb2); have HR2 := Lib.hid (HR.out.keep HB2.out); obtain ⟨p0, p1, p2⟩ := three_cells HR2.out.out; have s2 := frozen_of_row _ (w.heap.size + 2) 2 _ _ HR2.out.out; have hlow2 := HR2.out.low; have HR3 := Lib.hid (HR2.out.keep (wy := w2.alloc (.cells #[.int .u8 (x.op : Int), .string x.name, .slice A4 n4 c4] 30)) ((Below.refl _ _).alloc (Nat.le_refl _) _)); obtain ⟨xs, hxs, hkc⟩ := HR3.out.row; rw [HNK.out] at hxs; have HXS4 := Lib.hid hxs; have HKC := Lib.hid hkc; have HNEW : Hid ((w2.alloc (.cells #[.int .u8 (x.op : Int), .string x.name, .slice A4 n4 c4] 30)).heap[w2.heap.size]? = some (.cells #[.int .u8 (x.op : Int), .string x.name, .slice A4 n4 c4] 30)) := Lib.hid (heap_new _ _); have HON4 : Hid (∀ u ∈ [Value.int .u8 (x.op : Int), .string x.name, .slice A4 n4 c4], u.oneCell' = true) := Lib.hid (by simp [Value.oneCell']); have HN1 : Hid (nk + 1 ≤ 100000000) := Lib.hid (by omega); have HBS : Hid (w.heap.size + 3 ≤ (w2.alloc (.cells #[.int .u8 (x.op : Int), .string x.name, .slice A4 n4 c4] 30)).heap.size) := Lib.hid (by simp; omega); have HKX : Hid (Exs (w2.alloc (.cells #[.int .u8 (x.op : Int), .string x.name, .slice A4 n4 c4] 30)) (fun b => w.heap.size + 3 ≤ b ∧ b < (w2.alloc (.cells #[.int .u8 (x.op : Int), .string x.name, .slice A4 n4 c4] 30)).heap.size ∧ (Value.slice Ak nk ck).ownBlock ≠ some b) (.slice A4 n4 c4) x.kids) := Lib.hid (hk2.keep (fun b hb => ⟨by have h1 : wr.heap.size ≤ b := hb.1; omega, by have := hb.2; simp; omega, by intro h5; obtain ⟨ys, h6, _⟩ := HR.out.row; have h7 := (h6.lt b h5).2; have h8 : wr.heap.size ≤ b := hb.1; omega⟩) fun b hb => Below.heap_alloc _ _ _ hb.2); clear hk2 hb2 hxs hkc)
          | ((with_reducible refine step_append_exR (by kernel_rfl) (.tmp 18) (.tmp 25) rfl (w.heap.size + 3) (.slice Ak nk ck) nk xs w2.heap.size 1 (.int .u8 (x.op : Int)) (.string x.name) (.slice A4 n4 c4) rfl rfl HXS4.out HNEW.out HON4.out HN1.out HBS.out ?_); intro v5 w5 ho5 hg5 hb5; obtain ⟨G5, d5, rfl⟩ := own_slice ho5; have HFIN := Lib.hid (HR3.out.next HLX.out HVK.out HKC.out (by rw [HNK.out]; exact ho5) hg5 hb5 HKX.out); have hw5 : w5.heap[w.heap.size + 2]? = some (.cells #[.int .u8 (o : Int), .string s, .slice Ak nk ck] 30) := (hg5.block _ (by simp; omega) (fun e5 => by have := HVK.out _ e5.symm; omega)).trans HR3.out.out; obtain ⟨y0, y1, y2⟩ := three_cells hw5; have u2 := frozen_of_row _ (w.heap.size + 2) 2 _ _ hw5; have hlow5 := cell_lt y0; clear ho5 hg5 hb5 hw5))
        all_goals
          go_wp2
          go_roundg g
          case measure => omega
          case rel => exact ⟨i + 1, _, by go_num, by omega, HFIN⟩
      · have HE : Hid (l.take i = l) := Lib.hid (List.take_of_length_le (by omega))
        go_wp2
        obtain ⟨x0, x1⟩ := HR.out.fin HE.out
        obtain ⟨y0, y1, y2⟩ := three_cells x0
        refine bodyPost_ret (v := .agg #[.int .u8 (o : Int), .string s, .slice Ak nk ck]) (by simp [results, Tryd.results13, go_sem, y0, y1, y2]) rfl x1
end Go.Proofs.YtldmimekmjmkgaaDoor

namespace Go.Proofs.YtldmimekmjmkgaaDoor
open Go.RowKit Go.Sort Go.Maps Go.WideMaps

def SSaid (e : Ex) : Prop := ∀ (A A' : Option Addr) (n c n' c' B : Nat) (w : World), Exs w (Under B) (.slice A n c) e.kids → Exs w (Under B) (.slice A' n' c') e.kids → B ≤ w.heap.size →
  Calls Tryd.prog 21 #[.agg #[.int .u8 (e.op : Int), .string e.name, .slice A n c], .agg #[.int .u8 (e.op : Int), .string e.name, .slice A' n' c']] w fun x w' => x = .returned (.bool true) ∧ Below w.heap.size w w'
set_option maxRecDepth 100000 in
set_option maxHeartbeats 4000000 in
theorem same_walk : ∀ e, SSaid e := by
  intro e
  induction e using Ex.induct_one with
  | h o s l ih =>
    intro A1 A2 n1 c1 n2 c2 B w hl hl' hB
    have IH := Lib.hid ih
    clear ih
    simp only [Ex.op, Ex.name, Ex.kids] at *
    obtain ⟨Aa, ca, hv, hca, hma, _⟩ := id hl
    injection hv with hA hn hc'
    subst hA hn hc'
    obtain ⟨Ab, cb, hv, hcb, hmb, _⟩ := id hl'
    injection hv with hA hn hc'
    subst hA hn hc'
    unfold maxLen at hma hmb
    have HA := Lib.hid hl
    have HA2 := Lib.hid hl'
    have hz1 : (w.alloc (.cells #[.int .u8 (o : Int), .string s, .slice A1 l.length c1] 24)).heap.size = w.heap.size + 1 := by simp
    have HB0 : Hid (Below w.heap.size w ((w.alloc (.cells #[.int .u8 (o : Int), .string s, .slice A1 l.length c1] 24)).alloc (.cells #[.int .u8 (o : Int), .string s, .slice A2 l.length c2] 30))) := Lib.hid (((Below.refl _ _).alloc (Nat.le_refl _) _).alloc (by omega) _)
    have HN1 : Hid (((w.alloc (.cells #[.int .u8 (o : Int), .string s, .slice A1 l.length c1] 24)).alloc (.cells #[.int .u8 (o : Int), .string s, .slice A2 l.length c2] 30)).heap[w.heap.size]? = some (.cells #[.int .u8 (o : Int), .string s, .slice A1 l.length c1] 24)) := Lib.hid ((Below.heap_alloc _ _ _ (by omega)).trans (heap_new _ _))
    have HN2 : Hid (((w.alloc (.cells #[.int .u8 (o : Int), .string s, .slice A1 l.length c1] 24)).alloc (.cells #[.int .u8 (o : Int), .string s, .slice A2 l.length c2] 30)).heap[w.heap.size + 1]? = some (.cells #[.int .u8 (o : Int), .string s, .slice A2 l.length c2] 30)) := Lib.hid (heap_new' _ _ hz1)
    clear hl hl' hz1
    have hss : (s.toList == s.toList) = true := by simp
    go_enter Tryd.func21, Tryd.ntmps21
    go_wp2
    generalize (w.alloc (.cells #[.int .u8 (o : Int), .string s, .slice A1 l.length c1] 24)).alloc (.cells #[.int .u8 (o : Int), .string s, .slice A2 l.length c2] 30) = w1 at *
    go_loopg [5] l.length (fun g u wx => ∃ i : Nat, u = .int .i64 i ∧ i + g = l.length ∧ Hid (Below w1.heap.size w1 wx))
    case atStart => exact ⟨0, rfl, by omega, Lib.hid (Below.refl _ _)⟩
    case round =>
      obtain ⟨i, rfl, hig, HR⟩ := hrel
      have HR1 := Lib.hid ((HR.out.block _ (Array.getElem?_eq_some_iff.1 HN1.out).1).trans HN1.out)
      have HR2 := Lib.hid ((HR.out.block _ (Array.getElem?_eq_some_iff.1 HN2.out).1).trans HN2.out)
      have HBR : Hid (Below w.heap.size w wr) := Lib.hid (belowNext HB0.out HR.out)
      obtain ⟨d0, d1, d2⟩ := three_cells HR1.out
      obtain ⟨e0, e1, e2⟩ := three_cells HR2.out
      have hz1 := cell_lt d0
      have hz2 := cell_lt e0
      by_cases hi : i < l.length
      · have hlx : l[i]? = some l[i] := List.getElem?_eq_getElem hi
        generalize hx : l[i] = x at *
        have HAR : Hid (Exs wr (Under B) (.slice A1 l.length c1) l) := Lib.hid (HA.out.keep (fun _ h => h) fun b hb => HBR.out.block b (Nat.lt_of_lt_of_le hb hB))
        have HAR2 : Hid (Exs wr (Under B) (.slice A2 l.length c2) l) := Lib.hid (HA2.out.keep (fun _ h => h) fun b hb => HBR.out.block b (Nat.lt_of_lt_of_le hb hB))
        obtain ⟨b, off, rfl, hb, hat⟩ := HAR.out.get hlx
        obtain ⟨v3, f0, f1, f2, exk⟩ := (exAt_iff x b _).1 hat
        obtain ⟨A3, c3, rfl, _⟩ := id exk
        obtain ⟨b', off', rfl, hb', hat'⟩ := HAR2.out.get hlx
        obtain ⟨v4, g0, g1, g2, exk'⟩ := (exAt_iff x b' _).1 hat'
        obtain ⟨A4, c4, rfl, _⟩ := id exk'
        have hl3 := cell_lt f0
        have hl4 := cell_lt g0
        have HEK := Lib.hid exk
        have HEK2 := Lib.hid exk'
        have HMEM := Lib.hid (List.mem_of_getElem? hlx)
        have HC := Lib.hid (regrown_any (w := wr) fun W hW => IH.out x HMEM.out A3 A4 _ c3 _ c4 B W (HEK.out.keep (fun _ h => h) fun k hk => hW.block k (Nat.lt_of_lt_of_le hk (Nat.le_trans hB HBR.out.size))) (HEK2.out.keep (fun _ h => h) fun k hk => hW.block k (Nat.lt_of_lt_of_le hk (Nat.le_trans hB HBR.out.size))) (Nat.le_trans hB (Nat.le_trans HBR.out.size hW.size)))
        obtain ⟨g, rfl⟩ : ∃ g, gk = g + 1 := ⟨gk - 1, by omega⟩
        clear exk exk' hx hlx hat hat' hb hb'
        go_wp2
        have k0 := cell_regrown d0
        have k1 := cell_regrown d1
        have k2 := cell_regrown d2
        have j0 := cell_regrown e0
        have j1 := cell_regrown e1
        have j2 := cell_regrown e2
        have m0 := cell_regrown f0
        have m1 := cell_regrown f1
        have m2 := cell_regrown f2
        have n0 := cell_regrown g0
        have n1 := cell_regrown g1
        have n2 := cell_regrown g2
        refine wp_region_quiet_below (by kernel_rfl) (by kernel_rfl) ?_
        repeat (first | go_big_quiet_step (with_reducible exact HC.out _ _) | quiet_step (with_reducible exact HC.out _ _))
        refine wpQuiet_nil ?_
        intro _ hw'
        obtain ⟨⟨dq, osq⟩, hw''⟩ := hw'
        subst hw''
        have HRN : Hid (Below w1.heap.size w1 (grow (redrawn wr dq) osq)) := Lib.hid (belowNext HR.out (below_regrown wr dq osq))
        clear k0 k1 k2 j0 j1 j2 m0 m1 m2 n0 n1 n2 d0 d1 d2 e0 e1 e2 f0 f1 f2 g0 g1 g2
        generalize grow (redrawn wr dq) osq = wn at *
        go_wp2
        go_roundg g
        case measure => omega
        case rel => exact ⟨i + 1, by go_num, by omega, HRN⟩
      · go_wp2
        go_ret
        exact ⟨rfl, HBR.out⟩
end Go.Proofs.YtldmimekmjmkgaaDoor

namespace Go.Proofs.YtldmimekmjmkgaaDoor
open Go.RowKit Go.Sort Go.Maps Go.WideMaps

set_option maxHeartbeats 1000000 in
theorem rname_any (s : ByteArray) (w : World) (hs : s.size ≤ maxLen) :
    Calls Tryd.prog 46 #[.string s] w fun e w' => e = .returned (.bool (nameB s)) ∧ w' = w := by
  unfold maxLen at hs
  go_enter Tryd.func46, Tryd.ntmps46
  go_wp2
  go_loop [3] (fun i => ∃ k : Nat, k ≤ s.size ∧ i = .int .i64 k ∧ Hid (∀ j, j < k → small (s.data.toList.getD j 0) = true)) (fun i => s.size - (intOf i).toNat)
  case atStart => exact ⟨0, by omega, rfl, fun j hj => absurd hj (by omega)⟩
  case round =>
    obtain ⟨k, hk, rfl, hall⟩ := hrel
    by_cases hlt : k < s.size
    · have HB := Lib.hid (nameB_bad s k hlt)
      have HG := Lib.hid (byte_getD s k hlt)
      by_cases hlo : s[k].toNat < 97
      · have HF := Lib.hid (HB.out (by unfold small; rw [decide_eq_false (p := 97 ≤ s[k].toNat) (by omega), Bool.false_and]))
        go_wp2
        go_ret
        exact ⟨ret_bool HF.out.symm, rfl⟩
      · by_cases hhi : 122 < s[k].toNat
        · have HF := Lib.hid (HB.out (by unfold small; rw [decide_eq_false (p := s[k].toNat ≤ 122) (by omega), Bool.and_false]))
          go_wp2
          go_ret
          exact ⟨ret_bool HF.out.symm, rfl⟩
        · have HT : Hid (∀ j, j < k + 1 → small (s.data.toList.getD j 0) = true) := Lib.hid fun j hj => by
            by_cases e : j < k
            · exact hall j e
            · obtain rfl : j = k := by omega
              rw [HG.out]; unfold small
              rw [decide_eq_true (p := 97 ≤ s[j].toNat) (by omega), decide_eq_true (p := s[j].toNat ≤ 122) (by omega)]; rfl
          go_wp2
          exact ⟨⟨k + 1, by omega, by go_num, HT.out⟩, by simp [intOf]; omega⟩
    · have HA : Hid (∀ j, j < s.size → small (s.data.toList.getD j 0) = true) := Lib.hid fun j hj => hall j (by omega)
      by_cases h1 : 1 ≤ s.size
      · by_cases h8 : s.size ≤ 8
        · cases ht : isTxt s with
          | true =>
            have ht' : (s.toList == [116, 101, 120, 116]) = true := ht
            have HN : Hid (nameB s = false) := Lib.hid (by simp [nameB, ht])
            clear ht
            go_wp2
            go_ret
            exact ⟨ret_bool HN.out.symm, rfl⟩
          | false =>
            have ht' : (s.toList == [116, 101, 120, 116]) = false := ht
            have HN : Hid (nameB s = true) := Lib.hid (nameB_true s h1 h8 ht HA.out)
            clear ht
            go_wp2
            go_ret
            exact ⟨ret_bool HN.out.symm, rfl⟩
        · have HN : Hid (nameB s = false) := Lib.hid (by simp [nameB, h8])
          go_wp2
          go_ret
          exact ⟨ret_bool HN.out.symm, rfl⟩
      · have HN : Hid (nameB s = false) := Lib.hid (by simp [nameB, h1])
        go_wp2
        go_ret
        exact ⟨ret_bool HN.out.symm, rfl⟩

set_option maxRecDepth 100000 in
set_option maxHeartbeats 1000000 in
theorem after_any (o : Nat) (s : ByteArray) (A : Option Addr) (n c : Nat) (w : World) :
    Calls Tryd.prog 44 #[.agg #[.int .u8 (o : Int), .string s, .slice A n c]] w fun x w' => x = .returned (.bool (repE o)) ∧ Below w.heap.size w w' := by
  have HB : Hid (Below w.heap.size w (w.alloc (.cells #[.int .u8 (o : Int), .string s, .slice A n c] 30))) := Lib.hid ((Below.refl _ _).alloc (Nat.le_refl _) _)
  by_cases h1 : o = 42
  · subst h1
    go_enter Tryd.func44, Tryd.ntmps44
    go_wp2
    go_ret
    exact ⟨rfl, HB.out⟩
  · have e1 : ((o : Int) == 42) = false := by simp; omega
    by_cases h2 : o = 43
    · subst h2
      clear h1 e1
      go_enter Tryd.func44, Tryd.ntmps44
      go_wp2
      go_ret
      exact ⟨rfl, HB.out⟩
    · have e2 : ((o : Int) == 43) = false := by simp; omega
      by_cases h3 : o = 63
      · subst h3
        clear h1 e1 h2 e2
        go_enter Tryd.func44, Tryd.ntmps44
        go_wp2
        go_ret
        exact ⟨rfl, HB.out⟩
      · have e3 : ((o : Int) == 63) = false := by simp; omega
        have HR : Hid (repE o = false) := Lib.hid (by unfold repE; simp [h1, h2, h3])
        clear h1 h2 h3
        go_enter Tryd.func44, Tryd.ntmps44
        go_wp2
        go_ret
        exact ⟨ret_bool HR.out.symm, HB.out⟩

theorem sizeEs_app : ∀ (l m : List Ex), sizeEs (l ++ m) = sizeEs l + sizeEs m
  | [], m => by simp [sizeEs]
  | x :: l, m => by rw [List.cons_append, sizeEs, sizeEs_app l m, sizeEs]; omega
theorem sizeEs_next {l : List Ex} {i : Nat} {x : Ex} (h : l[i]? = some x) : sizeEs (l.take (i + 1)) = sizeEs (l.take i) + sizeE x := by
  rw [List.take_add_one, h]
  show sizeEs (l.take i ++ [x]) = _
  rw [sizeEs_app]; simp [sizeEs]
def MSaid (e : Ex) : Prop := ∀ (A : Option Addr) (n c B : Nat) (w : World), sizeE e ≤ 1100000 → Exs w (Under B) (.slice A n c) e.kids → B ≤ w.heap.size →
  Calls Tryd.prog 31 #[.agg #[.int .u8 (e.op : Int), .string e.name, .slice A n c]] w fun x w' => x = .returned (.int .i64 (sizeE e : Int)) ∧ Below w.heap.size w w'
set_option maxRecDepth 100000 in
set_option maxHeartbeats 2000000 in
theorem many_walk : ∀ e, MSaid e := by
  intro e
  induction e using Ex.induct_one with
  | h o s l ih =>
    intro A n c B w hsz hl hB
    have IH := Lib.hid ih
    clear ih
    simp only [Ex.op, Ex.name, Ex.kids] at *
    have hlen := hl.len
    obtain ⟨A', c', hv, hc, hm, _⟩ := id hl
    injection hv with hA hn hc'
    subst hA hn hc'
    unfold maxLen at hm
    have HZ : Hid (sizeE (.mk o s l) = 1 + sizeEs l) := Lib.hid (by rw [sizeE])
    have hz : sizeEs l ≤ 1100000 := by have := HZ.out; omega
    have HA := Lib.hid hl
    have HB1 : Hid (Below w.heap.size w (w.alloc (.cells #[.int .u8 (o : Int), .string s, .slice A l.length c] 30))) := Lib.hid ((Below.refl _ _).alloc (Nat.le_refl _) _)
    have HN1 : Hid ((w.alloc (.cells #[.int .u8 (o : Int), .string s, .slice A l.length c] 30)).heap[w.heap.size]? = some (.cells #[.int .u8 (o : Int), .string s, .slice A l.length c] 30)) := Lib.hid (heap_new _ _)
    have hz1 : (w.alloc (.cells #[.int .u8 (o : Int), .string s, .slice A l.length c] 30)).heap.size = w.heap.size + 1 := by simp
    clear hl hsz
    go_enter Tryd.func31, Tryd.ntmps31
    go_wp2
    generalize w.alloc (.cells #[.int .u8 (o : Int), .string s, .slice A l.length c] 30) = w1 at *
    go_loopg [3, 4] l.length (fun g q u wx => ∃ i : Nat, q = .int .i64 (1 + (sizeEs (l.take i) : Int)) ∧ u = .int .i64 i ∧ i + g = l.length ∧ Hid (Below w1.heap.size w1 wx))
    case atStart => exact ⟨0, rfl, rfl, by omega, Lib.hid (Below.refl _ _)⟩
    case round =>
      obtain ⟨i, rfl, rfl, hig, HR⟩ := hrel
      have hbx : wr.heap[w.heap.size]? = some (.cells #[.int .u8 (o : Int), .string s, .slice A l.length c] 30) := (HR.out.block _ (by omega)).trans HN1.out
      obtain ⟨d0, d1, d2⟩ := three_cells hbx
      have hzl := cell_lt d0
      clear hbx
      by_cases hi : i < l.length
      · have hlx : l[i]? = some l[i] := List.getElem?_eq_getElem hi
        generalize hx : l[i] = x at *
        have HX := Lib.hid (sizeEs_next hlx)
        have hxl : sizeEs (l.take (i + 1)) ≤ sizeEs l := by
          have h := sizeEs_app (l.take (i + 1)) (l.drop (i + 1))
          rw [List.take_append_drop] at h; omega
        have hxs : sizeEs (l.take i) + sizeE x ≤ 1100000 := by rw [← HX.out]; omega
        have hxz : sizeE x ≤ 1100000 := by omega
        have HAR : Hid (Exs wr (Under B) (.slice A l.length c) l) := Lib.hid (HA.out.keep (fun _ h => h) fun b hb => (HR.out.block b (by have : b < B := hb; omega)).trans (HB1.out.block b (Nat.lt_of_lt_of_le hb hB)))
        obtain ⟨b, off, rfl, hb, hat⟩ := HAR.out.get hlx
        obtain ⟨v3, f0, f1, f2, exk⟩ := (exAt_iff x b _).1 hat
        obtain ⟨A3, c3, rfl, _⟩ := id exk
        have hl3 := cell_lt f0
        have HMEM := Lib.hid (List.mem_of_getElem? hlx)
        have HEK := Lib.hid exk
        obtain ⟨g, rfl⟩ : ∃ g, gk = g + 1 := ⟨gk - 1, by omega⟩
        clear exk hx hlx hat hb
        go_wp2_with fail
        refine (IH.out x HMEM.out A3 _ c3 B _ hxz HEK.out (by have := HR.out.size; omega)).mono ?_
        rintro e w3 ⟨rfl, hb3⟩
        have HR3 : Hid (Below w1.heap.size w1 w3) := Lib.hid (belowNext HR.out hb3)
        clear hb3 f0 f1 f2 HEK d0 d1 d2
        go_wp2
        go_roundg g
        case measure => omega
        case rel => exact ⟨i + 1, by rw [HX.out]; go_num, by go_num, by omega, HR3⟩
      · have HE : Hid (l.take i = l) := Lib.hid (List.take_of_length_le (by omega))
        go_wp2
        go_ret
        exact ⟨ret_num (by rw [HE.out, HZ.out]; push_cast; rfl), HB1.out.trans (HR.out.mono (by omega))⟩

/-- As many kids as there should be. -/
def exsOk (o : Nat) (n : Nat) : Bool := if o = 115 then n != 1 else if o = 97 then decide (2 ≤ n) else repE o && n == 1
theorem allE_kids {o : Nat} {l : List Ex} (ho : o ≠ 110) (h : exsOk o l.length = false) : allE okN (.mk o ByteArray.empty l) = false := by
  rw [allE]
  have : shapedE okN (.mk o ByteArray.empty l) = false := by
    unfold exsOk at h
    by_cases h1 : o = 115
    · rw [if_pos h1] at h; rw [shaped_seq h1, h]; rfl
    · rw [if_neg h1] at h
      by_cases h2 : o = 97
      · rw [if_pos h2] at h; rw [shaped_alt h2, h]; rfl
      · rw [if_neg h2] at h
        rw [shaped_rep ho h1 h2]
        match l, h with
        | [], _ => simp
        | [x], h => simp at h; simp [h]
        | x :: y :: l, _ => simp
  rw [this]; rfl
/-- A kid that may stand there. -/
def exOk (o : Nat) (x : Ex) : Bool := allE okN x && (!(x.op == o) && !(repE o && repE x.op))
theorem allEs_all (l : List Ex) : allEs okN l = l.all (allE okN) := by
  induction l with
  | nil => rfl
  | cons x l ih => rw [allEs, ih]; rfl
theorem allE_is {o : Nat} {l : List Ex} (ho : o ≠ 110) (h : exsOk o l.length = true) : allE okN (.mk o ByteArray.empty l) = l.all (exOk o) := by
  rw [allE, allEs_all]
  unfold exsOk at h
  have hb : ∀ {p : Ex → Bool} (q : Ex → Bool), (∀ x, exOk o x = (p x && q x)) → l.all (exOk o) = (l.all p && l.all q) := by
    intro p q hpq
    clear h
    induction l with
    | nil => rfl
    | cons x l ih => rw [List.all_cons, List.all_cons, List.all_cons, ih, hpq]; cases p x <;> cases q x <;> cases l.all p <;> rfl
  by_cases h1 : o = 115
  · rw [if_pos h1] at h
    rw [shaped_seq h1, h, hb (p := allE okN) (fun x => !(x.op == o)) (fun x => by unfold exOk; subst h1; simp [repE])]
    subst h1
    rw [Bool.true_and, Bool.and_comm, List.not_any_eq_all_not]
  · rw [if_neg h1] at h
    by_cases h2 : o = 97
    · rw [if_pos h2] at h
      rw [shaped_alt h2, h, hb (p := allE okN) (fun x => !(x.op == o)) (fun x => by unfold exOk; subst h2; simp [repE])]
      subst h2
      rw [Bool.true_and, Bool.and_comm, List.not_any_eq_all_not]
    · rw [if_neg h2] at h
      simp only [Bool.and_eq_true, beq_iff_eq] at h
      match l, h with
      | [x], h =>
        rw [shaped_rep ho h1 h2, h.1]
        simp only [List.all_cons, List.all_nil, Bool.and_true, Bool.true_and, exOk, h.1]
        rw [Bool.and_comm]
        cases hr : repE x.op with
        | true => simp
        | false =>
          have : (x.op == o) = false := by rw [beq_eq_false_iff_ne]; intro e; rw [e, h.1] at hr; cases hr
          rw [this]; rfl
theorem all_next {p : Ex → Bool} {l : List Ex} {i : Nat} {x : Ex} (h : (l.take i).all p = true) (hx : l[i]? = some x) (hp : p x = true) : (l.take (i + 1)).all p = true := by
  rw [List.take_add_one, hx, List.all_append, h]
  simp [hp]
theorem all_not {p : Ex → Bool} {l : List Ex} {i : Nat} {x : Ex} (hx : l[i]? = some x) (hp : p x = false) : l.all p = false := by
  rw [List.all_eq_false]
  exact ⟨x, List.mem_of_getElem? hx, by simp [hp]⟩
theorem allE_named {o : Nat} {s : ByteArray} {l : List Ex} (h : o ≠ 110) (hs : s ≠ ByteArray.empty) : allE okN (.mk o s l) = false := by rw [allE, shaped_named h hs]; rfl
theorem allE_name {s : ByteArray} {l : List Ex} : allE okN (.mk 110 s l) = (l.length == 0 && okN s) := by
  rw [allE, shaped_name rfl]
  match l with
  | [] => simp [allEs]
  | x :: l => rfl
end Go.Proofs.YtldmimekmjmkgaaDoor

namespace Go.Proofs.YtldmimekmjmkgaaDoor
open Go.RowKit Go.Sort Go.Maps Go.WideMaps

/-- Two expressions in their boxes. -/
def TwoB (w : World) (g k : Nat) (c d : Array Value) : Prop := w.heap[g]? = some (.cells c 30) ∧ w.heap[k]? = some (.cells d 30)
theorem TwoB.keep {w w' : World} {g k : Nat} {c d : Array Value} (h : TwoB w g k c d) (hb : Below w.heap.size w w') : TwoB w' g k c d :=
  ⟨(hb.block _ (Array.getElem?_eq_some_iff.1 h.1).1).trans h.1, (hb.block _ (Array.getElem?_eq_some_iff.1 h.2).1).trans h.2⟩
def DSaid (e : Ex) : Prop := ∀ (A : Option Addr) (n c B : Nat) (w : World), e.fits → Exs w (Under B) (.slice A n c) e.kids → B ≤ w.heap.size →
  Calls Tryd.prog 32 #[.agg #[.int .u8 (e.op : Int), .string e.name, .slice A n c]] w fun x w' => x = .returned (.bool (allE okN e)) ∧ Below w.heap.size w w'
/-- One kid looked at. -/
theorem ex_not {o : Nat} {x : Ex} (h : allE okN x = false) : exOk o x = false := by unfold exOk; rw [h]; rfl
theorem ex_same {o : Nat} {x : Ex} (h : x.op = o) : exOk o x = false := by unfold exOk; rw [beq_iff_eq.2 h]; simp
theorem ex_rep {o : Nat} {x : Ex} (h : repE o = true) (h2 : repE x.op = true) : exOk o x = false := by unfold exOk; rw [h, h2]; simp
theorem ex_ok {o : Nat} {x : Ex} (h : allE okN x = true) (h1 : x.op ≠ o) (h2 : repE o = false ∨ repE x.op = false) : exOk o x = true := by
  unfold exOk
  rw [h, beq_eq_false_iff_ne.2 h1]
  rcases h2 with h2 | h2 <;> rw [h2] <;> simp

set_option maxRecDepth 100000 in
set_option maxHeartbeats 8000000 in
theorem formed_walk : ∀ e, DSaid e := by
  intro e
  induction e using Ex.induct_one with
  | h o s l ih =>
    intro A n c B w he hl hB
    have IH := Lib.hid ih
    clear ih
    simp only [Ex.op, Ex.name, Ex.kids] at *
    have hlen := hl.len
    obtain ⟨A', c', hv, hc, hm, _⟩ := id hl
    injection hv with hA hn hc'
    subst hA hn hc'
    have hs : s.size ≤ maxLen := he.2.1
    unfold maxLen at hm hs
    have HF := Lib.hid he
    have HA := Lib.hid hl
    have HB1 : Hid (Below w.heap.size w (w.alloc (.cells #[.int .u8 (o : Int), .string s, .slice A l.length c] 30))) := Lib.hid ((Below.refl _ _).alloc (Nat.le_refl _) _)
    have HN1 : Hid ((w.alloc (.cells #[.int .u8 (o : Int), .string s, .slice A l.length c] 30)).heap[w.heap.size]? = some (.cells #[.int .u8 (o : Int), .string s, .slice A l.length c] 30)) := Lib.hid (heap_new _ _)
    have hz1 : (w.alloc (.cells #[.int .u8 (o : Int), .string s, .slice A l.length c] 30)).heap.size = w.heap.size + 1 := by simp
    clear hl he
    by_cases ho : o = 110
    · subst ho
      by_cases hn0 : l.length = 0
      · have e0 : ((l.length : Int) == 0) = true := by simp [hn0]
        have HQ : Hid (allE okN (.mk 110 s l) = okN s) := Lib.hid (by rw [allE_name, hn0]; rfl)
        clear hn0
        have HNM : Hid (Calls Tryd.prog 46 #[.string s] (w.alloc (.cells #[.int .u8 (110 : Nat), .string s, .slice A l.length c] 30)) fun e w' => e = .returned (.bool (nameB s)) ∧ w' = (w.alloc (.cells #[.int .u8 (110 : Nat), .string s, .slice A l.length c] 30))) := Lib.hid (rname_any s _ (by unfold maxLen; omega))
        cases hn : nameB s with
        | true =>
          have HN := Lib.hid hn
          clear hn
          go_enter Tryd.func32, Tryd.ntmps32
          go_wp2_with fail
          refine HNM.out.mono ?_
          rintro x w2 ⟨rfl, rfl⟩
          rw [HN.out]
          go_wp2
          go_ret
          exact ⟨ret_bool (by rw [HQ.out]; unfold okN; rw [HN.out]; rfl), HB1.out⟩
        | false =>
          have HN := Lib.hid hn
          clear hn
          cases ht : isTxt s with
          | true =>
            have ht' : (s.toList == [116, 101, 120, 116]) = true := ht
            have HT := Lib.hid ht
            clear ht
            go_enter Tryd.func32, Tryd.ntmps32
            go_wp2_with fail
            refine HNM.out.mono ?_
            rintro x w2 ⟨rfl, rfl⟩
            rw [HN.out]
            go_wp2
            go_ret
            exact ⟨ret_bool (by rw [HQ.out]; unfold okN; rw [HN.out, HT.out]; rfl), HB1.out⟩
          | false =>
            have ht' : (s.toList == [116, 101, 120, 116]) = false := ht
            have HT := Lib.hid ht
            clear ht
            go_enter Tryd.func32, Tryd.ntmps32
            go_wp2_with fail
            refine HNM.out.mono ?_
            rintro x w2 ⟨rfl, rfl⟩
            rw [HN.out]
            go_wp2
            go_ret
            exact ⟨ret_bool (by rw [HQ.out]; unfold okN; rw [HN.out, HT.out]; rfl), HB1.out⟩
      · have e0 : ((l.length : Int) == 0) = false := by simp; intro h; exact hn0 (by rw [h]; rfl)
        have HQ : Hid (allE okN (.mk 110 s l) = false) := Lib.hid (by rw [allE_name]; simp; intro h; exact absurd (by rw [h]; rfl) hn0)
        clear hn0
        go_enter Tryd.func32, Tryd.ntmps32
        go_wp2
        go_ret
        exact ⟨ret_bool HQ.out.symm, HB1.out⟩
    have e110 : ((o : Int) == 110) = false := by simp; omega
    by_cases hse : s = ByteArray.empty
    case neg =>
      have e1 : (s.toList == []) = false := by
        rw [beq_eq_false_iff_ne]; intro h; exact hse (str_empty h)
      have HQ : Hid (allE okN (.mk o s l) = false) := Lib.hid (allE_named ho hse)
      clear ho hse
      go_enter Tryd.func32, Tryd.ntmps32
      go_wp2
      go_ret
      exact ⟨ret_bool HQ.out.symm, HB1.out⟩
    subst hse
    have HO := Lib.hid ho
    clear ho
    by_cases h115 : o = 115
    · subst h115
      have HRO : Hid (repE 115 = false) := Lib.hid rfl
      by_cases hk : l.length ≠ 1
      · have HQ : Hid (allE okN (.mk 115 ByteArray.empty l) = l.all (exOk 115)) := Lib.hid (allE_is HO.out (by unfold exsOk; simp; omega))
        have ek : ((l.length : Int) == 1) = false := by simp; omega
        clear hk
        go_enter Tryd.func32, Tryd.ntmps32
        go_wp2_with fail
        generalize w.alloc (.cells #[.int .u8 ((115 : Nat) : Int), .string ByteArray.empty, .slice A l.length c] 30) = w0 at *
        refine (after_any 115 _ _ _ _ _).mono ?_
        rintro e w1 ⟨rfl, hbw1⟩
        rw [HRO.out]
        have HN0 := HN1
        have HN1 : Hid (w1.heap[w.heap.size]? = some (.cells #[.int .u8 (115 : Nat), .string ByteArray.empty, .slice A l.length c] 30)) := Lib.hid ((hbw1.block _ (by omega)).trans HN0.out)
        have HB1 : Hid (Below w.heap.size w w1) := Lib.hid (belowNext HB1.out hbw1)
        have hz1 : w.heap.size + 1 ≤ w1.heap.size := by have := hbw1.size; omega
        have HW1 : Hid (Below w1.heap.size w1 w1) := Lib.hid (Below.refl _ _)
        clear hbw1 HN0
        go_wp2
        go_loopg [4] l.length (fun g u wx => ∃ i : Nat, u = .int .i64 i ∧ i + g = l.length ∧ Hid (Below w1.heap.size w1 wx) ∧ Hid ((l.take i).all (exOk 115) = true))
        case atStart => exact ⟨0, rfl, by omega, HW1, Lib.hid rfl⟩
        case round =>
          obtain ⟨i, rfl, hig, HR, HALL⟩ := hrel
          have HBX : Hid (wr.heap[w.heap.size]? = some (.cells #[.int .u8 (115 : Nat), .string ByteArray.empty, .slice A l.length c] 30)) := Lib.hid ((HR.out.block _ (by omega)).trans HN1.out)
          obtain ⟨d0, d1, d2⟩ := three_cells HBX.out
          have hzl := cell_lt d0
          by_cases hi : i < l.length
          · have hlx : l[i]? = some l[i] := List.getElem?_eq_getElem hi
            generalize hx : l[i] = x at *
            have HAR : Hid (Exs wr (Under B) (.slice A l.length c) l) := Lib.hid (HA.out.keep (fun _ h => h) fun b hb => (HR.out.block b (by have : b < B := hb; omega)).trans (HB1.out.block b (Nat.lt_of_lt_of_le hb hB)))
            obtain ⟨b, off, rfl, hb, hat⟩ := HAR.out.get hlx
            obtain ⟨v3, f0, f1, f2, exk⟩ := (exAt_iff x b _).1 hat
            obtain ⟨A3, c3, rfl, _⟩ := id exk
            have hl3 := cell_lt f0
            have HX := Lib.hid hlx
            have HMEM := Lib.hid (List.mem_of_getElem? hlx)
            have HBK : Hid (Below wr.heap.size wr (wr.alloc (.cells #[.int .u8 (x.op : Int), .string x.name, .slice A3 x.kids.length c3] 30))) := Lib.hid ((Below.refl _ _).alloc (Nat.le_refl _) _)
            have HTB : Hid (TwoB (wr.alloc (.cells #[.int .u8 (x.op : Int), .string x.name, .slice A3 x.kids.length c3] 30)) w.heap.size wr.heap.size #[.int .u8 (115 : Nat), .string ByteArray.empty, .slice (some ⟨b, off, none⟩) l.length c] #[.int .u8 (x.op : Int), .string x.name, .slice A3 x.kids.length c3]) := Lib.hid ⟨(HBK.out.block _ hzl).trans HBX.out, heap_new _ _⟩
            have HEK : Hid (Exs (wr.alloc (.cells #[.int .u8 (x.op : Int), .string x.name, .slice A3 x.kids.length c3] 30)) (Under B) (.slice A3 x.kids.length c3) x.kids) := Lib.hid (exk.keep (fun _ h => h) fun b hb => HBK.out.block b (by have : b < B := hb; have := HR.out.size; omega))
            have hBz : B ≤ (wr.alloc (.cells #[.int .u8 (x.op : Int), .string x.name, .slice A3 x.kids.length c3] 30)).heap.size := by have := HR.out.size; simp; omega
            obtain ⟨g, rfl⟩ : ∃ g, gk = g + 1 := ⟨gk - 1, by omega⟩
            clear exk hx hlx hat hb
            go_wp2_with fail
            refine (IH.out x HMEM.out A3 _ c3 B _ (HF.out.kid (e := .mk 115 ByteArray.empty l) HMEM.out) HEK.out hBz).mono ?_
            rintro e w3 ⟨rfl, hb3⟩
            have HT3 := Lib.hid (HTB.out.keep hb3)
            have HR3 : Hid (Below w1.heap.size w1 w3) := Lib.hid (belowNext (belowNext HR.out HBK.out) hb3)
            generalize hax : allE okN x = ax at *
            clear hb3 f0 f1 f2 HEK d0 d1 d2 HTB HBX hBz HBK HAR
            obtain ⟨d0, d1, d2⟩ := three_cells HT3.out.1
            obtain ⟨k0, k1, k2⟩ := three_cells HT3.out.2
            have hzd := cell_lt d0
            have hzk := cell_lt k0
            cases ax with
            | false =>
              have HNO := Lib.hid (all_not HX.out (ex_not (o := 115) hax))
              clear hax
              go_wp2
              go_ret
              exact ⟨ret_bool (by rw [HQ.out]; exact HNO.out.symm), HB1.out.trans (HR3.out.mono (by omega))⟩
            | true =>
              have HAX := Lib.hid hax
              clear hax
              by_cases hxo : x.op = 115
              · have e5 : ((x.op : Int) == 115) = true := by simp [hxo]
                have HNO := Lib.hid (all_not HX.out (ex_same (o := 115) hxo))
                clear hxo
                go_wp2
                go_ret
                exact ⟨ret_bool (by rw [HQ.out]; exact HNO.out.symm), HB1.out.trans (HR3.out.mono (by omega))⟩
              · have e5 : ((x.op : Int) == 115) = false := by simp; omega
                have HXO := Lib.hid hxo
                clear hxo
                go_wp2_with fail
                refine (after_any 115 _ _ _ _ _).mono ?_
                rintro e w4 ⟨rfl, hb4⟩
                have HT4 := Lib.hid (HT3.out.keep hb4)
                have HR4 : Hid (Below w1.heap.size w1 w4) := Lib.hid (belowNext HR3.out hb4)
                rw [HRO.out]
                clear hb4 d0 d1 d2 k0 k1 k2 hzd hzk
                obtain ⟨d0, d1, d2⟩ := three_cells HT4.out.1
                obtain ⟨k0, k1, k2⟩ := three_cells HT4.out.2
                have hzd := cell_lt d0
                have hzk := cell_lt k0
                have HYES := Lib.hid (all_next HALL.out HX.out (ex_ok HAX.out HXO.out (.inl HRO.out)))
                go_wp2
                go_roundg g
                case measure => omega
                case rel => exact ⟨i + 1, by go_num, by omega, HR4, HYES⟩
          · have HE : Hid (l.take i = l) := Lib.hid (List.take_of_length_le (by omega))
            go_wp2
            go_ret
            exact ⟨ret_bool (by have h := HALL.out; rw [HE.out] at h; rw [HQ.out]; exact h.symm), HB1.out.trans (HR.out.mono (by omega))⟩
      · have HQ : Hid (allE okN (.mk 115 ByteArray.empty l) = false) := Lib.hid (allE_kids HO.out (by unfold exsOk; simp; omega))
        have ek : ((l.length : Int) == 1) = true := by simp; omega
        clear hk
        go_enter Tryd.func32, Tryd.ntmps32
        go_wp2
        go_ret
        exact ⟨ret_bool HQ.out.symm, HB1.out⟩
    have e115 : ((o : Int) == 115) = false := by simp; omega
    have n115 : ((o : Int) != 115) = true := by simp; omega
    by_cases h97 : o = 97
    · subst h97
      have HRO : Hid (repE 97 = false) := Lib.hid rfl
      by_cases hk : 2 ≤ l.length
      · have HQ : Hid (allE okN (.mk 97 ByteArray.empty l) = l.all (exOk 97)) := Lib.hid (allE_is HO.out (by unfold exsOk; simp; omega))
        have ek : decide ((l.length : Int) < 2) = false := by simp; omega
        clear hk
        go_enter Tryd.func32, Tryd.ntmps32
        go_wp2_with fail
        generalize w.alloc (.cells #[.int .u8 ((97 : Nat) : Int), .string ByteArray.empty, .slice A l.length c] 30) = w0 at *
        refine (after_any 97 _ _ _ _ _).mono ?_
        rintro e w1 ⟨rfl, hbw1⟩
        rw [HRO.out]
        have HN0 := HN1
        have HN1 : Hid (w1.heap[w.heap.size]? = some (.cells #[.int .u8 (97 : Nat), .string ByteArray.empty, .slice A l.length c] 30)) := Lib.hid ((hbw1.block _ (by omega)).trans HN0.out)
        have HB1 : Hid (Below w.heap.size w w1) := Lib.hid (belowNext HB1.out hbw1)
        have hz1 : w.heap.size + 1 ≤ w1.heap.size := by have := hbw1.size; omega
        have HW1 : Hid (Below w1.heap.size w1 w1) := Lib.hid (Below.refl _ _)
        clear hbw1 HN0
        go_wp2
        go_loopg [4] l.length (fun g u wx => ∃ i : Nat, u = .int .i64 i ∧ i + g = l.length ∧ Hid (Below w1.heap.size w1 wx) ∧ Hid ((l.take i).all (exOk 97) = true))
        case atStart => exact ⟨0, rfl, by omega, HW1, Lib.hid rfl⟩
        case round =>
          obtain ⟨i, rfl, hig, HR, HALL⟩ := hrel
          have HBX : Hid (wr.heap[w.heap.size]? = some (.cells #[.int .u8 (97 : Nat), .string ByteArray.empty, .slice A l.length c] 30)) := Lib.hid ((HR.out.block _ (by omega)).trans HN1.out)
          obtain ⟨d0, d1, d2⟩ := three_cells HBX.out
          have hzl := cell_lt d0
          by_cases hi : i < l.length
          · have hlx : l[i]? = some l[i] := List.getElem?_eq_getElem hi
            generalize hx : l[i] = x at *
            have HAR : Hid (Exs wr (Under B) (.slice A l.length c) l) := Lib.hid (HA.out.keep (fun _ h => h) fun b hb => (HR.out.block b (by have : b < B := hb; omega)).trans (HB1.out.block b (Nat.lt_of_lt_of_le hb hB)))
            obtain ⟨b, off, rfl, hb, hat⟩ := HAR.out.get hlx
            obtain ⟨v3, f0, f1, f2, exk⟩ := (exAt_iff x b _).1 hat
            obtain ⟨A3, c3, rfl, _⟩ := id exk
            have hl3 := cell_lt f0
            have HX := Lib.hid hlx
            have HMEM := Lib.hid (List.mem_of_getElem? hlx)
            have HBK : Hid (Below wr.heap.size wr (wr.alloc (.cells #[.int .u8 (x.op : Int), .string x.name, .slice A3 x.kids.length c3] 30))) := Lib.hid ((Below.refl _ _).alloc (Nat.le_refl _) _)
            have HTB : Hid (TwoB (wr.alloc (.cells #[.int .u8 (x.op : Int), .string x.name, .slice A3 x.kids.length c3] 30)) w.heap.size wr.heap.size #[.int .u8 (97 : Nat), .string ByteArray.empty, .slice (some ⟨b, off, none⟩) l.length c] #[.int .u8 (x.op : Int), .string x.name, .slice A3 x.kids.length c3]) := Lib.hid ⟨(HBK.out.block _ hzl).trans HBX.out, heap_new _ _⟩
            have HEK : Hid (Exs (wr.alloc (.cells #[.int .u8 (x.op : Int), .string x.name, .slice A3 x.kids.length c3] 30)) (Under B) (.slice A3 x.kids.length c3) x.kids) := Lib.hid (exk.keep (fun _ h => h) fun b hb => HBK.out.block b (by have : b < B := hb; have := HR.out.size; omega))
            have hBz : B ≤ (wr.alloc (.cells #[.int .u8 (x.op : Int), .string x.name, .slice A3 x.kids.length c3] 30)).heap.size := by have := HR.out.size; simp; omega
            obtain ⟨g, rfl⟩ : ∃ g, gk = g + 1 := ⟨gk - 1, by omega⟩
            clear exk hx hlx hat hb
            go_wp2_with fail
            refine (IH.out x HMEM.out A3 _ c3 B _ (HF.out.kid (e := .mk 97 ByteArray.empty l) HMEM.out) HEK.out hBz).mono ?_
            rintro e w3 ⟨rfl, hb3⟩
            have HT3 := Lib.hid (HTB.out.keep hb3)
            have HR3 : Hid (Below w1.heap.size w1 w3) := Lib.hid (belowNext (belowNext HR.out HBK.out) hb3)
            generalize hax : allE okN x = ax at *
            clear hb3 f0 f1 f2 HEK d0 d1 d2 HTB HBX hBz HBK HAR
            obtain ⟨d0, d1, d2⟩ := three_cells HT3.out.1
            obtain ⟨k0, k1, k2⟩ := three_cells HT3.out.2
            have hzd := cell_lt d0
            have hzk := cell_lt k0
            cases ax with
            | false =>
              have HNO := Lib.hid (all_not HX.out (ex_not (o := 97) hax))
              clear hax
              go_wp2
              go_ret
              exact ⟨ret_bool (by rw [HQ.out]; exact HNO.out.symm), HB1.out.trans (HR3.out.mono (by omega))⟩
            | true =>
              have HAX := Lib.hid hax
              clear hax
              by_cases hxo : x.op = 97
              · have e5 : ((x.op : Int) == 97) = true := by simp [hxo]
                have HNO := Lib.hid (all_not HX.out (ex_same (o := 97) hxo))
                clear hxo
                go_wp2
                go_ret
                exact ⟨ret_bool (by rw [HQ.out]; exact HNO.out.symm), HB1.out.trans (HR3.out.mono (by omega))⟩
              · have e5 : ((x.op : Int) == 97) = false := by simp; omega
                have HXO := Lib.hid hxo
                clear hxo
                go_wp2_with fail
                refine (after_any 97 _ _ _ _ _).mono ?_
                rintro e w4 ⟨rfl, hb4⟩
                have HT4 := Lib.hid (HT3.out.keep hb4)
                have HR4 : Hid (Below w1.heap.size w1 w4) := Lib.hid (belowNext HR3.out hb4)
                rw [HRO.out]
                clear hb4 d0 d1 d2 k0 k1 k2 hzd hzk
                obtain ⟨d0, d1, d2⟩ := three_cells HT4.out.1
                obtain ⟨k0, k1, k2⟩ := three_cells HT4.out.2
                have hzd := cell_lt d0
                have hzk := cell_lt k0
                have HYES := Lib.hid (all_next HALL.out HX.out (ex_ok HAX.out HXO.out (.inl HRO.out)))
                go_wp2
                go_roundg g
                case measure => omega
                case rel => exact ⟨i + 1, by go_num, by omega, HR4, HYES⟩
          · have HE : Hid (l.take i = l) := Lib.hid (List.take_of_length_le (by omega))
            go_wp2
            go_ret
            exact ⟨ret_bool (by have h := HALL.out; rw [HE.out] at h; rw [HQ.out]; exact h.symm), HB1.out.trans (HR.out.mono (by omega))⟩
      · have HQ : Hid (allE okN (.mk 97 ByteArray.empty l) = false) := Lib.hid (allE_kids HO.out (by unfold exsOk; simp; omega))
        have ek : decide ((l.length : Int) < 2) = true := by simp; omega
        clear hk
        go_enter Tryd.func32, Tryd.ntmps32
        go_wp2
        go_ret
        exact ⟨ret_bool HQ.out.symm, HB1.out⟩
    have e97 : ((o : Int) == 97) = false := by simp; omega
    have n97 : ((o : Int) != 97) = true := by simp; omega
    cases hro : repE o with
    | false =>
      have HRO := Lib.hid hro
      have HQ : Hid (allE okN (.mk o ByteArray.empty l) = false) := Lib.hid (allE_kids HO.out (by unfold exsOk; rw [if_neg h115, if_neg h97, hro]; rfl))
      clear hro h115 h97
      go_enter Tryd.func32, Tryd.ntmps32
      go_wp2_with fail
      generalize w.alloc (.cells #[.int .u8 (o : Int), .string ByteArray.empty, .slice A l.length c] 30) = w0 at *
      refine (after_any o _ _ _ _ _).mono ?_
      rintro e w1 ⟨rfl, hbw1⟩
      rw [HRO.out]
      have HB1 : Hid (Below w.heap.size w w1) := Lib.hid (belowNext HB1.out hbw1)
      clear hbw1
      go_wp2
      go_ret
      exact ⟨ret_bool HQ.out.symm, HB1.out⟩
    | true =>
      have HRO := Lib.hid hro
      have HSEL : Hid (∀ n, exsOk o n = (n == 1)) := Lib.hid (by intro n; unfold exsOk; rw [if_neg h115, if_neg h97, hro]; rfl)
      clear hro h115 h97
      by_cases hk : l.length = 1
      · have HQ : Hid (allE okN (.mk o ByteArray.empty l) = l.all (exOk o)) := Lib.hid (allE_is HO.out (by rw [HSEL.out, hk]; rfl))
        have ek : ((l.length : Int) != 1) = false := by simp; omega
        have ek2 : ((l.length : Int) == 1) = true := by simp; omega
        clear hk
        go_enter Tryd.func32, Tryd.ntmps32
        go_wp2_with fail
        generalize w.alloc (.cells #[.int .u8 (o : Int), .string ByteArray.empty, .slice A l.length c] 30) = w0 at *
        refine (after_any o _ _ _ _ _).mono ?_
        rintro e wa ⟨rfl, hba⟩
        rw [HRO.out]
        have HNA : Hid (wa.heap[w.heap.size]? = some (.cells #[.int .u8 (o : Nat), .string ByteArray.empty, .slice A l.length c] 30)) := Lib.hid ((hba.block _ (by omega)).trans HN1.out)
        have HBA : Hid (Below w.heap.size w wa) := Lib.hid (belowNext HB1.out hba)
        have hza : w.heap.size + 1 ≤ wa.heap.size := by have := hba.size; omega
        obtain ⟨d0, d1, d2⟩ := three_cells HNA.out
        clear hba hz1 HN1 HB1
        go_wp2_with fail
        refine (after_any o _ _ _ _ _).mono ?_
        rintro e w1 ⟨rfl, hbw1⟩
        rw [HRO.out]
        have HN1 : Hid (w1.heap[w.heap.size]? = some (.cells #[.int .u8 (o : Nat), .string ByteArray.empty, .slice A l.length c] 30)) := Lib.hid ((hbw1.block _ (by omega)).trans HNA.out)
        have HB1 : Hid (Below w.heap.size w w1) := Lib.hid (belowNext HBA.out hbw1)
        have hz1 : w.heap.size + 1 ≤ w1.heap.size := by have := hbw1.size; omega
        have HW1 : Hid (Below w1.heap.size w1 w1) := Lib.hid (Below.refl _ _)
        clear hbw1 HNA HBA d0 d1 d2 hza
        go_wp2
        go_loopg [4] l.length (fun g u wx => ∃ i : Nat, u = .int .i64 i ∧ i + g = l.length ∧ Hid (Below w1.heap.size w1 wx) ∧ Hid ((l.take i).all (exOk o) = true))
        case atStart => exact ⟨0, rfl, by omega, HW1, Lib.hid rfl⟩
        case round =>
          obtain ⟨i, rfl, hig, HR, HALL⟩ := hrel
          have HBX : Hid (wr.heap[w.heap.size]? = some (.cells #[.int .u8 (o : Nat), .string ByteArray.empty, .slice A l.length c] 30)) := Lib.hid ((HR.out.block _ (by omega)).trans HN1.out)
          obtain ⟨d0, d1, d2⟩ := three_cells HBX.out
          have hzl := cell_lt d0
          by_cases hi : i < l.length
          · have hlx : l[i]? = some l[i] := List.getElem?_eq_getElem hi
            generalize hx : l[i] = x at *
            have HAR : Hid (Exs wr (Under B) (.slice A l.length c) l) := Lib.hid (HA.out.keep (fun _ h => h) fun b hb => (HR.out.block b (by have : b < B := hb; omega)).trans (HB1.out.block b (Nat.lt_of_lt_of_le hb hB)))
            obtain ⟨b, off, rfl, hb, hat⟩ := HAR.out.get hlx
            obtain ⟨v3, f0, f1, f2, exk⟩ := (exAt_iff x b _).1 hat
            obtain ⟨A3, c3, rfl, _⟩ := id exk
            have hl3 := cell_lt f0
            have HX := Lib.hid hlx
            have HMEM := Lib.hid (List.mem_of_getElem? hlx)
            have HBK : Hid (Below wr.heap.size wr (wr.alloc (.cells #[.int .u8 (x.op : Int), .string x.name, .slice A3 x.kids.length c3] 30))) := Lib.hid ((Below.refl _ _).alloc (Nat.le_refl _) _)
            have HTB : Hid (TwoB (wr.alloc (.cells #[.int .u8 (x.op : Int), .string x.name, .slice A3 x.kids.length c3] 30)) w.heap.size wr.heap.size #[.int .u8 (o : Nat), .string ByteArray.empty, .slice (some ⟨b, off, none⟩) l.length c] #[.int .u8 (x.op : Int), .string x.name, .slice A3 x.kids.length c3]) := Lib.hid ⟨(HBK.out.block _ hzl).trans HBX.out, heap_new _ _⟩
            have HEK : Hid (Exs (wr.alloc (.cells #[.int .u8 (x.op : Int), .string x.name, .slice A3 x.kids.length c3] 30)) (Under B) (.slice A3 x.kids.length c3) x.kids) := Lib.hid (exk.keep (fun _ h => h) fun b hb => HBK.out.block b (by have : b < B := hb; have := HR.out.size; omega))
            have hBz : B ≤ (wr.alloc (.cells #[.int .u8 (x.op : Int), .string x.name, .slice A3 x.kids.length c3] 30)).heap.size := by have := HR.out.size; simp; omega
            obtain ⟨g, rfl⟩ : ∃ g, gk = g + 1 := ⟨gk - 1, by omega⟩
            clear exk hx hlx hat hb
            go_wp2_with fail
            refine (IH.out x HMEM.out A3 _ c3 B _ (HF.out.kid (e := .mk o ByteArray.empty l) HMEM.out) HEK.out hBz).mono ?_
            rintro e w3 ⟨rfl, hb3⟩
            have HT3 := Lib.hid (HTB.out.keep hb3)
            have HR3 : Hid (Below w1.heap.size w1 w3) := Lib.hid (belowNext (belowNext HR.out HBK.out) hb3)
            generalize hax : allE okN x = ax at *
            clear hb3 f0 f1 f2 HEK d0 d1 d2 HTB HBX hBz HBK HAR
            obtain ⟨d0, d1, d2⟩ := three_cells HT3.out.1
            obtain ⟨k0, k1, k2⟩ := three_cells HT3.out.2
            have hzd := cell_lt d0
            have hzk := cell_lt k0
            cases ax with
            | false =>
              have HNO := Lib.hid (all_not HX.out (ex_not (o := o) hax))
              clear hax
              go_wp2
              go_ret
              exact ⟨ret_bool (by rw [HQ.out]; exact HNO.out.symm), HB1.out.trans (HR3.out.mono (by omega))⟩
            | true =>
              have HAX := Lib.hid hax
              clear hax
              by_cases hxo : x.op = o
              · have e5 : ((x.op : Int) == o) = true := by simp [hxo]
                have HNO := Lib.hid (all_not HX.out (ex_same (o := o) hxo))
                clear hxo
                go_wp2
                go_ret
                exact ⟨ret_bool (by rw [HQ.out]; exact HNO.out.symm), HB1.out.trans (HR3.out.mono (by omega))⟩
              · have e5 : ((x.op : Int) == o) = false := by simp; omega
                have HXO := Lib.hid hxo
                clear hxo
                go_wp2_with fail
                refine (after_any o _ _ _ _ _).mono ?_
                rintro e w4 ⟨rfl, hb4⟩
                have HT4 := Lib.hid (HT3.out.keep hb4)
                have HR4 : Hid (Below w1.heap.size w1 w4) := Lib.hid (belowNext HR3.out hb4)
                rw [HRO.out]
                clear hb4 d0 d1 d2 k0 k1 k2 hzd hzk
                obtain ⟨d0, d1, d2⟩ := three_cells HT4.out.1
                obtain ⟨k0, k1, k2⟩ := three_cells HT4.out.2
                have hzd := cell_lt d0
                have hzk := cell_lt k0
                go_wp2_with fail
                refine (after_any x.op _ _ _ _ _).mono ?_
                rintro e w5 ⟨rfl, hb5⟩
                have HR5 : Hid (Below w1.heap.size w1 w5) := Lib.hid (belowNext HR4.out hb5)
                generalize hrx : repE x.op = rx at *
                clear hb5 d0 d1 d2 k0 k1 k2 hzd hzk
                cases rx with
                | true =>
                  have HNO := Lib.hid (all_not HX.out (ex_rep (o := o) HRO.out hrx))
                  clear hrx
                  go_wp2
                  go_ret
                  exact ⟨ret_bool (by rw [HQ.out]; exact HNO.out.symm), HB1.out.trans (HR5.out.mono (by omega))⟩
                | false =>
                  have HYES := Lib.hid (all_next HALL.out HX.out (ex_ok HAX.out HXO.out (.inr hrx)))
                  clear hrx
                  go_wp2
                  go_roundg g
                  case measure => omega
                  case rel => exact ⟨i + 1, by go_num, by omega, HR5, HYES⟩
          · have HE : Hid (l.take i = l) := Lib.hid (List.take_of_length_le (by omega))
            go_wp2
            go_ret
            exact ⟨ret_bool (by have h := HALL.out; rw [HE.out] at h; rw [HQ.out]; exact h.symm), HB1.out.trans (HR.out.mono (by omega))⟩
      · have HQ : Hid (allE okN (.mk o ByteArray.empty l) = false) := Lib.hid (allE_kids HO.out (by rw [HSEL.out]; simp; omega))
        have ek : ((l.length : Int) != 1) = true := by simp; omega
        have ek2 : ((l.length : Int) == 1) = false := by simp; omega
        clear hk
        go_enter Tryd.func32, Tryd.ntmps32
        go_wp2_with fail
        generalize w.alloc (.cells #[.int .u8 (o : Int), .string ByteArray.empty, .slice A l.length c] 30) = w0 at *
        refine (after_any o _ _ _ _ _).mono ?_
        rintro e wa ⟨rfl, hba⟩
        rw [HRO.out]
        have HNA : Hid (wa.heap[w.heap.size]? = some (.cells #[.int .u8 (o : Nat), .string ByteArray.empty, .slice A l.length c] 30)) := Lib.hid ((hba.block _ (by omega)).trans HN1.out)
        have HBA : Hid (Below w.heap.size w wa) := Lib.hid (belowNext HB1.out hba)
        obtain ⟨d0, d1, d2⟩ := three_cells HNA.out
        have hzd := cell_lt d0
        clear hba hz1 HN1 HB1
        go_wp2_with fail
        refine (after_any o _ _ _ _ _).mono ?_
        rintro e w1 ⟨rfl, hbw1⟩
        rw [HRO.out]
        have HB1 : Hid (Below w.heap.size w w1) := Lib.hid (belowNext HBA.out hbw1)
        clear hbw1
        go_wp2
        go_ret
        exact ⟨ret_bool HQ.out.symm, HB1.out⟩

set_option maxRecDepth 100000 in
set_option maxHeartbeats 2000000 in
theorem rright_any (e : Ex) (A : Option Addr) (n c B : Nat) (w : World) (he : e.fits) (hsz : sizeE e ≤ 1100000) (hl : Exs w (Under B) (.slice A n c) e.kids) (hB : B ≤ w.heap.size) :
    Calls Tryd.prog 17 #[.agg #[.int .u8 (e.op : Int), .string e.name, .slice A n c]] w fun x w' => x = .returned (.bool (rightE okN e)) ∧ Below w.heap.size w w' := by
  have HB1 : Hid (Below w.heap.size w (w.alloc (.cells #[.int .u8 (e.op : Int), .string e.name, .slice A n c] 30))) := Lib.hid ((Below.refl _ _).alloc (Nat.le_refl _) _)
  have HN1 : Hid ((w.alloc (.cells #[.int .u8 (e.op : Int), .string e.name, .slice A n c] 30)).heap[w.heap.size]? = some (.cells #[.int .u8 (e.op : Int), .string e.name, .slice A n c] 30)) := Lib.hid (heap_new _ _)
  have hz1 : (w.alloc (.cells #[.int .u8 (e.op : Int), .string e.name, .slice A n c] 30)).heap.size = w.heap.size + 1 := by simp
  have HF := Lib.hid he
  have HA := Lib.hid hl
  have HR : Hid (rightE okN e = (allE okN e && decide (sizeE e ≤ 24))) := Lib.hid rfl
  clear hl he
  go_enter Tryd.func17, Tryd.ntmps17
  go_wp2_with fail
  generalize w.alloc (.cells #[.int .u8 (e.op : Int), .string e.name, .slice A n c] 30) = w0 at *
  refine (many_walk e A n c B w0 hsz (HA.out.keep (fun _ h => h) fun b hb => HB1.out.block b (Nat.lt_of_lt_of_le hb hB)) (by omega)).mono ?_
  rintro x w1 ⟨rfl, hb1⟩
  have HN2 : Hid (w1.heap[w.heap.size]? = some (.cells #[.int .u8 (e.op : Int), .string e.name, .slice A n c] 30)) := Lib.hid ((hb1.block _ (by omega)).trans HN1.out)
  have HB2 : Hid (Below w.heap.size w w1) := Lib.hid (belowNext HB1.out hb1)
  clear hb1 HN1 HB1 hz1
  obtain ⟨d0, d1, d2⟩ := three_cells HN2.out
  have hzd := cell_lt d0
  by_cases h24 : sizeE e ≤ 24
  · have e24 : decide ((sizeE e : Int) ≤ 24) = true := by simp; omega
    have HQ : Hid (rightE okN e = allE okN e) := Lib.hid (by rw [HR.out, decide_eq_true h24, Bool.and_true])
    clear h24
    generalize sizeE e = z at *
    go_wp2_with fail
    refine (formed_walk e A n c B w1 HF.out (HA.out.keep (fun _ h => h) fun b hb => HB2.out.block b (Nat.lt_of_lt_of_le hb hB)) (by have := HB2.out.size; omega)).mono ?_
    rintro x w2 ⟨rfl, hb2⟩
    have HB3 : Hid (Below w.heap.size w w2) := Lib.hid (belowNext HB2.out hb2)
    clear hb2 d0 d1 d2
    generalize allE okN e = b at *
    go_wp2
    go_ret
    exact ⟨ret_bool HQ.out.symm, HB3.out⟩
  · have e24 : decide ((sizeE e : Int) ≤ 24) = false := by simp; omega
    have HQ : Hid (rightE okN e = false) := Lib.hid (by rw [HR.out, decide_eq_false h24, Bool.and_false])
    clear h24
    generalize sizeE e = z at *
    go_wp2
    go_ret
    exact ⟨ret_bool HQ.out.symm, HB2.out⟩
end Go.Proofs.YtldmimekmjmkgaaDoor
