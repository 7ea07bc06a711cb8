/-
  The reader's several: an append of an expression; what a row of kids is made of.
-/
import Derived.Test.YtldmimekmjmkgaaDoorGa
namespace Go.Proofs.YtldmimekmjmkgaaDoor
open Go.RowKit Go.Sort Go.Maps Go.WideMaps

section
variable {w : World} {ops : Array Oper} {rest : List Oper} {o : Oper} {a : Act} {Q : Exit → Act → World → Prop} {K : Act → World → Prop} {E : Prop}
theorem exprE_info : (Tryd.prog.info? 24).map (fun i => (i.zero, i.size, i.bytes)) = some (some (.agg #[.int .u8 0, .string ⟨#[]⟩, .slice none 0 0]), 3, 48) := by kernel_rfl
theorem wp_append_ex (s x : Operand) (ho : o.op = .call { callee := .builtin .append, args := #[s, x], argTypes := #[22, 22] })
    (base : Nat) (v : Value) (n : Nat) (xs : List Value) (g c : Nat) (u0 u1 u2 : Value) (hs : a.eval s = v) (hx : a.eval x = .slice (some ⟨g, 0, none⟩) 1 c) (hown : w.ownsRow base 24 3 v n xs)
    (hg : w.heap[g]? = some (.cells #[u0, u1, u2] 24)) (h1 : ∀ u ∈ [u0, u1, u2], u.oneCell' = true) (hn : n + 1 ≤ 100000000) (hbase : base ≤ w.heap.size)
    (h : ∀ v' w', w'.ownsRow base 24 3 v' (n + 1) (xs ++ [u0, u1, u2]) → w.grownBy w' v.ownBlock → (v'.ownBlock = v.ownBlock ∨ v'.ownBlock = some w.heap.size) → K (a.put o.dst v') w') : o.wp Tryd.prog a w K Q := by
  obtain ⟨i, hi, hz0, hz1, hz2⟩ := info_parts exprE_info
  obtain ⟨y0, y1, y2⟩ := three_cells hg
  have hnews : ∀ j u, [u0, u1, u2][j]? = some u → w.cell? (Addr.add ⟨g, 0, none⟩ j) = some u := fun j u hj => by
    rw [add_cell, Nat.zero_add]
    match j, hj with
    | 0, hj => rw [y0]; simpa using hj
    | 1, hj => rw [y1]; simpa using hj
    | 2, hj => rw [y2]; simpa using hj
    | j + 3, hj => simp at hj
  obtain ⟨v', w', hr, h2, h3, _, h4⟩ := run_append_own_at (P := Tryd.prog) w base 22 o.type 24 i _ 3 48 Tryd.underlying22 hi hz0 hz1 hz2 rfl (by omega) v n xs hown ⟨g, 0, none⟩ 1 c [u0, u1, u2] rfl hnews h1 (by unfold maxLen; omega) (Nat.le_trans (Nat.mul_le_mul_right _ hn) (by decide)) hbase
  unfold Oper.wp execOp
  simp only [ho, resolve, invoke, builtin, Sem.run_bind, Sem.run_pure, Result.andThen_ok, List.map_toArray, List.map_cons, List.map_nil, hs, hx, hr]
  exact h v' w' h2 h3 h4
theorem wpList_append_ex (hgd : o.guard = none) (s x : Operand) (ho : o.op = .call { callee := .builtin .append, args := #[s, x], argTypes := #[22, 22] })
    (base : Nat) (v : Value) (n : Nat) (xs : List Value) (g c : Nat) (u0 u1 u2 : Value) (hs : a.eval s = v) (hx : a.eval x = .slice (some ⟨g, 0, none⟩) 1 c) (hown : w.ownsRow base 24 3 v n xs)
    (hg : w.heap[g]? = some (.cells #[u0, u1, u2] 24)) (h1 : ∀ u ∈ [u0, u1, u2], u.oneCell' = true) (hn : n + 1 ≤ 100000000) (hbase : base ≤ w.heap.size)
    (h : ∀ v' w', w'.ownsRow base 24 3 v' (n + 1) (xs ++ [u0, u1, u2]) → w.grownBy w' v.ownBlock → (v'.ownBlock = v.ownBlock ∨ v'.ownBlock = some w.heap.size) → wpList Tryd.prog ops Q rest (a.put o.dst v') w') : wpList Tryd.prog ops Q (o :: rest) a w :=
  wpList_plain hgd fun _ hK => wp_append_ex s x ho base v n xs g c u0 u1 u2 hs hx hown hg h1 hn hbase fun v' w' h1 h2 h3 => hK _ _ (h v' w' h1 h2 h3)
end

theorem KRow.slice {w : World} {lo : Nat} {v : Value} {ks : List Ex} (h : KRow w lo v ks) (h1 : 1 ≤ ks.length) : ∃ g c, v = .slice (some ⟨g, 0, none⟩) ks.length c ∧ lo ≤ g ∧ g < w.heap.size ∧ ks.length ≤ c ∧ c ≤ maxLen := by
  obtain ⟨xs, h2, _⟩ := h
  have hlt := h2.lt
  obtain ⟨_, ⟨_, h0⟩ | ⟨g, cap, cur, hv, _, _, hn, hcap, _⟩⟩ := h2
  · omega
  · subst hv
    exact ⟨g, cap, rfl, (hlt g rfl).1, (hlt g rfl).2, hn, hcap⟩
/-- The only kid of a row. -/
theorem KRow.only {w : World} {lo g c : Nat} {e : Ex} (h : KRow w lo (.slice (some ⟨g, 0, none⟩) 1 c) [e]) : ∃ A n c', w.cell? ⟨g, 0, none⟩ = some (.int .u8 (e.op : Int)) ∧ w.cell? ⟨g, 1, none⟩ = some (.string e.name) ∧ w.cell? ⟨g, 2, none⟩ = some (.slice A n c') ∧ Exs w (From lo w.heap.size) (.slice A n c') e.kids := by
  obtain ⟨xs, h2, vk, ys, e1, h3, h4⟩ := h
  have hc := h2.cells rfl
  simp only [KC] at h4
  subst e1 h4
  have c0 := hc 0 _ rfl
  have c1 := hc 1 _ rfl
  have c2 := hc 2 _ rfl
  rw [add_cell] at c0 c1 c2
  obtain ⟨A, c', rfl, x1, x2, x3⟩ := id h3
  exact ⟨A, _, c', c0, c1, c2, h3.keep (fun b hb => ⟨hb.1, hb.2.1⟩) fun _ _ => rfl⟩
/-- A literal of one expression is a row of the call's own. -/
theorem KRow.first {w : World} {lo : Nat} {e : Ex} {A : Option Addr} {n c : Nat} (hlo : lo ≤ w.heap.size) (hk : Exs w (From lo w.heap.size) (.slice A n c) e.kids) :
    KRow (w.alloc (.cells #[.int .u8 (e.op : Int), .string e.name, .slice A n c] 24)) lo (.slice (some ⟨w.heap.size, 0, none⟩) 1 1) [e] := by
  refine ⟨[.int .u8 (e.op : Int), .string e.name, .slice A n c], ⟨rfl, .inr ⟨w.heap.size, 1, #[.int .u8 (e.op : Int), .string e.name, .slice A n c], rfl, hlo, heap_new _ _, Nat.le_refl _, by unfold maxLen; omega, rfl, rfl⟩⟩, _, [], rfl, ?_, rfl⟩
  exact hk.keep (fun b hb => ⟨hb.1, by have := hb.2; simp; omega, by intro h; have h5 : w.heap.size = b := Option.some.inj h; have := hb.2; omega⟩) fun b hb => Below.heap_alloc _ _ _ hb.2

/-- Where several's loop stands. -/
def SevRel (w : World) (R : Nat) (sep : List UInt8) (part : RdS → Ex × RdS) (n N : Nat) (e : Ex) (s1 : RdS) (g : Nat) (v : Value) (wx : World) : Prop :=
  ∃ (ks : List Ex) (t : List UInt8) (m : Int), KRow wx (w.heap.size + 1) v ks ∧ RdE wx R t m ∧ OnlyR R w wx ∧ wx.heap[w.heap.size]? = some (.cells #[.int .u8 0, .string ⟨#[]⟩, .slice none 0 0] 24) ∧ 1 ≤ ks.length ∧ ks.length + g ≤ 100 ∧ m.toNat ≤ g ∧ m.toNat ≤ n ∧ m ≤ 24 ∧ -1000 ≤ m ∧ t.length ≤ 50000000 ∧
    e :: (moreP sep part N s1).1 = ks ++ (moreP sep part g (t, m)).1 ∧ (moreP sep part N s1).2 = (moreP sep part g (t, m)).2
/-- The loop ends. -/
theorem more_end {sep : List UInt8} {part : RdS → Ex × RdS} {g : Nat} {s : RdS} (h : ¬ (0 < s.2 ∧ Lib.hasPrefix s.1 sep = true)) : moreP sep part g s = ([], s) := by
  cases g with
  | zero => rfl
  | succ g => rw [moreP, if_neg h]
theorem more_on {sep : List UInt8} {part : RdS → Ex × RdS} {g : Nat} {s : RdS} (h0 : 0 < s.2) (h : Lib.hasPrefix s.1 sep = true) : moreP sep part (g + 1) s = ((part (skipL s sep)).1 :: (moreP sep part g (part (skipL s sep)).2).1, (moreP sep part g (part (skipL s sep)).2).2) := by rw [moreP, if_pos ⟨h0, h⟩]
/-- What several answers, at its end. -/
theorem several_one {op : Nat} {sep : List UInt8} {part : RdS → Ex × RdS} {s : RdS} {e : Ex} {s1 : RdS} {x : Ex} {s2 : RdS} (hp : part s = (e, s1)) (h1 : e :: (moreP sep part s1.2.toNat s1).1 = [x]) (h2 : (moreP sep part s1.2.toNat s1).2 = s2) :
    severalP op sep part s = (x, s2) := by
  unfold severalP
  rw [hp]
  simp only
  subst h2
  injection h1 with h3 h4
  rw [h4, h3]
  rfl
theorem several_many {op : Nat} {sep : List UInt8} {part : RdS → Ex × RdS} {s : RdS} {e : Ex} {s1 : RdS} {ks : List Ex} {s2 : RdS} (hp : part s = (e, s1)) (h1 : e :: (moreP sep part s1.2.toNat s1).1 = ks) (h2 : (moreP sep part s1.2.toNat s1).2 = s2) (hk : ks.length ≠ 1) :
    severalP op sep part s = (.mk op ByteArray.empty ks, s2) := by
  unfold severalP
  rw [hp]
  simp only
  subst h1 h2
  rw [if_neg]
  intro h
  simp only [List.length_cons] at hk
  omega
end Go.Proofs.YtldmimekmjmkgaaDoor
