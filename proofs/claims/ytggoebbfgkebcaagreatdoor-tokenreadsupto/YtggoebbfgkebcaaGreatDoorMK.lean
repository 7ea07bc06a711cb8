/-
  One code point of a row of them, as a text.
  Rows of the document's tokens; its Head in a region that draws; `short`.
  What the document's Of answers: the tokens of nodes.
-/
import Derived.Test.YtggoebbfgkebcaaGreatDoorMB
import Derived.Test.YtggoebbfgkebcaaGreatDoorMJ
import Derived.Test.YtggoebbfgkebcaaGreatDoorMH
import Derived.Test.YtggoebbfgkebcaaGreatDoorArgN
namespace Go.Proofs.YtggoebbfgkebcaaGreatDoor
open Go.RowKit Go.Sort Go.Maps

/-- string(r[j:j+1]) -/
theorem run_piece (w : World) (g j c r : Nat) (h : w.cell? ⟨g, j, none⟩ = some (.int .i32 (r : Int))) :
    (convert 82 9 (.slice (some ⟨g, j, none⟩) 1 c)).run Tryz.prog w = .ok (.string ⟨(encL r).toArray⟩) w := by
  rw [run_convert_runes_string w 82 9 21 (some ⟨g, j, none⟩) 1 c Tryz.underlying82 Tryz.underlying21 Tryz.underlying9]
  have hl : (loadCells ⟨g, j, none⟩ 1).run Tryz.prog w = .ok ([(r : Int)].map (Value.int .i32)).toArray w := by
    simp [loadCells, loadCellsFrom, add_cell, h]
  rw [run_runesToString w ⟨g, j, none⟩ 1 c [(r : Int)] hl]
  have hd : (runesBytes [(r : Int)]).data.toList = encL r := by
    have := runesBytes_data [r]
    simpa using this
  rw [show runesBytes [(r : Int)] = ⟨(encL r).toArray⟩ from ByteArray.ext (Array.ext' (by simpa using hd))]
theorem arr_of (b : ByteArray) (l : List UInt8) (h : l = b.data.toList) : b = ⟨l.toArray⟩ := by
  subst h; exact ByteArray.ext (by simp)
theorem encB_arr (r : Nat) : encB r = ⟨(encL r).toArray⟩ :=
  (encB_eq r).trans (arr_of (Utf8.encode (r : Int)) (encL r) ((encL_eq r).trans (encZ_eq (r : Int))))
end Go.Proofs.YtggoebbfgkebcaaGreatDoor

namespace Go.Proofs.YtggoebbfgkebcaaGreatDoor
open Go.RowKit Go.Sort Go.Maps

/-- A row of the document's tokens of the call's own. -/
def RRow (w : World) (base : Nat) (v : Value) (l : List Tok) : Prop := w.ownsRow base 65 3 v l.length (l.flatMap tokCells)
theorem RRow.block {w : World} {base : Nat} {v : Value} {l : List Tok} (h : RRow w base v l) {g : Nat} (hg : v.ownBlock = some g) : base ≤ g ∧ ∃ cur, w.heap[g]? = some (.cells cur 65) := by
  rcases h.2 with ⟨rfl, _⟩ | ⟨g', cap, cur, rfl, hb, hg', _⟩
  · cases hg
  · injection hg with hg; subst hg; exact ⟨hb, cur, hg'⟩
theorem RRow.later {w w' : World} {base : Nat} {v : Value} {l : List Tok} (h : RRow w base v l) (hb : Below w.heap.size w w') : RRow w' base v l :=
  ownsRow_keep h fun g hg => hb.block _ (by obtain ⟨_, cur, hc⟩ := h.block hg; exact heap_lt hc)
/-- What is no row of the document's tokens stays. -/
def KeepR (w w' : World) : Prop := ∀ (b : Nat) (cs : Array Value) (T : TypeId), w.heap[b]? = some (Obj.cells cs T) → T ≠ 65 → w'.heap[b]? = some (Obj.cells cs T)
theorem KeepR.refl (w : World) : KeepR w w := fun _ _ _ h _ => h
theorem KeepR.trans {a b c : World} (h : KeepR a b) (k : KeepR b c) : KeepR a c := fun g cs T hg hT => k g cs T (h g cs T hg hT) hT
theorem KeepR.below {w w' : World} (h : Below w.heap.size w w') : KeepR w w' := fun b _ _ hb _ => (h.block b (heap_lt hb)).trans hb
theorem KeepR.grown {w w' : World} {base : Nat} {v : Value} {l : List Tok} (ho : RRow w base v l) (h : w.grownBy w' v.ownBlock) : KeepR w w' := fun b cs T hb hT => by
  refine (h.block b (heap_lt hb) fun e => ?_).trans hb
  obtain ⟨_, cur, hc⟩ := ho.block e.symm
  have := Option.some.inj (hb.symm.trans hc)
  injection this with _ h2 _
  exact hT h2
theorem RRow.below {w w' : World} {base : Nat} {v : Value} {l : List Tok} (h : RRow w base v l) (hg : w.grownBy w' v.ownBlock) (hbw : base ≤ w.heap.size) : Below base w w' :=
  (Below.refl _ _).grown hg hbw fun _ hk => (h.block hk).1
theorem rrow_nil (w : World) (base : Nat) : RRow w base (.slice none 0 0) [] := ⟨rfl, .inl ⟨rfl, rfl⟩⟩
theorem rrow_push {w' : World} {base : Nat} {v' : Value} {l : List Tok} {t : Tok} (h : w'.ownsRow base 65 3 v' (l.length + 1) (l.flatMap tokCells ++ tokCells t)) : RRow w' base v' (l ++ [t]) := by
  unfold RRow; rw [List.length_append, List.flatMap_append]; simpa using h
/-- append of the document's tokens to a row of the call's own. -/
theorem run_append_rtoks {w : World} {base : Nat} {S : Nat → Prop} {v x : Value} {l l' : List Tok} (ty : TypeId) (hown : RRow w base v l) (hsrc : Toks w S x l')
    (hn : l.length + l'.length ≤ 1000000) (hbase : base ≤ w.heap.size) :
    ∃ v' w', (Builtin.append_ #[31, 31] ty #[v, x]).run Tryz.prog w = .ok v' w' ∧ RRow w' base v' (l ++ l') ∧ w.grownBy w' v.ownBlock := by
  have fget : ∀ (l : List Tok) (j : Nat) (u : Value), (l.flatMap tokCells)[j]? = some u → ∃ i t k, j = i * 3 + k ∧ k < 3 ∧ l[i]? = some t ∧ (tokCells t)[k]? = some u := by
    intro l
    induction l with
    | nil => intro j u h; simp at h
    | cons t l ih =>
      intro j u h
      rw [List.flatMap_cons] at h
      by_cases hj : j < 3
      · rw [List.getElem?_append_left (by rw [tokCells_len]; exact hj)] at h
        exact ⟨0, t, j, by omega, hj, rfl, h⟩
      · rw [List.getElem?_append_right (by rw [tokCells_len]; omega), tokCells_len] at h
        obtain ⟨i, t', k, e, hk, hi, hu⟩ := ih _ u h
        exact ⟨i + 1, t', k, by omega, hk, by simpa using hi, hu⟩
  have flen : ∀ l : List Tok, (l.flatMap tokCells).length = l.length * 3 := by
    intro l
    induction l with
    | nil => rfl
    | cons t l ih => rw [List.flatMap_cons, List.length_append, ih, tokCells_len, List.length_cons]; omega
  obtain ⟨A, c, rfl, _, _, hsrc⟩ := hsrc
  obtain ⟨i, hi, hz0, hz1, hz2⟩ := info_parts rtok_info
  cases A with
  | none =>
    have hl : l' = [] := by
      rcases hsrc with h | ⟨b, o, h, _⟩
      · exact h
      · cases h
    subst hl
    refine ⟨v, w, ?_, by simpa using hown, ⟨rfl, rfl, rfl, Nat.le_refl _, fun _ _ _ => rfl⟩⟩
    rcases hown.2 with ⟨rfl, h0⟩ | ⟨g, cap, cur, rfl, _, _, hnc, _⟩
    · simp [Builtin.append_, run_underlying Tryz.underlying31, sizeOf, typeInfo, hi, Builtin.lenOf, Builtin.firstCells]
    · simp [Builtin.append_, run_underlying Tryz.underlying31, sizeOf, typeInfo, hi, Builtin.lenOf, Builtin.firstCells, hnc, storeCells]
  | some a =>
    have ha : ∀ j u, (l'.flatMap tokCells)[j]? = some u → w.cell? (a.add j) = some u := by
      rcases hsrc with h | ⟨b, o, h, _, hx⟩
      · subst h; intro j u h; simp at h
      · injection h with h; subst h
        intro j u hj
        obtain ⟨q, t, k, rfl, hk, hq, hu⟩ := fget l' j u hj
        obtain ⟨x0, x1, x2⟩ := hx q t hq
        rw [add_cell]
        have hu' : u = [(.int .u8 (t.kind : Int) : Value), .string t.text, .string t.head].getD k (.bool false) := by
          rw [List.getD_eq_getElem?_getD]; unfold tokCells at hu; rw [hu]; rfl
        match k, hk with
        | 0, _ => rw [← Nat.add_assoc, hu']; exact x0
        | 1, _ => rw [← Nat.add_assoc, hu']; exact x1
        | 2, _ => rw [← Nat.add_assoc, hu']; exact x2
    have hone : ∀ u ∈ l'.flatMap tokCells, u.oneCell' = true := by
      intro u hu
      obtain ⟨t, _, ht⟩ := List.mem_flatMap.1 hu
      exact tok_one t u ht
    obtain ⟨v', w', hr, h1, h2, _, h4⟩ := run_append_own_at (P := Tryz.prog) w base 31 ty 65 i _ 3 40 Tryz.underlying31 hi hz0 hz1 hz2 rfl (by omega) v l.length _ hown a l'.length c _ (flen l') ha hone (by unfold maxLen; omega) (by omega) hbase
    exact ⟨v', w', hr, by unfold RRow; rw [List.length_append, List.flatMap_append]; exact h1, h2⟩

section
variable {w : World} {ops : Array Oper} {rest : List Oper} {o : Oper} {a : Act} {Q : Exit → Act → World → Prop}
theorem wpList_append_rtoks (hgd : o.guard = none) (s x : Operand) (ho : o.op = .call { callee := .builtin .append, args := #[s, x], argTypes := #[31, 31] })
    (base : Nat) (S : Nat → Prop) (v u : Value) (l l' : List Tok) (hs : a.eval s = v) (hx : a.eval x = u) (hown : RRow w base v l) (hsrc : Toks w S u l')
    (hn : l.length + l'.length ≤ 1000000) (hbase : base ≤ w.heap.size)
    (h : ∀ v' w', RRow w' base v' (l ++ l') → w.grownBy w' v.ownBlock → wpList Tryz.prog ops Q rest (a.put o.dst v') w') : wpList Tryz.prog ops Q (o :: rest) a w :=
  wpList_plain hgd fun _ hK => by
    obtain ⟨v', w', hr, h1, h2⟩ := run_append_rtoks o.type hown hsrc hn hbase
    unfold Oper.wp execOp
    simp only [ho, resolve, invoke, builtin, Sem.run_bind, Sem.run_pure, Result.andThen_ok, List.map_toArray, List.map_cons, List.map_nil, hs, hx, hr]
    exact hK _ _ (h v' w' h1 h2)
/-- The document's Head, in a region that draws its order. -/
theorem step_rhead {K : Act → World → Prop} {E : Prop} (hgd : o.guard = none) (x : Operand) (ho : o.op = .call { callee := .value (.func 40), args := #[x], argTypes := #[41] }) {v : Value} {t : Tree} (hx : a.eval x = v)
    (hN : Node w (Under w.heap.size) v t) (hw : weigh t ≤ 1000000)
    (h : ∀ w', Below w.heap.size w w' → K (a.put o.dst (.string (headT t))) w') :
    if Region.wanted o (yielded ops a.tmps) = true then Oper.wp Tryz.prog o a w K Q else E := by
  have hwn : Region.wanted o (yielded ops a.tmps) = true := by simp [Region.wanted, hgd]
  rw [if_pos hwn]
  have hrun : (execOp a.eval o).run Tryz.prog w = .ok (.enter 40 #[v]) w := by
    have hf : a.eval (.func 40) = .func (.func 40) #[] #[] := rfl
    obtain ⟨c, hc⟩ : ∃ c, Tryz.f40.body = some c := Option.isSome_iff_exists.1 (by kernel_rfl)
    have hne : ¬ Tryz.f40.name = "runtime.NumGoroutine" := of_decide_eq_false (by kernel_rfl)
    simp [execOp, ho, resolve, invoke, hx, hf, Deferred.ofValue, callFunc, hne, hc]
  unfold Oper.wp
  rw [hrun, Oper.upon_enter]
  refine (rhead_any v t w hN hw).mono fun e w'' hh => ?_
  obtain ⟨q, rfl, hq, hb⟩ := hh
  have : q = headT t := ByteArray.ext (Array.ext' (by rw [hq]; unfold headT; simp))
  subst this
  exact h w'' hb
end
end Go.Proofs.YtggoebbfgkebcaaGreatDoor

namespace Go.Proofs.YtggoebbfgkebcaaGreatDoor
open Go.RowKit Go.Sort Go.Maps

theorem run_runes2 (w : World) (s : ByteArray) (hs : s.size ≤ 100000000) :
    ∃ (c : Nat) (cs : Array Value), (convert 9 82 (.string s)).run Tryz.prog w = .ok (.slice (some ⟨w.heap.size, 0, none⟩) (pts s.data.toList).length c) (w.drew.alloc (.cells cs 21)) ∧ (pts s.data.toList).length ≤ c ∧
      ∀ (i r : Nat), (pts s.data.toList)[i]? = some r → cs[i]? = some (Value.int .i32 (r : Int)) := by
  have he : Conv.runesFrom s s.size 0 #[] = ((pts s.data.toList).map fun r : Nat => Value.int .i32 (r : Int)).toArray := by
    rw [runesFrom_eq s s.size 0 #[] (by omega)]; simp
  have hsz : (Conv.runesFrom s s.size 0 #[]).size = (pts s.data.toList).length := by rw [he]; simp
  have hle := size_runesFrom s s.size 0 #[]
  have hrun := run_runes_of_string (P := Tryz.prog) w 9 82 21 s Tryz.underlying9 Tryz.underlying82 Tryz.underlying21 (by simp at hle; omega)
  have hge := grownCap_ge w (Conv.runesFrom s s.size 0 #[]).size 0 21
  rw [hsz] at hrun hge
  refine ⟨_, _, hrun, by omega, fun i r hr => ?_⟩
  have hi := (List.getElem?_eq_some_iff.1 hr).1
  rw [he, Array.getElem?_append_left (by simpa using hi)]
  simp [hr]

theorem signT_text' (h : ByteArray) (r : Nat) : (signT h r).text = encB r := by
  unfold signT
  generalize encB r = s
  rfl
theorem sign_cells (h : ByteArray) (r : Nat) : tokCells (signT h r) = [.int .u8 116, .string ⟨(encL r).toArray⟩, .string h] := by
  unfold tokCells
  rw [signT_text', encB_arr]
  rfl
def RofSaid (n : Nat) : Prop := ∀ (l : List Tree) (v : Value) (w : World), weighAll l ≤ n → weighAll l ≤ 1000000 → Kids w (Under w.heap.size) v l →
  Calls Tryz.prog 24 #[v] w fun e w' => ∃ v', e = .returned v' ∧ Toks w' (From w.heap.size w'.heap.size) v' (toksB l) ∧ Below w.heap.size w w'

abbrev NodeO (x : Tree) (A1 A2 A3 : Option Addr) (n1 c1 n2 c2 n3 c3 : Nat) : Obj := .cells #[.string x.kind, .string x.text, .slice A1 n1 c1, .slice A2 n2 c2, .slice A3 n3 c3] 41

set_option maxHeartbeats 8000000 in
set_option maxRecDepth 100000 in
theorem rof_walk : ∀ n, RofSaid n := by
  intro n
  induction n using Nat.strongRecOn with
  | ind n ih =>
    have IH := Lib.hid ih
    clear ih
    intro l v w hn hw hK
    have hlen : l.length ≤ 1000000 := by have := length_le_weigh l; omega
    obtain ⟨A, c, rfl, hlc⟩ := hK.form
    have HL := Lib.hid hK
    clear hK
    go_enter Tryz.func24, Tryz.ntmps24
    go_wp2
    go_loopw [3, 4] (fun v i wr => ∃ k : Nat, k ≤ l.length ∧ i = .int .i64 k ∧ Hid (RRow wr w.heap.size v (toksB (l.take k))) ∧ Below w.heap.size w wr) (fun _ i _ => l.length - (intOf i).toNat)
    case atStart => exact ⟨0, by omega, rfl, Lib.hid (by simpa [toksB] using rrow_nil w w.heap.size), Below.refl _ _⟩
    case round =>
      obtain ⟨k, hk, rfl, hown, hbr⟩ := hrel
      have hws := hbr.size
      by_cases hlt : k < l.length
      · obtain ⟨b, o, rfl, hub, hrow⟩ := HL.out.get hlt
        have hlx : l[k]? = some l[k] := List.getElem?_eq_getElem hlt
        have HTT : Hid (toksB (l.take (k + 1)) = toksB (l.take k) ++ tokB l[k]) := Lib.hid (by rw [List.take_succ_eq_append_getElem hlt, toksB_append, toksB_one])
        have HCT : Hid ((toksB (l.take k)).length + (tokB l[k]).length ≤ 1000000) := Lib.hid (by
          have h1 := weighAll_take l (k + 1)
          have h2 := total_le_weigh (l.take (k + 1))
          have h3 := congrArg List.length HTT.out
          rw [List.length_append, toksB_len] at h3
          omega)
        generalize l[k] = x at *
        generalize toksB (l.take k) = acc at *
        have hwx := weigh_mem (List.mem_of_getElem? hlx)
        have hkx := kids_weigh x
        have hxt := text_le_weigh x
        obtain ⟨xm, xa, xk, e0, e1, e2, e3, e4, exm, exa, exk⟩ := hrow.node hlx
        obtain ⟨A1, c1, rfl, _⟩ := exm.form
        obtain ⟨A2, c2, rfl, _⟩ := exa.form
        obtain ⟨A3, c3, rfl, _⟩ := exk.form
        have HKX := Lib.hid exk
        have HXN : Hid (∀ W, Below w.heap.size w W → Node W (Under W.heap.size) (.agg #[.string x.kind, .string x.text, .slice A1 x.marks.length c1, .slice A2 x.attrs.length c2, .slice A3 x.kids.length c3]) x) := Lib.hid fun W hW => Node.keep (S := Under w.heap.size) ⟨_, _, _, rfl, exm, exa, exk⟩ (fun _ h => Nat.lt_of_lt_of_le h hW.size) (fun b h => hW.block b h)
        have f0 := cell_kept e0 hbr
        have f1 := cell_kept e1 hbr
        have f2 := cell_kept e2 hbr
        have f3 := cell_kept e3 hbr
        have f4 := cell_kept e4 hbr
        have HB5 : Hid (Below wr.heap.size wr (wr.alloc (NodeO x A1 A2 A3 x.marks.length c1 x.attrs.length c2 x.kids.length c3))) := Lib.hid ((Below.refl _ _).alloc (Nat.le_refl _) _)
        have HX5 : Hid ((wr.alloc (NodeO x A1 A2 A3 x.marks.length c1 x.attrs.length c2 x.kids.length c3)).heap[wr.heap.size]? = some (NodeO x A1 A2 A3 x.marks.length c1 x.attrs.length c2 x.kids.length c3)) := Lib.hid (heap_new _ _)
        have HR5 := Lib.hid (hown.out.later HB5.out)
        have HBW5 := Lib.hid (hbr.trans (HB5.out.mono hws))
        obtain ⟨B3, m3, d3, rfl⟩ := ownsRow_form hown.out
        obtain ⟨n0, n1, n2, n3, n4⟩ := five_cells HX5.out
        clear e0 e1 e2 e3 e4 exm exa exk hlx hrow hown
        cases hT : isTxt x.kind with
        | true =>
          have hk' : (x.kind.toList == [116, 101, 120, 116]) = true := hT
          have HTB : Hid (tokB x = (pts x.text.data.toList).map (signT (headT x))) := Lib.hid (tokB_text x hT)
          have hpl := pts_len x.text.data.toList
          have hpz := Lib.size_eq x.text
          go_upto_region 7 with fail
          generalize hW5 : wr.alloc (NodeO x A1 A2 A3 x.marks.length c1 x.attrs.length c2 x.kids.length c3) = W5 at *
          clear hW5
          obtain ⟨cr, cs, hrun, hcr, hcell⟩ := run_runes2 W5 x.text (by omega)
          have hpl2 : (pts x.text.data.toList).length ≤ 1000000 := by omega
          have HCS := Lib.hid hcell
          have HB6 : Hid (Below W5.heap.size W5 (W5.alloc (.cells cs 21)).drew) := Lib.hid ((Below.refl _ _).alloc (Nat.le_refl _) _).drew
          have HP6 : Hid ((W5.alloc (.cells cs 21)).drew.heap[W5.heap.size]? = some (.cells cs 21)) := Lib.hid (show (W5.alloc (.cells cs 21)).heap[W5.heap.size]? = _ from heap_new _ _)
          have HX6 : Hid ((W5.alloc (.cells cs 21)).drew.heap[wr.heap.size]? = some (NodeO x A1 A2 A3 x.marks.length c1 x.attrs.length c2 x.kids.length c3)) := Lib.hid ((HB6.out.block _ (heap_lt HX5.out)).trans HX5.out)
          have HR6 := Lib.hid (HR5.out.later HB6.out)
          have HBW6 := Lib.hid (belowNext HBW5.out HB6.out)
          generalize pts x.text.data.toList = ps at *
          clear hcell f0 f1 f2 f3 f4 hpl hpz
          go_wp2_with fail
          clear hrun
          generalize W5.heap.size = g5 at *
          generalize (W5.alloc (.cells cs 21)).drew = W6 at *
          clear n0 n1 n2 n3 n4
          generalize wr = wo at *
          go_loopw [3, 7] (fun v j wr => ∃ q : Nat, q ≤ ps.length ∧ j = .int .i64 q ∧ Hid (RRow wr w.heap.size v (acc ++ (ps.take q).map (signT (headT x)))) ∧ Below w.heap.size w wr ∧ Hid (KeepR W6 wr)) (fun _ j _ => ps.length - (intOf j).toNat)
          case atStart => exact ⟨0, by omega, rfl, Lib.hid (by simpa using HR6.out), HBW6.out, Lib.hid (KeepR.refl _)⟩
          case round =>
            obtain ⟨q, hq, rfl, hrw, hbq, hkp⟩ := hrel
            by_cases hltq : q < ps.length
            · have hpq : ps[q]? = some ps[q] := List.getElem?_eq_getElem hltq
              have HTKq : Hid (acc ++ (ps.take (q + 1)).map (signT (headT x)) = (acc ++ (ps.take q).map (signT (headT x))) ++ [signT (headT x) ps[q]]) := Lib.hid (by rw [List.take_succ_eq_append_getElem hltq, List.map_append, List.append_assoc]; rfl)
              have HLQ : Hid ((acc ++ (ps.take q).map (signT (headT x))).length + 1 ≤ 1000000) := Lib.hid (by
                have h1 := HCT.out
                rw [HTB.out, List.length_map] at h1
                rw [List.length_append, List.length_map, List.length_take]; omega)
              generalize ps[q] = r at *
              generalize acc ++ (ps.take q).map (signT (headT x)) = cur at *
              have HBX := Lib.hid (hkp.out _ _ _ HX6.out (by decide))
              have HPX := Lib.hid (hkp.out _ _ _ HP6.out (by decide))
              have hcl : wr.cell? ⟨g5, q, none⟩ = some (.int .i32 (r : Int)) := by simp [World.cell?, HPX.out, HCS.out q r hpq]
              obtain ⟨n0, n1, n2, n3, n4⟩ := five_cells HBX.out
              have hcv0 := fun c => run_piece wr g5 q c r hcl
              have hcv1 := fun c => run_piece wr.drew g5 q c r hcl
              have hn1 : IntKind.i64.wrap ((q : Int) + 1) = (q : Int) + 1 := IntWalk.i64_in _ (by omega)
              have hn2 : ((q : Int) + 1).toNat = q + 1 := by omega
              have hn3 : q + 1 ≤ cr := by omega
              have hn4 : q ≤ cr := by omega
              have hn5 : ¬ cr = q := by omega
              have hn6 : (0 : Int) ≤ (q : Int) + 1 := by omega
              have hn7 : (q : Int) + 1 ≤ (cr : Int) := by omega
              have hn8 : decide ((ps.length : Int) ≤ (q : Int)) = false := by rw [decide_eq_false_iff_not]; omega
              have hn9 : ¬ (ps.length : Int) ≤ (q : Int) := by omega
              have hwx2 : weigh x ≤ 1000000 := by omega
              obtain ⟨B4, m4, d4, rfl⟩ := ownsRow_form hrw.out
              have HBQ := Lib.hid hbq.drew
              clear hpq
              go_wp2_with fail
              go_region_law (first
                | ((refine step_rhead rfl (.tmp 37) rfl (v := .agg #[.string x.kind, .string x.text, .slice A1 x.marks.length c1, .slice A2 x.attrs.length c2, .slice A3 x.kids.length c3]) (t := x) rfl (HXN.out _ HBQ.out) hwx2 ?_); intro wh hbh; have hclh := cell_kept (w := wr.drew) hcl hbh; have hcvh := fun c => run_piece wh g5 q c r hclh; have HRh := Lib.hid ((hrw.out.later ((Below.refl _ _).drew)).later hbh); have HBh := Lib.hid (belowNext HBQ.out hbh); have HKh := Lib.hid (hkp.out.trans ((KeepR.below ((Below.refl _ _).drew)).trans (KeepR.below hbh))); clear hbh)
                | (refine step_append_gen Tryz.underlying31 rtok_info rfl (by decide) (by decide) rfl (.tmp 30) (.tmp 40) rfl w.heap.size (.slice B4 m4 d4) cur.length (cur.flatMap tokCells) wh.heap.size 1 [.int .u8 116, .string ⟨(encL r).toArray⟩, .string (headT x)] rfl rfl (HRh.out.later ((Below.refl _ _).alloc (Nat.le_refl _) _)) rfl (fun j u hj => fresh_cell wh _ _ j u (by simpa using hj)) (by intro u hu; simp only [List.mem_cons, List.not_mem_nil, or_false] at hu; rcases hu with rfl | rfl | rfl <;> rfl) (Nat.le_trans HLQ.out (by decide)) (Nat.le_trans HBh.out.size (by simp)) ?_; intro v6 w6 hown6 hg6; have HR6' := Lib.hid (rrow_push (t := signT (headT x) r) (by rw [sign_cells]; exact hown6)); have HB6' := Lib.hid (HBh.out.trans (((Below.refl w.heap.size wh).alloc HBh.out.size _).grown hg6 (Nat.le_trans HBh.out.size (by simp)) fun k hk => (HRh.out.block hk).1)); have HK6' := Lib.hid (HKh.out.trans ((KeepR.below ((Below.refl _ _).alloc (Nat.le_refl _) _)).trans (KeepR.grown (HRh.out.later ((Below.refl _ _).alloc (Nat.le_refl _) _)) hg6))); clear hown6 hg6))
              all_goals
                go_wp2
                exact ⟨⟨q + 1, by omega, by go_num, Lib.hid (by rw [HTKq.out]; exact HR6'.out), HB6'.out, HK6'⟩, by simp [intOf]; omega⟩
            · obtain rfl : q = ps.length := by omega
              rw [List.take_length] at hrw
              go_wp2
              exact ⟨⟨k + 1, by omega, by go_num, Lib.hid (by rw [HTT.out, HTB.out]; exact hrw.out), hbq⟩, by simp [intOf]; omega⟩
        | false =>
          have hk' : (x.kind.toList == [116, 101, 120, 116]) = false := hT
          have HTB : Hid (tokB x = openT (headT x) :: (toksB x.kids ++ [closeT])) := Lib.hid (tokB_node x hT)
          have HC2 : Hid (acc.length + (toksB x.kids).length + 2 ≤ 1000000) := Lib.hid (by
            have h1 := HCT.out
            rw [HTB.out, List.length_cons, List.length_append, List.length_cons, List.length_nil] at h1; omega)
          have hwx2 : weigh x ≤ 1000000 := by omega
          go_wp2_with fail
          clear f0 f1 f2 f3 f4
          generalize wr.alloc (NodeO x A1 A2 A3 x.marks.length c1 x.attrs.length c2 x.kids.length c3) = W5 at *
          refine (rhead_any _ x W5 (HXN.out _ HBW5.out) hwx2).mono ?_
          rintro e w6 ⟨q, rfl, hq, hb6⟩
          have hqh : q = headT x := ByteArray.ext (Array.ext' (by rw [hq]; unfold headT; simp))
          subst hqh
          have HB6 := Lib.hid (belowNext HBW5.out hb6)
          have HR6 := Lib.hid (HR5.out.later hb6)
          have HX6 := Lib.hid ((hb6.block _ (heap_lt HX5.out)).trans HX5.out)
          have HL1 : Hid (acc.length + 1 ≤ 100000000) := Lib.hid (by have := HC2.out; omega)
          clear hq hb6 n0 n1 n2 n3 n4
          go_wp2_with (at_builtin; refine wpList_append_gen Tryz.underlying31 rtok_info rfl (by decide) (by decide) rfl (.tmp 42) (.tmp 46) rfl w.heap.size (.slice B3 m3 d3) acc.length (acc.flatMap tokCells) w6.heap.size 1 [.int .u8 111, .string ⟨#[]⟩, .string (headT x)] rfl rfl (HR6.out.later ((Below.refl _ _).alloc (Nat.le_refl _) _)) rfl (fun j u hj => fresh_cell w6 _ _ j u (by simpa using hj)) (by intro u hu; simp only [List.mem_cons, List.not_mem_nil, or_false] at hu; rcases hu with rfl | rfl | rfl <;> rfl) HL1.out (Nat.le_trans HB6.out.size (by simp)) ?_; intro v7 w7 hown7 hg7; have HR7 := Lib.hid (rrow_push (t := openT (headT x)) hown7); have HB7 := Lib.hid (HB6.out.trans (((Below.refl w.heap.size w6).alloc HB6.out.size _).grown hg7 (Nat.le_trans HB6.out.size (by simp)) fun k hk => (HR6.out.block hk).1)); have HX7 := Lib.hid (((KeepR.below ((Below.refl _ _).alloc (Nat.le_refl _) _)).trans (KeepR.grown (HR6.out.later ((Below.refl _ _).alloc (Nat.le_refl _) _)) hg7)) _ _ _ HX6.out (by decide)); clear hown7 hg7; obtain ⟨n0, n1, n2, n3, n4⟩ := five_cells HX7.out)
          refine (IH.out (weighAll x.kids) (by omega) x.kids _ w7 (Nat.le_refl _) (by omega) (HKX.out.keep (fun _ h => Nat.lt_of_lt_of_le h HB7.out.size) (fun b h => HB7.out.block b h))).mono ?_
          rintro e w8 ⟨v8, rfl, ht8, hb8⟩
          have HB8 := Lib.hid (belowNext HB7.out hb8)
          have HR8 := Lib.hid (HR7.out.later hb8)
          have HT8 := Lib.hid ht8
          have HL2 : Hid ((acc ++ [openT (headT x)]).length + (toksB x.kids).length ≤ 1000000) := Lib.hid (by have := HC2.out; rw [List.length_append, List.length_cons, List.length_nil]; omega)
          have HL3 : Hid (((acc ++ [openT (headT x)]) ++ toksB x.kids).length + 1 ≤ 100000000) := Lib.hid (by have := HC2.out; rw [List.length_append, List.length_append, List.length_cons, List.length_nil]; omega)
          obtain ⟨B7, m7, d7, rfl⟩ := ownsRow_form HR8.out
          obtain ⟨A8, c8, rfl, _⟩ := ht8.form
          clear ht8 hb8
          go_wp2_with (first
            | (at_builtin; refine wpList_append_rtoks rfl (.tmp 48) (.tmp 51) rfl w.heap.size (From w7.heap.size w8.heap.size) _ _ (acc ++ [openT (headT x)]) (toksB x.kids) rfl rfl HR8.out HT8.out HL2.out HB8.out.size ?_; intro v9 w9 hr9 hg9; have HR9 := Lib.hid hr9; have HB9 := Lib.hid (HB8.out.trans (HR8.out.below hg9 HB8.out.size)); clear hr9 hg9; obtain ⟨B9, m9, d9, rfl⟩ := ownsRow_form HR9.out)
            | (at_builtin; refine wpList_append_gen Tryz.underlying31 rtok_info rfl (by decide) (by decide) rfl (.tmp 53) (.tmp 55) rfl w.heap.size (.slice B9 m9 d9) ((acc ++ [openT (headT x)]) ++ toksB x.kids).length (((acc ++ [openT (headT x)]) ++ toksB x.kids).flatMap tokCells) w9.heap.size 1 [.int .u8 99, .string ⟨#[]⟩, .string ⟨#[]⟩] rfl rfl (HR9.out.later ((Below.refl _ _).alloc (Nat.le_refl _) _)) rfl (fun j u hj => fresh_cell w9 _ _ j u (by simpa using hj)) (by intro u hu; simp only [List.mem_cons, List.not_mem_nil, or_false] at hu; rcases hu with rfl | rfl | rfl <;> rfl) HL3.out (Nat.le_trans HB9.out.size (by simp)) ?_; intro v10 w10 hown10 hg10; have HR10 := Lib.hid (rrow_push (t := closeT) hown10); have HB10 := Lib.hid (HB9.out.trans (((Below.refl w.heap.size w9).alloc HB9.out.size _).grown hg10 (Nat.le_trans HB9.out.size (by simp)) fun k hk => (HR9.out.block hk).1)); clear hown10 hg10))
          exact ⟨⟨k + 1, by omega, by go_num, Lib.hid (by rw [HTT.out, HTB.out]; simpa using HR10.out), HB10.out⟩, by simp [intOf]; omega⟩
      · obtain rfl : k = l.length := by omega
        rw [List.take_length] at hown
        go_wp2
        go_ret
        exact ⟨_, rfl, toks_of_own hown.out, hbr⟩
end Go.Proofs.YtggoebbfgkebcaaGreatDoor
