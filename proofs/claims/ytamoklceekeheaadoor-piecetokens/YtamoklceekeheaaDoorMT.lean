/-
  What codec.Head answers.
  Tokens: what they are, and a row of them as the call's own; what token.Of answers.
  The token behind a position is what its spot says (no program is named here but for the type of tokens).
  The tokens of rows that are joined, and of a tree with another node there (no program is named here but for the type of tokens).
  What token.Of answers.
  What token.Same and token.Back answer.
-/
import Derived.Test.YtamoklceekeheaaDoorMA
import Derived.Test.YtamoklceekeheaaDoorMB
import Derived.Laws.RangeAny
import Derived.Laws.Runes
import Derived.WalkMore
import Derived.Test.YtamoklceekeheaaDoorPlA
import Derived.Lib.QuietBelow
import Derived.Laws.StructEq
namespace Go.Proofs.YtamoklceekeheaaDoor
open Go.RowKit Go.Sort

set_option maxHeartbeats 1000000 in
theorem head_any (v : Value) (t : Tree) (w : World) (h : Node w (Under w.heap.size) v t) (hw : weigh t ≤ 1000000) :
    Calls Tryd.prog 52 #[v] w fun e w' => e = .returned (.string ⟨(headW t).toArray⟩) ∧ Below w.heap.size w w' := by
  obtain ⟨vm, va, vk, rfl, hm, ha, hk⟩ := h
  obtain ⟨A1, c1, rfl, _⟩ := hm.form
  obtain ⟨A2, c2, rfl, _⟩ := ha.form
  obtain ⟨A3, c3, rfl, _⟩ := hk.form
  have HN : Hid (Node w (Under w.heap.size) (.agg #[.string t.kind, .string t.text, .slice A1 t.marks.length c1, .slice A2 t.attrs.length c2, .slice A3 t.kids.length c3]) t) := Lib.hid ⟨_, _, _, rfl, hm, ha, hk⟩
  clear hm ha hk
  have hb0 : Below w.heap.size w (w.alloc (.cells #[.string t.kind, .string t.text, .slice A1 t.marks.length c1, .slice A2 t.attrs.length c2, .slice A3 t.kids.length c3] 28)) := (Below.refl _ _).alloc (Nat.le_refl _) _
  have hz0 : (w.alloc (.cells #[.string t.kind, .string t.text, .slice A1 t.marks.length c1, .slice A2 t.attrs.length c2, .slice A3 t.kids.length c3] 28)).heap.size = w.heap.size + 1 := by simp
  have HB0 := Lib.hid hb0
  clear hb0
  go_enter Tryd.func52, Tryd.ntmps52
  go_wp2_with fail
  have HB := Lib.hid (buil_new (w.alloc (.cells #[.string t.kind, .string t.text, .slice A1 t.marks.length c1, .slice A2 t.attrs.length c2, .slice A3 t.kids.length c3] 28)))
  have HW : Hid (Below (w.alloc (.cells #[.string t.kind, .string t.text, .slice A1 t.marks.length c1, .slice A2 t.attrs.length c2, .slice A3 t.kids.length c3] 28)).heap.size (w.alloc (.cells #[.string t.kind, .string t.text, .slice A1 t.marks.length c1, .slice A2 t.attrs.length c2, .slice A3 t.kids.length c3] 28)) ((w.alloc (.cells #[.string t.kind, .string t.text, .slice A1 t.marks.length c1, .slice A2 t.attrs.length c2, .slice A3 t.kids.length c3] 28)).alloc (.cells #[.pointer none, .slice none 0 0] 99))) := Lib.hid ((Below.refl _ _).alloc (Nat.le_refl _) _)
  rw [← hz0]
  clear hz0
  generalize w.alloc (.cells #[.string t.kind, .string t.text, .slice A1 t.marks.length c1, .slice A2 t.attrs.length c2, .slice A3 t.kids.length c3] 28) = W0 at *
  generalize W0.alloc (.cells #[.pointer none, .slice none 0 0] 99) = W1 at *
  refine (writeHead_any W0.heap.size W0.heap.size [] _ t W1 HB.out (((HN.out.below HB0.out).more HB0.out.size).below HW.out) hw (by simp) HW.out.size).mono ?_
  rintro e w2 ⟨rfl, hb2, hB2, _⟩
  have HB2 := Lib.hid hb2
  have hW2 := HW.out.trans hB2
  clear hb2 hB2
  go_wp2_with fail
  refine (string_any W0.heap.size W0.heap.size _ w2 HB2.out hW2.size).mono ?_
  rintro e w3 ⟨rfl, _, hB3, _⟩
  have hW3 := belowNext HB0.out (hW2.trans hB3)
  clear hB3
  go_wp2
  go_ret
  exact ⟨rfl, hW3⟩
end Go.Proofs.YtamoklceekeheaaDoor

namespace Go.Proofs.YtamoklceekeheaaDoor
open Go.RowKit Go.Sort Go.Maps

/-- A token. -/
structure Tok where
  kind : Nat
  text : ByteArray
  head : ByteArray
deriving DecidableEq
/-- The text of one code point. -/
def encB (r : Nat) : ByteArray := Utf8.encode (r : Int)
theorem encB_eq (r : Nat) : encB r = Utf8.encode (r : Int) := rfl
def signT (h : ByteArray) (r : Nat) : Tok := ⟨116, encB r, h⟩
def openT (h : ByteArray) : Tok := ⟨111, ⟨#[]⟩, h⟩
def closeT : Tok := ⟨99, ⟨#[]⟩, ⟨#[]⟩⟩
def headT (t : Tree) : ByteArray := ⟨(headW t).toArray⟩
/-! ### the tokens of a node, and of nodes -/
mutual
def tokB : Tree → List Tok
  | .mk k t m a l => if isTxt k then (pts t.data.toList).map (signT (headT (.mk k t m a l))) else openT (headT (.mk k t m a l)) :: (toksB l ++ [closeT])
def toksB : List Tree → List Tok
  | [] => []
  | t :: l => tokB t ++ toksB l
end
theorem tokB_text (t : Tree) (h : isTxt t.kind = true) : tokB t = (pts t.text.data.toList).map (signT (headT t)) := by
  obtain ⟨k, x, m, a, l⟩ := t; simp only [Tree.kind] at h; simp [tokB, h, Tree.text]
theorem tokB_node (t : Tree) (h : isTxt t.kind = false) : tokB t = openT (headT t) :: (toksB t.kids ++ [closeT]) := by
  obtain ⟨k, x, m, a, l⟩ := t; simp only [Tree.kind] at h; simp [tokB, h, Tree.kids]
theorem toksB_append : ∀ a b : List Tree, toksB (a ++ b) = toksB a ++ toksB b
  | [], b => by simp [toksB]
  | x :: a, b => by rw [List.cons_append, toksB, toksB, toksB_append a b, List.append_assoc]
theorem toksB_one (t : Tree) : toksB [t] = tokB t := by simp [toksB]
theorem ptsF_len : ∀ (n : Nat) (l : List UInt8), (ptsF n l).length ≤ n
  | 0, _ => by simp [ptsF]
  | n + 1, l => by
    simp only [ptsF]; split
    · simp
    · have := ptsF_len n (l.drop (Lib.decodeL l).2); simp only [List.length_cons]; omega
theorem pts_len (l : List UInt8) : (pts l).length ≤ l.length := ptsF_len _ l

def tokCells (t : Tok) : List Value := [.int .u8 (t.kind : Int), .string t.text, .string t.head]
theorem tokCells_len (t : Tok) : (tokCells t).length = 3 := rfl
/-- A row of tokens of the call's own. -/
def TRow (w : World) (base : Nat) (v : Value) (l : List Tok) : Prop := w.ownsRow base 53 3 v l.length (l.flatMap tokCells)
theorem tok_info : (Tryd.prog.info? 53).map (fun i => (i.zero, i.size, i.bytes)) = some (some (.agg #[.int .u8 0, .string ⟨#[]⟩, .string ⟨#[]⟩]), 3, 40) := by kernel_rfl

theorem ownsRow_keep {w w' : World} {base : Nat} {e : TypeId} {size : Nat} {v : Value} {n : Nat} {xs : List Value} (h : w.ownsRow base e size v n xs) (k : ∀ g, v.ownBlock = some g → w'.heap[g]? = w.heap[g]?) : w'.ownsRow base e size v n xs := by
  refine ⟨h.1, ?_⟩
  rcases h.2 with hn | ⟨g, cap, cur, hv, hb, hg, rest⟩
  · exact .inl hn
  · exact .inr ⟨g, cap, cur, hv, hb, (k g (by rw [hv]; rfl)).trans hg, rest⟩
theorem TRow.block {w : World} {base : Nat} {v : Value} {l : List Tok} (h : TRow w base v l) {g : Nat} (hg : v.ownBlock = some g) : base ≤ g ∧ ∃ cur, w.heap[g]? = some (.cells cur 53) := by
  rcases h.2 with ⟨rfl, _⟩ | ⟨g', cap, cur, rfl, hb, hg', _⟩
  · cases hg
  · injection hg with hg; subst hg; exact ⟨hb, cur, hg'⟩

/-- The variable that holds the row (block pt), the walk itself (block p). -/
structure TokAt (w : World) (base pt p : Nat) (v : Value) (l : List Tok) : Prop where
  var : w.heap[pt]? = some (.cells #[v] 50)
  row : TRow w base v l
  self : w.heap[p]? = some (.cells #[.func (.func 51) #[] #[.pointer (some ⟨pt, 0, none⟩), .pointer (some ⟨p, 0, none⟩)]] 69)
  nn : v ≠ .slice none 0 0
theorem TokAt.ne {w : World} {base pt p : Nat} {v : Value} {l : List Tok} (h : TokAt w base pt p v l) : pt ≠ p := fun e => by
  subst e; have := h.var.symm.trans h.self; injection this with this; injection this with _ this; exact absurd this (by decide)
theorem TokAt.neV {w : World} {base pt p : Nat} {v : Value} {l : List Tok} (h : TokAt w base pt p v l) {g : Nat} (hg : v.ownBlock = some g) : pt ≠ g := fun e => by
  subst e; obtain ⟨_, cur, hc⟩ := h.row.block hg; have := h.var.symm.trans hc; injection this with this; injection this with _ this; exact absurd this (by decide)
theorem TokAt.neS {w : World} {base pt p : Nat} {v : Value} {l : List Tok} (h : TokAt w base pt p v l) {g : Nat} (hg : v.ownBlock = some g) : p ≠ g := fun e => by
  subst e; obtain ⟨_, cur, hc⟩ := h.row.block hg; have := h.self.symm.trans hc; injection this with this; injection this with _ this; exact absurd this (by decide)
theorem heap_lt {w : World} {g : Nat} {o : Obj} (h : w.heap[g]? = some o) : g < w.heap.size := (Array.getElem?_eq_some_iff.1 h).1
theorem TokAt.below {w w' : World} {base pt p : Nat} {v : Value} {l : List Tok} (h : TokAt w base pt p v l) (b : Below w.heap.size w w') : TokAt w' base pt p v l :=
  ⟨(b.block _ (heap_lt h.var)).trans h.var, ownsRow_keep h.row fun g hg => b.block _ (by obtain ⟨_, cur, hc⟩ := h.row.block hg; exact heap_lt hc), (b.block _ (heap_lt h.self)).trans h.self, h.nn⟩

/-- One more token behind the row. -/
theorem TokAt.push {w w' : World} {base pt p : Nat} {v v' : Value} {l : List Tok} {t : Tok} (h : TokAt w base pt p v l) (hpt : base ≤ pt) (hbw : base ≤ w.heap.size)
    (ho : w'.ownsRow base 53 3 v' (l.length + 1) (l.flatMap tokCells ++ tokCells t)) (hg : w.grownBy w' v.ownBlock) :
    TokAt (w'.setCell ⟨pt, 0, none⟩ v') base pt p v' (l ++ [t]) ∧ Below base w (w'.setCell ⟨pt, 0, none⟩ v') ∧ ∀ b, b < w.heap.size → b ≠ pt → some b ≠ v.ownBlock → (w'.setCell ⟨pt, 0, none⟩ v').heap[b]? = w.heap[b]? := by
  have hv : w'.heap[pt]? = some (.cells #[v] 50) := (hg.block pt (heap_lt h.var) (fun e => h.neV e.symm rfl)).trans h.var
  have hs : w'.heap[p]? = some (.cells #[.func (.func 51) #[] #[.pointer (some ⟨pt, 0, none⟩), .pointer (some ⟨p, 0, none⟩)]] 69) := (hg.block p (heap_lt h.self) (fun e => h.neS e.symm rfl)).trans h.self
  have hr : TRow w' base v' (l ++ [t]) := by unfold TRow; rw [List.length_append, List.flatMap_append]; simpa using ho
  have hnn : v' ≠ .slice none 0 0 := by
    rcases ho.2 with ⟨_, h0⟩ | ⟨g, cap, cur, hv', _⟩
    · omega
    · rw [hv']; simp
  have hne : ∀ g, v'.ownBlock = some g → g ≠ pt := fun g hg' e => by
    subst e; obtain ⟨_, cur, hc⟩ := hr.block hg'; have := hv.symm.trans hc; injection this with this; injection this with _ this; exact absurd this (by decide)
  refine ⟨⟨heap_setCell_same w' pt 0 _ _ v' hv, ownsRow_keep hr fun g hg' => Below.heap_setCell _ _ _ _ (hne g hg'), (Below.heap_setCell _ _ _ _ (fun e => h.ne e.symm)).trans hs, hnn⟩, ?_, fun b hb h1 h2 => (Below.heap_setCell _ _ _ _ h1).trans (hg.block b hb h2)⟩
  have hb : Below base w w' := (Below.refl _ _).grown hg hbw fun k hk => (h.row.block hk).1
  exact hb.trans ⟨rfl, rfl, rfl, by simp [World.setCell], fun i hi => Below.heap_setCell _ _ _ _ (show i ≠ pt by omega)⟩
theorem TokAt.other {w : World} {base pt p : Nat} {v : Value} {l : List Tok} (h : TokAt w base pt p v l) {b : Nat} {o : Obj} (hb : w.heap[b]? = some o) (ho : ∀ cs, o ≠ .cells cs 50) (hr : ∀ cs, o ≠ .cells cs 53) : b ≠ pt ∧ some b ≠ v.ownBlock :=
  ⟨fun e => by subst e; exact ho _ (Option.some.inj (hb.symm.trans h.var)), fun e => by obtain ⟨_, cur, hc⟩ := h.row.block e.symm; exact hr _ (Option.some.inj (hb.symm.trans hc))⟩
theorem TokAt.cell {w : World} {base pt p : Nat} {v : Value} {l : List Tok} (h : TokAt w base pt p v l) : w.cell? ⟨pt, 0, none⟩ = some v := by simp only [World.cell?, h.var]; rfl
theorem TokAt.frozen {w : World} {base pt p : Nat} {v : Value} {l : List Tok} (h : TokAt w base pt p v l) : w.frozen? ⟨pt, 0, none⟩ = false := frozen_of_row _ _ 0 _ _ h.var
theorem TokAt.call {w : World} {base pt p : Nat} {v : Value} {l : List Tok} (h : TokAt w base pt p v l) : w.cell? ⟨p, 0, none⟩ = some (.func (.func 51) #[] #[.pointer (some ⟨pt, 0, none⟩), .pointer (some ⟨p, 0, none⟩)]) := by simp only [World.cell?, h.self]; rfl
theorem TokAt.var2 {w w' : World} {base pt p : Nat} {v : Value} {l : List Tok} (h : TokAt w base pt p v l) (hg : w.grownBy w' v.ownBlock) : w'.cell? ⟨pt, 0, none⟩ = some v ∧ w'.frozen? ⟨pt, 0, none⟩ = false := by
  have hv : w'.heap[pt]? = some (.cells #[v] 50) := (hg.block pt (heap_lt h.var) (fun e => h.neV e.symm rfl)).trans h.var
  exact ⟨by simp only [World.cell?, hv]; rfl, frozen_of_row _ _ 0 _ _ hv⟩
theorem ownsRow_form {w : World} {base : Nat} {e : TypeId} {size : Nat} {v : Value} {n : Nat} {xs : List Value} (h : w.ownsRow base e size v n xs) : ∃ A m c, v = .slice A m c := by
  rcases h.2 with ⟨rfl, _⟩ | ⟨g, cap, cur, rfl, _⟩
  · exact ⟨_, _, _, rfl⟩
  · exact ⟨_, _, _, rfl⟩
/-- The literal row of one token lies in a block of its own. -/
theorem TokAt.lit {w : World} {base pt p : Nat} {v : Value} {l : List Tok} (h : TokAt w base pt p v l) (o : Obj) : TokAt (w.alloc o) base pt p v l := h.below ((Below.refl _ _).alloc (Nat.le_refl _) o)
theorem tok_fresh (w : World) (t : Tok) : ∀ j u, (tokCells t)[j]? = some u → (w.alloc (.cells (tokCells t).toArray 53)).cell? ⟨w.heap.size, j, none⟩ = some u := fun j u hj => fresh_cell w _ _ j u (by simpa using hj)
theorem tok_one (t : Tok) : ∀ u ∈ tokCells t, u.oneCell' = true := by intro u hu; simp only [tokCells, List.mem_cons, List.not_mem_nil, or_false] at hu; rcases hu with rfl | rfl | rfl <;> rfl
mutual
theorem tokB_len : ∀ t : Tree, (tokB t).length = sizeB t
  | .mk k t m a l => by
    rw [tokB, sizeB]
    split
    · rw [List.length_map, pts_count]; rfl
    · simp only [List.length_cons, List.length_append, List.length_nil, toksB_len l]; omega
theorem toksB_len : ∀ l : List Tree, (toksB l).length = totalB l
  | [] => rfl
  | t :: l => by rw [toksB, totalB, List.length_append, tokB_len t, toksB_len l]
end

def OfSaid (n : Nat) : Prop := ∀ (l : List Tree) (vl v : Value) (w : World) (base pt p : Nat) (acc : List Tok), weighAll l ≤ n → Kids w (Under base) vl l → weighAll l ≤ 1000000 → TokAt w base pt p v acc → base ≤ pt → base ≤ p → base ≤ w.heap.size → acc.length + weighAll l ≤ 50000000 →
    Calls Tryd.prog 51 #[vl, .pointer (some ⟨pt, 0, none⟩), .pointer (some ⟨p, 0, none⟩)] w fun e w' => e = .returned (.tuple #[]) ∧ Below base w w' ∧ ∃ v', TokAt w' base pt p v' (acc ++ toksB l)

set_option maxHeartbeats 4000000 in
set_option maxRecDepth 100000 in
theorem of_walk : ∀ n, OfSaid n := by
  intro n
  induction n using Nat.strongRecOn with
  | ind n ih =>
    have IH := Lib.hid ih
    clear ih
    intro l vl v w base pt p acc hn hK hw hat hpt hp hbw hacc
    have hlen : l.length ≤ 1000000 := by have := length_le_weigh l; omega
    obtain ⟨A, c, rfl, hlc⟩ := hK.form
    have HL := Lib.hid hK
    have HA := Lib.hid hat
    clear hK hat
    go_enter Tryd.func51, Tryd.ntmps51
    go_wp2
    go_loopw [11] (fun i wr => ∃ k : Nat, k ≤ l.length ∧ i = .int .i64 k ∧ Below base w wr ∧ ∃ v', Hid (TokAt wr base pt p v' (acc ++ toksB (l.take k)))) (fun i _ => l.length - (intOf i).toNat)
    case atStart => exact ⟨0, by omega, rfl, Below.refl _ _, v, Lib.hid (by simpa [toksB] using HA.out)⟩
    case round =>
      obtain ⟨i, hi, rfl, hbr, v1, hat⟩ := hrel
      have hws := hbr.size
      by_cases hlt : i < l.length
      · obtain ⟨g, o, rfl, hub, hrow⟩ := HL.out.get hlt
        have hlx : l[i]? = some l[i] := List.getElem?_eq_getElem hlt
        have HTK : Hid (l.take (i + 1) = l.take i ++ [l[i]]) := Lib.hid (List.take_succ_eq_append_getElem hlt)
        generalize hx : l[i] = x at *
        have hwx := weighAll_take_get l i x HTK.out
        have hwl : (toksB (l.take i)).length ≤ weighAll (l.take i) := by rw [toksB_len]; exact total_le_weigh _
        have hal : (acc ++ toksB (l.take i)).length + weigh x ≤ 50000000 := by rw [List.length_append]; omega
        have HTW : Hid (acc ++ toksB (l.take (i + 1)) = (acc ++ toksB (l.take i)) ++ tokB x) := Lib.hid (by rw [HTK.out, toksB_append, toksB_one, List.append_assoc])
        obtain ⟨xm, xa, xk, e0, e1, e2, e3, e4, exm, exa, exk⟩ := hrow.node hlx
        have f0 := (hbr.cell (p := ⟨g, o + i * 5, none⟩) hub).trans e0
        have f1 := (hbr.cell (p := ⟨g, o + i * 5 + 1, none⟩) hub).trans e1
        have f2 := (hbr.cell (p := ⟨g, o + i * 5 + 2, none⟩) hub).trans e2
        have f3 := (hbr.cell (p := ⟨g, o + i * 5 + 3, none⟩) hub).trans e3
        have f4 := (hbr.cell (p := ⟨g, o + i * 5 + 4, none⟩) hub).trans e4
        have hxn : Node w (Under base) (.agg #[.string x.kind, .string x.text, xm, xa, xk]) x := ⟨_, _, _, rfl, exm, exa, exk⟩
        have HXN := Lib.hid (hxn.below hbr)
        have HXK := Lib.hid (exk.below hbr)
        obtain ⟨A1, c1, rfl, _⟩ := exm.form
        obtain ⟨A2, c2, rfl, _⟩ := exa.form
        obtain ⟨A3, c3, rfl, _⟩ := exk.form
        have hkw := kids_weigh x
        have hxt := text_le_weigh x
        generalize acc ++ toksB (l.take i) = A0 at *
        have hgl := cell_lt f0
        clear e0 e1 e2 e3 e4 exm exa exk hx hlx hrow hxn
        go_wp2_with fail
        have hA2 : Below wr.heap.size wr (wr.alloc (.cells #[.string x.kind, .string x.text, .slice A1 x.marks.length c1, .slice A2 x.attrs.length c2, .slice A3 x.kids.length c3] 28)) := (Below.refl _ _).alloc (Nat.le_refl _) _
        have hP := heap_alloc_new wr (.cells #[.string x.kind, .string x.text, .slice A1 x.marks.length c1, .slice A2 x.attrs.length c2, .slice A3 x.kids.length c3] 28)
        generalize wr.alloc (.cells #[.string x.kind, .string x.text, .slice A1 x.marks.length c1, .slice A2 x.attrs.length c2, .slice A3 x.kids.length c3] 28) = W2 at *
        have hz2 := hA2.size
        refine (head_any _ x W2 ((HXN.out.below (hA2.mono (Nat.le_trans hbw hws))).more (by omega)) (by omega)).mono ?_
        rintro e w3 ⟨rfl, hb3⟩
        have hz3 := hb3.size
        have hb23 := hA2.trans (hb3.mono hz2)
        have HAT3 := Lib.hid (hat.out.below hb23)
        have HP3 := Lib.hid ((hb3.block _ (heap_lt hP)).trans hP)
        have HB3 := Lib.hid (hbr.trans (hb23.mono (Nat.le_trans hbw hws)))
        have HXK3 := Lib.hid (HXK.out.below (hb23.mono (Nat.le_trans hbw hws)))
        obtain ⟨k0, k1, k2, k3, k4⟩ := five_cells HP3.out
        obtain ⟨hh, hhe⟩ : ∃ hh : ByteArray, hh = headT x := ⟨_, rfl⟩
        rw [show (⟨(headW x).toArray⟩ : ByteArray) = hh from hhe.symm]
        clear hb3 hb23 hA2 hP f0 f1 f2 f3 f4 hat HXK HXN
        cases hk : isTxt x.kind with
        | true =>
          have hk' : (x.kind.toList == [116, 101, 120, 116]) = true := hk
          have HTX : Hid (tokB x = (pts x.text.data.toList).map (signT hh)) := Lib.hid (by rw [hhe]; exact tokB_text x hk)
          clear hk hhe
          have hsl : (tokB x).length ≤ weigh x := by rw [tokB_len]; exact size_le_weigh x
          have hb3s : base ≤ w3.heap.size := by omega
          go_wp2
          have HAT4 := Lib.hid (HAT3.out.below (iter_below w3 x.text 0))
          have HB4 := Lib.hid (HB3.out.trans ((iter_below w3 x.text 0).mono hb3s))
          go_loopg [8] x.text.size (fun g _ wx => ∃ (i' : Nat) (vv : Value) (done : List Tok), g = x.text.size - i' ∧ wx.heap[w3.heap.size]? = some (.stringIter x.text i') ∧ Below base w wx ∧ Hid (TokAt wx base pt p vv done) ∧ Hid (done ++ (pts (x.text.data.toList.drop i')).map (signT hh) = A0 ++ tokB x))
          case atStart => exact ⟨0, v1, A0, rfl, World.iter_heap w3 x.text 0, HB4.out, HAT4, Lib.hid (by rw [HTX.out]; rfl)⟩
          case round =>
            obtain ⟨i', vv, done, hig, hk5, hb5, hat5, hdone⟩ := hrel
            have HK5 := Lib.hid hk5
            have HB5 := Lib.hid hb5
            have hz5 := heap_lt hk5
            clear hk5 hb5
            cases gk with
            | zero =>
              have hge : ¬ i' < x.text.size := by omega
              clear hig
              have hnx := fun ty => Lib.run_next_end_at (P := Tryd.prog) wr w3.heap.size x.text i' ty HK5.out hge
              go_wp2
              refine ⟨⟨i + 1, by omega, by go_num, HB5.out, vv, Lib.hid ?_⟩, by simp [intOf]; omega⟩
              rw [HTW.out, ← hdone.out, List.drop_of_length_le (by rw [← Lib.size_eq]; omega)]
              simpa [pts_nil] using hat5.out
            | succ g' =>
              have hi' : i' < x.text.size := by omega
              have HIG := Lib.hid hig
              clear hig
              have hnx := fun ty => Lib.run_next_any_at (P := Tryd.prog) wr w3.heap.size x.text i' ty HK5.out hi'
              have hne : x.text.data.toList.drop i' ≠ [] := fun e => by
                have := congrArg List.length e
                rw [List.length_drop, ← Lib.size_eq] at this; simp at this; omega
              have hwd := Lib.decodeL_width (x.text.data.toList.drop i')
              have hst := pts_step _ hne
              rw [Lib.decodeL_drop, List.drop_drop] at hst
              rw [Lib.decodeL_drop] at hwd
              generalize (Utf8.decode x.text i').1 = r at *
              generalize (Utf8.decode x.text i').2 = d at *
              obtain ⟨er, her⟩ : ∃ er : ByteArray, Utf8.encode (r : Int) = er := ⟨_, rfl⟩
              have HK6 := Lib.hid (Lib.iterAt_heap wr w3.heap.size x.text i' (i' + d) HK5.out)
              have HB6 := Lib.hid (Lib.below_iterAt HB5.out hb3s x.text (i' + d))
              have HAT6 : Hid (TokAt (wr.iterAt w3.heap.size x.text (i' + d)) base pt p vv done) := Lib.hid (by
                have o := hat5.out.other HK5.out (fun _ e => by cases e) (fun _ e => by cases e)
                exact ⟨(Lib.iterAt_other _ _ _ _ _ (Ne.symm o.1)).trans hat5.out.var, ownsRow_keep hat5.out.row fun g hg => Lib.iterAt_other _ _ _ _ _ (fun e => o.2 (by rw [hg, e])), (Lib.iterAt_other _ _ _ _ _ (fun e => by subst e; have := HK5.out.symm.trans hat5.out.self; cases this)).trans hat5.out.self, hat5.out.nn⟩)
              have hz6 : wr.heap.size ≤ (wr.iterAt w3.heap.size x.text (i' + d)).heap.size := Nat.le_of_eq (Lib.iterAt_size _ _ _ _).symm
              have HST := Lib.hid hst
              generalize wr.iterAt w3.heap.size x.text (i' + d) = Wi at *
              have hbi : base ≤ Wi.heap.size := by omega
              have hln : done.length + 1 ≤ 100000000 := by
                have := congrArg List.length hdone.out
                rw [List.length_append, List.length_append] at this; omega
              clear hst hne
              have q7 := HAT6.out.cell
              have HBA7 : Hid (Below Wi.heap.size Wi (Wi.alloc (.cells #[.int .u8 116, .string er, .string hh] 53))) := Lib.hid ((Below.refl _ _).alloc (Nat.le_refl _) _)
              have HL7 : Hid (TokAt (Wi.alloc (.cells #[.int .u8 116, .string er, .string hh] 53)) base pt p vv done) := Lib.hid (HAT6.out.below HBA7.out)
              have HF7 : Hid (∀ j u, (tokCells ⟨116, er, hh⟩)[j]? = some u → (Wi.alloc (.cells #[.int .u8 116, .string er, .string hh] 53)).cell? ⟨Wi.heap.size, j, none⟩ = some u) := Lib.hid (tok_fresh Wi ⟨116, er, hh⟩)
              have HP7 : Hid ((Wi.alloc (.cells #[.int .u8 116, .string er, .string hh] 53)).heap[w3.heap.size]? = some (.stringIter x.text (i' + d))) := Lib.hid ((HBA7.out.block _ (heap_lt HK6.out)).trans HK6.out)
              have HO7 := Lib.hid (HL7.out.other HP7.out (fun _ e => by cases e) (fun _ e => by cases e))
              go_wp2_with (at_builtin; refine wpList_append_gen Tryd.underlying50 tok_info rfl (by decide) (by decide) rfl (.tmp 26) (.tmp 31) rfl base vv (done).length _ Wi.heap.size 1 (tokCells ⟨116, er, hh⟩) rfl rfl HL7.out.row rfl HF7.out (tok_one _) hln (Nat.le_trans hbi HBA7.out.size) ?_; intro v7 w7 hown7 hg7; obtain ⟨B7, m7, d7, rfl⟩ := ownsRow_form hown7; obtain ⟨ht7, hbb7, hoo7⟩ := HL7.out.push hpt (Nat.le_trans hbi HBA7.out.size) hown7 hg7; have HT7 := Lib.hid ht7; have HBB7 := Lib.hid hbb7; have HOO7 := Lib.hid hoo7; obtain ⟨y7, z7⟩ := HL7.out.var2 hg7; clear hown7 hg7 ht7 hbb7 hoo7)
              go_wp2
              go_roundg (x.text.size - (i' + d))
              case measure => have := HIG.out; omega
              case rel =>
                refine ⟨i' + d, .slice B7 m7 d7, done ++ [⟨116, er, hh⟩], rfl, (HOO7.out _ (heap_lt HP7.out) HO7.out.1 HO7.out.2).trans HP7.out, HB6.out.trans ((HBA7.out.mono hbi).trans HBB7.out), HT7, Lib.hid ?_⟩
                rw [← hdone.out, HST.out, List.map_cons, show signT hh r = ⟨116, er, hh⟩ from by unfold signT; rw [encB_eq, her], List.append_assoc]
                rfl
        | false =>
          have hk' : (x.kind.toList == [116, 101, 120, 116]) = false := hk
          have HTX : Hid (tokB x = openT hh :: (toksB x.kids ++ [closeT])) := Lib.hid (by rw [hhe]; exact tokB_node x hk)
          have q6 := HAT3.out.cell
          have HBA6 : Hid (Below w3.heap.size w3 (w3.alloc (.cells #[.int .u8 111, .string ⟨#[]⟩, .string hh] 53))) := Lib.hid ((Below.refl _ _).alloc (Nat.le_refl _) _)
          have HL6 : Hid (TokAt (w3.alloc (.cells #[.int .u8 111, .string ⟨#[]⟩, .string hh] 53)) base pt p v1 A0) := Lib.hid (HAT3.out.below HBA6.out)
          have HF6 : Hid (∀ j u, (tokCells (openT hh))[j]? = some u → (w3.alloc (.cells #[.int .u8 111, .string ⟨#[]⟩, .string hh] 53)).cell? ⟨w3.heap.size, j, none⟩ = some u) := Lib.hid (tok_fresh w3 (openT hh))
          clear hk hhe
          have hb3s : base ≤ w3.heap.size := by omega
          have HP6 : Hid ((w3.alloc (.cells #[.int .u8 111, .string ⟨#[]⟩, .string hh] 53)).heap[wr.heap.size]? = some (.cells #[.string x.kind, .string x.text, .slice A1 x.marks.length c1, .slice A2 x.attrs.length c2, .slice A3 x.kids.length c3] 28)) := Lib.hid ((HBA6.out.block _ (heap_lt HP3.out)).trans HP3.out)
          have HO6 := Lib.hid (HL6.out.other HP6.out (fun cs e => by injection e with _ e; exact absurd e (by decide)) (fun cs e => by injection e with _ e; exact absurd e (by decide)))
          go_wp2_with (at_builtin; refine wpList_append_gen Tryd.underlying50 tok_info rfl (by decide) (by decide) rfl (.tmp 33) (.tmp 36) rfl base v1 (A0).length _ w3.heap.size 1 (tokCells (openT hh)) rfl rfl HL6.out.row rfl HF6.out (tok_one _) (by omega) (Nat.le_trans hb3s HBA6.out.size) ?_; intro v6 w6 hown6 hg6; obtain ⟨B6, m6, d6, rfl⟩ := ownsRow_form hown6; obtain ⟨ht6, hbb6, hoo6⟩ := HL6.out.push hpt (Nat.le_trans hb3s HBA6.out.size) hown6 hg6; have HT6 := Lib.hid ht6; have HBB6 := Lib.hid hbb6; have HOO6 := Lib.hid hoo6; obtain ⟨y6, z6⟩ := HL6.out.var2 hg6; clear hown6 hg6 ht6 hbb6 hoo6; have s6 := HT6.out.call; have HN6 := Lib.hid ((HOO6.out _ (heap_lt HP6.out) HO6.out.1 HO6.out.2).trans HP6.out); obtain ⟨n0, n1, n2, n3, n4⟩ := five_cells HN6.out)
          have hbase6 := (HBA6.out.mono hb3s).trans HBB6.out
          have HB7 := Lib.hid (HB3.out.trans hbase6)
          have HXK7 := Lib.hid (HXK3.out.below hbase6)
          have hz7 := hbase6.size
          clear y6 z6 q6 s6 n0 n1 n2 n3 n4 hbase6 k0 k1 k2 k3 k4
          generalize w6.setCell ⟨pt, 0, none⟩ (.slice B6 m6 d6) = W7 at *
          refine (IH.out (weighAll x.kids) (by omega) x.kids _ (.slice B6 m6 d6) W7 base pt p _ (Nat.le_refl _) HXK7.out (by omega) HT6.out hpt hp (by omega) (by rw [List.length_append, List.length_singleton]; omega)).mono ?_
          rintro e w8 ⟨rfl, hb8, v8, hat8⟩
          have HB8 := Lib.hid (HB7.out.trans hb8)
          have HAT8 := Lib.hid hat8
          have hz8 := hb8.size
          have hl8 : (A0 ++ [openT hh] ++ toksB x.kids).length + 1 ≤ 100000000 := by
            rw [List.length_append, List.length_append, toksB_len, List.length_singleton]; have := total_le_weigh x.kids; omega
          have hb8s : base ≤ w8.heap.size := by omega
          clear hb8 hat8
          generalize hA8 : A0 ++ [openT hh] ++ toksB x.kids = A8 at *
          have q9 := HAT8.out.cell
          have HBA9 : Hid (Below w8.heap.size w8 (w8.alloc (.cells #[.int .u8 99, .string ⟨#[]⟩, .string ⟨#[]⟩] 53))) := Lib.hid ((Below.refl _ _).alloc (Nat.le_refl _) _)
          have HL9 : Hid (TokAt (w8.alloc (.cells #[.int .u8 99, .string ⟨#[]⟩, .string ⟨#[]⟩] 53)) base pt p v8 A8) := Lib.hid (HAT8.out.below HBA9.out)
          have HF9 : Hid (∀ j u, (tokCells closeT)[j]? = some u → (w8.alloc (.cells #[.int .u8 99, .string ⟨#[]⟩, .string ⟨#[]⟩] 53)).cell? ⟨w8.heap.size, j, none⟩ = some u) := Lib.hid (tok_fresh w8 closeT)
          go_wp2_with (at_builtin; refine wpList_append_gen Tryd.underlying50 tok_info rfl (by decide) (by decide) rfl (.tmp 42) (.tmp 44) rfl base v8 (A8).length _ w8.heap.size 1 (tokCells closeT) rfl rfl HL9.out.row rfl HF9.out (tok_one _) hl8 (Nat.le_trans hb8s HBA9.out.size) ?_; intro v9 w9 hown9 hg9; obtain ⟨B9, m9, d9, rfl⟩ := ownsRow_form hown9; obtain ⟨ht9, hbb9, hoo9⟩ := HL9.out.push hpt (Nat.le_trans hb8s HBA9.out.size) hown9 hg9; have HT9 := Lib.hid ht9; have HBB9 := Lib.hid hbb9; have HOO9 := Lib.hid hoo9; obtain ⟨y9, z9⟩ := HL9.out.var2 hg9; clear hown9 hg9 ht9 hbb9 hoo9)
          go_wp2
          refine ⟨⟨i + 1, by omega, by go_num, HB8.out.trans ((HBA9.out.mono hb8s).trans HBB9.out), .slice B9 m9 d9, Lib.hid ?_⟩, by simp [intOf]; omega⟩
          have ht := HT9.out
          rw [← hA8] at ht
          rw [HTW.out, HTX.out, show A0 ++ openT hh :: (toksB x.kids ++ [closeT]) = A0 ++ [openT hh] ++ toksB x.kids ++ [closeT] by simp]
          exact ht
      · go_wp2
        go_end0
        have h := hat.out
        rw [List.take_of_length_le (by omega)] at h
        exact ⟨rfl, hbr, _, h⟩
end Go.Proofs.YtamoklceekeheaaDoor

namespace Go.Proofs.YtamoklceekeheaaDoor
open Go.RowKit Go.Sort Go.Maps

/-- The token at a kid, so many signs in. -/
def tokAt : Option Tree → Nat → Option Tok
  | none, _ => some closeT
  | some x, o => if isTxt x.kind = true then ((pts x.text.data.toList).map (signT (headT x)))[o]? else some (openT (headT x))
theorem toks_from {t : Tree} (ht : isTxt t.kind = false) (ih : ∀ x, x ∈ t.kids → isTxt x.kind = false → ∀ (k : Nat) (s : Spt), (spotsB 0 x.kids)[k]? = some s → ∃ u, goB x s.1 = some u ∧ (toksB x.kids ++ [closeT])[k]? = tokAt u.kids[s.2.1]? s.2.2) :
    ∀ (l : List Tree) (i k : Nat) (s : Spt), t.kids.drop i = l → i ≤ t.kids.length → (spotsB i l)[k]? = some s → ∃ u, goB t s.1 = some u ∧ (toksB l ++ [closeT])[k]? = tokAt u.kids[s.2.1]? s.2.2
  | [], i, k, s, hd, hi, h => by
    have hl : t.kids.length ≤ i := by rw [List.drop_eq_nil_iff] at hd; exact hd
    have he : i = t.kids.length := by omega
    subst he
    rw [spotsB] at h
    obtain ⟨rfl, rfl⟩ : k = 0 ∧ s = ([], t.kids.length, 0) := by
      cases k with
      | zero => simp at h; exact ⟨rfl, h.symm⟩
      | succ k => simp at h
    exact ⟨t, rfl, by simp [toksB, tokAt]⟩
  | x :: l, i, k, s, hd, hi, h => by
    have hx : t.kids[i]? = some x := by rw [← List.head?_drop, hd]; rfl
    have hil : i < t.kids.length := (List.getElem?_eq_some_iff.1 hx).1
    have hd' : t.kids.drop (i + 1) = l := by rw [← List.tail_drop, hd]; rfl
    rw [spotsB] at h
    rw [toksB, List.append_assoc]
    by_cases hk : k < sizeB x
    · rw [List.getElem?_append_left (by rw [spotsT_len]; exact hk)] at h
      rw [List.getElem?_append_left (by rw [tokB_len]; exact hk)]
      cases hT : isTxt x.kind with
      | true =>
        rw [spotsT_text i hT, List.getElem?_map, List.getElem?_range hk] at h
        simp only [Option.map_some, Option.some.injEq] at h
        subst h
        refine ⟨t, rfl, ?_⟩
        rw [hx, tokB_text x hT]
        simp only [tokAt, hT, if_true]
      | false =>
        rw [spotsT_node i hT] at h
        rw [tokB_node x hT]
        cases k with
        | zero =>
          simp at h
          subst h
          refine ⟨t, rfl, ?_⟩
          rw [hx]; simp [tokAt, hT]
        | succ k =>
          simp only [List.getElem?_cons_succ, List.getElem?_map] at h
          obtain ⟨s', hs', rfl⟩ := Option.map_eq_some_iff.1 h
          obtain ⟨u, hu, hk'⟩ := ih x (List.mem_of_getElem? hx) hT k s' hs'
          have hka : kidAt t (i : Int) = some x := kidAt_of ht (by omega) (by simpa using hx)
          refine ⟨u, by simp only [deeper, goB, hka]; exact hu, ?_⟩
          rw [List.getElem?_cons_succ]
          exact hk'
    · rw [List.getElem?_append_right (by rw [spotsT_len]; omega), spotsT_len] at h
      rw [List.getElem?_append_right (by rw [tokB_len]; omega), tokB_len]
      exact toks_from ht ih l (i + 1) (k - sizeB x) s hd' (by omega) h
theorem toks_ok : ∀ (t : Tree), isTxt t.kind = false → ∀ (k : Nat) (s : Spt), (spotsB 0 t.kids)[k]? = some s → ∃ u, goB t s.1 = some u ∧ (toksB t.kids ++ [closeT])[k]? = tokAt u.kids[s.2.1]? s.2.2 := by
  intro t
  induction t using Tree.induct_one with
  | h kd tx m a l ih =>
    intro ht k s h
    exact toks_from ht (fun x hx => ih x hx) (Tree.mk kd tx m a l).kids 0 k s (by simp) (by simp) h
/-- .. with where the spot leads. -/
theorem toks_at {t u : Tree} {k : Nat} {s : Spt} (ht : isTxt t.kind = false) (hs : (spotsB 0 t.kids)[k]? = some s) (hu : SpotOk t k s u) (hk : k < totalB t.kids) : (toksB t.kids)[k]? = tokAt u.kids[s.2.1]? s.2.2 := by
  obtain ⟨u', h1, h2⟩ := toks_ok t ht k s hs
  have : u' = u := by rw [hu.go] at h1; exact (Option.some.inj h1).symm
  subst this
  rw [← h2, List.getElem?_append_left (by rw [toksB_len]; exact hk)]
end Go.Proofs.YtamoklceekeheaaDoor

namespace Go.Proofs.YtamoklceekeheaaDoor
open Go.RowKit Go.Sort Go.Maps

theorem pts_app : ∀ (n : Nat) (a b : List UInt8), a.length ≤ n → Lib.validD a = true → pts (a ++ b) = pts a ++ pts b
  | 0, a, b, hn, _ => by
    have : a = [] := List.eq_nil_of_length_eq_zero (by omega)
    subst this; rw [List.nil_append, pts_nil, List.nil_append]
  | n + 1, a, b, hn, ha => by
    by_cases hne : a = []
    · subst hne; rw [List.nil_append, pts_nil, List.nil_append]
    · rw [Lib.validD_step a hne] at ha
      split at ha
      · cases ha
      · rename_i hv
        have hw := Lib.decodeL_width a
        have hle := Lib.decodeL_le a hne
        have hl : 0 < a.length := List.length_pos_iff.2 hne
        rw [pts_step (a ++ b) (by simp [hne]), pts_step a hne, decodeL_app a b hne hv, List.drop_append_of_le_length hle, pts_app n _ b (by rw [List.length_drop]; omega) ha, List.cons_append]
theorem head_like {x y : Tree} (hk : x.kind = y.kind) (hm : x.marks = y.marks) (ha : x.attrs = y.attrs) : headT x = headT y := by unfold headT headW; rw [hk, hm, ha]
theorem tok_cat (a b : ByteArray) (m : List ByteArray) (h : Lib.validD a.data.toList = true) : tokB (.mk TEXT (a ++ b) m [] []) = tokB (.mk TEXT a m [] []) ++ tokB (.mk TEXT b m [] []) := by
  rw [tokB_text (.mk TEXT (a ++ b) m [] []) isTxt_TEXT, tokB_text (.mk TEXT a m [] []) isTxt_TEXT, tokB_text (.mk TEXT b m [] []) isTxt_TEXT]
  have h1 : headT (.mk TEXT (a ++ b) m [] []) = headT (.mk TEXT a m [] []) := head_like rfl rfl rfl
  have h2 : headT (.mk TEXT b m [] []) = headT (.mk TEXT a m [] []) := head_like rfl rfl rfl
  rw [h1, h2, ← List.map_append]
  congr 1
  show pts (a ++ b).data.toList = _
  rw [ByteArray.data_append, Array.toList_append]
  exact pts_app _ _ _ (Nat.le_refl _) h
theorem toks_two {A C : List Tree} (hA : rowB none A = true) (hC : rowB none C = true) : toksB (joinB (A ++ C)) = toksB A ++ toksB C := by
  rcases join_forms hA hC with e | ⟨A0, C0, tz, tc, m, rfl, rfl, e, z1, c1, z2⟩
  · rw [e, toksB_append]
  · rw [e, toksB_append, toksB_append, toksB_one, toksB, toksB, tok_cat tz tc m z2, List.append_assoc, List.append_assoc]
theorem toks_three {A M C : List Tree} (hA : rowB none A = true) (hM : rowB none M = true) (hC : rowB none C = true) : toksB (joinB (A ++ (M ++ C))) = toksB A ++ (toksB M ++ toksB C) := by
  rw [← joinB_right', toks_two hA (row_join (formed_app hM hC)), toks_two hM hC]
theorem with_head : ∀ (p : List Int) (t u m : Tree), goB t p = some u → headT m = headT u → headT (withB t p m) = headT t
  | [], t, u, m, h, hm => by simp only [goB, Option.some.injEq] at h; subst h; exact hm
  | i :: p, t, u, m, h, hm => by
    rw [goB] at h
    cases hk : kidAt t i with
    | none => rw [hk] at h; cases h
    | some v =>
      simp only [withB, (kidAt_some hk).2.2]
      exact head_like rfl rfl rfl
theorem set_mid {α : Type} {l : List α} {i : Nat} {x : α} (h : l[i]? = some x) (y : α) : l = l.take i ++ x :: l.drop (i + 1) ∧ l.set i y = l.take i ++ y :: l.drop (i + 1) := by
  obtain ⟨hl, he⟩ := List.getElem?_eq_some_iff.1 h
  refine ⟨by rw [← he, List.getElem_cons_drop, List.take_append_drop], ?_⟩
  rw [List.set_eq_take_append_cons_drop, if_pos hl]
/-- The tokens ahead of a node's kids, and behind them. -/
theorem toks_with : ∀ (p : List Int) (t u : Tree), goB t p = some u → isTxt u.kind = false → ∃ X Y : List Tok, X.length = startB t p ∧ toksB t.kids = X ++ (toksB u.kids ++ Y) ∧
    ∀ m, m.kind = u.kind → headT m = headT u → toksB (withB t p m).kids = X ++ (toksB m.kids ++ Y)
  | [], t, u, h, _ => by
    simp only [goB, Option.some.injEq] at h; subst h
    exact ⟨[], [], rfl, by simp, fun m _ _ => by simp [withB]⟩
  | i :: p, t, u, h, hu => by
    have h' := h
    rw [goB] at h
    cases hk : kidAt t i with
    | none => rw [hk] at h; cases h
    | some v =>
      rw [hk] at h
      obtain ⟨hT, h0, hv⟩ := kidAt_some hk
      obtain ⟨X, Y, h1, h2, h3⟩ := toks_with p v u h hu
      have hvk := kid_plain h hu
      refine ⟨toksB (t.kids.take i.toNat) ++ openT (headT v) :: X, Y ++ closeT :: toksB (t.kids.drop (i.toNat + 1)), ?_, ?_, ?_⟩
      · rw [List.length_append, List.length_cons, toksB_len, h1, startB, hv]; simp only; omega
      · conv => lhs; rw [(set_mid hv v).1]
        rw [toksB_append, toksB, tokB_node v hvk, h2]
        simp [List.append_assoc]
      · intro m hm hh
        have hwk : isTxt (withB v p m).kind = false := by rw [with_kind p v u m h hm]; exact hvk
        simp only [withB, hv, setKid_kids]
        rw [(set_mid hv (withB v p m)).2, toksB_append, toksB, tokB_node _ hwk, h3 m hm hh, with_head p v u m h hh]
        simp [List.append_assoc]
/-- What is put there changes the tokens there alone. -/
theorem toks_put {t u : Tree} {p : List Int} {A M C l : List Tree} (h : Three t p u A M C) (hl : rowB none l = true) :
    toksB (withB t p (withKids u (joinB (A ++ (l ++ C))))).kids = (toksB t.kids).take (startB t p + totalB A) ++ (toksB l ++ (toksB t.kids).drop (startB t p + totalB A + totalB M)) := by
  obtain ⟨X, Y, h1, h2, h3⟩ := toks_with p t u h.go h.plain
  have h4 : toksB u.kids = toksB A ++ (toksB M ++ toksB C) := by rw [← h.kids, toks_three h.ahead h.mid h.behind]
  rw [h3 _ (withKids_kind _ _) (head_like rfl rfl rfl), withKids_kids, toks_three h.ahead hl h.behind, h2, h4]
  have e1 : (X ++ (toksB A ++ (toksB M ++ toksB C) ++ Y)).take (startB t p + totalB A) = X ++ toksB A := by
    rw [show X ++ (toksB A ++ (toksB M ++ toksB C) ++ Y) = (X ++ toksB A) ++ (toksB M ++ (toksB C ++ Y)) by simp [List.append_assoc]]
    exact List.take_left' (by rw [List.length_append, h1, toksB_len])
  have e2 : (X ++ (toksB A ++ (toksB M ++ toksB C) ++ Y)).drop (startB t p + totalB A + totalB M) = toksB C ++ Y := by
    rw [show X ++ (toksB A ++ (toksB M ++ toksB C) ++ Y) = (X ++ (toksB A ++ toksB M)) ++ (toksB C ++ Y) by simp [List.append_assoc]]
    exact List.drop_left' (by rw [List.length_append, List.length_append, h1, toksB_len, toksB_len]; omega)
  rw [e1, e2]; simp [List.append_assoc]
end Go.Proofs.YtamoklceekeheaaDoor

namespace Go.Proofs.YtamoklceekeheaaDoor
open Go.RowKit Go.Sort Go.Maps

set_option maxHeartbeats 4000000 in
set_option maxRecDepth 100000 in
theorem of_some (vl : Value) (l : List Tree) (w : World) (h : Kids w (Under w.heap.size) vl l) (hw : weighAll l ≤ 1000000) :
    Calls Tryd.prog 24 #[vl] w fun e w' => ∃ v, e = .returned v ∧ TRow w' w.heap.size v (toksB l) ∧ Below w.heap.size w w' ∧ v ≠ .slice none 0 0 := by
  have hmf : ∀ (fn : Fn) (first cap : Array Value) (w : World), (Instr.makeFunc fn first cap).run Tryd.prog w = .ok (.func fn first cap) w := fun _ _ _ _ => rfl
  have HN := Lib.hid h
  obtain ⟨A, c, rfl, hlc⟩ := h.form
  clear h
  go_enter Tryd.func24, Tryd.ntmps24
  go_wp2_with fail
  refine (total_any _ l w HN.out hw).mono ?_
  rintro e w1 ⟨rfl, hb1⟩
  have HB1 := Lib.hid hb1
  have hz1 := hb1.size
  have htl := total_le_weigh l
  clear hb1
  generalize totalB l = n at *
  obtain ⟨i, hi, hz0, hi1, hi2⟩ := info_parts tok_info
  obtain ⟨w2, hr, hown, hg⟩ := run_make_own (P := Tryd.prog) w1 w.heap.size 50 53 i _ 3 Tryd.underlying50 hi hz0 hi1 .i64 .i64 n (by rw [hi2]; omega) (by unfold maxLen; omega) hz1
  have HR : Hid (TRow w2 w.heap.size (.slice (some ⟨w1.heap.size, 0, none⟩) 0 n) []) := Lib.hid hown
  have hb2 : Below w1.heap.size w1 w2 := ⟨hg.os, hg.tape, hg.output, hg.size, fun k hk => hg.block k hk (by simp)⟩
  have HB2 := Lib.hid (HB1.out.trans (hb2.mono hz1))
  have hz2 := hb2.size
  clear hown hg hb2 hi hz0 hi1 hi2
  go_wp2_with fail
  obtain ⟨W4, hW4⟩ : ∃ W4, W4 = (w2.alloc (.cells #[.slice (some ⟨w1.heap.size, 0, none⟩) 0 n] 50)).alloc (.cells #[.func (.func 51) #[] #[.pointer (some ⟨w2.heap.size, 0, none⟩), .pointer (some ⟨w2.heap.size + 1, 0, none⟩)]] 69) := ⟨_, rfl⟩
  rw [← hW4]
  have hB4 : Below w2.heap.size w2 W4 := by subst hW4; exact ((Below.refl _ _).alloc (Nat.le_refl _) _).alloc (by simp) _
  have hat : TokAt W4 w.heap.size w2.heap.size (w2.heap.size + 1) (.slice (some ⟨w1.heap.size, 0, none⟩) 0 n) [] := by
    refine ⟨?_, ownsRow_keep HR.out fun g hg => hB4.block _ (by obtain ⟨_, cur, hc⟩ := HR.out.block hg; exact heap_lt hc), ?_, ?_⟩
    · subst hW4; exact heap_old _ _ _ (heap_new _ _)
    · subst hW4; exact heap_new' _ _ (by simp)
    · simp
  have hz4 := hB4.size
  have hB := HB2.out.trans (hB4.mono (Nat.le_trans hz1 hz2))
  clear hW4 hB4
  refine (of_walk (weighAll l) l _ _ W4 w.heap.size w2.heap.size (w2.heap.size + 1) [] (Nat.le_refl _) (HN.out.below hB) hw hat (by omega) (by omega) (by omega) (by simp; omega)).mono ?_
  rintro e w5 ⟨rfl, hb5, v5, hat5⟩
  have HB5 := Lib.hid (hB.trans hb5)
  have HAT5 := Lib.hid hat5
  obtain ⟨A5, m5, c5, rfl⟩ := ownsRow_form hat5.row
  have q5 := hat5.cell
  clear hb5 hat5 hat hB
  go_wp2
  go_ret
  exact ⟨_, rfl, HAT5.out.row, HB5.out, HAT5.out.nn⟩
theorem of_any (vl : Value) (l : List Tree) (w : World) (h : Kids w (Under w.heap.size) vl l) (hw : weighAll l ≤ 1000000) :
    Calls Tryd.prog 24 #[vl] w fun e w' => ∃ v, e = .returned v ∧ TRow w' w.heap.size v (toksB l) ∧ Below w.heap.size w w' :=
  (of_some vl l w h hw).mono fun _ _ ⟨v, he, ht, hb, _⟩ => ⟨v, he, ht, hb⟩
end Go.Proofs.YtamoklceekeheaaDoor

namespace Go.Proofs.YtamoklceekeheaaDoor
open Go.RowKit Go.Sort Go.Maps

/-- A row of tokens, as it is read. -/
def Toks (w : World) (S : Nat → Prop) (v : Value) (l : List Tok) : Prop :=
  ∃ A c, v = .slice A l.length c ∧ l.length ≤ c ∧ c ≤ maxLen ∧ (l = [] ∨ ∃ b o, A = some ⟨b, o, none⟩ ∧ S b ∧
    ∀ i t, l[i]? = some t → w.cell? ⟨b, o + i * 3, none⟩ = some (.int .u8 (t.kind : Int)) ∧ w.cell? ⟨b, o + i * 3 + 1, none⟩ = some (.string t.text) ∧ w.cell? ⟨b, o + i * 3 + 2, none⟩ = some (.string t.head))
theorem Toks.keep {w w' : World} {S S' : Nat → Prop} {v : Value} {l : List Tok} (h : Toks w S v l) (hs : ∀ b, S b → S' b) (k : ∀ b, S b → w'.heap[b]? = w.heap[b]?) : Toks w' S' v l := by
  obtain ⟨A, c, hv, h1, h2, h3⟩ := h
  refine ⟨A, c, hv, h1, h2, h3.imp id ?_⟩
  rintro ⟨b, o, ha, hb, hc⟩
  refine ⟨b, o, ha, hs b hb, fun i t hi => ?_⟩
  obtain ⟨x0, x1, x2⟩ := hc i t hi
  exact ⟨(World.cell?_of_block (a := ⟨b, _, none⟩) (k b hb)).trans x0, (World.cell?_of_block (a := ⟨b, _, none⟩) (k b hb)).trans x1, (World.cell?_of_block (a := ⟨b, _, none⟩) (k b hb)).trans x2⟩
theorem Toks.get {w : World} {S : Nat → Prop} {A : Option Addr} {n c : Nat} {l : List Tok} (h : Toks w S (.slice A n c) l) {i : Nat} {t : Tok} (hi : l[i]? = some t) :
    ∃ b o, A = some ⟨b, o, none⟩ ∧ S b ∧ w.cell? ⟨b, o + i * 3, none⟩ = some (.int .u8 (t.kind : Int)) ∧ w.cell? ⟨b, o + i * 3 + 1, none⟩ = some (.string t.text) ∧ w.cell? ⟨b, o + i * 3 + 2, none⟩ = some (.string t.head) := by
  obtain ⟨A', c', hv, _, _, h3⟩ := h
  injection hv with hv
  subst hv
  rcases h3 with rfl | ⟨b, o, rfl, hb, hc⟩
  · simp at hi
  · exact ⟨b, o, rfl, hb, hc i t hi⟩
theorem Toks.form {w : World} {S : Nat → Prop} {v : Value} {l : List Tok} (h : Toks w S v l) : ∃ A c, v = .slice A l.length c ∧ l.length ≤ c := by
  obtain ⟨A, c, hv, h1, _⟩ := h; exact ⟨A, c, hv, h1⟩
theorem flat3 : ∀ (l : List Tok) (i j : Nat) (t : Tok), l[i]? = some t → j < 3 → (l.flatMap tokCells)[i * 3 + j]? = (tokCells t)[j]?
  | [], i, j, t, h, _ => by simp at h
  | x :: l, 0, j, t, h, hj => by
    simp only [List.getElem?_cons_zero, Option.some.injEq] at h
    subst h
    rw [List.flatMap_cons, Nat.zero_mul, Nat.zero_add, List.getElem?_append_left (by rw [tokCells_len]; exact hj)]
  | x :: l, i + 1, j, t, h, hj => by
    rw [List.getElem?_cons_succ] at h
    rw [List.flatMap_cons, List.getElem?_append_right (by rw [tokCells_len]; omega), tokCells_len, show (i + 1) * 3 + j - 3 = i * 3 + j by omega]
    exact flat3 l i j t h hj
theorem TRow.toks {w : World} {base : Nat} {v : Value} {l : List Tok} (h : TRow w base v l) : Toks w (From base w.heap.size) v l := by
  rcases h.2 with ⟨rfl, hm⟩ | ⟨g, cap, cur, rfl, hb, hg, hnc, hcap, hsz, htk⟩
  · exact ⟨none, 0, by rw [hm], by omega, by unfold maxLen; omega, .inl (List.eq_nil_of_length_eq_zero hm)⟩
  · refine ⟨_, cap, rfl, hnc, hcap, .inr ⟨g, 0, rfl, ⟨hb, (Array.getElem?_eq_some_iff.1 hg).1⟩, fun i t hi => ?_⟩⟩
    have hlt : i < l.length := (List.getElem?_eq_some_iff.1 hi).1
    have each : ∀ j u, j < 3 → (tokCells t)[j]? = some u → w.cell? ⟨g, 0 + i * 3 + j, none⟩ = some u := fun j u hj hu => by
      have e := flat3 l i j t hi hj
      rw [hu, ← htk, List.getElem?_take, if_pos (by omega)] at e
      rw [Nat.zero_add]
      simpa [World.cell?, hg] using e
    exact ⟨by simpa using each 0 _ (by omega) rfl, each 1 _ (by omega) rfl, each 2 _ (by omega) rfl⟩

/-- How many tokens two rows begin with alike. -/
def sameN : List Tok → List Tok → Nat
  | a :: x, b :: y => if a = b then sameN x y + 1 else 0
  | _, _ => 0

theorem bytes_iff (a b : ByteArray) : (a.toList == b.toList) = true ↔ a = b := by
  rw [Lib.toList_data, Lib.toList_data, beq_iff_eq]
  exact ⟨fun h => ByteArray.ext (Array.ext' h), fun h => by rw [h]⟩
theorem tok_eq (x y : Tok) : x = y ↔ ((x.kind : Int) == (y.kind : Int)) = true ∧ (x.text.toList == y.text.toList) = true ∧ (x.head.toList == y.head.toList) = true := by
  obtain ⟨k, t, h⟩ := x
  obtain ⟨k', t', h'⟩ := y
  rw [bytes_iff, bytes_iff, beq_iff_eq, Tok.mk.injEq]
  constructor
  · rintro ⟨rfl, rfl, rfl⟩; exact ⟨rfl, rfl, rfl⟩
  · rintro ⟨h0, h1, h2⟩; exact ⟨Int.ofNat.inj h0, h1, h2⟩
theorem drawn_on {B : Nat} {a w : World} (h : Below B a w) (n : Nat) : Below B a (w.drewN n) := h.trans ⟨rfl, rfl, rfl, Nat.le_refl _, fun _ _ => rfl⟩
theorem sameN_end {a b : List Tok} {k : Nat} (h : a.length ≤ k ∨ b.length ≤ k) : sameN (a.drop k) (b.drop k) = 0 := by
  rcases h with h | h
  · rw [List.drop_of_length_le h]; cases b.drop k <;> rfl
  · rw [List.drop_of_length_le h]; cases a.drop k <;> rfl

/-- How many they end with, what they begin with alike left out. -/
def backN (a b : List Tok) : Nat := min (sameN a.reverse b.reverse) (min a.length b.length - sameN a b)
theorem sameN_le : ∀ a b : List Tok, sameN a b ≤ a.length ∧ sameN a b ≤ b.length
  | [], b => by cases b <;> simp [sameN]
  | a :: x, [] => by simp [sameN]
  | a :: x, b :: y => by
    have := sameN_le x y
    rw [sameN]; split <;> simp <;> omega
theorem get_rev {l : List Tok} {k : Nat} (h : k < l.length) : l[l.length - 1 - k]? = l.reverse[k]? := by
  rw [List.getElem?_reverse h]

end Go.Proofs.YtamoklceekeheaaDoor
