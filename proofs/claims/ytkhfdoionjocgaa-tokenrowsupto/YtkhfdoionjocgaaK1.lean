/-
  Tokens: what they are, and a row of them as the call's own; what token.Of answers.
-/
import Derived.Test.YtkhfdoionjocgaaT1
import Derived.Test.YtkhfdoionjocgaaAp
import Derived.Test.YtkhfdoionjocgaaRunes
import Derived.Laws.RangeAny
import Derived.Laws.Runes
import Derived.WalkMore
namespace Go.Proofs.Ytkhfdoionjocgaa
open Go.RowKit Go.Sort Go.Maps

/-- A token. -/
structure Tok where
  kind : Nat
  text : ByteArray
  head : ByteArray
deriving DecidableEq
/-- The text of one code point. -/
def encB (r : Nat) : ByteArray := Utf8.encode (r : Int)
theorem encB_eq (r : Nat) : encB r = Utf8.encode (r : Int) := rfl
def signT (h : ByteArray) (r : Nat) : Tok := ⟨116, encB r, h⟩
def openT (h : ByteArray) : Tok := ⟨111, ⟨#[]⟩, h⟩
def closeT : Tok := ⟨99, ⟨#[]⟩, ⟨#[]⟩⟩
def headT (t : Tree) : ByteArray := ⟨(headW t).toArray⟩
/-! ### the tokens of a node, and of nodes -/
mutual
def tokB : Tree → List Tok
  | .mk k t m a l => if isTxt k then (pts t.data.toList).map (signT (headT (.mk k t m a l))) else openT (headT (.mk k t m a l)) :: (toksB l ++ [closeT])
def toksB : List Tree → List Tok
  | [] => []
  | t :: l => tokB t ++ toksB l
end
theorem tokB_text (t : Tree) (h : isTxt t.kind = true) : tokB t = (pts t.text.data.toList).map (signT (headT t)) := by
  obtain ⟨k, x, m, a, l⟩ := t; simp only [Tree.kind] at h; simp [tokB, h, Tree.text]
theorem tokB_node (t : Tree) (h : isTxt t.kind = false) : tokB t = openT (headT t) :: (toksB t.kids ++ [closeT]) := by
  obtain ⟨k, x, m, a, l⟩ := t; simp only [Tree.kind] at h; simp [tokB, h, Tree.kids]
theorem toksB_append : ∀ a b : List Tree, toksB (a ++ b) = toksB a ++ toksB b
  | [], b => by simp [toksB]
  | x :: a, b => by rw [List.cons_append, toksB, toksB, toksB_append a b, List.append_assoc]
theorem toksB_one (t : Tree) : toksB [t] = tokB t := by simp [toksB]
theorem ptsF_len : ∀ (n : Nat) (l : List UInt8), (ptsF n l).length ≤ n
  | 0, _ => by simp [ptsF]
  | n + 1, l => by
    simp only [ptsF]; split
    · simp
    · have := ptsF_len n (l.drop (Lib.decodeL l).2); simp only [List.length_cons]; omega
theorem pts_len (l : List UInt8) : (pts l).length ≤ l.length := ptsF_len _ l

def tokCells (t : Tok) : List Value := [.int .u8 (t.kind : Int), .string t.text, .string t.head]
theorem tokCells_len (t : Tok) : (tokCells t).length = 3 := rfl
/-- A row of tokens of the call's own. -/
def TRow (w : World) (base : Nat) (v : Value) (l : List Tok) : Prop := w.ownsRow base 39 3 v l.length (l.flatMap tokCells)
theorem tok_info : (Try.prog.info? 39).map (fun i => (i.zero, i.size, i.bytes)) = some (some (.agg #[.int .u8 0, .string ⟨#[]⟩, .string ⟨#[]⟩]), 3, 40) := by kernel_rfl

theorem ownsRow_keep {w w' : World} {base : Nat} {e : TypeId} {size : Nat} {v : Value} {n : Nat} {xs : List Value} (h : w.ownsRow base e size v n xs) (k : ∀ g, v.ownBlock = some g → w'.heap[g]? = w.heap[g]?) : w'.ownsRow base e size v n xs := by
  refine ⟨h.1, ?_⟩
  rcases h.2 with hn | ⟨g, cap, cur, hv, hb, hg, rest⟩
  · exact .inl hn
  · exact .inr ⟨g, cap, cur, hv, hb, (k g (by rw [hv]; rfl)).trans hg, rest⟩
theorem TRow.block {w : World} {base : Nat} {v : Value} {l : List Tok} (h : TRow w base v l) {g : Nat} (hg : v.ownBlock = some g) : base ≤ g ∧ ∃ cur, w.heap[g]? = some (.cells cur 39) := by
  rcases h.2 with ⟨rfl, _⟩ | ⟨g', cap, cur, rfl, hb, hg', _⟩
  · cases hg
  · injection hg with hg; subst hg; exact ⟨hb, cur, hg'⟩

/-- The variable that holds the row (block pt), the walk itself (block p). -/
structure TokAt (w : World) (base pt p : Nat) (v : Value) (l : List Tok) : Prop where
  var : w.heap[pt]? = some (.cells #[v] 31)
  row : TRow w base v l
  self : w.heap[p]? = some (.cells #[.func (.func 13) #[] #[.pointer (some ⟨pt, 0, none⟩), .pointer (some ⟨p, 0, none⟩)]] 46)
  nn : v ≠ .slice none 0 0
theorem TokAt.ne {w : World} {base pt p : Nat} {v : Value} {l : List Tok} (h : TokAt w base pt p v l) : pt ≠ p := fun e => by
  subst e; have := h.var.symm.trans h.self; injection this with this; injection this with _ this; exact absurd this (by decide)
theorem TokAt.neV {w : World} {base pt p : Nat} {v : Value} {l : List Tok} (h : TokAt w base pt p v l) {g : Nat} (hg : v.ownBlock = some g) : pt ≠ g := fun e => by
  subst e; obtain ⟨_, cur, hc⟩ := h.row.block hg; have := h.var.symm.trans hc; injection this with this; injection this with _ this; exact absurd this (by decide)
theorem TokAt.neS {w : World} {base pt p : Nat} {v : Value} {l : List Tok} (h : TokAt w base pt p v l) {g : Nat} (hg : v.ownBlock = some g) : p ≠ g := fun e => by
  subst e; obtain ⟨_, cur, hc⟩ := h.row.block hg; have := h.self.symm.trans hc; injection this with this; injection this with _ this; exact absurd this (by decide)
theorem heap_lt {w : World} {g : Nat} {o : Obj} (h : w.heap[g]? = some o) : g < w.heap.size := (Array.getElem?_eq_some_iff.1 h).1
theorem TokAt.below {w w' : World} {base pt p : Nat} {v : Value} {l : List Tok} (h : TokAt w base pt p v l) (b : Below w.heap.size w w') : TokAt w' base pt p v l :=
  ⟨(b.block _ (heap_lt h.var)).trans h.var, ownsRow_keep h.row fun g hg => b.block _ (by obtain ⟨_, cur, hc⟩ := h.row.block hg; exact heap_lt hc), (b.block _ (heap_lt h.self)).trans h.self, h.nn⟩

/-- One more token behind the row. -/
theorem TokAt.push {w w' : World} {base pt p : Nat} {v v' : Value} {l : List Tok} {t : Tok} (h : TokAt w base pt p v l) (hpt : base ≤ pt) (hbw : base ≤ w.heap.size)
    (ho : w'.ownsRow base 39 3 v' (l.length + 1) (l.flatMap tokCells ++ tokCells t)) (hg : w.grownBy w' v.ownBlock) :
    TokAt (w'.setCell ⟨pt, 0, none⟩ v') base pt p v' (l ++ [t]) ∧ Below base w (w'.setCell ⟨pt, 0, none⟩ v') ∧ ∀ b, b < w.heap.size → b ≠ pt → some b ≠ v.ownBlock → (w'.setCell ⟨pt, 0, none⟩ v').heap[b]? = w.heap[b]? := by
  have hv : w'.heap[pt]? = some (.cells #[v] 31) := (hg.block pt (heap_lt h.var) (fun e => h.neV e.symm rfl)).trans h.var
  have hs : w'.heap[p]? = some (.cells #[.func (.func 13) #[] #[.pointer (some ⟨pt, 0, none⟩), .pointer (some ⟨p, 0, none⟩)]] 46) := (hg.block p (heap_lt h.self) (fun e => h.neS e.symm rfl)).trans h.self
  have hr : TRow w' base v' (l ++ [t]) := by unfold TRow; rw [List.length_append, List.flatMap_append]; simpa using ho
  have hnn : v' ≠ .slice none 0 0 := by
    rcases ho.2 with ⟨_, h0⟩ | ⟨g, cap, cur, hv', _⟩
    · omega
    · rw [hv']; simp
  have hne : ∀ g, v'.ownBlock = some g → g ≠ pt := fun g hg' e => by
    subst e; obtain ⟨_, cur, hc⟩ := hr.block hg'; have := hv.symm.trans hc; injection this with this; injection this with _ this; exact absurd this (by decide)
  refine ⟨⟨heap_setCell_same w' pt 0 _ _ v' hv, ownsRow_keep hr fun g hg' => Below.heap_setCell _ _ _ _ (hne g hg'), (Below.heap_setCell _ _ _ _ (fun e => h.ne e.symm)).trans hs, hnn⟩, ?_, fun b hb h1 h2 => (Below.heap_setCell _ _ _ _ h1).trans (hg.block b hb h2)⟩
  have hb : Below base w w' := (Below.refl _ _).grown hg hbw fun k hk => (h.row.block hk).1
  exact hb.trans ⟨rfl, rfl, rfl, by simp [World.setCell], fun i hi => Below.heap_setCell _ _ _ _ (show i ≠ pt by omega)⟩
theorem TokAt.other {w : World} {base pt p : Nat} {v : Value} {l : List Tok} (h : TokAt w base pt p v l) {b : Nat} {o : Obj} (hb : w.heap[b]? = some o) (ho : ∀ cs, o ≠ .cells cs 31) (hr : ∀ cs, o ≠ .cells cs 39) : b ≠ pt ∧ some b ≠ v.ownBlock :=
  ⟨fun e => by subst e; exact ho _ (Option.some.inj (hb.symm.trans h.var)), fun e => by obtain ⟨_, cur, hc⟩ := h.row.block e.symm; exact hr _ (Option.some.inj (hb.symm.trans hc))⟩
theorem TokAt.cell {w : World} {base pt p : Nat} {v : Value} {l : List Tok} (h : TokAt w base pt p v l) : w.cell? ⟨pt, 0, none⟩ = some v := by simp only [World.cell?, h.var]; rfl
theorem TokAt.frozen {w : World} {base pt p : Nat} {v : Value} {l : List Tok} (h : TokAt w base pt p v l) : w.frozen? ⟨pt, 0, none⟩ = false := frozen_of_row _ _ 0 _ _ h.var
theorem TokAt.call {w : World} {base pt p : Nat} {v : Value} {l : List Tok} (h : TokAt w base pt p v l) : w.cell? ⟨p, 0, none⟩ = some (.func (.func 13) #[] #[.pointer (some ⟨pt, 0, none⟩), .pointer (some ⟨p, 0, none⟩)]) := by simp only [World.cell?, h.self]; rfl
theorem TokAt.var2 {w w' : World} {base pt p : Nat} {v : Value} {l : List Tok} (h : TokAt w base pt p v l) (hg : w.grownBy w' v.ownBlock) : w'.cell? ⟨pt, 0, none⟩ = some v ∧ w'.frozen? ⟨pt, 0, none⟩ = false := by
  have hv : w'.heap[pt]? = some (.cells #[v] 31) := (hg.block pt (heap_lt h.var) (fun e => h.neV e.symm rfl)).trans h.var
  exact ⟨by simp only [World.cell?, hv]; rfl, frozen_of_row _ _ 0 _ _ hv⟩
theorem ownsRow_form {w : World} {base : Nat} {e : TypeId} {size : Nat} {v : Value} {n : Nat} {xs : List Value} (h : w.ownsRow base e size v n xs) : ∃ A m c, v = .slice A m c := by
  rcases h.2 with ⟨rfl, _⟩ | ⟨g, cap, cur, rfl, _⟩
  · exact ⟨_, _, _, rfl⟩
  · exact ⟨_, _, _, rfl⟩
/-- The literal row of one token lies in a block of its own. -/
theorem TokAt.lit {w : World} {base pt p : Nat} {v : Value} {l : List Tok} (h : TokAt w base pt p v l) (o : Obj) : TokAt (w.alloc o) base pt p v l := h.below ((Below.refl _ _).alloc (Nat.le_refl _) o)
theorem tok_fresh (w : World) (t : Tok) : ∀ j u, (tokCells t)[j]? = some u → (w.alloc (.cells (tokCells t).toArray 39)).cell? ⟨w.heap.size, j, none⟩ = some u := fun j u hj => fresh_cell w _ _ j u (by simpa using hj)
theorem tok_one (t : Tok) : ∀ u ∈ tokCells t, u.oneCell' = true := by intro u hu; simp only [tokCells, List.mem_cons, List.not_mem_nil, or_false] at hu; rcases hu with rfl | rfl | rfl <;> rfl
mutual
theorem tokB_len : ∀ t : Tree, (tokB t).length = sizeB t
  | .mk k t m a l => by
    rw [tokB, sizeB]
    split
    · rw [List.length_map, pts_count]; rfl
    · simp only [List.length_cons, List.length_append, List.length_nil, toksB_len l]; omega
theorem toksB_len : ∀ l : List Tree, (toksB l).length = totalB l
  | [] => rfl
  | t :: l => by rw [toksB, totalB, List.length_append, tokB_len t, toksB_len l]
end

def OfSaid (n : Nat) : Prop := ∀ (l : List Tree) (vl v : Value) (w : World) (base pt p : Nat) (acc : List Tok), weighAll l ≤ n → Kids w (Under base) vl l → weighAll l ≤ 1000000 → TokAt w base pt p v acc → base ≤ pt → base ≤ p → base ≤ w.heap.size → acc.length + weighAll l ≤ 50000000 →
    Calls Try.prog 13 #[vl, .pointer (some ⟨pt, 0, none⟩), .pointer (some ⟨p, 0, none⟩)] w fun e w' => e = .returned (.tuple #[]) ∧ Below base w w' ∧ ∃ v', TokAt w' base pt p v' (acc ++ toksB l)

set_option maxHeartbeats 4000000 in
set_option maxRecDepth 100000 in
theorem of_walk : ∀ n, OfSaid n := by
  intro n
  induction n using Nat.strongRecOn with
  | ind n ih =>
    have IH := Lib.hid ih
    clear ih
    intro l vl v w base pt p acc hn hK hw hat hpt hp hbw hacc
    have hlen : l.length ≤ 1000000 := by have := length_le_weigh l; omega
    obtain ⟨A, c, rfl, hlc⟩ := hK.form
    have HL := Lib.hid hK
    have HA := Lib.hid hat
    clear hK hat
    go_enter Try.func13, Try.ntmps13
    go_wp2
    go_loopw [11] (fun i wr => ∃ k : Nat, k ≤ l.length ∧ i = .int .i64 k ∧ Below base w wr ∧ ∃ v', Hid (TokAt wr base pt p v' (acc ++ toksB (l.take k)))) (fun i _ => l.length - (intOf i).toNat)
    case atStart => exact ⟨0, by omega, rfl, Below.refl _ _, v, Lib.hid (by simpa [toksB] using HA.out)⟩
    case round =>
      obtain ⟨i, hi, rfl, hbr, v1, hat⟩ := hrel
      have hws := hbr.size
      by_cases hlt : i < l.length
      · obtain ⟨g, o, rfl, hub, hrow⟩ := HL.out.get hlt
        have hlx : l[i]? = some l[i] := List.getElem?_eq_getElem hlt
        have HTK : Hid (l.take (i + 1) = l.take i ++ [l[i]]) := Lib.hid (List.take_succ_eq_append_getElem hlt)
        generalize hx : l[i] = x at *
        have hwx := weighAll_take_get l i x HTK.out
        have hwl : (toksB (l.take i)).length ≤ weighAll (l.take i) := by rw [toksB_len]; exact total_le_weigh _
        have hal : (acc ++ toksB (l.take i)).length + weigh x ≤ 50000000 := by rw [List.length_append]; omega
        have HTW : Hid (acc ++ toksB (l.take (i + 1)) = (acc ++ toksB (l.take i)) ++ tokB x) := Lib.hid (by rw [HTK.out, toksB_append, toksB_one, List.append_assoc])
        obtain ⟨xm, xa, xk, e0, e1, e2, e3, e4, exm, exa, exk⟩ := hrow.node hlx
        have f0 := (hbr.cell (p := ⟨g, o + i * 5, none⟩) hub).trans e0
        have f1 := (hbr.cell (p := ⟨g, o + i * 5 + 1, none⟩) hub).trans e1
        have f2 := (hbr.cell (p := ⟨g, o + i * 5 + 2, none⟩) hub).trans e2
        have f3 := (hbr.cell (p := ⟨g, o + i * 5 + 3, none⟩) hub).trans e3
        have f4 := (hbr.cell (p := ⟨g, o + i * 5 + 4, none⟩) hub).trans e4
        have hxn : Node w (Under base) (.agg #[.string x.kind, .string x.text, xm, xa, xk]) x := ⟨_, _, _, rfl, exm, exa, exk⟩
        have HXN := Lib.hid (hxn.below hbr)
        have HXK := Lib.hid (exk.below hbr)
        obtain ⟨A1, c1, rfl, _⟩ := exm.form
        obtain ⟨A2, c2, rfl, _⟩ := exa.form
        obtain ⟨A3, c3, rfl, _⟩ := exk.form
        have hkw := kids_weigh x
        have hxt := text_le_weigh x
        generalize acc ++ toksB (l.take i) = A0 at *
        have hgl := cell_lt f0
        clear e0 e1 e2 e3 e4 exm exa exk hx hlx hrow hxn
        go_wp2_with fail
        have hA2 : Below wr.heap.size wr (wr.alloc (.cells #[.string x.kind, .string x.text, .slice A1 x.marks.length c1, .slice A2 x.attrs.length c2, .slice A3 x.kids.length c3] 27)) := (Below.refl _ _).alloc (Nat.le_refl _) _
        have hP := heap_alloc_new wr (.cells #[.string x.kind, .string x.text, .slice A1 x.marks.length c1, .slice A2 x.attrs.length c2, .slice A3 x.kids.length c3] 27)
        generalize wr.alloc (.cells #[.string x.kind, .string x.text, .slice A1 x.marks.length c1, .slice A2 x.attrs.length c2, .slice A3 x.kids.length c3] 27) = W2 at *
        have hz2 := hA2.size
        refine (head_any _ x W2 ((HXN.out.below (hA2.mono (Nat.le_trans hbw hws))).more (by omega)) (by omega)).mono ?_
        rintro e w3 ⟨rfl, hb3⟩
        have hz3 := hb3.size
        have hb23 := hA2.trans (hb3.mono hz2)
        have HAT3 := Lib.hid (hat.out.below hb23)
        have HP3 := Lib.hid ((hb3.block _ (heap_lt hP)).trans hP)
        have HB3 := Lib.hid (hbr.trans (hb23.mono (Nat.le_trans hbw hws)))
        have HXK3 := Lib.hid (HXK.out.below (hb23.mono (Nat.le_trans hbw hws)))
        obtain ⟨k0, k1, k2, k3, k4⟩ := five_cells HP3.out
        obtain ⟨hh, hhe⟩ : ∃ hh : ByteArray, hh = headT x := ⟨_, rfl⟩
        rw [show (⟨(headW x).toArray⟩ : ByteArray) = hh from hhe.symm]
        clear hb3 hb23 hA2 hP f0 f1 f2 f3 f4 hat HXK HXN
        cases hk : isTxt x.kind with
        | true =>
          have hk' : (x.kind.toList == [116, 101, 120, 116]) = true := hk
          have HTX : Hid (tokB x = (pts x.text.data.toList).map (signT hh)) := Lib.hid (by rw [hhe]; exact tokB_text x hk)
          clear hk hhe
          have hsl : (tokB x).length ≤ weigh x := by rw [tokB_len]; exact size_le_weigh x
          have hb3s : base ≤ w3.heap.size := by omega
          go_wp2
          have HAT4 := Lib.hid (HAT3.out.below (iter_below w3 x.text 0))
          have HB4 := Lib.hid (HB3.out.trans ((iter_below w3 x.text 0).mono hb3s))
          go_loopg [8] x.text.size (fun g _ wx => ∃ (i' : Nat) (vv : Value) (done : List Tok), g = x.text.size - i' ∧ wx.heap[w3.heap.size]? = some (.stringIter x.text i') ∧ Below base w wx ∧ Hid (TokAt wx base pt p vv done) ∧ Hid (done ++ (pts (x.text.data.toList.drop i')).map (signT hh) = A0 ++ tokB x))
          case atStart => exact ⟨0, v1, A0, rfl, World.iter_heap w3 x.text 0, HB4.out, HAT4, Lib.hid (by rw [HTX.out]; rfl)⟩
          case round =>
            obtain ⟨i', vv, done, hig, hk5, hb5, hat5, hdone⟩ := hrel
            have HK5 := Lib.hid hk5
            have HB5 := Lib.hid hb5
            have hz5 := heap_lt hk5
            clear hk5 hb5
            cases gk with
            | zero =>
              have hge : ¬ i' < x.text.size := by omega
              clear hig
              have hnx := fun ty => Lib.run_next_end_at (P := Try.prog) wr w3.heap.size x.text i' ty HK5.out hge
              go_wp2
              refine ⟨⟨i + 1, by omega, by go_num, HB5.out, vv, Lib.hid ?_⟩, by simp [intOf]; omega⟩
              rw [HTW.out, ← hdone.out, List.drop_of_length_le (by rw [← Lib.size_eq]; omega)]
              simpa [pts_nil] using hat5.out
            | succ g' =>
              have hi' : i' < x.text.size := by omega
              have HIG := Lib.hid hig
              clear hig
              have hnx := fun ty => Lib.run_next_any_at (P := Try.prog) wr w3.heap.size x.text i' ty HK5.out hi'
              have hne : x.text.data.toList.drop i' ≠ [] := fun e => by
                have := congrArg List.length e
                rw [List.length_drop, ← Lib.size_eq] at this; simp at this; omega
              have hwd := Lib.decodeL_width (x.text.data.toList.drop i')
              have hst := pts_step _ hne
              rw [Lib.decodeL_drop, List.drop_drop] at hst
              rw [Lib.decodeL_drop] at hwd
              generalize (Utf8.decode x.text i').1 = r at *
              generalize (Utf8.decode x.text i').2 = d at *
              obtain ⟨er, her⟩ : ∃ er : ByteArray, Utf8.encode (r : Int) = er := ⟨_, rfl⟩
              have HK6 := Lib.hid (Lib.iterAt_heap wr w3.heap.size x.text i' (i' + d) HK5.out)
              have HB6 := Lib.hid (Lib.below_iterAt HB5.out hb3s x.text (i' + d))
              have HAT6 : Hid (TokAt (wr.iterAt w3.heap.size x.text (i' + d)) base pt p vv done) := Lib.hid (by
                have o := hat5.out.other HK5.out (fun _ e => by cases e) (fun _ e => by cases e)
                exact ⟨(Lib.iterAt_other _ _ _ _ _ (Ne.symm o.1)).trans hat5.out.var, ownsRow_keep hat5.out.row fun g hg => Lib.iterAt_other _ _ _ _ _ (fun e => o.2 (by rw [hg, e])), (Lib.iterAt_other _ _ _ _ _ (fun e => by subst e; have := HK5.out.symm.trans hat5.out.self; cases this)).trans hat5.out.self, hat5.out.nn⟩)
              have hz6 : wr.heap.size ≤ (wr.iterAt w3.heap.size x.text (i' + d)).heap.size := Nat.le_of_eq (Lib.iterAt_size _ _ _ _).symm
              have HST := Lib.hid hst
              generalize wr.iterAt w3.heap.size x.text (i' + d) = Wi at *
              have hbi : base ≤ Wi.heap.size := by omega
              have hln : done.length + 1 ≤ 100000000 := by
                have := congrArg List.length hdone.out
                rw [List.length_append, List.length_append] at this; omega
              clear hst hne
              have q7 := HAT6.out.cell
              have HBA7 : Hid (Below Wi.heap.size Wi (Wi.alloc (.cells #[.int .u8 116, .string er, .string hh] 39))) := Lib.hid ((Below.refl _ _).alloc (Nat.le_refl _) _)
              have HL7 : Hid (TokAt (Wi.alloc (.cells #[.int .u8 116, .string er, .string hh] 39)) base pt p vv done) := Lib.hid (HAT6.out.below HBA7.out)
              have HF7 : Hid (∀ j u, (tokCells ⟨116, er, hh⟩)[j]? = some u → (Wi.alloc (.cells #[.int .u8 116, .string er, .string hh] 39)).cell? ⟨Wi.heap.size, j, none⟩ = some u) := Lib.hid (tok_fresh Wi ⟨116, er, hh⟩)
              have HP7 : Hid ((Wi.alloc (.cells #[.int .u8 116, .string er, .string hh] 39)).heap[w3.heap.size]? = some (.stringIter x.text (i' + d))) := Lib.hid ((HBA7.out.block _ (heap_lt HK6.out)).trans HK6.out)
              have HO7 := Lib.hid (HL7.out.other HP7.out (fun _ e => by cases e) (fun _ e => by cases e))
              go_wp2_with (at_builtin; refine wpList_append_gen Try.underlying31 tok_info rfl (by decide) (by decide) rfl (.tmp 26) (.tmp 31) rfl base vv (done).length _ Wi.heap.size 1 (tokCells ⟨116, er, hh⟩) rfl rfl HL7.out.row rfl HF7.out (tok_one _) hln (Nat.le_trans hbi HBA7.out.size) ?_; intro v7 w7 hown7 hg7; obtain ⟨B7, m7, d7, rfl⟩ := ownsRow_form hown7; obtain ⟨ht7, hbb7, hoo7⟩ := HL7.out.push hpt (Nat.le_trans hbi HBA7.out.size) hown7 hg7; have HT7 := Lib.hid ht7; have HBB7 := Lib.hid hbb7; have HOO7 := Lib.hid hoo7; obtain ⟨y7, z7⟩ := HL7.out.var2 hg7; clear hown7 hg7 ht7 hbb7 hoo7)
              go_wp2
              go_roundg (x.text.size - (i' + d))
              case measure => have := HIG.out; omega
              case rel =>
                refine ⟨i' + d, .slice B7 m7 d7, done ++ [⟨116, er, hh⟩], rfl, (HOO7.out _ (heap_lt HP7.out) HO7.out.1 HO7.out.2).trans HP7.out, HB6.out.trans ((HBA7.out.mono hbi).trans HBB7.out), HT7, Lib.hid ?_⟩
                rw [← hdone.out, HST.out, List.map_cons, show signT hh r = ⟨116, er, hh⟩ from by unfold signT; rw [encB_eq, her], List.append_assoc]
                rfl
        | false =>
          have hk' : (x.kind.toList == [116, 101, 120, 116]) = false := hk
          have HTX : Hid (tokB x = openT hh :: (toksB x.kids ++ [closeT])) := Lib.hid (by rw [hhe]; exact tokB_node x hk)
          have q6 := HAT3.out.cell
          have HBA6 : Hid (Below w3.heap.size w3 (w3.alloc (.cells #[.int .u8 111, .string ⟨#[]⟩, .string hh] 39))) := Lib.hid ((Below.refl _ _).alloc (Nat.le_refl _) _)
          have HL6 : Hid (TokAt (w3.alloc (.cells #[.int .u8 111, .string ⟨#[]⟩, .string hh] 39)) base pt p v1 A0) := Lib.hid (HAT3.out.below HBA6.out)
          have HF6 : Hid (∀ j u, (tokCells (openT hh))[j]? = some u → (w3.alloc (.cells #[.int .u8 111, .string ⟨#[]⟩, .string hh] 39)).cell? ⟨w3.heap.size, j, none⟩ = some u) := Lib.hid (tok_fresh w3 (openT hh))
          clear hk hhe
          have hb3s : base ≤ w3.heap.size := by omega
          have HP6 : Hid ((w3.alloc (.cells #[.int .u8 111, .string ⟨#[]⟩, .string hh] 39)).heap[wr.heap.size]? = some (.cells #[.string x.kind, .string x.text, .slice A1 x.marks.length c1, .slice A2 x.attrs.length c2, .slice A3 x.kids.length c3] 27)) := Lib.hid ((HBA6.out.block _ (heap_lt HP3.out)).trans HP3.out)
          have HO6 := Lib.hid (HL6.out.other HP6.out (fun cs e => by injection e with _ e; exact absurd e (by decide)) (fun cs e => by injection e with _ e; exact absurd e (by decide)))
          go_wp2_with (at_builtin; refine wpList_append_gen Try.underlying31 tok_info rfl (by decide) (by decide) rfl (.tmp 33) (.tmp 36) rfl base v1 (A0).length _ w3.heap.size 1 (tokCells (openT hh)) rfl rfl HL6.out.row rfl HF6.out (tok_one _) (by omega) (Nat.le_trans hb3s HBA6.out.size) ?_; intro v6 w6 hown6 hg6; obtain ⟨B6, m6, d6, rfl⟩ := ownsRow_form hown6; obtain ⟨ht6, hbb6, hoo6⟩ := HL6.out.push hpt (Nat.le_trans hb3s HBA6.out.size) hown6 hg6; have HT6 := Lib.hid ht6; have HBB6 := Lib.hid hbb6; have HOO6 := Lib.hid hoo6; obtain ⟨y6, z6⟩ := HL6.out.var2 hg6; clear hown6 hg6 ht6 hbb6 hoo6; have s6 := HT6.out.call; have HN6 := Lib.hid ((HOO6.out _ (heap_lt HP6.out) HO6.out.1 HO6.out.2).trans HP6.out); obtain ⟨n0, n1, n2, n3, n4⟩ := five_cells HN6.out)
          have hbase6 := (HBA6.out.mono hb3s).trans HBB6.out
          have HB7 := Lib.hid (HB3.out.trans hbase6)
          have HXK7 := Lib.hid (HXK3.out.below hbase6)
          have hz7 := hbase6.size
          clear y6 z6 q6 s6 n0 n1 n2 n3 n4 hbase6 k0 k1 k2 k3 k4
          generalize w6.setCell ⟨pt, 0, none⟩ (.slice B6 m6 d6) = W7 at *
          refine (IH.out (weighAll x.kids) (by omega) x.kids _ (.slice B6 m6 d6) W7 base pt p _ (Nat.le_refl _) HXK7.out (by omega) HT6.out hpt hp (by omega) (by rw [List.length_append, List.length_singleton]; omega)).mono ?_
          rintro e w8 ⟨rfl, hb8, v8, hat8⟩
          have HB8 := Lib.hid (HB7.out.trans hb8)
          have HAT8 := Lib.hid hat8
          have hz8 := hb8.size
          have hl8 : (A0 ++ [openT hh] ++ toksB x.kids).length + 1 ≤ 100000000 := by
            rw [List.length_append, List.length_append, toksB_len, List.length_singleton]; have := total_le_weigh x.kids; omega
          have hb8s : base ≤ w8.heap.size := by omega
          clear hb8 hat8
          generalize hA8 : A0 ++ [openT hh] ++ toksB x.kids = A8 at *
          have q9 := HAT8.out.cell
          have HBA9 : Hid (Below w8.heap.size w8 (w8.alloc (.cells #[.int .u8 99, .string ⟨#[]⟩, .string ⟨#[]⟩] 39))) := Lib.hid ((Below.refl _ _).alloc (Nat.le_refl _) _)
          have HL9 : Hid (TokAt (w8.alloc (.cells #[.int .u8 99, .string ⟨#[]⟩, .string ⟨#[]⟩] 39)) base pt p v8 A8) := Lib.hid (HAT8.out.below HBA9.out)
          have HF9 : Hid (∀ j u, (tokCells closeT)[j]? = some u → (w8.alloc (.cells #[.int .u8 99, .string ⟨#[]⟩, .string ⟨#[]⟩] 39)).cell? ⟨w8.heap.size, j, none⟩ = some u) := Lib.hid (tok_fresh w8 closeT)
          go_wp2_with (at_builtin; refine wpList_append_gen Try.underlying31 tok_info rfl (by decide) (by decide) rfl (.tmp 42) (.tmp 44) rfl base v8 (A8).length _ w8.heap.size 1 (tokCells closeT) rfl rfl HL9.out.row rfl HF9.out (tok_one _) hl8 (Nat.le_trans hb8s HBA9.out.size) ?_; intro v9 w9 hown9 hg9; obtain ⟨B9, m9, d9, rfl⟩ := ownsRow_form hown9; obtain ⟨ht9, hbb9, hoo9⟩ := HL9.out.push hpt (Nat.le_trans hb8s HBA9.out.size) hown9 hg9; have HT9 := Lib.hid ht9; have HBB9 := Lib.hid hbb9; have HOO9 := Lib.hid hoo9; obtain ⟨y9, z9⟩ := HL9.out.var2 hg9; clear hown9 hg9 ht9 hbb9 hoo9)
          go_wp2
          refine ⟨⟨i + 1, by omega, by go_num, HB8.out.trans ((HBA9.out.mono hb8s).trans HBB9.out), .slice B9 m9 d9, Lib.hid ?_⟩, by simp [intOf]; omega⟩
          have ht := HT9.out
          rw [← hA8] at ht
          rw [HTW.out, HTX.out, show A0 ++ openT hh :: (toksB x.kids ++ [closeT]) = A0 ++ [openT hh] ++ toksB x.kids ++ [closeT] by simp]
          exact ht
      · go_wp2
        go_end0
        have h := hat.out
        rw [List.take_of_length_le (by omega)] at h
        exact ⟨rfl, hbr, _, h⟩
end Go.Proofs.Ytkhfdoionjocgaa
