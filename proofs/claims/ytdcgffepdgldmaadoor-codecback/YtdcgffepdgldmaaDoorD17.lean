/-
  The reader's around, and its loop.
-/
import Derived.Test.YtdcgffepdgldmaaDoorD16
namespace Go.Proofs.YtdcgffepdgldmaaDoor
open Go.RowKit Go.Sort Go.Maps

set_option maxHeartbeats 1000000 in
theorem around_any (A : Option Addr) (n c : Nat) (w : World) :
    Calls Tryd.prog 45 #[.slice A n c] w fun e w' => e = .returned (.agg #[.string ⟨#[120]⟩, .string ⟨#[]⟩, .slice none 0 0, .slice none 0 0, .slice A n c]) ∧ Below w.heap.size w w' := by
  have hb : Below w.heap.size w (w.alloc (.cells #[.string ⟨#[120]⟩, .string ⟨#[]⟩, .slice none 0 0, .slice none 0 0, .slice A n c] 27)) := (Below.refl _ _).alloc (Nat.le_refl _) _
  have hq := heap_alloc_new w (.cells #[.string ⟨#[120]⟩, .string ⟨#[]⟩, .slice none 0 0, .slice none 0 0, .slice A n c] 27)
  have HB := Lib.hid hb
  have HQ := Lib.hid hq
  clear hb hq
  go_enter Tryd.func45, Tryd.ntmps45
  go_wp2
  obtain ⟨q0, q1, q2, q3, q4⟩ := five_cells HQ.out
  exact bodyPost_ret (v := .agg #[.string ⟨#[120]⟩, .string ⟨#[]⟩, .slice none 0 0, .slice none 0 0, .slice A n c]) (by simp [results, Tryd.results45, go_sem, q0, q1, q2, q3, q4]) rfl ⟨rfl, HB.out⟩

/-- What a round of the reader holds: so many rounds are left at most. -/
def ReadRel (w0 : World) (R : Nat) (s : List UInt8) (g : Nat) (v : Value) (wx : World) : Prop :=
  ∃ own top st l x, l.length ≤ g ∧ readN g l x (top :: st) = readN s.length s false [around []] ∧ weighAll (top :: st) + 8 * l.length ≤ 8 * s.length + 3 ∧
    Rd wx R l x ∧ Opens wx w0.heap.size own v (top :: st) ∧ own R = 0 ∧ (∀ b, b < w0.heap.size → own b = 0) ∧ Below w0.heap.size w0 wx ∧ w0.heap.size ≤ R

theorem first_kids {w : World} {base : Nat} {own : Nat → Nat} {O n cap : Nat} {st : List Tree} (h : Opens w base own (.slice (some ⟨O, 0, none⟩) n cap) st) (hst : st ≠ []) (hob : ∀ b, b < base → own b = 0) :
    ∃ A m c, w.cell? ⟨O, 4, none⟩ = some (.slice A m c) ∧ Kids w (From base w.heap.size) (.slice A m c) ((st.getLast?.map Tree.kids).getD []) := by
  obtain ⟨⟨xs, ho, hc⟩, _, _⟩ := h
  obtain ⟨t0, rest, hr⟩ : ∃ t0 rest, st.reverse = t0 :: rest := by
    cases hq : st.reverse with
    | nil => exact absurd (List.reverse_eq_nil_iff.1 hq) hst
    | cons a b => exact ⟨a, b, rfl⟩
  have hlast : st.getLast? = some t0 := by
    rw [← List.head?_reverse, hr]; rfl
  rw [hr] at hc
  obtain ⟨vm, va, vk, zs, rfl, hop, _⟩ := hc
  have hk := hop.2.2.1.kids (S' := From base w.heap.size) (fun b hb => ⟨Nat.le_of_not_lt fun hlt => by have := hob b hlt; have := hb.2; omega, hb.1⟩) fun g e => hop.2.2.1.lt g e
  obtain ⟨A, c, rfl, _⟩ := hk.form
  have hn : n = st.length := by
    rcases ho.2 with ⟨h1, _⟩ | ⟨g, c', cur, h1, _⟩
    · cases h1
    · injection h1
  subst hn
  have hl : 0 < st.length := List.length_pos_iff.2 hst
  refine ⟨A, _, c, ?_, by rw [hlast]; exact hk⟩
  rw [ho.cellAt 4 (by omega)]; rfl
theorem opens_row {w : World} {base : Nat} {own : Nat → Nat} {top : Tree} {st : List Tree} {vm va vk : Value} (h : OpenAt w base own st.length vm va vk top) :
    ∃ A c ks, vk = .slice A top.kids.length c ∧ w.ownsRow base 27 5 (.slice A top.kids.length c) top.kids.length ks ∧ Cells w (Part w own st.length) top.kids ks := by
  obtain ⟨ks, ho, hc⟩ := h.2.2.1
  rcases ho.2 with ⟨rfl, h0⟩ | ⟨g, c, cur, rfl, _⟩
  · exact ⟨none, 0, ks, by rw [h0], by rw [h0] at ho ⊢; exact ho, hc⟩
  · exact ⟨_, c, ks, rfl, ho, hc⟩

theorem node_form {w : World} {S : Nat → Prop} {v : Value} {t : Tree} (h : Node w S v t) : ∃ A2 n2 c2 A3 n3 c3 A4 n4 c4, v = .agg #[.string t.kind, .string t.text, .slice A2 n2 c2, .slice A3 n3 c3, .slice A4 n4 c4] := by
  obtain ⟨vm, va, vk, rfl, hm, ha, hk⟩ := h
  obtain ⟨A2, c2, rfl, _⟩ := hm.form
  obtain ⟨A3, c3, rfl, _⟩ := ha.form
  obtain ⟨A4, c4, rfl, _⟩ := hk.form
  exact ⟨A2, _, c2, A3, _, c3, A4, _, c4, rfl⟩
theorem row_at {w : World} {base m : Nat} {v : Value} {xs : List Value} (h : w.ownsRow base 27 5 v (m + 1) xs) : ∃ G c, v = .slice (some ⟨G, 0, none⟩) (m + 1) c := by
  rcases h.2 with ⟨_, h0⟩ | ⟨g, c, cur, rfl, _⟩
  · cases h0
  · exact ⟨g, c, rfl⟩
theorem row_cells {w : World} {base m G c : Nat} {ks : List Value} {z0 z1 z2 z3 z4 : Value} (h : w.ownsRow base 27 5 (.slice (some ⟨G, 0, none⟩) (m + 1) c) (m + 1) (ks ++ [z0, z1, z2, z3, z4])) (hk : ks.length = m * 5) :
    w.cell? ⟨G, m * 5, none⟩ = some z0 ∧ w.cell? ⟨G, m * 5 + 1, none⟩ = some z1 ∧ w.cell? ⟨G, m * 5 + 2, none⟩ = some z2 ∧ w.cell? ⟨G, m * 5 + 3, none⟩ = some z3 ∧ w.cell? ⟨G, m * 5 + 4, none⟩ = some z4 := by
  have e : ∀ j, j < 5 → w.cell? ⟨G, m * 5 + j, none⟩ = [z0, z1, z2, z3, z4][j]? := fun j hj => by
    rw [h.cellAt _ (by omega), List.getElem?_append_right (by rw [hk]; omega), hk, show m * 5 + j - m * 5 = j by omega]
  exact ⟨e 0 (by omega), e 1 (by omega), e 2 (by omega), e 3 (by omega), e 4 (by omega)⟩
theorem drew_only (R : Nat) (w : World) : OnlyR R w w.drew := ⟨rfl, rfl, rfl, Nat.le_refl _, fun _ _ _ => rfl⟩
theorem ready_rel {w0 W : World} {R g : Nat} {s : List UInt8} {v : Value} {c : UInt8} {l l1 : List UInt8} {x x1 : Bool} {top top' : Tree} {st st' : List Tree} (h : Ready w0 W R v (top' :: st') l1 x1) (hq : roundL c l x top st = (l1, x1, top' :: st'))
    (hrd : readN (g + 1) (c :: l) x (top :: st) = readN s.length s false [around []]) (hwt : weighAll (top :: st) + 8 * (c :: l).length ≤ 8 * s.length + 3) (hlg : (c :: l).length ≤ g + 1) (hb : w0.heap.size ≤ R) : ReadRel w0 R s g v W := by
  obtain ⟨own', h1, h2, h3, h4, h5⟩ := h
  have hz := round_size c l x top st
  rw [readN_step, hq] at hrd
  rw [hq] at hz
  simp only [List.length_cons] at hwt hlg
  exact ⟨own', top', st', l1, x1, by have := hz.2; simp only at this; omega, hrd, by have := hz.1; simp only at this; omega, h4, h1, h2, h3, h5, hb⟩
theorem roundL_text (l : List UInt8) (x : Bool) (top : Tree) (st : List Tree) : roundL 34 l x top st = ((textL (34 :: l)).2.1, x || (textL (34 :: l)).2.2, addKid top (textL (34 :: l)).1 :: st) := if_pos rfl
theorem Opens.only {wr w : World} {base R : Nat} {own : Nat → Nat} {v : Value} {st : List Tree} (h : Opens wr base own v st) (o : OnlyR R wr w) (hR : own R = 0) (hv : ∀ b, v.ownBlock = some b → b ≠ R) : Opens w base own v st := by
  obtain ⟨⟨xs, ho, hc⟩, h2, h3⟩ := h
  refine ⟨⟨xs, ownsRow_block ho fun b e => o.block b (ho.lt b e).2 (hv b e), hc.keep o.size fun b hb h1 _ => ⟨o.block b hb fun e => by rw [e] at h1; omega, rfl⟩⟩, h2, fun b hb => h3 b (Nat.le_trans o.size hb)⟩
theorem roundL_last (l : List UInt8) (x : Bool) (top : Tree) : roundL 93 l x top [] = ([], true, [top]) := rfl
theorem roundL_close (l : List UInt8) (x : Bool) (top up : Tree) (st : List Tree) : roundL 93 l x top (up :: st) = (if (closedL (st.length + 1) top).2 then [] else l, x || (closedL (st.length + 1) top).2, addKid up (closedL (st.length + 1) top).1 :: st) := rfl
theorem roundL_head (c : UInt8) (l : List UInt8) (x : Bool) (top : Tree) (st : List Tree) (h1 : c ≠ 34) (h2 : c ≠ 93) : roundL c l x top st = ((headL (c :: l)).2.1, x || (headL (c :: l)).2.2, (headL (c :: l)).1 :: top :: st) := by
  unfold roundL
  rw [if_neg (by simpa using h1), if_neg (by simpa using h2)]
theorem first_byte (c : UInt8) (l : List UInt8) (S : ByteArray) (h : S = ⟨(c :: l).toArray⟩) (h0 : 0 < S.size) : S[0] = c := by subst h; rfl
end Go.Proofs.YtdcgffepdgldmaaDoor
