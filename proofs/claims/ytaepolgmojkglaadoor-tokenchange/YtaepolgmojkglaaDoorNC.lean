/-
  TokenChange walked: a token is changed.
-/
import Derived.Test.YtaepolgmojkglaaDoorMI
import Derived.Test.YtaepolgmojkglaaDoorNW
namespace Go.Proofs.YtaepolgmojkglaaDoor
open Go.RowKit Go.Sort Go.Maps

/-- The six tokens, in a block of their own. -/
abbrev OtherO : Obj := .cells #[.int .u8 116, .string ⟨#[122]⟩, .string ⟨#[]⟩, .int .u8 99, .string ⟨#[]⟩, .string ⟨#[]⟩, .int .u8 111, .string ⟨#[]⟩, .string ⟨#[122, 122]⟩, .int .u8 120, .string ⟨#[]⟩, .string ⟨#[]⟩, .int .u8 116, .string ⟨#[122, 122]⟩, .string ⟨#[]⟩, .int .u8 116, .string ⟨#[]⟩, .string ⟨#[]⟩] 34
theorem other_cells {W : World} {g : Nat} (h : W.heap[g]? = some OtherO) {j : Nat} (hj : j < 6) : ∃ x, otherT[j]? = some x ∧ W.cell? ⟨g, j * 3, none⟩ = some (.int .u8 (x.kind : Int)) ∧ W.cell? ⟨g, j * 3 + 1, none⟩ = some (.string x.text) ∧ W.cell? ⟨g, j * 3 + 2, none⟩ = some (.string x.head) := by
  match j, hj with
  | 0, _ => exact ⟨⟨116, ⟨#[122]⟩, ⟨#[]⟩⟩, rfl, by simp [World.cell?, h], by simp [World.cell?, h], by simp [World.cell?, h]⟩
  | 1, _ => exact ⟨⟨99, ⟨#[]⟩, ⟨#[]⟩⟩, rfl, by simp [World.cell?, h], by simp [World.cell?, h], by simp [World.cell?, h]⟩
  | 2, _ => exact ⟨⟨111, ⟨#[]⟩, ⟨#[122, 122]⟩⟩, rfl, by simp [World.cell?, h], by simp [World.cell?, h], by simp [World.cell?, h]⟩
  | 3, _ => exact ⟨⟨120, ⟨#[]⟩, ⟨#[]⟩⟩, rfl, by simp [World.cell?, h], by simp [World.cell?, h], by simp [World.cell?, h]⟩
  | 4, _ => exact ⟨⟨116, ⟨#[122, 122]⟩, ⟨#[]⟩⟩, rfl, by simp [World.cell?, h], by simp [World.cell?, h], by simp [World.cell?, h]⟩
  | 5, _ => exact ⟨⟨116, ⟨#[]⟩, ⟨#[]⟩⟩, rfl, by simp [World.cell?, h], by simp [World.cell?, h], by simp [World.cell?, h]⟩
theorem other_slim {x : Tok} (h : x ∈ otherT) : Slim x := by
  unfold otherT at h
  simp only [List.mem_cons, List.not_mem_nil, or_false] at h
  rcases h with rfl | rfl | rfl | rfl | rfl | rfl <;> exact ⟨by decide +kernel, by decide +kernel⟩

/-- A token put into a row. -/
def put3 (W : World) (g o : Nat) (x : Tok) : World := ((W.setCell ⟨g, o, none⟩ (.int .u8 (x.kind : Int))).setCell ⟨g, o + 1, none⟩ (.string x.text)).setCell ⟨g, o + 2, none⟩ (.string x.head)
theorem put3_other {W : World} {g o b : Nat} {x : Tok} (h : b ≠ g) : (put3 W g o x).heap[b]? = W.heap[b]? := by
  unfold put3
  rw [Below.heap_setCell _ _ _ _ h, Below.heap_setCell _ _ _ _ h, Below.heap_setCell _ _ _ _ h]
theorem put3_below {B : Nat} {a W : World} {g o : Nat} {x : Tok} (hg : B ≤ g) (h : Below B a W) : Below B a (put3 W g o x) :=
  ((h.setCell (p := ⟨g, o, none⟩) hg _).setCell (p := ⟨g, o + 1, none⟩) hg _).setCell (p := ⟨g, o + 2, none⟩) hg _
theorem put3_size {W : World} {g o : Nat} {x : Tok} : (put3 W g o x).heap.size = W.heap.size := by unfold put3; simp [World.setCell]
theorem put3_cells {W : World} {g o j : Nat} {x : Tok} (h : j ≠ o ∧ j ≠ o + 1 ∧ j ≠ o + 2) : (put3 W g o x).cell? ⟨g, j, none⟩ = W.cell? ⟨g, j, none⟩ := by
  unfold put3
  rw [World.cell?_setCell_other _ _ _ _ (fun e => h.2.2 (congrArg Addr.off e).symm), World.cell?_setCell_other _ _ _ _ (fun e => h.2.1 (congrArg Addr.off e).symm), World.cell?_setCell_other _ _ _ _ (fun e => h.1 (congrArg Addr.off e).symm)]
theorem put3_same {W : World} {g o : Nat} {x : Tok} {u0 u1 u2 : Value} (h0 : W.cell? ⟨g, o, none⟩ = some u0) (h1 : W.cell? ⟨g, o + 1, none⟩ = some u1) (h2 : W.cell? ⟨g, o + 2, none⟩ = some u2) :
    (put3 W g o x).cell? ⟨g, o, none⟩ = some (.int .u8 (x.kind : Int)) ∧ (put3 W g o x).cell? ⟨g, o + 1, none⟩ = some (.string x.text) ∧ (put3 W g o x).cell? ⟨g, o + 2, none⟩ = some (.string x.head) := by
  unfold put3
  have k1 : (W.setCell ⟨g, o, none⟩ (.int .u8 (x.kind : Int))).cell? ⟨g, o + 1, none⟩ = some u1 := (World.cell?_setCell_other _ _ _ _ (fun e => by have := congrArg Addr.off e; simp only at this; omega)).trans h1
  have k2 : ((W.setCell ⟨g, o, none⟩ (.int .u8 (x.kind : Int))).setCell ⟨g, o + 1, none⟩ (.string x.text)).cell? ⟨g, o + 2, none⟩ = some u2 := (World.cell?_setCell_other _ _ _ _ (fun e => by have := congrArg Addr.off e; simp only at this; omega)).trans ((World.cell?_setCell_other _ _ _ _ (fun e => by have := congrArg Addr.off e; simp only at this; omega)).trans h2)
  refine ⟨?_, ?_, cell_set k2 _⟩
  · rw [World.cell?_setCell_other _ _ _ _ (fun e => by have := congrArg Addr.off e; simp only at this; omega), World.cell?_setCell_other _ _ _ _ (fun e => by have := congrArg Addr.off e; simp only at this; omega)]
    exact cell_set h0 _
  · rw [World.cell?_setCell_other _ _ _ _ (fun e => by have := congrArg Addr.off e; simp only at this; omega)]
    exact cell_set k1 _
theorem toks_put3 {W : World} {S : Nat → Prop} {g n c : Nat} {l : List Tok} {w x : Tok} (h : Toks W S (.slice (some ⟨g, 0, none⟩) l.length c) l) (hn : l[n]? = some w) : Toks (put3 W g (n * 3) x) S (.slice (some ⟨g, 0, none⟩) l.length c) (l.set n x) := by
  have hnl := (List.getElem?_eq_some_iff.1 hn).1
  obtain ⟨b, o, he, hS, h0, h1, h2⟩ := h.get hn
  injection he with he; injection he with he1 he2; subst he1; subst he2
  rw [Nat.zero_add] at h0 h1 h2
  obtain ⟨q0, q1, q2⟩ := put3_same (x := x) h0 h1 h2
  obtain ⟨A', c', hv, l1, l2, hr⟩ := h
  injection hv with hA _ hc
  subst hc
  refine ⟨_, c, by rw [List.length_set], by rw [List.length_set]; exact l1, l2, .inr ⟨g, 0, rfl, hS, fun i t hi => ?_⟩⟩
  rw [Nat.zero_add]
  rcases hr with rfl | ⟨b', o', e, hb', hcell⟩
  · simp at hn
  · rw [← hA] at e
    injection e with e; injection e with e1 e2; subst e1; subst e2
    by_cases hin : i = n
    · subst hin
      rw [List.getElem?_set_self hnl] at hi
      injection hi with hi; subst hi
      exact ⟨q0, q1, q2⟩
    · rw [List.getElem?_set_ne (fun e => hin e.symm)] at hi
      obtain ⟨x0, x1, x2⟩ := hcell i t hi
      rw [Nat.zero_add] at x0 x1 x2
      exact ⟨(put3_cells ⟨by omega, by omega, by omega⟩).trans x0, (put3_cells ⟨by omega, by omega, by omega⟩).trans x1, (put3_cells ⟨by omega, by omega, by omega⟩).trans x2⟩
/-- The changed row's tokens are as they were just if the token is. -/
theorem set_back {t : List Tok} {n : Nat} {w x : Tok} (hw : t[n]? = some w) : t.set n x = t ↔ w = x := by
  obtain ⟨hl, he⟩ := List.getElem?_eq_some_iff.1 hw
  constructor
  · intro h
    have h1 : (t.set n x)[n]? = some x := List.getElem?_set_self hl
    rw [h, hw] at h1
    exact Option.some.inj h1
  · rintro rfl
    rw [← he]; exact List.set_getElem_self hl
theorem build_tokW : ∀ (n : Nat) (l : List Tok) (s : List UInt8), l.length ≤ n → buildW l = some s → s.length ≤ tokW l
  | _, [], s, _, h => by
    rw [buildW_nil] at h
    injection h with h; subst h; simp
  | 0, t :: l, s, hn, _ => by simp at hn
  | n + 1, t :: l, s, hn, h => by
    have hp := partN_pos t l
    rw [buildW_step _ (by simp)] at h
    obtain ⟨j, hj⟩ : ∃ j, partN (t :: l) = j + 1 := ⟨partN (t :: l) - 1, by omega⟩
    cases hq : partB ((t :: l).take (partN (t :: l))) with
    | none => rw [hq] at h; cases h
    | some a =>
      rw [hq] at h
      cases hr : buildW ((t :: l).drop (partN (t :: l))) with
      | none => rw [hr] at h; cases h
      | some b =>
        rw [hr] at h
        have hs : s = a ++ b := by injection h with h; exact h.symm
        subst hs
        have h1 := build_tokW n _ b (by simp only [List.length_drop, List.length_cons] at *; omega) hr
        have h2 : tokW (t :: l) = tokW ((t :: l).take (partN (t :: l))) + tokW ((t :: l).drop (partN (t :: l))) := by rw [← tokW_app, List.take_append_drop]
        have h3 : a.length ≤ tokW ((t :: l).take (partN (t :: l))) := by
          rw [hj, List.take_succ_cons] at hq ⊢
          exact part_tokW hq
        rw [List.length_append]; omega
theorem build_weigh (l : List Tok) : weighAll (buildB l).1 ≤ 8 * tokW l + 3 := by
  unfold buildB
  cases hq : buildW l with
  | none => simp [weighAll]
  | some s =>
    have h1 := build_tokW _ l s (Nat.le_refl _) hq
    have h2 := readL_weigh s
    simp only
    unfold parseAllB
    rcases hr : readL s with ⟨k, b⟩
    rw [hr] at h2
    cases b with
    | false => simp [weighAll]
    | true =>
      simp only at h2 ⊢
      split
      · show weighAll k ≤ _; omega
      · simp [weighAll]
end Go.Proofs.YtaepolgmojkglaaDoor
