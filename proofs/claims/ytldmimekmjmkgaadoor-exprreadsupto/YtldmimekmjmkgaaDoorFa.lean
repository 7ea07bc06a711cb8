/-
  What it is for memory to hold an expression (no program is named here).
-/
import Derived.Test.YtldmimekmjmkgaaDoorEg
import Derived.Test.YtldmimekmjmkgaaDoorTree
namespace Go.Proofs.YtldmimekmjmkgaaDoor
open Go.RowKit

namespace Ex
mutual
theorem induct_one {P : Ex → Prop} (h : ∀ o s l, (∀ x, x ∈ l → P x) → P (.mk o s l)) : ∀ t, P t
  | .mk o s l => h o s l (induct_all h l)
theorem induct_all {P : Ex → Prop} (h : ∀ o s l, (∀ x, x ∈ l → P x) → P (.mk o s l)) : ∀ (l : List Ex) (x : Ex), x ∈ l → P x
  | [], _, hx => by cases hx
  | y :: l, x, hx => by
    rcases List.mem_cons.1 hx with e | e
    · rw [e]; exact induct_one h y
    · exact induct_all h l x e
end
mutual
def weigh : Ex → Nat
  | .mk _ s l => s.size + 1 + weighAll l
def weighAll : List Ex → Nat
  | [] => 0
  | x :: l => weigh x + weighAll l
end
theorem weigh_mem : ∀ {l : List Ex} {x : Ex}, x ∈ l → weigh x ≤ weighAll l
  | [], x, hx => by cases hx
  | y :: l, x, hx => by
    rcases List.mem_cons.1 hx with rfl | hx
    · simp only [weighAll]; omega
    · have := weigh_mem hx; simp only [weighAll]; omega
theorem length_weigh : ∀ l : List Ex, l.length ≤ weighAll l
  | [] => by simp [weighAll]
  | x :: l => by have := length_weigh l; have h : 1 ≤ weigh x := by { obtain ⟨o, s, l⟩ := x; simp only [weigh]; omega }; simp only [weighAll, List.length_cons]; omega
mutual
/-- All ops are bytes, all names are as long as a text may be. -/
def fits : Ex → Prop
  | .mk o s l => o < 256 ∧ s.size ≤ maxLen ∧ fitsAll l
def fitsAll : List Ex → Prop
  | [] => True
  | x :: l => fits x ∧ fitsAll l
end
theorem fits_mem : ∀ {l : List Ex} {x : Ex}, fitsAll l → x ∈ l → fits x
  | [], x, _, hx => by cases hx
  | y :: l, x, h, hx => by
    rcases List.mem_cons.1 hx with rfl | hx
    · exact h.1
    · exact fits_mem h.2 hx
theorem fits.op {e : Ex} (h : e.fits) : e.op < 256 := by obtain ⟨o, s, l⟩ := e; exact h.1
theorem fits.name {e : Ex} (h : e.fits) : e.name.size ≤ maxLen := by obtain ⟨o, s, l⟩ := e; exact h.2.1
theorem fits.kid {e x : Ex} (h : e.fits) (hx : x ∈ e.kids) : x.fits := by obtain ⟨o, s, l⟩ := e; exact fits_mem h.2.2 hx
end Ex

mutual
/-- The three cells of an expression at block b, offset o. -/
def ExAt (w : World) (S : Nat → Prop) : Ex → Nat → Nat → Prop
  | .mk op s l, b, o => w.cell? ⟨b, o, none⟩ = some (.int .u8 op) ∧ w.cell? ⟨b, o + 1, none⟩ = some (.string s) ∧
      ∃ A c, w.cell? ⟨b, o + 2, none⟩ = some (.slice A l.length c) ∧ l.length ≤ c ∧ c ≤ maxLen ∧ (l = [] ∨ ∃ b' o', A = some ⟨b', o', none⟩ ∧ S b' ∧ ExsAt w S l b' o')
def ExsAt (w : World) (S : Nat → Prop) : List Ex → Nat → Nat → Prop
  | [], _, _ => True
  | t :: l, b, o => ExAt w S t b o ∧ ExsAt w S l b (o + 3)
end
/-- A slice of expressions. -/
def Exs (w : World) (S : Nat → Prop) (v : Value) (l : List Ex) : Prop :=
  ∃ A c, v = .slice A l.length c ∧ l.length ≤ c ∧ c ≤ maxLen ∧ (l = [] ∨ ∃ b o, A = some ⟨b, o, none⟩ ∧ S b ∧ ExsAt w S l b o)
/-- An expression as a value: its three parts. -/
def ExV (w : World) (S : Nat → Prop) (v : Value) (e : Ex) : Prop :=
  ∃ vk, v = .agg #[.int .u8 e.op, .string e.name, vk] ∧ Exs w S vk e.kids

section
variable {w w' : World} {S S' : Nat → Prop}
theorem exAt_iff (t : Ex) (b o : Nat) : ExAt w S t b o ↔ ∃ vk, w.cell? ⟨b, o, none⟩ = some (.int .u8 t.op) ∧ w.cell? ⟨b, o + 1, none⟩ = some (.string t.name) ∧ w.cell? ⟨b, o + 2, none⟩ = some vk ∧ Exs w S vk t.kids := by
  obtain ⟨k, s, l⟩ := t
  simp only [ExAt, Ex.op, Ex.name, Ex.kids, Exs]
  constructor
  · rintro ⟨h0, h1, A, c, h2, hc, hx, hk⟩
    exact ⟨_, h0, h1, h2, A, c, rfl, hc, hx, hk⟩
  · rintro ⟨vk, h0, h1, h2, A, c, rfl, hc, hx, hk⟩
    exact ⟨h0, h1, A, c, h2, hc, hx, hk⟩
theorem exsAt_get : ∀ (l : List Ex) (b o : Nat), ExsAt w S l b o → ∀ i t, l[i]? = some t → ExAt w S t b (o + i * 3)
  | [], _, _, _, i, t, h => by simp at h
  | x :: l, b, o, hr, i, t, h => by
    simp only [ExsAt] at hr
    cases i with
    | zero => simp at h; subst h; simpa using hr.1
    | succ i =>
      have := exsAt_get l b (o + 3) hr.2 i t (by simpa using h)
      rw [show o + (i + 1) * 3 = o + 3 + i * 3 by omega]
      exact this
theorem exsAt_of : ∀ (l : List Ex) (b o : Nat), (∀ i t, l[i]? = some t → ExAt w S t b (o + i * 3)) → ExsAt w S l b o
  | [], _, _, _ => by simp [ExsAt]
  | x :: l, b, o, h => by
    simp only [ExsAt]
    refine ⟨by simpa using h 0 x (by simp), exsAt_of l b (o + 3) fun i t hi => ?_⟩
    have := h (i + 1) t (by simpa using hi)
    rw [show o + (i + 1) * 3 = o + 3 + i * 3 by omega] at this
    exact this
theorem exAt_keep (hS : ∀ b, S b → S' b) (hk : ∀ b, S b → w'.heap[b]? = w.heap[b]?) : ∀ (t : Ex) (b o : Nat), w'.heap[b]? = w.heap[b]? → ExAt w S t b o → ExAt w' S' t b o := by
  intro t
  induction t using Ex.induct_one with
  | h k s l ih =>
    intro b o hb h
    simp only [ExAt] at h ⊢
    obtain ⟨h0, h1, A, c, h2, hc, hx, hl⟩ := h
    refine ⟨(World.cell?_of_block (a := ⟨b, o, none⟩) hb).trans h0, (World.cell?_of_block (a := ⟨b, o + 1, none⟩) hb).trans h1, A, c, (World.cell?_of_block (a := ⟨b, o + 2, none⟩) hb).trans h2, hc, hx, ?_⟩
    rcases hl with hl | ⟨b', o', rfl, hb', hr⟩
    · exact .inl hl
    · refine .inr ⟨b', o', rfl, hS b' hb', exsAt_of l b' o' fun i x hi => ?_⟩
      exact ih x (List.mem_of_getElem? hi) b' (o' + i * 3) (hk b' hb') (exsAt_get l b' o' hr i x hi)
theorem exsAt_keep (hS : ∀ b, S b → S' b) (hk : ∀ b, S b → w'.heap[b]? = w.heap[b]?) (l : List Ex) (b o : Nat) (hb : w'.heap[b]? = w.heap[b]?) (h : ExsAt w S l b o) : ExsAt w' S' l b o :=
  exsAt_of l b o fun i t hi => exAt_keep hS hk t b _ hb (exsAt_get l b o h i t hi)
theorem Exs.keep {v : Value} {l : List Ex} (h : Exs w S v l) (hS : ∀ b, S b → S' b) (hk : ∀ b, S b → w'.heap[b]? = w.heap[b]?) : Exs w' S' v l := by
  obtain ⟨A, c, rfl, hc, hx, h⟩ := h
  refine ⟨A, c, rfl, hc, hx, ?_⟩
  rcases h with h | ⟨b, o, rfl, hb, h⟩
  · exact .inl h
  · exact .inr ⟨b, o, rfl, hS b hb, exsAt_keep hS hk l b o (hk b hb) h⟩
theorem ExV.keep {v : Value} {t : Ex} (h : ExV w S v t) (hS : ∀ b, S b → S' b) (hk : ∀ b, S b → w'.heap[b]? = w.heap[b]?) : ExV w' S' v t := by
  obtain ⟨vk, rfl, hl⟩ := h
  exact ⟨vk, rfl, hl.keep hS hk⟩
end
section
variable {w w' : World} {B : Nat}
theorem Exs.below {v : Value} {l : List Ex} (h : Exs w (Under B) v l) (hb : Below B w w') : Exs w' (Under B) v l := h.keep (fun _ h => h) fun b h => hb.block b h
theorem ExV.below {v : Value} {t : Ex} (h : ExV w (Under B) v t) (hb : Below B w w') : ExV w' (Under B) v t := h.keep (fun _ h => h) fun b h => hb.block b h
theorem Exs.more {B' : Nat} {v : Value} {l : List Ex} (h : Exs w (Under B) v l) (hB : B ≤ B') : Exs w (Under B') v l := h.keep (fun _ h => Nat.lt_of_lt_of_le h hB) fun _ _ => rfl
theorem ExV.more {B' : Nat} {v : Value} {t : Ex} (h : ExV w (Under B) v t) (hB : B ≤ B') : ExV w (Under B') v t := h.keep (fun _ h => Nat.lt_of_lt_of_le h hB) fun _ _ => rfl
/-- The k-th of a slice of expressions. -/
theorem Exs.get {S : Nat → Prop} {A : Option Addr} {n c : Nat} {l : List Ex} (h : Exs w S (.slice A n c) l) {k : Nat} {x : Ex} (hk : l[k]? = some x) :
    ∃ b o, A = some ⟨b, o, none⟩ ∧ S b ∧ ExAt w S x b (o + k * 3) := by
  obtain ⟨A', c', hv, _, _, h⟩ := h
  injection hv with hA _ _
  subst hA
  rcases h with h | ⟨b, o, rfl, hb, hr⟩
  · subst h; simp at hk
  · exact ⟨b, o, rfl, hb, exsAt_get l b o hr k x hk⟩
theorem Exs.len {S : Nat → Prop} {A : Option Addr} {n c : Nat} {l : List Ex} (h : Exs w S (.slice A n c) l) : n = l.length := by
  obtain ⟨A', c', hv, _⟩ := h
  injection hv
end
end Go.Proofs.YtldmimekmjmkgaaDoor
