/-
  Right expressions, their names, and them with another name (no program is named here; which texts are names is ok's).
-/
import Derived.Test.YtldmimekmjmkgaaDoorEa
namespace Go.Proofs.YtldmimekmjmkgaaDoor
open Go.RowKit

def repE (o : Nat) : Bool := o == 42 || o == 43 || o == 63
/-- Right as far as itself and the ops of its kids can tell. -/
def shapedE (ok : ByteArray → Bool) (e : Ex) : Bool :=
  if e.op = 110 then e.kids.length == 0 && ok e.name
  else if e.name ≠ ByteArray.empty then false
  else if e.op = 115 then e.kids.length != 1 && !(e.kids.any fun k => k.op == 115)
  else if e.op = 97 then decide (2 ≤ e.kids.length) && !(e.kids.any fun k => k.op == 97)
  else repE e.op && (match e.kids with | [k] => !repE k.op | _ => false)
mutual
def sizeE : Ex → Nat
  | .mk _ _ l => 1 + sizeEs l
def sizeEs : List Ex → Nat
  | [] => 0
  | x :: l => sizeE x + sizeEs l
end
mutual
def allE (ok : ByteArray → Bool) : Ex → Bool
  | .mk o s l => shapedE ok (.mk o s l) && allEs ok l
def allEs (ok : ByteArray → Bool) : List Ex → Bool
  | [] => true
  | x :: l => allE ok x && allEs ok l
end
/-- Right answers so: all of it is shaped, and there is no more of it than one may hold. -/
def rightE (ok : ByteArray → Bool) (e : Ex) : Bool := allE ok e && decide (sizeE e ≤ 24)
mutual
def namesE : Ex → List ByteArray
  | .mk o s l => if o = 110 then [s] else namesEs l
def namesEs : List Ex → List ByteArray
  | [] => []
  | x :: l => namesE x ++ namesEs l
end
mutual
def renE (f t : ByteArray) : Ex → Ex
  | .mk o s l => .mk o (if o = 110 ∧ s = f then t else s) (renEs f t l)
def renEs (f t : ByteArray) : List Ex → List Ex
  | [] => []
  | x :: l => renE f t x :: renEs f t l
end
theorem mem_allEs {ok : ByteArray → Bool} : ∀ {l : List Ex}, allEs ok l = true → ∀ x ∈ l, allE ok x = true
  | [], _, x, hx => by cases hx
  | y :: l, h, x, hx => by
    simp only [allEs, Bool.and_eq_true] at h
    rcases List.mem_cons.1 hx with rfl | hx
    · exact h.1
    · exact mem_allEs h.2 x hx
theorem size_mem : ∀ {l : List Ex} {x : Ex}, x ∈ l → sizeE x ≤ sizeEs l
  | [], x, hx => by cases hx
  | y :: l, x, hx => by
    rcases List.mem_cons.1 hx with rfl | hx
    · simp only [sizeEs]; omega
    · have := size_mem hx; simp only [sizeEs]; omega
theorem right_kid {ok : ByteArray → Bool} {e x : Ex} (h : rightE ok e = true) (hx : x ∈ e.kids) : rightE ok x = true := by
  obtain ⟨o, s, l⟩ := e
  simp only [rightE, Bool.and_eq_true, decide_eq_true_iff] at h ⊢
  have h1 : x ∈ l := hx
  have h2 := size_mem h1
  have h3 := h.2
  have h4 := h.1
  simp only [sizeE] at h3
  simp only [allE, Bool.and_eq_true] at h4
  exact ⟨mem_allEs h4.2 x h1, by omega⟩
/-- The three repeated forms of an expression are right alike. -/
theorem right_rep {ok : ByteArray → Bool} {e : Ex} {o p : Nat} (ho : repE o = true) (hp : repE p = true) : rightE ok (.mk o ByteArray.empty [e]) = rightE ok (.mk p ByteArray.empty [e]) := by
  have h1 : ∀ q, repE q = true → shapedE ok (.mk q ByteArray.empty [e]) = !repE e.op := by
    intro q hq
    have h2 : q ≠ 110 ∧ q ≠ 115 ∧ q ≠ 97 := by
      simp only [repE, Bool.or_eq_true, beq_iff_eq] at hq
      omega
    simp [shapedE, Ex.op, Ex.name, Ex.kids, h2.1, h2.2.1, h2.2.2, hq]
  unfold rightE allE sizeE
  rw [h1 o ho, h1 p hp]

mutual
theorem names_size : ∀ (e : Ex) (n : Nat), (place e n).names.length ≤ sizeE e
  | .mk o s l, n => by
    unfold place sizeE
    split
    · simp [pOne]
    · split
      · have h1 := names_sizeS l pEps n; have h2 : pEps.names.length = 0 := rfl; omega
      · split
        · have h1 := names_sizeA l pVoid n; have h2 : pVoid.names.length = 0 := rfl; omega
        · have := names_sizeO l n
          split
          · simp only [pLoop]; omega
          · split
            · simp only [pLoop]; omega
            · simp only [pOpt]; omega
theorem names_sizeS : ∀ (l : List Ex) (a : Pl) (n : Nat), (placeSeq a l n).names.length ≤ a.names.length + sizeEs l
  | [], a, n => by simp [placeSeq, sizeEs]
  | x :: l, a, n => by
    unfold placeSeq sizeEs
    have h1 := names_size x n
    have h2 := names_sizeS l (pCat a (place x n)) (n + (place x n).names.length)
    simp only [pCat, List.length_append] at h2 ⊢
    omega
theorem names_sizeA : ∀ (l : List Ex) (a : Pl) (n : Nat), (placeAlt a l n).names.length ≤ a.names.length + sizeEs l
  | [], a, n => by simp [placeAlt, sizeEs]
  | x :: l, a, n => by
    unfold placeAlt sizeEs
    have h1 := names_size x n
    have h2 := names_sizeA l (pAlt a (place x n)) (n + (place x n).names.length)
    simp only [pAlt, List.length_append] at h2 ⊢
    omega
theorem names_sizeO : ∀ (l : List Ex) (n : Nat), (placeOne l n).names.length ≤ sizeEs l
  | [], n => by simp [placeOne, pVoid]
  | x :: l, n => by
    unfold placeOne sizeEs
    have := names_size x n
    omega
end

/-! ### names of a row -/
def In (L : Rws) (N : List ByteArray) : Prop := ∀ w, L w → ∀ s ∈ w, s ∈ N
theorem in_star {A : Rws} {N : List ByteArray} (h : In A N) : In (lStar A) N := by
  intro w hw
  induction hw with
  | nil => intro s hs; cases hs
  | app hu _ ih => intro s hs; exact (List.mem_append.1 hs).elim (h _ hu s) (ih s)
theorem in_cat {A B : Rws} {N M : List ByteArray} (h : In A N) (h' : In B M) : In (lCat A B) (N ++ M) := by
  rintro w ⟨u, v, rfl, hu, hv⟩ s hs
  exact (List.mem_append.1 hs).elim (fun h1 => List.mem_append.2 (.inl (h u hu s h1))) (fun h1 => List.mem_append.2 (.inr (h' v hv s h1)))
mutual
theorem lang_names : ∀ e : Ex, In (lang e) (namesE e)
  | .mk o s l => by
    unfold lang namesE
    by_cases h : o = 110
    · rw [if_pos h, if_pos h]; rintro w rfl t ht; exact ht
    · rw [if_neg h, if_neg h]
      split
      · exact seq_names l
      · split
        · exact alt_names l
        · split
          · exact in_star (one_names l)
          · split
            · intro w hw t ht
              exact (List.mem_append.1 (in_cat (one_names l) (in_star (one_names l)) w hw t ht)).elim id id
            · rintro w (rfl | hw) t ht
              · cases ht
              · exact one_names l w hw t ht
theorem seq_names : ∀ l : List Ex, In (langSeq l) (namesEs l)
  | [] => by unfold langSeq; rintro w rfl t ht; cases ht
  | x :: l => by unfold langSeq namesEs; exact in_cat (lang_names x) (seq_names l)
theorem alt_names : ∀ l : List Ex, In (langAlt l) (namesEs l)
  | [] => by unfold langAlt; rintro w h; cases h
  | x :: l => by
    unfold langAlt namesEs
    rintro w (h | h) t ht
    · exact List.mem_append.2 (.inl (lang_names x w h t ht))
    · exact List.mem_append.2 (.inr (alt_names l w h t ht))
theorem one_names : ∀ l : List Ex, In (langOne l) (namesEs l)
  | [] => by unfold langOne; rintro w h; cases h
  | x :: l => by
    unfold langOne namesEs
    intro w h t ht
    exact List.mem_append.2 (.inl (lang_names x w h t ht))
end

/-! ### another name -/
def swapN (f t s : ByteArray) : ByteArray := if s = f then t else s
def Img (f t : ByteArray) (L L' : Rws) : Prop := ∀ w, L' w ↔ ∃ v, L v ∧ v.map (swapN f t) = w
theorem img_eps (f t : ByteArray) : Img f t (fun w => w = []) (fun w => w = []) := fun w => ⟨fun h => ⟨[], rfl, h.symm⟩, fun ⟨v, h1, h2⟩ => by rw [← h2, h1]; rfl⟩
theorem img_cat {f t : ByteArray} {A A' B B' : Rws} (h : Img f t A A') (h' : Img f t B B') : Img f t (lCat A B) (lCat A' B') := by
  intro w
  constructor
  · rintro ⟨u, v, rfl, hu, hv⟩
    obtain ⟨u', h1, rfl⟩ := (h u).1 hu
    obtain ⟨v', h2, rfl⟩ := (h' v).1 hv
    exact ⟨u' ++ v', ⟨u', v', rfl, h1, h2⟩, List.map_append⟩
  · rintro ⟨_, ⟨u, v, rfl, hu, hv⟩, rfl⟩
    exact ⟨_, _, List.map_append, (h _).2 ⟨u, hu, rfl⟩, (h' _).2 ⟨v, hv, rfl⟩⟩
theorem img_star {f t : ByteArray} {A A' : Rws} (h : Img f t A A') : Img f t (lStar A) (lStar A') := by
  intro w
  constructor
  · intro hw
    induction hw with
    | nil => exact ⟨[], .nil, rfl⟩
    | app hu _ ih =>
      obtain ⟨u', h1, rfl⟩ := (h _).1 hu
      obtain ⟨v', h2, rfl⟩ := ih
      exact ⟨u' ++ v', .app h1 h2, List.map_append⟩
  · rintro ⟨v, hv, rfl⟩
    induction hv with
    | nil => exact .nil
    | app hu _ ih => rw [List.map_append]; exact .app ((h _).2 ⟨_, hu, rfl⟩) ih
theorem img_alt {f t : ByteArray} {A A' B B' : Rws} (h : Img f t A A') (h' : Img f t B B') : Img f t (fun w => A w ∨ B w) (fun w => A' w ∨ B' w) := by
  intro w
  constructor
  · rintro (h1 | h1)
    · obtain ⟨v, h2, h3⟩ := (h w).1 h1; exact ⟨v, .inl h2, h3⟩
    · obtain ⟨v, h2, h3⟩ := (h' w).1 h1; exact ⟨v, .inr h2, h3⟩
  · rintro ⟨v, h1 | h1, h2⟩
    · exact .inl ((h w).2 ⟨v, h1, h2⟩)
    · exact .inr ((h' w).2 ⟨v, h1, h2⟩)
theorem img_void (f t : ByteArray) : Img f t (fun _ => False) (fun _ => False) := fun _ => ⟨fun h => h.elim, fun ⟨_, h, _⟩ => h⟩
mutual
theorem lang_ren (f t : ByteArray) : ∀ e : Ex, Img f t (lang e) (lang (renE f t e))
  | .mk o s l => by
    unfold renE lang
    by_cases h : o = 110
    · rw [if_pos h, if_pos h]
      intro w
      have e1 : (if o = 110 ∧ s = f then t else s) = swapN f t s := by simp [swapN, h]
      rw [e1]
      exact ⟨fun h1 => ⟨[s], rfl, h1.symm⟩, fun ⟨v, h1, h2⟩ => by rw [← h2, h1]; rfl⟩
    · rw [if_neg h, if_neg h]
      by_cases h1 : o = 115
      · rw [if_pos h1, if_pos h1]; exact seq_ren f t l
      · rw [if_neg h1, if_neg h1]
        by_cases h2 : o = 97
        · rw [if_pos h2, if_pos h2]; exact alt_ren f t l
        · rw [if_neg h2, if_neg h2]
          by_cases h3 : o = 42
          · rw [if_pos h3, if_pos h3]; exact img_star (one_ren f t l)
          · rw [if_neg h3, if_neg h3]
            by_cases h4 : o = 43
            · rw [if_pos h4, if_pos h4]; exact img_cat (one_ren f t l) (img_star (one_ren f t l))
            · rw [if_neg h4, if_neg h4]; exact img_alt (img_eps f t) (one_ren f t l)
theorem seq_ren (f t : ByteArray) : ∀ l : List Ex, Img f t (langSeq l) (langSeq (renEs f t l))
  | [] => by unfold renEs langSeq; exact img_eps f t
  | x :: l => by unfold renEs langSeq; exact img_cat (lang_ren f t x) (seq_ren f t l)
theorem alt_ren (f t : ByteArray) : ∀ l : List Ex, Img f t (langAlt l) (langAlt (renEs f t l))
  | [] => by unfold renEs langAlt; exact img_void f t
  | x :: l => by unfold renEs langAlt; exact img_alt (lang_ren f t x) (alt_ren f t l)
theorem one_ren (f t : ByteArray) : ∀ l : List Ex, Img f t (langOne l) (langOne (renEs f t l))
  | [] => by unfold renEs langOne; exact img_void f t
  | x :: l => by unfold renEs langOne; exact lang_ren f t x
end
theorem swap_inj {f t : ByteArray} : ∀ {u v : List ByteArray}, t ∉ u → t ∉ v → u.map (swapN f t) = v.map (swapN f t) → u = v
  | [], [], _, _, _ => rfl
  | [], y :: v, _, _, h => by cases h
  | x :: u, [], _, _, h => by cases h
  | x :: u, y :: v, hu, hv, h => by
    simp only [List.map_cons, List.cons.injEq] at h
    simp only [List.mem_cons, not_or] at hu hv
    have e1 : x = y := by
      have h1 := h.1
      unfold swapN at h1
      split at h1
      · rename_i hx
        split at h1
        · rename_i hy; rw [hx, hy]
        · exact absurd h1 hv.1
      · split at h1
        · exact absurd h1.symm hu.1
        · exact h1
    rw [e1, swap_inj hu.2 hv.2 h.2]
/-- What a renamed expression means is what it meant, renamed, if the new name was not in it. -/
theorem ren_means {f t : ByteArray} {e : Ex} {w : List ByteArray} (he : t ∉ namesE e) (hw : t ∉ w) : lang (renE f t e) (w.map (swapN f t)) ↔ lang e w := by
  rw [lang_ren f t e]
  constructor
  · rintro ⟨v, h1, h2⟩
    rw [← swap_inj (fun h3 => he (lang_names e v h1 t h3)) hw h2]
    exact h1
  · intro h; exact ⟨w, h, rfl⟩
mutual
/-- Renamed back it is what it was. -/
theorem ren_back {ok : ByteArray → Bool} {f t : ByteArray} : ∀ e : Ex, allE ok e = true → t ∉ namesE e → renE t f (renE f t e) = e
  | .mk o s l, ha, hn => by
    simp only [renE]
    simp only [allE, Bool.and_eq_true] at ha
    by_cases h : o = 110
    · have hl : l = [] := by
        have h1 := ha.1
        unfold shapedE at h1
        rw [if_pos (show (Ex.mk o s l).op = 110 from h), Bool.and_eq_true, beq_iff_eq] at h1
        exact List.length_eq_zero_iff.1 h1.1
      subst hl
      have hs : ¬ s = t := by
        simp only [namesE, if_pos h, List.mem_singleton] at hn
        exact fun h1 => hn h1.symm
      have e2 : (if o = 110 ∧ (if o = 110 ∧ s = f then t else s) = t then f else if o = 110 ∧ s = f then t else s) = s := by
        by_cases hf : s = f
        · subst hf; simp [h]
        · simp [hf, hs]
      rw [e2]; rfl
    · simp only [namesE, if_neg h] at hn
      simp only [h, false_and, if_false]
      rw [rens_back l ha.2 hn]
theorem rens_back {ok : ByteArray → Bool} {f t : ByteArray} : ∀ l : List Ex, allEs ok l = true → t ∉ namesEs l → renEs t f (renEs f t l) = l
  | [], _, _ => by simp [renEs]
  | x :: l, ha, hn => by
    simp only [allEs, Bool.and_eq_true] at ha
    simp only [namesEs, List.mem_append, not_or] at hn
    simp only [renEs]
    rw [ren_back x ha.1 hn.1, rens_back l ha.2 hn.2]
end

/-! ### a sequence of two -/
theorem seq_two (e f : Ex) (w : List ByteArray) : langSeq [e, f] w ↔ ∃ i, i ≤ w.length ∧ lang e (w.take i) ∧ lang f (w.drop i) := by
  simp only [langSeq, lCat]
  constructor
  · rintro ⟨u, v, rfl, hu, v1, v2, rfl, hv1, rfl⟩
    exact ⟨u.length, by simp, by rw [List.take_left]; exact hu, by rw [List.drop_left, List.append_nil]; exact hv1⟩
  · rintro ⟨i, _, h1, h2⟩
    exact ⟨w.take i, w.drop i, (List.take_append_drop i w).symm, h1, w.drop i, [], by rw [List.append_nil], h2, rfl⟩
theorem alt_two (e f : Ex) (w : List ByteArray) : langAlt [e, f] w ↔ lang e w ∨ lang f w := by simp only [langAlt, or_false]
end Go.Proofs.YtldmimekmjmkgaaDoor
