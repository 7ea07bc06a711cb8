/-
  What is written of a right expression is read back (plain: no program's function is named here).
-/
import Derived.Test.YtldmimekmjmkgaaDoorGa
namespace Go.Proofs.YtldmimekmjmkgaaDoor
open Go.RowKit Go.Sort Go.Maps Go.WideMaps

abbrev WL (e : Ex) : List UInt8 := (writeE e).data.toList
abbrev IL (e : Ex) : List UInt8 := (inE e (writeE e)).data.toList
/-- No name goes on there. -/
def stU (r : List UInt8) : Prop := ∀ c t, r = c :: t → small c = false
def stR (r : List UInt8) : Prop := stU r ∧ ∀ c t, r = c :: t → repE c.toNat = false
def stS (r : List UInt8) : Prop := stR r ∧ ∀ c t, r = c :: t → c ≠ 32
def stA (r : List UInt8) : Prop := stS r ∧ ∀ c t, r = c :: t → c ≠ 124
theorem stU_cons {c : UInt8} {t : List UInt8} (h : small c = false) : stU (c :: t) := fun d u e => by injection e with h1 _; rw [← h1]; exact h
theorem stA_close (t : List UInt8) : stA (41 :: t) := ⟨⟨⟨stU_cons rfl, fun d u e => by injection e with h1 _; rw [← h1]; rfl⟩, fun d u e => by injection e with h1 _; rw [← h1]; decide⟩, fun d u e => by injection e with h1 _; rw [← h1]; decide⟩
theorem stA_nil : stA [] := ⟨⟨⟨fun _ _ e => (nomatch e), fun _ _ e => (nomatch e)⟩, fun _ _ e => (nomatch e)⟩, fun _ _ e => (nomatch e)⟩
theorem stR_space (t : List UInt8) : stR (32 :: t) := ⟨stU_cons rfl, fun d u e => by injection e with h1 _; rw [← h1]; rfl⟩
theorem stS_bar (t : List UInt8) : stS (124 :: t) := ⟨⟨stU_cons rfl, fun d u e => by injection e with h1 _; rw [← h1]; rfl⟩, fun d u e => by injection e with h1 _; rw [← h1]; decide⟩

theorem pre_one (c : UInt8) (t : List UInt8) : Lib.hasPrefix (c :: t) [c] = true := by simp [Lib.hasPrefix, List.isPrefixOf]
theorem pre_no {c : UInt8} {r : List UInt8} (h : ∀ d t, r = d :: t → d ≠ c) : Lib.hasPrefix r [c] = false := by
  cases r with
  | nil => rfl
  | cons d t =>
    have := h d t rfl
    simp only [Lib.hasPrefix, List.isPrefixOf, Bool.and_true, beq_eq_false_iff_ne]
    exact fun h => this h.symm
theorem trim_one (c : UInt8) (t : List UInt8) : Lib.trimPrefix (c :: t) [c] = t := by unfold Lib.trimPrefix; rw [if_pos (pre_one c t)]; rfl

/-- Units that are read of expressions. -/
def sumU (f : Ex → Nat) : List Ex → Nat
  | [] => 0
  | x :: l => f x + sumU f l
theorem sumU_len {f : Ex → Nat} : ∀ {l : List Ex}, (∀ x ∈ l, 1 ≤ f x) → l.length ≤ sumU f l
  | [], _ => Nat.le_refl _
  | x :: l, h => by have h1 := h x (List.mem_cons_self ..); have h2 := sumU_len (l := l) fun y hy => h y (List.mem_cons_of_mem _ hy); simp only [sumU, List.length_cons]; omega
theorem more_back {part : RdS → Ex × RdS} {c : UInt8} {wr : Ex → List UInt8} {f : Ex → Nat} {st : List UInt8 → Prop} {M : Int} : ∀ (l : List Ex) (k : Nat) (m : Int) (r : List UInt8),
    (∀ x ∈ l, 1 ≤ f x) → (∀ x ∈ l, ∀ (m : Int) (r : List UInt8), (f x : Int) ≤ m → m ≤ M → st r → part (wr x ++ r, m) = (x, (r, m - f x))) → (∀ t, st (c :: t)) → st r → (∀ d t, r = d :: t → d ≠ c) →
    (sumU f l : Int) ≤ m → m ≤ M → l.length ≤ k → moreP [c] part k ((l.map fun x => c :: wr x).flatten ++ r, m) = (l, (r, m - (sumU f l : Int)))
  | [], 0, m, r, _, _, _, _, _, _, _, _ => by simp [moreP, sumU]
  | [], k + 1, m, r, _, _, _, _, hr, _, _, _ => by
    rw [moreP, if_neg]
    · simp [sumU]
    · intro h
      have := pre_no hr
      simp only [List.map_nil, List.flatten_nil, List.nil_append] at h
      rw [this] at h
      exact absurd h.2 (by decide)
  | x :: l, 0, _, _, _, _, _, _, _, _, _, hk => by simp at hk
  | x :: l, k + 1, m, r, hf, hp, hc, hs, hr, hm, hM, hk => by
    have h1 := hf x (List.mem_cons_self ..)
    simp only [sumU] at hm
    have e0 : ((x :: l).map fun x => c :: wr x).flatten ++ r = c :: (wr x ++ ((l.map fun x => c :: wr x).flatten ++ r)) := by simp
    have hst : st ((l.map fun x => c :: wr x).flatten ++ r) := by
      cases l with
      | nil => simpa using hs
      | cons y l => simp only [List.map_cons, List.flatten_cons, List.cons_append]; exact hc _
    have e1 := hp x (List.mem_cons_self ..) m _ (by omega) hM hst
    have e2 := more_back (part := part) (c := c) (wr := wr) (f := f) (st := st) (M := M) l k (m - f x) r (fun y hy => hf y (List.mem_cons_of_mem _ hy)) (fun y hy => hp y (List.mem_cons_of_mem _ hy)) hc hs hr (by omega) (by omega) (by simp at hk; omega)
    rw [e0, moreP, if_pos ⟨by show 0 < m; omega, pre_one _ _⟩]
    simp only [skipL, trim_one]
    rw [e1]
    simp only
    rw [e2]
    simp only [sumU, Prod.mk.injEq, true_and]
    omega
theorem several_back {part : RdS → Ex × RdS} {c : UInt8} {op : Nat} {wr : Ex → List UInt8} {f : Ex → Nat} {st : List UInt8 → Prop} {M : Int} (x : Ex) (l : List Ex) (m : Int) (r : List UInt8)
    (hf : ∀ y ∈ x :: l, 1 ≤ f y) (hp : ∀ y ∈ x :: l, ∀ (m : Int) (r : List UInt8), (f y : Int) ≤ m → m ≤ M → st r → part (wr y ++ r, m) = (y, (r, m - f y))) (hc : ∀ t, st (c :: t)) (hs : st r) (hr : ∀ d t, r = d :: t → d ≠ c)
    (hm : (sumU f (x :: l) : Int) ≤ m) (hM : m ≤ M) :
    severalP op [c] part (wr x ++ ((l.map fun x => c :: wr x).flatten ++ r), m) = (if l.length = 0 then x else .mk op ByteArray.empty (x :: l), (r, m - (sumU f (x :: l) : Int))) := by
  simp only [sumU] at hm
  have hst : st ((l.map fun x => c :: wr x).flatten ++ r) := by
    cases l with
    | nil => simpa using hs
    | cons y l => simp only [List.map_cons, List.flatten_cons, List.cons_append]; exact hc _
  have e1 := hp x (List.mem_cons_self ..) m _ (by omega) hM hst
  have hl := sumU_len (f := f) (l := l) fun y hy => hf y (List.mem_cons_of_mem _ hy)
  have e2 := more_back (part := part) (c := c) (wr := wr) (f := f) (st := st) (M := M) l (m - f x).toNat (m - f x) r (fun y hy => hf y (List.mem_cons_of_mem _ hy)) (fun y hy => hp y (List.mem_cons_of_mem _ hy)) hc hs hr (by omega) (by have := hf x (List.mem_cons_self ..); omega) (by omega)
  unfold severalP
  rw [e1]
  simp only
  rw [e2]
  simp only [sumU]
  split
  · simp only [Prod.mk.injEq, true_and]; omega
  · simp only [Prod.mk.injEq, true_and]; omega

mutual
/-- Units of an expression as it stands in a row. -/
def uI : Ex → Nat
  | .mk o _ l => if o = 110 then 1 else if o = 97 then 1 + sumR l else if o = 115 then 1 + sumI l else firstI l
def sumI : List Ex → Nat
  | [] => 0
  | x :: l => uI x + sumI l
def firstI : List Ex → Nat
  | [] => 0
  | x :: _ => uI x
/-- As it stands between bars. -/
def uR : Ex → Nat
  | .mk o _ l => if o = 110 then 1 else if o = 97 then 1 + sumR l else if o = 115 then (if l.length = 0 then 1 else sumI l) else firstI l
def sumR : List Ex → Nat
  | [] => 0
  | x :: l => uR x + sumR l
end
/-- As it stands alone. -/
def uC (e : Ex) : Nat := if e.op = 97 then sumR e.kids else uR e
theorem sumI_is : ∀ l, sumI l = sumU uI l
  | [] => rfl
  | x :: l => by rw [sumI, sumU, sumI_is l]
theorem sumR_is : ∀ l, sumR l = sumU uR l
  | [] => rfl
  | x :: l => by rw [sumR, sumU, sumR_is l]
mutual
theorem uI_size : ∀ e : Ex, uI e ≤ sizeE e
  | .mk o s l => by
    have h1 := sumI_size l
    have h2 := sumR_size l
    have h3 := firstI_size l
    unfold uI sizeE
    split
    · omega
    · split
      · omega
      · split
        · omega
        · omega
theorem sumI_size : ∀ l : List Ex, sumI l ≤ sizeEs l
  | [] => Nat.le_refl _
  | x :: l => by have h1 := uI_size x; have h2 := sumI_size l; unfold sumI sizeEs; omega
theorem firstI_size : ∀ l : List Ex, firstI l ≤ sizeEs l
  | [] => Nat.le_refl _
  | x :: l => by have h1 := uI_size x; unfold firstI sizeEs; omega
theorem uR_size : ∀ e : Ex, uR e ≤ sizeE e
  | .mk o s l => by
    have h1 := sumI_size l
    have h2 := sumR_size l
    have h3 := firstI_size l
    unfold uR sizeE
    split
    · omega
    · split
      · omega
      · split
        · split <;> omega
        · omega
theorem sumR_size : ∀ l : List Ex, sumR l ≤ sizeEs l
  | [] => Nat.le_refl _
  | x :: l => by have h1 := uR_size x; have h2 := sumR_size l; unfold sumR sizeEs; omega
end
theorem uC_size (e : Ex) : uC e ≤ sizeE e := by
  unfold uC
  split
  · obtain ⟨o, s, l⟩ := e
    have := sumR_size l
    simp only [Ex.kids, sizeE]; omega
  · exact uR_size e
end Go.Proofs.YtldmimekmjmkgaaDoor
