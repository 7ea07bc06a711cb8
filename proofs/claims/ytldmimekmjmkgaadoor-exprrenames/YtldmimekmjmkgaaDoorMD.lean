/-
  What is written of a right expression is read back (plain: no program's function is named here).
  What is written of a right expression is read back: the induction.
  ExprBack walked: whatever expression and text are handed in, it answers true.
-/
import Derived.Test.YtldmimekmjmkgaaDoorGa
import Derived.Test.YtldmimekmjmkgaaDoorMB
import Derived.Test.YtldmimekmjmkgaaDoorMA
namespace Go.Proofs.YtldmimekmjmkgaaDoor
open Go.RowKit Go.Sort Go.Maps Go.WideMaps

abbrev WL (e : Ex) : List UInt8 := (writeE e).data.toList
abbrev IL (e : Ex) : List UInt8 := (inE e (writeE e)).data.toList
/-- No name goes on there. -/
def stU (r : List UInt8) : Prop := ∀ c t, r = c :: t → small c = false
def stR (r : List UInt8) : Prop := stU r ∧ ∀ c t, r = c :: t → repE c.toNat = false
def stS (r : List UInt8) : Prop := stR r ∧ ∀ c t, r = c :: t → c ≠ 32
def stA (r : List UInt8) : Prop := stS r ∧ ∀ c t, r = c :: t → c ≠ 124
theorem stU_cons {c : UInt8} {t : List UInt8} (h : small c = false) : stU (c :: t) := fun d u e => by injection e with h1 _; rw [← h1]; exact h
theorem stA_close (t : List UInt8) : stA (41 :: t) := ⟨⟨⟨stU_cons rfl, fun d u e => by injection e with h1 _; rw [← h1]; rfl⟩, fun d u e => by injection e with h1 _; rw [← h1]; decide⟩, fun d u e => by injection e with h1 _; rw [← h1]; decide⟩
theorem stA_nil : stA [] := ⟨⟨⟨fun _ _ e => (nomatch e), fun _ _ e => (nomatch e)⟩, fun _ _ e => (nomatch e)⟩, fun _ _ e => (nomatch e)⟩
theorem stR_space (t : List UInt8) : stR (32 :: t) := ⟨stU_cons rfl, fun d u e => by injection e with h1 _; rw [← h1]; rfl⟩
theorem stS_bar (t : List UInt8) : stS (124 :: t) := ⟨⟨stU_cons rfl, fun d u e => by injection e with h1 _; rw [← h1]; rfl⟩, fun d u e => by injection e with h1 _; rw [← h1]; decide⟩

theorem pre_one (c : UInt8) (t : List UInt8) : Lib.hasPrefix (c :: t) [c] = true := by simp [Lib.hasPrefix, List.isPrefixOf]
theorem pre_no {c : UInt8} {r : List UInt8} (h : ∀ d t, r = d :: t → d ≠ c) : Lib.hasPrefix r [c] = false := by
  cases r with
  | nil => rfl
  | cons d t =>
    have := h d t rfl
    simp only [Lib.hasPrefix, List.isPrefixOf, Bool.and_true, beq_eq_false_iff_ne]
    exact fun h => this h.symm
theorem trim_one (c : UInt8) (t : List UInt8) : Lib.trimPrefix (c :: t) [c] = t := by unfold Lib.trimPrefix; rw [if_pos (pre_one c t)]; rfl

/-- Units that are read of expressions. -/
def sumU (f : Ex → Nat) : List Ex → Nat
  | [] => 0
  | x :: l => f x + sumU f l
theorem sumU_len {f : Ex → Nat} : ∀ {l : List Ex}, (∀ x ∈ l, 1 ≤ f x) → l.length ≤ sumU f l
  | [], _ => Nat.le_refl _
  | x :: l, h => by have h1 := h x (List.mem_cons_self ..); have h2 := sumU_len (l := l) fun y hy => h y (List.mem_cons_of_mem _ hy); simp only [sumU, List.length_cons]; omega
theorem more_back {part : RdS → Ex × RdS} {c : UInt8} {wr : Ex → List UInt8} {f : Ex → Nat} {st : List UInt8 → Prop} {M : Int} : ∀ (l : List Ex) (k : Nat) (m : Int) (r : List UInt8),
    (∀ x ∈ l, 1 ≤ f x) → (∀ x ∈ l, ∀ (m : Int) (r : List UInt8), (f x : Int) ≤ m → m ≤ M → st r → part (wr x ++ r, m) = (x, (r, m - f x))) → (∀ t, st (c :: t)) → st r → (∀ d t, r = d :: t → d ≠ c) →
    (sumU f l : Int) ≤ m → m ≤ M → l.length ≤ k → moreP [c] part k ((l.map fun x => c :: wr x).flatten ++ r, m) = (l, (r, m - (sumU f l : Int)))
  | [], 0, m, r, _, _, _, _, _, _, _, _ => by simp [moreP, sumU]
  | [], k + 1, m, r, _, _, _, _, hr, _, _, _ => by
    rw [moreP, if_neg]
    · simp [sumU]
    · intro h
      have := pre_no hr
      simp only [List.map_nil, List.flatten_nil, List.nil_append] at h
      rw [this] at h
      exact absurd h.2 (by decide)
  | x :: l, 0, _, _, _, _, _, _, _, _, _, hk => by simp at hk
  | x :: l, k + 1, m, r, hf, hp, hc, hs, hr, hm, hM, hk => by
    have h1 := hf x (List.mem_cons_self ..)
    simp only [sumU] at hm
    have e0 : ((x :: l).map fun x => c :: wr x).flatten ++ r = c :: (wr x ++ ((l.map fun x => c :: wr x).flatten ++ r)) := by simp
    have hst : st ((l.map fun x => c :: wr x).flatten ++ r) := by
      cases l with
      | nil => simpa using hs
      | cons y l => simp only [List.map_cons, List.flatten_cons, List.cons_append]; exact hc _
    have e1 := hp x (List.mem_cons_self ..) m _ (by omega) hM hst
    have e2 := more_back (part := part) (c := c) (wr := wr) (f := f) (st := st) (M := M) l k (m - f x) r (fun y hy => hf y (List.mem_cons_of_mem _ hy)) (fun y hy => hp y (List.mem_cons_of_mem _ hy)) hc hs hr (by omega) (by omega) (by simp at hk; omega)
    rw [e0, moreP, if_pos ⟨by show 0 < m; omega, pre_one _ _⟩]
    simp only [skipL, trim_one]
    rw [e1]
    simp only
    rw [e2]
    simp only [sumU, Prod.mk.injEq, true_and]
    omega
theorem several_back {part : RdS → Ex × RdS} {c : UInt8} {op : Nat} {wr : Ex → List UInt8} {f : Ex → Nat} {st : List UInt8 → Prop} {M : Int} (x : Ex) (l : List Ex) (m : Int) (r : List UInt8)
    (hf : ∀ y ∈ x :: l, 1 ≤ f y) (hp : ∀ y ∈ x :: l, ∀ (m : Int) (r : List UInt8), (f y : Int) ≤ m → m ≤ M → st r → part (wr y ++ r, m) = (y, (r, m - f y))) (hc : ∀ t, st (c :: t)) (hs : st r) (hr : ∀ d t, r = d :: t → d ≠ c)
    (hm : (sumU f (x :: l) : Int) ≤ m) (hM : m ≤ M) :
    severalP op [c] part (wr x ++ ((l.map fun x => c :: wr x).flatten ++ r), m) = (if l.length = 0 then x else .mk op ByteArray.empty (x :: l), (r, m - (sumU f (x :: l) : Int))) := by
  simp only [sumU] at hm
  have hst : st ((l.map fun x => c :: wr x).flatten ++ r) := by
    cases l with
    | nil => simpa using hs
    | cons y l => simp only [List.map_cons, List.flatten_cons, List.cons_append]; exact hc _
  have e1 := hp x (List.mem_cons_self ..) m _ (by omega) hM hst
  have hl := sumU_len (f := f) (l := l) fun y hy => hf y (List.mem_cons_of_mem _ hy)
  have e2 := more_back (part := part) (c := c) (wr := wr) (f := f) (st := st) (M := M) l (m - f x).toNat (m - f x) r (fun y hy => hf y (List.mem_cons_of_mem _ hy)) (fun y hy => hp y (List.mem_cons_of_mem _ hy)) hc hs hr (by omega) (by have := hf x (List.mem_cons_self ..); omega) (by omega)
  unfold severalP
  rw [e1]
  simp only
  rw [e2]
  simp only [sumU]
  split
  · simp only [Prod.mk.injEq, true_and]; omega
  · simp only [Prod.mk.injEq, true_and]; omega

mutual
/-- Units of an expression as it stands in a row. -/
def uI : Ex → Nat
  | .mk o _ l => if o = 110 then 1 else if o = 97 then 1 + sumR l else if o = 115 then 1 + sumI l else firstI l
def sumI : List Ex → Nat
  | [] => 0
  | x :: l => uI x + sumI l
def firstI : List Ex → Nat
  | [] => 0
  | x :: _ => uI x
/-- As it stands between bars. -/
def uR : Ex → Nat
  | .mk o _ l => if o = 110 then 1 else if o = 97 then 1 + sumR l else if o = 115 then (if l.length = 0 then 1 else sumI l) else firstI l
def sumR : List Ex → Nat
  | [] => 0
  | x :: l => uR x + sumR l
end
/-- As it stands alone. -/
def uC (e : Ex) : Nat := if e.op = 97 then sumR e.kids else uR e
theorem sumI_is : ∀ l, sumI l = sumU uI l
  | [] => rfl
  | x :: l => by rw [sumI, sumU, sumI_is l]
theorem sumR_is : ∀ l, sumR l = sumU uR l
  | [] => rfl
  | x :: l => by rw [sumR, sumU, sumR_is l]
mutual
theorem uI_size : ∀ e : Ex, uI e ≤ sizeE e
  | .mk o s l => by
    have h1 := sumI_size l
    have h2 := sumR_size l
    have h3 := firstI_size l
    unfold uI sizeE
    split
    · omega
    · split
      · omega
      · split
        · omega
        · omega
theorem sumI_size : ∀ l : List Ex, sumI l ≤ sizeEs l
  | [] => Nat.le_refl _
  | x :: l => by have h1 := uI_size x; have h2 := sumI_size l; unfold sumI sizeEs; omega
theorem firstI_size : ∀ l : List Ex, firstI l ≤ sizeEs l
  | [] => Nat.le_refl _
  | x :: l => by have h1 := uI_size x; unfold firstI sizeEs; omega
theorem uR_size : ∀ e : Ex, uR e ≤ sizeE e
  | .mk o s l => by
    have h1 := sumI_size l
    have h2 := sumR_size l
    have h3 := firstI_size l
    unfold uR sizeE
    split
    · omega
    · split
      · omega
      · split
        · split <;> omega
        · omega
theorem sumR_size : ∀ l : List Ex, sumR l ≤ sizeEs l
  | [] => Nat.le_refl _
  | x :: l => by have h1 := uR_size x; have h2 := sumR_size l; unfold sumR sizeEs; omega
end
theorem uC_size (e : Ex) : uC e ≤ sizeE e := by
  unfold uC
  split
  · obtain ⟨o, s, l⟩ := e
    have := sumR_size l
    simp only [Ex.kids, sizeE]; omega
  · exact uR_size e
end Go.Proofs.YtldmimekmjmkgaaDoor

namespace Go.Proofs.YtldmimekmjmkgaaDoor
open Go.RowKit Go.Sort Go.Maps Go.WideMaps

theorem write_op {o : Nat} {s : ByteArray} {l : List Ex} (h : allE okN (.mk o s l) = true) : o = 110 ∨ o = 97 ∨ o = 115 ∨ repE o = true := by
  simp only [allE, Bool.and_eq_true] at h
  by_cases h1 : o = 110
  · exact .inl h1
  by_cases h2 : o = 97
  · exact .inr (.inl h2)
  by_cases h3 : o = 115
  · exact .inr (.inr (.inl h3))
  refine .inr (.inr (.inr ?_))
  have h4 := h.1
  by_cases hs : s = ByteArray.empty
  · subst hs
    rw [shaped_rep h1 h3 h2] at h4
    simp only [Bool.and_eq_true] at h4
    exact h4.1
  · rw [shaped_named h1 hs] at h4
    cases h4
theorem all_name {s : ByteArray} {l : List Ex} (h : allE okN (.mk 110 s l) = true) : l = [] ∧ okN s = true := by
  simp only [allE, Bool.and_eq_true] at h
  have h4 := h.1
  rw [shaped_name rfl] at h4
  simp only [Bool.and_eq_true, beq_iff_eq] at h4
  exact ⟨List.eq_nil_of_length_eq_zero h4.1, h4.2⟩
theorem all_empty {o : Nat} {s : ByteArray} {l : List Ex} (h : allE okN (.mk o s l) = true) (ho : o ≠ 110) : s = ByteArray.empty := by
  simp only [allE, Bool.and_eq_true] at h
  by_cases hs : s = ByteArray.empty
  · exact hs
  · rw [shaped_named ho hs] at h
    exact absurd h.1 (by decide)
theorem all_alt {l : List Ex} (h : allE okN (.mk 97 ByteArray.empty l) = true) : 2 ≤ l.length ∧ (∀ x ∈ l, x.op ≠ 97) ∧ ∀ x ∈ l, allE okN x = true := by
  simp only [allE, Bool.and_eq_true] at h
  have h4 := h.1
  rw [shaped_alt rfl] at h4
  simp only [Bool.and_eq_true, decide_eq_true_iff, Bool.not_eq_true', List.any_eq_false, beq_iff_eq] at h4
  exact ⟨h4.1, h4.2, mem_allEs h.2⟩
theorem all_seq {l : List Ex} (h : allE okN (.mk 115 ByteArray.empty l) = true) : l.length ≠ 1 ∧ (∀ x ∈ l, x.op ≠ 115) ∧ ∀ x ∈ l, allE okN x = true := by
  simp only [allE, Bool.and_eq_true] at h
  have h4 := h.1
  rw [shaped_seq rfl] at h4
  simp only [Bool.and_eq_true, bne_iff_ne, Bool.not_eq_true', List.any_eq_false, beq_iff_eq] at h4
  exact ⟨h4.1, h4.2, mem_allEs h.2⟩
theorem all_rep {o : Nat} {l : List Ex} (h : allE okN (.mk o ByteArray.empty l) = true) (h0 : o ≠ 110) (h1 : o ≠ 115) (h2 : o ≠ 97) : ∃ x, l = [x] ∧ repE x.op = false ∧ allE okN x = true := by
  simp only [allE, Bool.and_eq_true] at h
  have h4 := h.1
  rw [shaped_rep h0 h1 h2] at h4
  match l, h4, h.2 with
  | [], h4, _ => simp at h4
  | [x], h4, h5 =>
    simp only [Bool.and_eq_true, Bool.not_eq_true'] at h4
    exact ⟨x, rfl, h4.2, mem_allEs h5 x (List.mem_cons_self ..)⟩
  | x :: y :: l, h4, _ => simp at h4

theorem name_letters {s : ByteArray} (h : okN s = true) : 1 ≤ s.data.toList.length ∧ ∀ c ∈ s.data.toList, small c = true := by
  unfold okN at h
  rw [Bool.or_eq_true] at h
  rcases h with h | h
  · simp only [nameB, Bool.and_eq_true, decide_eq_true_iff, List.all_eq_true] at h
    exact ⟨by rw [list_size]; exact h.1, h.2.2.2⟩
  · unfold isTxt at h
    have h1 : s.toList = [116, 101, 120, 116] := by simpa using h
    rw [Lib.toList_data] at h1
    rw [h1]
    exact ⟨by decide, by decide⟩
theorem wl_name (s : ByteArray) (l : List Ex) : WL (.mk 110 s l) = s.data.toList := by unfold WL; rw [writeE, if_pos rfl]
theorem join_tail (f : Ex → List UInt8) (c : UInt8) (x : Ex) (l : List Ex) : Lib.join ((x :: l).map f) [c] = f x ++ (l.map fun y => c :: f y).flatten := by
  rw [List.map_cons, Lib.join_cons]
  unfold Lib.joinTail
  rw [List.map_map]
  rfl
theorem wl_alt (x : Ex) (l : List Ex) : WL (.mk 97 ByteArray.empty (x :: l)) = WL x ++ (l.map fun y => 124 :: WL y).flatten := by
  unfold WL
  rw [writeE, if_neg (by decide), if_pos rfl, writesE_map]
  show Lib.join (((x :: l).map writeE).map (·.data.toList)) [124] = _
  rw [List.map_map]
  exact join_tail _ 124 x l
theorem wl_seq (x : Ex) (l : List Ex) : WL (.mk 115 ByteArray.empty (x :: l)) = IL x ++ (l.map fun y => 32 :: IL y).flatten := by
  unfold WL
  rw [writeE, if_neg (by decide), if_neg (by decide), if_pos rfl, if_neg (by simp), innersE_map]
  show Lib.join (((x :: l).map fun x => inE x (writeE x)).map (·.data.toList)) [32] = _
  rw [List.map_map]
  exact join_tail _ 32 x l
theorem wl_none : WL (.mk 115 ByteArray.empty []) = [40, 41] := by
  unfold WL
  rw [writeE, if_neg (by decide), if_neg (by decide), if_pos rfl, if_pos (show ([] : List Ex).length = 0 from rfl)]
theorem wl_rep {o : Nat} (h0 : o ≠ 110) (h1 : o ≠ 97) (h2 : o ≠ 115) (x : Ex) (l : List Ex) : WL (.mk o ByteArray.empty (x :: l)) = IL x ++ [UInt8.ofNat o] := by
  unfold WL
  rw [writeE, if_neg h0, if_neg h1, if_neg h2, firstE, ByteArray.data_append, Array.toList_append]
theorem il_par {e : Ex} (h : parE e = true) : IL e = 40 :: (WL e ++ [41]) := by
  unfold IL WL inE
  rw [if_pos h, ByteArray.data_append, ByteArray.data_append, Array.toList_append, Array.toList_append]
  rfl
theorem il_no {e : Ex} (h : parE e = false) : IL e = WL e := by
  unfold IL WL inE
  rw [h]; rfl
/-- What is written begins with a letter or with a (. -/
def Hd (l : List UInt8) : Prop := ∃ c t, l = c :: t ∧ (small c = true ∨ c = 40)
theorem Hd.app {l : List UInt8} (h : Hd l) (r : List UInt8) : Hd (l ++ r) := by obtain ⟨c, t, rfl, h⟩ := h; exact ⟨c, t ++ r, rfl, h⟩
theorem il_head {e : Ex} (h : Hd (WL e)) : Hd (IL e) := by
  cases hp : parE e with
  | true => rw [il_par hp]; exact ⟨40, _, rfl, .inr rfl⟩
  | false => rw [il_no hp]; exact h
theorem wl_head : ∀ e : Ex, allE okN e = true → Hd (WL e) := by
  intro e
  induction e using Ex.induct_one with
  | h o s l ih =>
    intro h
    by_cases h1 : o = 110
    · subst h1
      obtain ⟨rfl, hs⟩ := all_name h
      obtain ⟨h2, h3⟩ := name_letters hs
      rw [wl_name]
      cases hl : s.data.toList with
      | nil => rw [hl] at h2; simp at h2
      | cons c t => exact ⟨c, t, rfl, .inl (h3 c (by rw [hl]; exact List.mem_cons_self ..))⟩
    · obtain rfl := all_empty h h1
      by_cases h2 : o = 97
      · subst h2
        obtain ⟨h3, _, h4⟩ := all_alt h
        match l, h3, h4, ih with
        | x :: l, _, h4, ih => rw [wl_alt]; exact (ih x (List.mem_cons_self ..) (h4 x (List.mem_cons_self ..))).app _
      · by_cases h3 : o = 115
        · subst h3
          obtain ⟨_, _, h4⟩ := all_seq h
          match l, h4, ih with
          | [], _, _ => rw [wl_none]; exact ⟨40, _, rfl, .inr rfl⟩
          | x :: l, h4, ih => rw [wl_seq]; exact (il_head (ih x (List.mem_cons_self ..) (h4 x (List.mem_cons_self ..)))).app _
        · obtain ⟨x, rfl, _, h4⟩ := all_rep h h1 h3 h2
          rw [wl_rep h1 h2 h3]
          exact (il_head (ih x (List.mem_cons_self ..) h4)).app _
theorem hd_close {l : List UInt8} (h : Hd l) (r : List UInt8) : Lib.hasPrefix (40 :: (l ++ r)) [40, 41] = false := by
  obtain ⟨c, t, rfl, hc⟩ := h
  have : c ≠ 41 := by
    rintro rfl
    rcases hc with hc | hc
    · exact absurd hc (by decide)
    · exact absurd hc (by decide)
  simp only [Lib.hasPrefix, List.cons_append, List.isPrefixOf, beq_self_eq_true, Bool.true_and, Bool.and_true, beq_eq_false_iff_ne]
  exact fun h => this h.symm

theorem uI_pos : ∀ e : Ex, allE okN e = true → 1 ≤ uI e := by
  intro e
  induction e using Ex.induct_one with
  | h o s l ih =>
    intro h
    unfold uI
    split
    · exact Nat.le_refl _
    · rename_i h1
      split
      · omega
      · rename_i h2
        split
        · omega
        · rename_i h3
          obtain rfl := all_empty h h1
          obtain ⟨x, rfl, _, h4⟩ := all_rep h h1 h3 h2
          exact ih x (List.mem_cons_self ..) h4
theorem uR_pos {e : Ex} (h : allE okN e = true) : 1 ≤ uR e := by
  obtain ⟨o, s, l⟩ := e
  unfold uR
  split
  · exact Nat.le_refl _
  · rename_i h1
    split
    · omega
    · rename_i h2
      obtain rfl := all_empty h h1
      split
      · rename_i h3
        subst h3
        obtain ⟨_, _, h4⟩ := all_seq h
        split
        · exact Nat.le_refl _
        · match l, h4 with
          | x :: l, h4 => have := uI_pos x (h4 x (List.mem_cons_self ..)); simp only [sumI]; omega
          | [], _ => simp at *
      · rename_i h3
        obtain ⟨x, rfl, _, h4⟩ := all_rep h h1 h3 h2
        exact uI_pos x h4

/-- An expression's three ways to be read back. -/
def BackU (e : Ex) : Prop := ∀ (n : Nat) (m : Int) (r : List UInt8), (uI e : Int) ≤ m → m.toNat ≤ n → repE e.op = false → stU r → unitP n (IL e ++ r, m) = (e, (r, m - uI e))
def BackI (e : Ex) : Prop := ∀ (n : Nat) (m : Int) (r : List UInt8), (uI e : Int) ≤ m → m.toNat ≤ n → stR r → repeatedP (unitP n) (IL e ++ r, m) = (e, (r, m - uI e))
def BackR (e : Ex) : Prop := e.op ≠ 97 → ∀ (n : Nat) (m : Int) (r : List UInt8), (uR e : Int) ≤ m → m.toNat ≤ n → stS r → rowP n (WL e ++ r, m) = (e, (r, m - uR e))
def BackC (e : Ex) : Prop := ∀ (n : Nat) (m : Int) (r : List UInt8), (uC e : Int) ≤ m → m.toNat ≤ n → stA r → choiceP n (WL e ++ r, m) = (e, (r, m - uC e))

theorem take_letters {s r : List UInt8} (h : ∀ c ∈ s, small c = true) (hr : stU r) : (s ++ r).takeWhile small = s ∧ (s ++ r).dropWhile small = r := by
  induction s with
  | nil =>
    cases r with
    | nil => exact ⟨rfl, rfl⟩
    | cons c t =>
      have := hr c t rfl
      simp only [List.nil_append]
      exact ⟨List.takeWhile_cons_of_neg (by rw [this]; decide), List.dropWhile_cons_of_neg (by rw [this]; decide)⟩
  | cons c s ih =>
    obtain ⟨h1, h2⟩ := ih fun d hd => h d (List.mem_cons_of_mem _ hd)
    have hc := h c (List.mem_cons_self ..)
    rw [List.cons_append, List.takeWhile_cons_of_pos hc, List.dropWhile_cons_of_pos hc, h1, h2]
    exact ⟨rfl, rfl⟩
theorem hd_nopar {c : UInt8} {t : List UInt8} (h : small c = true) : Lib.hasPrefix (c :: t) [40, 41] = false ∧ Lib.hasPrefix (c :: t) [40] = false := by
  have : c ≠ 40 := by rintro rfl; exact absurd h (by decide)
  have h1 : ((40 : UInt8) == c) = false := by simpa using fun h => this h.symm
  constructor
  · simp [Lib.hasPrefix, List.isPrefixOf, h1]
  · simp [Lib.hasPrefix, List.isPrefixOf, h1]

theorem back_name (s : ByteArray) (hs : okN s = true) : BackU (.mk 110 s []) := by
  intro n m r hu hn _ hr
  have e1 : uI (.mk 110 s []) = 1 := by unfold uI; rfl
  rw [e1] at hu ⊢
  obtain ⟨k, rfl⟩ : ∃ k, n = k + 1 := ⟨n - 1, by omega⟩
  obtain ⟨h1, h2⟩ := name_letters hs
  have hp : parE (.mk 110 s []) = false := rfl
  rw [il_no hp, wl_name]
  obtain ⟨h3, h4⟩ := take_letters h2 hr
  obtain ⟨c, t, hct⟩ : ∃ c t, s.data.toList = c :: t := by
    cases hl : s.data.toList with
    | nil => rw [hl] at h1; simp at h1
    | cons c t => exact ⟨c, t, rfl⟩
  have hno := hd_nopar (c := c) (t := t ++ r) (h2 c (by rw [hct]; exact List.mem_cons_self ..))
  rw [← List.cons_append, ← hct] at hno
  rw [unitP_in k (by simp only; omega)]
  simp only [hno.1, hno.2, nameP, h3, h4]
  simp
theorem back_none : BackU (.mk 115 ByteArray.empty []) := by
  intro n m r hu hn _ _
  have e1 : uI (.mk 115 ByteArray.empty []) = 1 := by unfold uI sumI; rfl
  rw [e1] at hu ⊢
  obtain ⟨k, rfl⟩ : ∃ k, n = k + 1 := ⟨n - 1, by omega⟩
  have hp : parE (.mk 115 ByteArray.empty []) = false := rfl
  rw [il_no hp, wl_none, unitP_in k (by simp only; omega)]
  have h1 : Lib.hasPrefix ([40, 41] ++ r) [40, 41] = true := by simp [Lib.hasPrefix, List.isPrefixOf]
  have h2 : Lib.trimPrefix ([40, 41] ++ r) [40, 41] = r := by unfold Lib.trimPrefix; rw [if_pos h1]; rfl
  simp only [h1, h2, if_true]
  rfl
/-- In ( ). -/
theorem back_par {e : Ex} (hp : parE e = true) (ha : allE okN e = true) (hc : BackC e) (hu : uI e = 1 + uC e) : BackU e := by
  intro n m r hm hn _ _
  rw [hu] at hm ⊢
  obtain ⟨k, rfl⟩ : ∃ k, n = k + 1 := ⟨n - 1, by omega⟩
  have e1 := hc k (m - 1) (41 :: r) (by omega) (by omega) (stA_close r)
  rw [il_par hp, unitP_in k (by simp only; omega)]
  have e2 : (40 :: (WL e ++ [41])) ++ r = 40 :: (WL e ++ 41 :: r) := by simp
  rw [e2]
  simp only [hd_close (wl_head e ha), pre_one, trim_one, closedP, e1, if_true]
  simp only [Bool.false_eq_true, if_false, Prod.mk.injEq, true_and]
  omega
theorem backI_of {e : Ex} (h : BackU e) (hr : repE e.op = false) : BackI e := by
  intro n m r hm hn hs
  have e1 := h n m r hm hn hr hs.1
  unfold repeatedP
  rw [e1]
  cases r with
  | nil => rfl
  | cons c t =>
    have := hs.2 c t rfl
    simp only [this]
    rfl
theorem repE_small {o : Nat} (h : repE o = true) : o < 256 ∧ (UInt8.ofNat o).toNat = o ∧ small (UInt8.ofNat o) = false ∧ o ≠ 110 ∧ o ≠ 97 ∧ o ≠ 115 := by
  simp only [repE, Bool.or_eq_true, beq_iff_eq] at h
  rcases h with (rfl | rfl) | rfl <;> decide
theorem back_rep {o : Nat} {x : Ex} (ho : repE o = true) (h : BackU x) (hx : repE x.op = false) : BackI (.mk o ByteArray.empty [x]) := by
  intro n m r hm hn _
  obtain ⟨_, h1, h2, h3, h4, h5⟩ := repE_small ho
  have eu : uI (.mk o ByteArray.empty [x]) = uI x := by
    rw [uI, if_neg h3, if_neg h4, if_neg h5, firstI]
  have hp : parE (.mk o ByteArray.empty [x]) = false := by
    unfold parE
    rw [show (Ex.mk o ByteArray.empty [x]).op = o from rfl]
    simp [h4, h5]
  rw [eu] at hm ⊢
  have e1 := h n m (UInt8.ofNat o :: r) hm hn hx (stU_cons h2)
  rw [il_no hp, wl_rep h3 h4 h5]
  have e2 : IL x ++ [UInt8.ofNat o] ++ r = IL x ++ UInt8.ofNat o :: r := by simp
  rw [e2]
  unfold repeatedP
  rw [e1]
  simp only [h1, ho, if_true]
/-- A row of one. -/
theorem backR_one {e : Ex} (h : BackI e) (ha : allE okN e = true) (hw : WL e = IL e) (hu : uR e = uI e) : BackR e := by
  intro _ n m r hm hn hs
  rw [hw]
  rw [hu] at hm ⊢
  have e1 := several_back (part := repeatedP (unitP n)) (c := 32) (op := 115) (wr := IL) (f := uI) (st := stR) (M := m) e [] m r (by intro y hy; simp at hy; subst hy; exact uI_pos y ha)
    (by intro y hy m' r' h1 h2 h3; simp at hy; subst hy; exact h n m' r' h1 (by omega) h3) stR_space hs.1 hs.2 (by simp only [sumU]; omega) (Int.le_refl _)
  simp only [List.map_nil, List.flatten_nil, List.nil_append, List.length_nil, if_true, sumU] at e1
  exact e1
theorem backR_many {x : Ex} {l : List Ex} (hl : l.length ≠ 0) (h : ∀ y ∈ x :: l, BackI y) (ha : ∀ y ∈ x :: l, allE okN y = true) : BackR (.mk 115 ByteArray.empty (x :: l)) := by
  intro _ n m r hm hn hs
  have eu : uR (.mk 115 ByteArray.empty (x :: l)) = sumU uI (x :: l) := by
    rw [uR, if_neg (by decide), if_neg (by decide), if_pos rfl, if_neg (by simp), sumI_is]
  rw [eu] at hm ⊢
  have e1 := several_back (part := repeatedP (unitP n)) (c := 32) (op := 115) (wr := IL) (f := uI) (st := stR) (M := m) x l m r (fun y hy => uI_pos y (ha y hy))
    (fun y hy m' r' h1 h2 h3 => h y hy n m' r' h1 (by omega) h3) stR_space hs.1 hs.2 hm (Int.le_refl _)
  rw [if_neg hl] at e1
  rw [wl_seq, List.append_assoc]
  exact e1
/-- A choice of one. -/
theorem backC_one {e : Ex} (h : BackR e) (ho : e.op ≠ 97) (ha : allE okN e = true) : BackC e := by
  intro n m r hm hn hs
  have eu : uC e = uR e := by unfold uC; rw [if_neg ho]
  rw [eu] at hm ⊢
  have e1 := several_back (part := rowP n) (c := 124) (op := 97) (wr := WL) (f := uR) (st := stS) (M := m) e [] m r (by intro y hy; simp at hy; subst hy; exact uR_pos ha)
    (by intro y hy m' r' h1 h2 h3; simp at hy; subst hy; exact h ho n m' r' h1 (by omega) h3) stS_bar hs.1 hs.2 (by simp only [sumU]; omega) (Int.le_refl _)
  simp only [List.map_nil, List.flatten_nil, List.nil_append, List.length_nil, if_true, sumU] at e1
  exact e1
theorem backC_many {x : Ex} {l : List Ex} (hl : l.length ≠ 0) (h : ∀ y ∈ x :: l, BackR y) (ho : ∀ y ∈ x :: l, y.op ≠ 97) (ha : ∀ y ∈ x :: l, allE okN y = true) : BackC (.mk 97 ByteArray.empty (x :: l)) := by
  intro n m r hm hn hs
  have eu : uC (.mk 97 ByteArray.empty (x :: l)) = sumU uR (x :: l) := by
    exact sumR_is _
  rw [eu] at hm ⊢
  have e1 := several_back (part := rowP n) (c := 124) (op := 97) (wr := WL) (f := uR) (st := stS) (M := m) x l m r (fun y hy => uR_pos (ha y hy))
    (fun y hy m' r' h1 h2 h3 => h y hy (ho y hy) n m' r' h1 (by omega) h3) stS_bar hs.1 hs.2 hm (Int.le_refl _)
  rw [if_neg hl] at e1
  rw [wl_alt, List.append_assoc]
  exact e1
theorem back_all : ∀ e : Ex, allE okN e = true → (repE e.op = false → BackU e) ∧ BackI e ∧ BackR e ∧ BackC e := by
  intro e
  induction e using Ex.induct_one with
  | h o s l ih =>
    intro h
    rcases write_op h with rfl | rfl | rfl | ho
    · obtain ⟨rfl, hs⟩ := all_name h
      have hU := back_name s hs
      have hI := backI_of hU rfl
      have hR := backR_one hI h (il_no rfl).symm rfl
      exact ⟨fun _ => hU, hI, hR, backC_one hR (show (110 : Nat) ≠ 97 by decide) h⟩
    · obtain rfl := all_empty h (by decide)
      obtain ⟨h1, h2, h3⟩ := all_alt h
      match l, h, h1, h2, h3, ih with
      | x :: l, h, h1, h2, h3, ih =>
        have hC : BackC (.mk 97 ByteArray.empty (x :: l)) := backC_many (by simp at h1; omega) (fun y hy => (ih y hy (h3 y hy)).2.2.1) h2 h3
        have hu : uI (.mk 97 ByteArray.empty (x :: l)) = 1 + uC (.mk 97 ByteArray.empty (x :: l)) := by
          rw [uI, if_neg (by decide), if_pos rfl]; rfl
        have hU := back_par rfl h hC hu
        exact ⟨fun _ => hU, backI_of hU rfl, fun ho => absurd rfl ho, hC⟩
    · obtain rfl := all_empty h (by decide)
      obtain ⟨h1, h2, h3⟩ := all_seq h
      match l, h, h1, h2, h3, ih with
      | [], h, _, _, _, _ =>
        have hI := backI_of back_none rfl
        have hR := backR_one hI h (il_no rfl).symm rfl
        exact ⟨fun _ => back_none, hI, hR, backC_one hR (show (115 : Nat) ≠ 97 by decide) h⟩
      | x :: l, h, h1, h2, h3, ih =>
        have hR : BackR (.mk 115 ByteArray.empty (x :: l)) := backR_many (by simp at h1; exact fun h => h1 (List.eq_nil_of_length_eq_zero h)) (fun y hy => (ih y hy (h3 y hy)).2.1) h3
        have hC := backC_one hR (show (115 : Nat) ≠ 97 by decide) h
        have hu : uI (.mk 115 ByteArray.empty (x :: l)) = 1 + uC (.mk 115 ByteArray.empty (x :: l)) := by
          rw [uI, if_neg (by decide), if_neg (by decide), if_pos rfl]
          show _ = 1 + uR (.mk 115 ByteArray.empty (x :: l))
          rw [uR, if_neg (by decide), if_neg (by decide), if_pos rfl, if_neg (by simp)]
        have hU := back_par rfl h hC hu
        exact ⟨fun _ => hU, backI_of hU rfl, hR, hC⟩
    · obtain ⟨_, _, _, h3, h4, h5⟩ := repE_small ho
      obtain rfl := all_empty h h3
      obtain ⟨x, rfl, hx, ha⟩ := all_rep h h3 h5 h4
      have hI := back_rep ho ((ih x (List.mem_cons_self ..) ha).1 hx) hx
      have hp : parE (.mk o ByteArray.empty [x]) = false := by
        unfold parE
        rw [show (Ex.mk o ByteArray.empty [x]).op = o from rfl]
        simp [h4, h5]
      have hR := backR_one hI h (il_no hp).symm (by rw [uR, if_neg h3, if_neg h4, if_neg h5, uI, if_neg h3, if_neg h4, if_neg h5])
      exact ⟨fun hr => absurd (show repE o = true from ho) (by rw [show repE o = false from hr]; decide), hI, hR, backC_one hR h4 h⟩
/-- What is written of a right expression is read back. -/
theorem read_write {e : Ex} (h : rightE okN e = true) : readE (WL e) = e := by
  simp only [rightE, Bool.and_eq_true, decide_eq_true_iff] at h
  have h1 := uC_size e
  have h2 := (back_all e h.1).2.2.2 24 24 [] (by omega) (by decide) stA_nil
  rw [List.append_nil] at h2
  unfold readE
  rw [h2]
end Go.Proofs.YtldmimekmjmkgaaDoor

namespace Go.Proofs.YtldmimekmjmkgaaDoor
open Go.RowKit Go.Sort Go.Maps Go.WideMaps

/-- What was told, in a new box. -/
theorem Pack.told {w W W' : World} {es : List Slot} {ss : List (Value × List ByteArray)} (h : Pack w W es ss) (hb : Below W.heap.size W W') {e : Ex} {A : Option Addr} {n c : Nat} (hk : Exs W' (From W.heap.size W'.heap.size) (.slice A n c) e.kids) :
    Pack w (W'.alloc (.cells #[.int .u8 (e.op : Int), .string e.name, .slice A n c] 24)) (⟨W'.heap.size, e, A, n, c⟩ :: es) ss :=
  ((h.next hb).alloc _).add (Lies.new (belowNext h.below hb) hk fun _ hb => hb.2)
theorem parse_written {e : Ex} (h : rightE okN e = true) : parseE (writeE e) = (e, 0) := by
  have hr := read_write h
  unfold parseE
  unfold WL at hr
  rw [hr, if_pos ⟨h, rfl⟩]
theorem written_size {e : Ex} (h : rightE okN e = true) : (writeE e).size ≤ 50000000 := by
  simp only [rightE, Bool.and_eq_true, decide_eq_true_iff] at h
  have := write_len e h.1
  omega
theorem right_size {e : Ex} (h : rightE okN e = true) : sizeE e ≤ 1000 := by
  simp only [rightE, Bool.and_eq_true, decide_eq_true_iff] at h
  omega
theorem print_pack {w W : World} {es : List Slot} {ss : List (Value × List ByteArray)} (h : Pack w W es ss) {x : Slot} (hx : x ∈ es) (hf : x.e.fits) :
    Calls Tryd.prog 14 #[.agg #[.int .u8 (x.e.op : Int), .string x.e.name, .slice x.A x.k x.c]] W fun e' w' => e' = .returned (.tuple #[.string (printE x.e).1, .int .i64 (printE x.e).2]) ∧ Below W.heap.size W w' :=
  print_any x.e x.A x.k x.c W hf (h.ex x hx).kids
section
variable {w : World} {ops : Array Oper} {o : Oper} {a : Act} {K : Act → World → Prop} {Q : Exit → Act → World → Prop} {E : Prop}
theorem step_same {v y : Value} (hw : Region.wanted o (yielded ops a.tmps) = true) (p q : Operand) (ho : o.op = .call { callee := .value (.func 21), args := #[p, q], argTypes := #[24, 30] })
    (hp : a.eval p = v) (hq : a.eval q = y) (hC : Calls Tryd.prog 21 #[v, y] w fun e' w' => e' = .returned (.bool true) ∧ Below w.heap.size w w')
    (h : ∀ w', Below w.heap.size w w' → K (a.put o.dst (.bool true)) w') : if Region.wanted o (yielded ops a.tmps) = true then Oper.wp Tryd.prog o a w K Q else E := by
  rw [if_pos hw]
  have hrun : (execOp a.eval o).run Tryd.prog w = .ok (.enter 21 #[v, y]) w := by
    have hf : a.eval (.func 21) = .func (.func 21) #[] #[] := rfl
    obtain ⟨c, hc⟩ : ∃ c, Tryd.f21.body = some c := Option.isSome_iff_exists.1 (by kernel_rfl)
    have hne : ¬ Tryd.f21.name = "runtime.NumGoroutine" := of_decide_eq_false (by kernel_rfl)
    simp [execOp, ho, resolve, invoke, hp, hq, hf, Deferred.ofValue, callFunc, hne, hc]
  unfold Oper.wp
  rw [hrun, Oper.upon_enter]
  refine hC.mono fun e w'' hh => ?_
  obtain ⟨rfl, h1⟩ := hh
  exact h w'' h1
end

set_option maxRecDepth 100000 in
set_option maxHeartbeats 8000000 in
theorem exprBack_walk (e : Ex) (A : Option Addr) (k c : Nat) (s : ByteArray) (w : World) (he : e.fits) (hl : Exs w (Under w.heap.size) (.slice A k c) e.kids) (hT : TabB w) (hs : s.size ≤ maxLen) :
    Calls Tryd.prog 5 #[.agg #[.int .u8 e.op, .string e.name, .slice A k c], .string s] w fun x w' => x = .returned (.bool true) ∧ Below w.heap.size w w' := by
  have HP0 : Hid (Pack w w [] []) := Lib.hid ⟨Below.refl _ _, hT, fun _ h => (nomatch h), fun _ h => (nomatch h)⟩
  have HP1 : Hid (Pack w (w.alloc (.cells #[.int .u8 e.op, .string e.name, .slice A k c] 24)) [⟨w.heap.size, e, A, k, c⟩] []) := Lib.hid ((HP0.out.alloc _).add (Lies.new (Below.refl _ _) hl fun _ h => h))
  have HF := Lib.hid he
  clear hl hT he HP0
  unfold maxLen at hs
  go_enter Tryd.func5, Tryd.ntmps5
  go_wp2_with fail
  refine (shown6_any _ HP1.out.tab).mono ?_
  rintro x W1 ⟨rfl, hb1⟩
  have HP2 := Lib.hid (HP1.out.next hb1)
  clear hb1 HP1
  obtain ⟨d00, d01, d02⟩ := HP2.out.cells (.head _)
  go_wp2_with fail
  refine (light6_any e A k c 300 W1 HF.out (HP2.out.ex _ (.head _)).kids (by decide) (by decide)).mono ?_
  rintro x W2 ⟨⟨q, rfl, hq0, hq1⟩, hb2⟩
  have HP3 := Lib.hid (HP2.out.next hb2)
  clear d00 d01 d02 hb2 HP2
  obtain ⟨d00, d01, d02⟩ := HP3.out.cells (.head _)
  have l0 := cell_lt d00
  by_cases hq : q < 0
  · go_wp2
    go_ret
    exact ⟨rfl, HP3.out.below⟩
  by_cases hlen : 900 < s.size
  · go_wp2
    go_ret
    exact ⟨rfl, HP3.out.below⟩
  have hs5 : s.size ≤ 50000000 := by omega
  have HS5 := Lib.hid hs5
  have HFS := Lib.hid (fit_read (l := s.data.toList) (by rw [list_size]; exact hs5))
  clear hs5
  go_wp2_with fail
  refine (print_pack HP3.out (.head _) HF.out).mono ?_
  rintro x W3 ⟨rfl, hb3⟩
  have HP4 := Lib.hid (HP3.out.next hb3)
  clear d00 d01 d02 l0 hb3 HP3
  obtain ⟨d00, d01, d02⟩ := HP4.out.cells (.head _)
  have l0 := cell_lt d00
  simp only
  generalize hre : rightE okN e = re at *
  cases re with
  | false =>
    have HRE := Lib.hid hre
    have hpe : printE e = (⟨#[]⟩, 2) := by unfold printE; rw [hre]; rfl
    rw [hpe]
    clear hre hpe
    go_wp2_with fail
    refine (right_pack HP4.out (.head _) HF.out).mono ?_
    rintro x W4 ⟨rfl, hb4⟩
    have HP5 := Lib.hid (HP4.out.next hb4)
    clear d00 d01 d02 l0 hb4 HP4
    obtain ⟨d00, d01, d02⟩ := HP5.out.cells (.head _)
    have l0 := cell_lt d00
    simp only
    rw [HRE.out]
    go_wp2_with fail
    refine (parse_any s _ HS5.out).mono ?_
    rintro x W7 ⟨A7, n7, c7, rfl, hk7, hb7⟩
    have HB7 := Lib.hid hb7
    have HK7 := Lib.hid hk7
    clear hk7 hb7
    by_cases hps : rightE okN (readE s.data.toList) = true ∧ writeE (readE s.data.toList) = s
    · have hpe : parseE s = (readE s.data.toList, 0) := by unfold parseE; rw [if_pos hps]
      rw [hpe] at HK7 ⊢
      generalize readE s.data.toList = y at *
      simp only at HK7 ⊢
      have HP9 := Lib.hid (HP5.out.told HB7.out HK7.out)
      have HPY : Hid (printE y = (s, 0)) := Lib.hid (by unfold printE; rw [if_pos hps.1, hps.2])
      have HZ7 : Hid ((W7.alloc (.cells #[.int .u8 (y.op : Int), .string y.name, .slice A7 n7 c7] 24)).heap.size = W7.heap.size + 1) := Lib.hid (by simp)
      clear hps hpe HP5 d00 d01 d02 l0
      go_upto_region 12 with fail
      generalize W7.alloc (.cells #[.int .u8 (y.op : Int), .string y.name, .slice A7 n7 c7] 24) = W8 at *
      obtain ⟨e0, e1, e2⟩ := HP9.out.cells (.head _)
      have m0 := cell_lt e0
      go_wp2_with fail
      refine (print_pack HP9.out (.head _) HFS.out).mono ?_
      rintro x W9 ⟨rfl, hb9⟩
      have HPA := Lib.hid (HP9.out.next hb9)
      clear e0 e1 e2 m0 hb9 HP9
      simp only
      rw [HPY.out]
      have hss : (s.toList == s.toList) = true := by simp
      go_wp2
      go_ret
      exact ⟨ret_bool (by simp), HPA.out.below⟩
    · have hpe : parseE s = (nulE, 2) := by unfold parseE; rw [if_neg hps]
      rw [hpe] at HK7 ⊢
      simp only at HK7 ⊢
      obtain rfl : n7 = 0 := HK7.out.len
      have HP9 := Lib.hid (HP5.out.told HB7.out HK7.out)
      clear hps hpe HP5 d00 d01 d02 l0
      go_upto_region 12 with fail
      generalize W7.alloc (.cells #[.int .u8 (nulE.op : Int), .string nulE.name, .slice A7 0 c7] 24) = W8 at *
      obtain ⟨e0, e1, e2⟩ := HP9.out.cells (.head _)
      have m0 := cell_lt e0
      have e0' : W8.cell? ⟨W7.heap.size, 0, none⟩ = some (.int .u8 0) := e0
      clear e0
      go_wp2
      go_ret
      exact ⟨rfl, HP9.out.below⟩
  | true =>
    have HRE := Lib.hid hre
    have hpe : printE e = (writeE e, 0) := by unfold printE; rw [hre]; rfl
    rw [hpe]
    clear hpe
    have HPW := Lib.hid (parse_written hre)
    have HSW := Lib.hid (written_size hre)
    have HSZ := Lib.hid (right_size hre)
    clear hre
    generalize writeE e = t at *
    go_wp2_with fail
    refine (right_pack HP4.out (.head _) HF.out).mono ?_
    rintro x W4 ⟨rfl, hb4⟩
    have HP5 := Lib.hid (HP4.out.next hb4)
    clear d00 d01 d02 l0 hb4 HP4
    obtain ⟨d00, d01, d02⟩ := HP5.out.cells (.head _)
    have l0 := cell_lt d00
    simp only
    rw [HRE.out]
    go_wp2_with fail
    refine (parse_any t W4 HSW.out).mono ?_
    rw [HPW.out]
    rintro x W5 ⟨A5, n5, c5, rfl, hk5, hb5⟩
    simp only at hk5 ⊢
    have HP6 := Lib.hid (HP5.out.told hb5 hk5)
    clear hk5 hb5 d00 d01 d02 l0 HP5
    go_upto_region 9 with fail
    generalize W5.alloc (.cells #[.int .u8 (e.op : Int), .string e.name, .slice A5 n5 c5] 24) = W6 at *
    obtain ⟨d00, d01, d02⟩ := HP6.out.cells (.tail _ (.head _))
    have l0 := cell_lt d00
    obtain ⟨d10, d11, d12⟩ := HP6.out.cells (.head _)
    have l1 := cell_lt d10
    have HPD := Lib.hid (HP6.out.next (below_drewX W6))
    have HCA : Hid (Calls Tryd.prog 13 #[.agg #[.int .u8 (e.op : Int), .string e.name, .slice A k c]] W6.drew (EPost W6.drew e)) := Lib.hid (as_walk e A k c W6.drew.heap.size W6.drew HSZ.out (HPD.out.ex _ (.tail _ (.head _))).kids (Nat.le_refl _))
    go_wp2_with fail
    go_region_law (first
      | ((with_reducible refine step_as (v := .agg #[.int .u8 (e.op : Int), .string e.name, .slice A k c]) (x := e) (by kernel_rfl) (.tmp 49) rfl rfl HCA.out ?_); intro A6 n6 c6 w7 hk7 hb7; have HP7 := Lib.hid (HPD.out.next hb7); obtain ⟨f0, f1, f2⟩ := HP7.out.cells (.head _); have m0 := cell_lt f0; have HCS : Hid (Calls Tryd.prog 21 #[.agg #[.int .u8 (e.op : Int), .string e.name, .slice A5 n5 c5], .agg #[.int .u8 (e.op : Int), .string e.name, .slice A6 n6 c6]] w7 fun x w' => x = .returned (.bool true) ∧ Below w7.heap.size w7 w') := Lib.hid (same_walk e A5 A6 n5 c5 n6 c6 w7.heap.size w7 (HP7.out.ex _ (.head _)).kids (hk7.keep (fun b hb => hb.2) fun _ _ => rfl) (Nat.le_refl _)); clear hk7 hb7)
      | ((with_reducible refine step_same (v := .agg #[.int .u8 (e.op : Int), .string e.name, .slice A5 n5 c5]) (y := .agg #[.int .u8 (e.op : Int), .string e.name, .slice A6 n6 c6]) (by kernel_rfl) (.tmp 48) (.tmp 50) rfl rfl rfl HCS.out ?_); intro w8 hb8; have HP8 := Lib.hid (HP7.out.next hb8); clear hb8))
    all_goals
      clear d00 d01 d02 l0 d10 d11 d12 l1 HP6
      obtain ⟨d00, d01, d02⟩ := HP8.out.cells (.head _)
      have l0 := cell_lt d00
      go_wp2_with fail
      refine (parse_any s _ HS5.out).mono ?_
      rintro x W7 ⟨A7, n7, c7, rfl, hk7, hb7⟩
      have HB7 := Lib.hid hb7
      have HK7 := Lib.hid hk7
      clear hk7 hb7
      by_cases hps : rightE okN (readE s.data.toList) = true ∧ writeE (readE s.data.toList) = s
      · have hpe : parseE s = (readE s.data.toList, 0) := by unfold parseE; rw [if_pos hps]
        rw [hpe] at HK7 ⊢
        generalize readE s.data.toList = y at *
        simp only at HK7 ⊢
        have HP9 := Lib.hid (HP8.out.told HB7.out HK7.out)
        have HPY : Hid (printE y = (s, 0)) := Lib.hid (by unfold printE; rw [if_pos hps.1, hps.2])
        have HZ7 : Hid ((W7.alloc (.cells #[.int .u8 (y.op : Int), .string y.name, .slice A7 n7 c7] 24)).heap.size = W7.heap.size + 1) := Lib.hid (by simp)
        clear hps hpe HP8 d00 d01 d02 l0
        go_upto_region 12 with fail
        generalize W7.alloc (.cells #[.int .u8 (y.op : Int), .string y.name, .slice A7 n7 c7] 24) = W8 at *
        obtain ⟨e0, e1, e2⟩ := HP9.out.cells (.head _)
        have m0 := cell_lt e0
        go_wp2_with fail
        refine (print_pack HP9.out (.head _) HFS.out).mono ?_
        rintro x W9 ⟨rfl, hb9⟩
        have HPA := Lib.hid (HP9.out.next hb9)
        clear e0 e1 e2 m0 hb9 HP9
        simp only
        rw [HPY.out]
        have hss : (s.toList == s.toList) = true := by simp
        go_wp2
        go_ret
        exact ⟨ret_bool (by simp), HPA.out.below⟩
      · have hpe : parseE s = (nulE, 2) := by unfold parseE; rw [if_neg hps]
        rw [hpe] at HK7 ⊢
        simp only at HK7 ⊢
        obtain rfl : n7 = 0 := HK7.out.len
        have HP9 := Lib.hid (HP8.out.told HB7.out HK7.out)
        clear hps hpe HP8 d00 d01 d02 l0
        go_upto_region 12 with fail
        generalize W7.alloc (.cells #[.int .u8 (nulE.op : Int), .string nulE.name, .slice A7 0 c7] 24) = W8 at *
        obtain ⟨e0, e1, e2⟩ := HP9.out.cells (.head _)
        have m0 := cell_lt e0
        have e0' : W8.cell? ⟨W7.heap.size, 0, none⟩ = some (.int .u8 0) := e0
        clear e0
        go_wp2
        go_ret
        exact ⟨rfl, HP9.out.below⟩
end Go.Proofs.YtldmimekmjmkgaaDoor
