/-
  What is written of a right expression is read back (plain: no program's function is named here).
  What is written of a right expression is read back: the induction.
  The document's reader of expressions as a plain function, and that it reads what is written (no program's function is named here).
-/
import Derived.Test.YtldmimekmjmkgaaDoorGa
namespace Go.Proofs.YtldmimekmjmkgaaDoor
open Go.RowKit Go.Sort Go.Maps Go.WideMaps

abbrev WL (e : Ex) : List UInt8 := (writeE e).data.toList
abbrev IL (e : Ex) : List UInt8 := (inE e (writeE e)).data.toList
/-- No name goes on there. -/
def stU (r : List UInt8) : Prop := ∀ c t, r = c :: t → small c = false
def stR (r : List UInt8) : Prop := stU r ∧ ∀ c t, r = c :: t → repE c.toNat = false
def stS (r : List UInt8) : Prop := stR r ∧ ∀ c t, r = c :: t → c ≠ 32
def stA (r : List UInt8) : Prop := stS r ∧ ∀ c t, r = c :: t → c ≠ 124
theorem stU_cons {c : UInt8} {t : List UInt8} (h : small c = false) : stU (c :: t) := fun d u e => by injection e with h1 _; rw [← h1]; exact h
theorem stA_close (t : List UInt8) : stA (41 :: t) := ⟨⟨⟨stU_cons rfl, fun d u e => by injection e with h1 _; rw [← h1]; rfl⟩, fun d u e => by injection e with h1 _; rw [← h1]; decide⟩, fun d u e => by injection e with h1 _; rw [← h1]; decide⟩
theorem stA_nil : stA [] := ⟨⟨⟨fun _ _ e => (nomatch e), fun _ _ e => (nomatch e)⟩, fun _ _ e => (nomatch e)⟩, fun _ _ e => (nomatch e)⟩
theorem stR_space (t : List UInt8) : stR (32 :: t) := ⟨stU_cons rfl, fun d u e => by injection e with h1 _; rw [← h1]; rfl⟩
theorem stS_bar (t : List UInt8) : stS (124 :: t) := ⟨⟨stU_cons rfl, fun d u e => by injection e with h1 _; rw [← h1]; rfl⟩, fun d u e => by injection e with h1 _; rw [← h1]; decide⟩

theorem pre_one (c : UInt8) (t : List UInt8) : Lib.hasPrefix (c :: t) [c] = true := by simp [Lib.hasPrefix, List.isPrefixOf]
theorem pre_no {c : UInt8} {r : List UInt8} (h : ∀ d t, r = d :: t → d ≠ c) : Lib.hasPrefix r [c] = false := by
  cases r with
  | nil => rfl
  | cons d t =>
    have := h d t rfl
    simp only [Lib.hasPrefix, List.isPrefixOf, Bool.and_true, beq_eq_false_iff_ne]
    exact fun h => this h.symm
theorem trim_one (c : UInt8) (t : List UInt8) : Lib.trimPrefix (c :: t) [c] = t := by unfold Lib.trimPrefix; rw [if_pos (pre_one c t)]; rfl

/-- Units that are read of expressions. -/
def sumU (f : Ex → Nat) : List Ex → Nat
  | [] => 0
  | x :: l => f x + sumU f l
theorem sumU_len {f : Ex → Nat} : ∀ {l : List Ex}, (∀ x ∈ l, 1 ≤ f x) → l.length ≤ sumU f l
  | [], _ => Nat.le_refl _
  | x :: l, h => by have h1 := h x (List.mem_cons_self ..); have h2 := sumU_len (l := l) fun y hy => h y (List.mem_cons_of_mem _ hy); simp only [sumU, List.length_cons]; omega
theorem more_back {part : RdS → Ex × RdS} {c : UInt8} {wr : Ex → List UInt8} {f : Ex → Nat} {st : List UInt8 → Prop} {M : Int} : ∀ (l : List Ex) (k : Nat) (m : Int) (r : List UInt8),
    (∀ x ∈ l, 1 ≤ f x) → (∀ x ∈ l, ∀ (m : Int) (r : List UInt8), (f x : Int) ≤ m → m ≤ M → st r → part (wr x ++ r, m) = (x, (r, m - f x))) → (∀ t, st (c :: t)) → st r → (∀ d t, r = d :: t → d ≠ c) →
    (sumU f l : Int) ≤ m → m ≤ M → l.length ≤ k → moreP [c] part k ((l.map fun x => c :: wr x).flatten ++ r, m) = (l, (r, m - (sumU f l : Int)))
  | [], 0, m, r, _, _, _, _, _, _, _, _ => by simp [moreP, sumU]
  | [], k + 1, m, r, _, _, _, _, hr, _, _, _ => by
    rw [moreP, if_neg]
    · simp [sumU]
    · intro h
      have := pre_no hr
      simp only [List.map_nil, List.flatten_nil, List.nil_append] at h
      rw [this] at h
      exact absurd h.2 (by decide)
  | x :: l, 0, _, _, _, _, _, _, _, _, _, hk => by simp at hk
  | x :: l, k + 1, m, r, hf, hp, hc, hs, hr, hm, hM, hk => by
    have h1 := hf x (List.mem_cons_self ..)
    simp only [sumU] at hm
    have e0 : ((x :: l).map fun x => c :: wr x).flatten ++ r = c :: (wr x ++ ((l.map fun x => c :: wr x).flatten ++ r)) := by simp
    have hst : st ((l.map fun x => c :: wr x).flatten ++ r) := by
      cases l with
      | nil => simpa using hs
      | cons y l => simp only [List.map_cons, List.flatten_cons, List.cons_append]; exact hc _
    have e1 := hp x (List.mem_cons_self ..) m _ (by omega) hM hst
    have e2 := more_back (part := part) (c := c) (wr := wr) (f := f) (st := st) (M := M) l k (m - f x) r (fun y hy => hf y (List.mem_cons_of_mem _ hy)) (fun y hy => hp y (List.mem_cons_of_mem _ hy)) hc hs hr (by omega) (by omega) (by simp at hk; omega)
    rw [e0, moreP, if_pos ⟨by show 0 < m; omega, pre_one _ _⟩]
    simp only [skipL, trim_one]
    rw [e1]
    simp only
    rw [e2]
    simp only [sumU, Prod.mk.injEq, true_and]
    omega
theorem several_back {part : RdS → Ex × RdS} {c : UInt8} {op : Nat} {wr : Ex → List UInt8} {f : Ex → Nat} {st : List UInt8 → Prop} {M : Int} (x : Ex) (l : List Ex) (m : Int) (r : List UInt8)
    (hf : ∀ y ∈ x :: l, 1 ≤ f y) (hp : ∀ y ∈ x :: l, ∀ (m : Int) (r : List UInt8), (f y : Int) ≤ m → m ≤ M → st r → part (wr y ++ r, m) = (y, (r, m - f y))) (hc : ∀ t, st (c :: t)) (hs : st r) (hr : ∀ d t, r = d :: t → d ≠ c)
    (hm : (sumU f (x :: l) : Int) ≤ m) (hM : m ≤ M) :
    severalP op [c] part (wr x ++ ((l.map fun x => c :: wr x).flatten ++ r), m) = (if l.length = 0 then x else .mk op ByteArray.empty (x :: l), (r, m - (sumU f (x :: l) : Int))) := by
  simp only [sumU] at hm
  have hst : st ((l.map fun x => c :: wr x).flatten ++ r) := by
    cases l with
    | nil => simpa using hs
    | cons y l => simp only [List.map_cons, List.flatten_cons, List.cons_append]; exact hc _
  have e1 := hp x (List.mem_cons_self ..) m _ (by omega) hM hst
  have hl := sumU_len (f := f) (l := l) fun y hy => hf y (List.mem_cons_of_mem _ hy)
  have e2 := more_back (part := part) (c := c) (wr := wr) (f := f) (st := st) (M := M) l (m - f x).toNat (m - f x) r (fun y hy => hf y (List.mem_cons_of_mem _ hy)) (fun y hy => hp y (List.mem_cons_of_mem _ hy)) hc hs hr (by omega) (by have := hf x (List.mem_cons_self ..); omega) (by omega)
  unfold severalP
  rw [e1]
  simp only
  rw [e2]
  simp only [sumU]
  split
  · simp only [Prod.mk.injEq, true_and]; omega
  · simp only [Prod.mk.injEq, true_and]; omega

mutual
/-- Units of an expression as it stands in a row. -/
def uI : Ex → Nat
  | .mk o _ l => if o = 110 then 1 else if o = 97 then 1 + sumR l else if o = 115 then 1 + sumI l else firstI l
def sumI : List Ex → Nat
  | [] => 0
  | x :: l => uI x + sumI l
def firstI : List Ex → Nat
  | [] => 0
  | x :: _ => uI x
/-- As it stands between bars. -/
def uR : Ex → Nat
  | .mk o _ l => if o = 110 then 1 else if o = 97 then 1 + sumR l else if o = 115 then (if l.length = 0 then 1 else sumI l) else firstI l
def sumR : List Ex → Nat
  | [] => 0
  | x :: l => uR x + sumR l
end
/-- As it stands alone. -/
def uC (e : Ex) : Nat := if e.op = 97 then sumR e.kids else uR e
theorem sumI_is : ∀ l, sumI l = sumU uI l
  | [] => rfl
  | x :: l => by rw [sumI, sumU, sumI_is l]
theorem sumR_is : ∀ l, sumR l = sumU uR l
  | [] => rfl
  | x :: l => by rw [sumR, sumU, sumR_is l]
mutual
theorem uI_size : ∀ e : Ex, uI e ≤ sizeE e
  | .mk o s l => by
    have h1 := sumI_size l
    have h2 := sumR_size l
    have h3 := firstI_size l
    unfold uI sizeE
    split
    · omega
    · split
      · omega
      · split
        · omega
        · omega
theorem sumI_size : ∀ l : List Ex, sumI l ≤ sizeEs l
  | [] => Nat.le_refl _
  | x :: l => by have h1 := uI_size x; have h2 := sumI_size l; unfold sumI sizeEs; omega
theorem firstI_size : ∀ l : List Ex, firstI l ≤ sizeEs l
  | [] => Nat.le_refl _
  | x :: l => by have h1 := uI_size x; unfold firstI sizeEs; omega
theorem uR_size : ∀ e : Ex, uR e ≤ sizeE e
  | .mk o s l => by
    have h1 := sumI_size l
    have h2 := sumR_size l
    have h3 := firstI_size l
    unfold uR sizeE
    split
    · omega
    · split
      · omega
      · split
        · split <;> omega
        · omega
theorem sumR_size : ∀ l : List Ex, sumR l ≤ sizeEs l
  | [] => Nat.le_refl _
  | x :: l => by have h1 := uR_size x; have h2 := sumR_size l; unfold sumR sizeEs; omega
end
theorem uC_size (e : Ex) : uC e ≤ sizeE e := by
  unfold uC
  split
  · obtain ⟨o, s, l⟩ := e
    have := sumR_size l
    simp only [Ex.kids, sizeE]; omega
  · exact uR_size e
end Go.Proofs.YtldmimekmjmkgaaDoor

namespace Go.Proofs.YtldmimekmjmkgaaDoor
open Go.RowKit Go.Sort Go.Maps Go.WideMaps

theorem write_op {o : Nat} {s : ByteArray} {l : List Ex} (h : allE okN (.mk o s l) = true) : o = 110 ∨ o = 97 ∨ o = 115 ∨ repE o = true := by
  simp only [allE, Bool.and_eq_true] at h
  by_cases h1 : o = 110
  · exact .inl h1
  by_cases h2 : o = 97
  · exact .inr (.inl h2)
  by_cases h3 : o = 115
  · exact .inr (.inr (.inl h3))
  refine .inr (.inr (.inr ?_))
  have h4 := h.1
  by_cases hs : s = ByteArray.empty
  · subst hs
    rw [shaped_rep h1 h3 h2] at h4
    simp only [Bool.and_eq_true] at h4
    exact h4.1
  · rw [shaped_named h1 hs] at h4
    cases h4
theorem all_name {s : ByteArray} {l : List Ex} (h : allE okN (.mk 110 s l) = true) : l = [] ∧ okN s = true := by
  simp only [allE, Bool.and_eq_true] at h
  have h4 := h.1
  rw [shaped_name rfl] at h4
  simp only [Bool.and_eq_true, beq_iff_eq] at h4
  exact ⟨List.eq_nil_of_length_eq_zero h4.1, h4.2⟩
theorem all_empty {o : Nat} {s : ByteArray} {l : List Ex} (h : allE okN (.mk o s l) = true) (ho : o ≠ 110) : s = ByteArray.empty := by
  simp only [allE, Bool.and_eq_true] at h
  by_cases hs : s = ByteArray.empty
  · exact hs
  · rw [shaped_named ho hs] at h
    exact absurd h.1 (by decide)
theorem all_alt {l : List Ex} (h : allE okN (.mk 97 ByteArray.empty l) = true) : 2 ≤ l.length ∧ (∀ x ∈ l, x.op ≠ 97) ∧ ∀ x ∈ l, allE okN x = true := by
  simp only [allE, Bool.and_eq_true] at h
  have h4 := h.1
  rw [shaped_alt rfl] at h4
  simp only [Bool.and_eq_true, decide_eq_true_iff, Bool.not_eq_true', List.any_eq_false, beq_iff_eq] at h4
  exact ⟨h4.1, h4.2, mem_allEs h.2⟩
theorem all_seq {l : List Ex} (h : allE okN (.mk 115 ByteArray.empty l) = true) : l.length ≠ 1 ∧ (∀ x ∈ l, x.op ≠ 115) ∧ ∀ x ∈ l, allE okN x = true := by
  simp only [allE, Bool.and_eq_true] at h
  have h4 := h.1
  rw [shaped_seq rfl] at h4
  simp only [Bool.and_eq_true, bne_iff_ne, Bool.not_eq_true', List.any_eq_false, beq_iff_eq] at h4
  exact ⟨h4.1, h4.2, mem_allEs h.2⟩
theorem all_rep {o : Nat} {l : List Ex} (h : allE okN (.mk o ByteArray.empty l) = true) (h0 : o ≠ 110) (h1 : o ≠ 115) (h2 : o ≠ 97) : ∃ x, l = [x] ∧ repE x.op = false ∧ allE okN x = true := by
  simp only [allE, Bool.and_eq_true] at h
  have h4 := h.1
  rw [shaped_rep h0 h1 h2] at h4
  match l, h4, h.2 with
  | [], h4, _ => simp at h4
  | [x], h4, h5 =>
    simp only [Bool.and_eq_true, Bool.not_eq_true'] at h4
    exact ⟨x, rfl, h4.2, mem_allEs h5 x (List.mem_cons_self ..)⟩
  | x :: y :: l, h4, _ => simp at h4

theorem name_letters {s : ByteArray} (h : okN s = true) : 1 ≤ s.data.toList.length ∧ ∀ c ∈ s.data.toList, small c = true := by
  unfold okN at h
  rw [Bool.or_eq_true] at h
  rcases h with h | h
  · simp only [nameB, Bool.and_eq_true, decide_eq_true_iff, List.all_eq_true] at h
    exact ⟨by rw [list_size]; exact h.1, h.2.2.2⟩
  · unfold isTxt at h
    have h1 : s.toList = [116, 101, 120, 116] := by simpa using h
    rw [Lib.toList_data] at h1
    rw [h1]
    exact ⟨by decide, by decide⟩
theorem wl_name (s : ByteArray) (l : List Ex) : WL (.mk 110 s l) = s.data.toList := by unfold WL; rw [writeE, if_pos rfl]
theorem join_tail (f : Ex → List UInt8) (c : UInt8) (x : Ex) (l : List Ex) : Lib.join ((x :: l).map f) [c] = f x ++ (l.map fun y => c :: f y).flatten := by
  rw [List.map_cons, Lib.join_cons]
  unfold Lib.joinTail
  rw [List.map_map]
  rfl
theorem wl_alt (x : Ex) (l : List Ex) : WL (.mk 97 ByteArray.empty (x :: l)) = WL x ++ (l.map fun y => 124 :: WL y).flatten := by
  unfold WL
  rw [writeE, if_neg (by decide), if_pos rfl, writesE_map]
  show Lib.join (((x :: l).map writeE).map (·.data.toList)) [124] = _
  rw [List.map_map]
  exact join_tail _ 124 x l
theorem wl_seq (x : Ex) (l : List Ex) : WL (.mk 115 ByteArray.empty (x :: l)) = IL x ++ (l.map fun y => 32 :: IL y).flatten := by
  unfold WL
  rw [writeE, if_neg (by decide), if_neg (by decide), if_pos rfl, if_neg (by simp), innersE_map]
  show Lib.join (((x :: l).map fun x => inE x (writeE x)).map (·.data.toList)) [32] = _
  rw [List.map_map]
  exact join_tail _ 32 x l
theorem wl_none : WL (.mk 115 ByteArray.empty []) = [40, 41] := by
  unfold WL
  rw [writeE, if_neg (by decide), if_neg (by decide), if_pos rfl, if_pos (show ([] : List Ex).length = 0 from rfl)]
theorem wl_rep {o : Nat} (h0 : o ≠ 110) (h1 : o ≠ 97) (h2 : o ≠ 115) (x : Ex) (l : List Ex) : WL (.mk o ByteArray.empty (x :: l)) = IL x ++ [UInt8.ofNat o] := by
  unfold WL
  rw [writeE, if_neg h0, if_neg h1, if_neg h2, firstE, ByteArray.data_append, Array.toList_append]
theorem il_par {e : Ex} (h : parE e = true) : IL e = 40 :: (WL e ++ [41]) := by
  unfold IL WL inE
  rw [if_pos h, ByteArray.data_append, ByteArray.data_append, Array.toList_append, Array.toList_append]
  rfl
theorem il_no {e : Ex} (h : parE e = false) : IL e = WL e := by
  unfold IL WL inE
  rw [h]; rfl
/-- What is written begins with a letter or with a (. -/
def Hd (l : List UInt8) : Prop := ∃ c t, l = c :: t ∧ (small c = true ∨ c = 40)
theorem Hd.app {l : List UInt8} (h : Hd l) (r : List UInt8) : Hd (l ++ r) := by obtain ⟨c, t, rfl, h⟩ := h; exact ⟨c, t ++ r, rfl, h⟩
theorem il_head {e : Ex} (h : Hd (WL e)) : Hd (IL e) := by
  cases hp : parE e with
  | true => rw [il_par hp]; exact ⟨40, _, rfl, .inr rfl⟩
  | false => rw [il_no hp]; exact h
theorem wl_head : ∀ e : Ex, allE okN e = true → Hd (WL e) := by
  intro e
  induction e using Ex.induct_one with
  | h o s l ih =>
    intro h
    by_cases h1 : o = 110
    · subst h1
      obtain ⟨rfl, hs⟩ := all_name h
      obtain ⟨h2, h3⟩ := name_letters hs
      rw [wl_name]
      cases hl : s.data.toList with
      | nil => rw [hl] at h2; simp at h2
      | cons c t => exact ⟨c, t, rfl, .inl (h3 c (by rw [hl]; exact List.mem_cons_self ..))⟩
    · obtain rfl := all_empty h h1
      by_cases h2 : o = 97
      · subst h2
        obtain ⟨h3, _, h4⟩ := all_alt h
        match l, h3, h4, ih with
        | x :: l, _, h4, ih => rw [wl_alt]; exact (ih x (List.mem_cons_self ..) (h4 x (List.mem_cons_self ..))).app _
      · by_cases h3 : o = 115
        · subst h3
          obtain ⟨_, _, h4⟩ := all_seq h
          match l, h4, ih with
          | [], _, _ => rw [wl_none]; exact ⟨40, _, rfl, .inr rfl⟩
          | x :: l, h4, ih => rw [wl_seq]; exact (il_head (ih x (List.mem_cons_self ..) (h4 x (List.mem_cons_self ..)))).app _
        · obtain ⟨x, rfl, _, h4⟩ := all_rep h h1 h3 h2
          rw [wl_rep h1 h2 h3]
          exact (il_head (ih x (List.mem_cons_self ..) h4)).app _
theorem hd_close {l : List UInt8} (h : Hd l) (r : List UInt8) : Lib.hasPrefix (40 :: (l ++ r)) [40, 41] = false := by
  obtain ⟨c, t, rfl, hc⟩ := h
  have : c ≠ 41 := by
    rintro rfl
    rcases hc with hc | hc
    · exact absurd hc (by decide)
    · exact absurd hc (by decide)
  simp only [Lib.hasPrefix, List.cons_append, List.isPrefixOf, beq_self_eq_true, Bool.true_and, Bool.and_true, beq_eq_false_iff_ne]
  exact fun h => this h.symm

theorem uI_pos : ∀ e : Ex, allE okN e = true → 1 ≤ uI e := by
  intro e
  induction e using Ex.induct_one with
  | h o s l ih =>
    intro h
    unfold uI
    split
    · exact Nat.le_refl _
    · rename_i h1
      split
      · omega
      · rename_i h2
        split
        · omega
        · rename_i h3
          obtain rfl := all_empty h h1
          obtain ⟨x, rfl, _, h4⟩ := all_rep h h1 h3 h2
          exact ih x (List.mem_cons_self ..) h4
theorem uR_pos {e : Ex} (h : allE okN e = true) : 1 ≤ uR e := by
  obtain ⟨o, s, l⟩ := e
  unfold uR
  split
  · exact Nat.le_refl _
  · rename_i h1
    split
    · omega
    · rename_i h2
      obtain rfl := all_empty h h1
      split
      · rename_i h3
        subst h3
        obtain ⟨_, _, h4⟩ := all_seq h
        split
        · exact Nat.le_refl _
        · match l, h4 with
          | x :: l, h4 => have := uI_pos x (h4 x (List.mem_cons_self ..)); simp only [sumI]; omega
          | [], _ => simp at *
      · rename_i h3
        obtain ⟨x, rfl, _, h4⟩ := all_rep h h1 h3 h2
        exact uI_pos x h4

/-- An expression's three ways to be read back. -/
def BackU (e : Ex) : Prop := ∀ (n : Nat) (m : Int) (r : List UInt8), (uI e : Int) ≤ m → m.toNat ≤ n → repE e.op = false → stU r → unitP n (IL e ++ r, m) = (e, (r, m - uI e))
def BackI (e : Ex) : Prop := ∀ (n : Nat) (m : Int) (r : List UInt8), (uI e : Int) ≤ m → m.toNat ≤ n → stR r → repeatedP (unitP n) (IL e ++ r, m) = (e, (r, m - uI e))
def BackR (e : Ex) : Prop := e.op ≠ 97 → ∀ (n : Nat) (m : Int) (r : List UInt8), (uR e : Int) ≤ m → m.toNat ≤ n → stS r → rowP n (WL e ++ r, m) = (e, (r, m - uR e))
def BackC (e : Ex) : Prop := ∀ (n : Nat) (m : Int) (r : List UInt8), (uC e : Int) ≤ m → m.toNat ≤ n → stA r → choiceP n (WL e ++ r, m) = (e, (r, m - uC e))

theorem take_letters {s r : List UInt8} (h : ∀ c ∈ s, small c = true) (hr : stU r) : (s ++ r).takeWhile small = s ∧ (s ++ r).dropWhile small = r := by
  induction s with
  | nil =>
    cases r with
    | nil => exact ⟨rfl, rfl⟩
    | cons c t =>
      have := hr c t rfl
      simp only [List.nil_append]
      exact ⟨List.takeWhile_cons_of_neg (by rw [this]; decide), List.dropWhile_cons_of_neg (by rw [this]; decide)⟩
  | cons c s ih =>
    obtain ⟨h1, h2⟩ := ih fun d hd => h d (List.mem_cons_of_mem _ hd)
    have hc := h c (List.mem_cons_self ..)
    rw [List.cons_append, List.takeWhile_cons_of_pos hc, List.dropWhile_cons_of_pos hc, h1, h2]
    exact ⟨rfl, rfl⟩
theorem hd_nopar {c : UInt8} {t : List UInt8} (h : small c = true) : Lib.hasPrefix (c :: t) [40, 41] = false ∧ Lib.hasPrefix (c :: t) [40] = false := by
  have : c ≠ 40 := by rintro rfl; exact absurd h (by decide)
  have h1 : ((40 : UInt8) == c) = false := by simpa using fun h => this h.symm
  constructor
  · simp [Lib.hasPrefix, List.isPrefixOf, h1]
  · simp [Lib.hasPrefix, List.isPrefixOf, h1]

theorem back_name (s : ByteArray) (hs : okN s = true) : BackU (.mk 110 s []) := by
  intro n m r hu hn _ hr
  have e1 : uI (.mk 110 s []) = 1 := by unfold uI; rfl
  rw [e1] at hu ⊢
  obtain ⟨k, rfl⟩ : ∃ k, n = k + 1 := ⟨n - 1, by omega⟩
  obtain ⟨h1, h2⟩ := name_letters hs
  have hp : parE (.mk 110 s []) = false := rfl
  rw [il_no hp, wl_name]
  obtain ⟨h3, h4⟩ := take_letters h2 hr
  obtain ⟨c, t, hct⟩ : ∃ c t, s.data.toList = c :: t := by
    cases hl : s.data.toList with
    | nil => rw [hl] at h1; simp at h1
    | cons c t => exact ⟨c, t, rfl⟩
  have hno := hd_nopar (c := c) (t := t ++ r) (h2 c (by rw [hct]; exact List.mem_cons_self ..))
  rw [← List.cons_append, ← hct] at hno
  rw [unitP_in k (by simp only; omega)]
  simp only [hno.1, hno.2, nameP, h3, h4]
  simp
theorem back_none : BackU (.mk 115 ByteArray.empty []) := by
  intro n m r hu hn _ _
  have e1 : uI (.mk 115 ByteArray.empty []) = 1 := by unfold uI sumI; rfl
  rw [e1] at hu ⊢
  obtain ⟨k, rfl⟩ : ∃ k, n = k + 1 := ⟨n - 1, by omega⟩
  have hp : parE (.mk 115 ByteArray.empty []) = false := rfl
  rw [il_no hp, wl_none, unitP_in k (by simp only; omega)]
  have h1 : Lib.hasPrefix ([40, 41] ++ r) [40, 41] = true := by simp [Lib.hasPrefix, List.isPrefixOf]
  have h2 : Lib.trimPrefix ([40, 41] ++ r) [40, 41] = r := by unfold Lib.trimPrefix; rw [if_pos h1]; rfl
  simp only [h1, h2, if_true]
  rfl
/-- In ( ). -/
theorem back_par {e : Ex} (hp : parE e = true) (ha : allE okN e = true) (hc : BackC e) (hu : uI e = 1 + uC e) : BackU e := by
  intro n m r hm hn _ _
  rw [hu] at hm ⊢
  obtain ⟨k, rfl⟩ : ∃ k, n = k + 1 := ⟨n - 1, by omega⟩
  have e1 := hc k (m - 1) (41 :: r) (by omega) (by omega) (stA_close r)
  rw [il_par hp, unitP_in k (by simp only; omega)]
  have e2 : (40 :: (WL e ++ [41])) ++ r = 40 :: (WL e ++ 41 :: r) := by simp
  rw [e2]
  simp only [hd_close (wl_head e ha), pre_one, trim_one, closedP, e1, if_true]
  simp only [Bool.false_eq_true, if_false, Prod.mk.injEq, true_and]
  omega
theorem backI_of {e : Ex} (h : BackU e) (hr : repE e.op = false) : BackI e := by
  intro n m r hm hn hs
  have e1 := h n m r hm hn hr hs.1
  unfold repeatedP
  rw [e1]
  cases r with
  | nil => rfl
  | cons c t =>
    have := hs.2 c t rfl
    simp only [this]
    rfl
theorem repE_small {o : Nat} (h : repE o = true) : o < 256 ∧ (UInt8.ofNat o).toNat = o ∧ small (UInt8.ofNat o) = false ∧ o ≠ 110 ∧ o ≠ 97 ∧ o ≠ 115 := by
  simp only [repE, Bool.or_eq_true, beq_iff_eq] at h
  rcases h with (rfl | rfl) | rfl <;> decide
theorem back_rep {o : Nat} {x : Ex} (ho : repE o = true) (h : BackU x) (hx : repE x.op = false) : BackI (.mk o ByteArray.empty [x]) := by
  intro n m r hm hn _
  obtain ⟨_, h1, h2, h3, h4, h5⟩ := repE_small ho
  have eu : uI (.mk o ByteArray.empty [x]) = uI x := by
    rw [uI, if_neg h3, if_neg h4, if_neg h5, firstI]
  have hp : parE (.mk o ByteArray.empty [x]) = false := by
    unfold parE
    rw [show (Ex.mk o ByteArray.empty [x]).op = o from rfl]
    simp [h4, h5]
  rw [eu] at hm ⊢
  have e1 := h n m (UInt8.ofNat o :: r) hm hn hx (stU_cons h2)
  rw [il_no hp, wl_rep h3 h4 h5]
  have e2 : IL x ++ [UInt8.ofNat o] ++ r = IL x ++ UInt8.ofNat o :: r := by simp
  rw [e2]
  unfold repeatedP
  rw [e1]
  simp only [h1, ho, if_true]
/-- A row of one. -/
theorem backR_one {e : Ex} (h : BackI e) (ha : allE okN e = true) (hw : WL e = IL e) (hu : uR e = uI e) : BackR e := by
  intro _ n m r hm hn hs
  rw [hw]
  rw [hu] at hm ⊢
  have e1 := several_back (part := repeatedP (unitP n)) (c := 32) (op := 115) (wr := IL) (f := uI) (st := stR) (M := m) e [] m r (by intro y hy; simp at hy; subst hy; exact uI_pos y ha)
    (by intro y hy m' r' h1 h2 h3; simp at hy; subst hy; exact h n m' r' h1 (by omega) h3) stR_space hs.1 hs.2 (by simp only [sumU]; omega) (Int.le_refl _)
  simp only [List.map_nil, List.flatten_nil, List.nil_append, List.length_nil, if_true, sumU] at e1
  exact e1
theorem backR_many {x : Ex} {l : List Ex} (hl : l.length ≠ 0) (h : ∀ y ∈ x :: l, BackI y) (ha : ∀ y ∈ x :: l, allE okN y = true) : BackR (.mk 115 ByteArray.empty (x :: l)) := by
  intro _ n m r hm hn hs
  have eu : uR (.mk 115 ByteArray.empty (x :: l)) = sumU uI (x :: l) := by
    rw [uR, if_neg (by decide), if_neg (by decide), if_pos rfl, if_neg (by simp), sumI_is]
  rw [eu] at hm ⊢
  have e1 := several_back (part := repeatedP (unitP n)) (c := 32) (op := 115) (wr := IL) (f := uI) (st := stR) (M := m) x l m r (fun y hy => uI_pos y (ha y hy))
    (fun y hy m' r' h1 h2 h3 => h y hy n m' r' h1 (by omega) h3) stR_space hs.1 hs.2 hm (Int.le_refl _)
  rw [if_neg hl] at e1
  rw [wl_seq, List.append_assoc]
  exact e1
/-- A choice of one. -/
theorem backC_one {e : Ex} (h : BackR e) (ho : e.op ≠ 97) (ha : allE okN e = true) : BackC e := by
  intro n m r hm hn hs
  have eu : uC e = uR e := by unfold uC; rw [if_neg ho]
  rw [eu] at hm ⊢
  have e1 := several_back (part := rowP n) (c := 124) (op := 97) (wr := WL) (f := uR) (st := stS) (M := m) e [] m r (by intro y hy; simp at hy; subst hy; exact uR_pos ha)
    (by intro y hy m' r' h1 h2 h3; simp at hy; subst hy; exact h ho n m' r' h1 (by omega) h3) stS_bar hs.1 hs.2 (by simp only [sumU]; omega) (Int.le_refl _)
  simp only [List.map_nil, List.flatten_nil, List.nil_append, List.length_nil, if_true, sumU] at e1
  exact e1
theorem backC_many {x : Ex} {l : List Ex} (hl : l.length ≠ 0) (h : ∀ y ∈ x :: l, BackR y) (ho : ∀ y ∈ x :: l, y.op ≠ 97) (ha : ∀ y ∈ x :: l, allE okN y = true) : BackC (.mk 97 ByteArray.empty (x :: l)) := by
  intro n m r hm hn hs
  have eu : uC (.mk 97 ByteArray.empty (x :: l)) = sumU uR (x :: l) := by
    exact sumR_is _
  rw [eu] at hm ⊢
  have e1 := several_back (part := rowP n) (c := 124) (op := 97) (wr := WL) (f := uR) (st := stS) (M := m) x l m r (fun y hy => uR_pos (ha y hy))
    (fun y hy m' r' h1 h2 h3 => h y hy (ho y hy) n m' r' h1 (by omega) h3) stS_bar hs.1 hs.2 hm (Int.le_refl _)
  rw [if_neg hl] at e1
  rw [wl_alt, List.append_assoc]
  exact e1
theorem back_all : ∀ e : Ex, allE okN e = true → (repE e.op = false → BackU e) ∧ BackI e ∧ BackR e ∧ BackC e := by
  intro e
  induction e using Ex.induct_one with
  | h o s l ih =>
    intro h
    rcases write_op h with rfl | rfl | rfl | ho
    · obtain ⟨rfl, hs⟩ := all_name h
      have hU := back_name s hs
      have hI := backI_of hU rfl
      have hR := backR_one hI h (il_no rfl).symm rfl
      exact ⟨fun _ => hU, hI, hR, backC_one hR (show (110 : Nat) ≠ 97 by decide) h⟩
    · obtain rfl := all_empty h (by decide)
      obtain ⟨h1, h2, h3⟩ := all_alt h
      match l, h, h1, h2, h3, ih with
      | x :: l, h, h1, h2, h3, ih =>
        have hC : BackC (.mk 97 ByteArray.empty (x :: l)) := backC_many (by simp at h1; omega) (fun y hy => (ih y hy (h3 y hy)).2.2.1) h2 h3
        have hu : uI (.mk 97 ByteArray.empty (x :: l)) = 1 + uC (.mk 97 ByteArray.empty (x :: l)) := by
          rw [uI, if_neg (by decide), if_pos rfl]; rfl
        have hU := back_par rfl h hC hu
        exact ⟨fun _ => hU, backI_of hU rfl, fun ho => absurd rfl ho, hC⟩
    · obtain rfl := all_empty h (by decide)
      obtain ⟨h1, h2, h3⟩ := all_seq h
      match l, h, h1, h2, h3, ih with
      | [], h, _, _, _, _ =>
        have hI := backI_of back_none rfl
        have hR := backR_one hI h (il_no rfl).symm rfl
        exact ⟨fun _ => back_none, hI, hR, backC_one hR (show (115 : Nat) ≠ 97 by decide) h⟩
      | x :: l, h, h1, h2, h3, ih =>
        have hR : BackR (.mk 115 ByteArray.empty (x :: l)) := backR_many (by simp at h1; exact fun h => h1 (List.eq_nil_of_length_eq_zero h)) (fun y hy => (ih y hy (h3 y hy)).2.1) h3
        have hC := backC_one hR (show (115 : Nat) ≠ 97 by decide) h
        have hu : uI (.mk 115 ByteArray.empty (x :: l)) = 1 + uC (.mk 115 ByteArray.empty (x :: l)) := by
          rw [uI, if_neg (by decide), if_neg (by decide), if_pos rfl]
          show _ = 1 + uR (.mk 115 ByteArray.empty (x :: l))
          rw [uR, if_neg (by decide), if_neg (by decide), if_pos rfl, if_neg (by simp)]
        have hU := back_par rfl h hC hu
        exact ⟨fun _ => hU, backI_of hU rfl, hR, hC⟩
    · obtain ⟨_, _, _, h3, h4, h5⟩ := repE_small ho
      obtain rfl := all_empty h h3
      obtain ⟨x, rfl, hx, ha⟩ := all_rep h h3 h5 h4
      have hI := back_rep ho ((ih x (List.mem_cons_self ..) ha).1 hx) hx
      have hp : parE (.mk o ByteArray.empty [x]) = false := by
        unfold parE
        rw [show (Ex.mk o ByteArray.empty [x]).op = o from rfl]
        simp [h4, h5]
      have hR := backR_one hI h (il_no hp).symm (by rw [uR, if_neg h3, if_neg h4, if_neg h5, uI, if_neg h3, if_neg h4, if_neg h5])
      exact ⟨fun hr => absurd (show repE o = true from ho) (by rw [show repE o = false from hr]; decide), hI, hR, backC_one hR h4 h⟩
/-- What is written of a right expression is read back. -/
theorem read_write {e : Ex} (h : rightE okN e = true) : readE (WL e) = e := by
  simp only [rightE, Bool.and_eq_true, decide_eq_true_iff] at h
  have h1 := uC_size e
  have h2 := (back_all e h.1).2.2.2 24 24 [] (by omega) (by decide) stA_nil
  rw [List.append_nil] at h2
  unfold readE
  rw [h2]
end Go.Proofs.YtldmimekmjmkgaaDoor

namespace Go.Proofs.YtldmimekmjmkgaaDoor
open Go.RowKit Go.Sort Go.Maps Go.WideMaps

def lvl (o : Int) (c : UInt8) : Int := o + (if c = 40 then 1 else 0) - (if c = 41 then 1 else 0)
/-- A text at a sign that stands in no bracket. -/
def cutP (g : UInt8) : List UInt8 → Int → List UInt8 → List (List UInt8)
  | [], _, cur => [cur]
  | c :: r, o, cur => if c = g ∧ lvl o c = 0 then cur :: cutP g r (lvl o c) [] else cutP g r (lvl o c) (cur ++ [c])
def partsR (s : List UInt8) : Nat × List (List UInt8) := if (cutP 124 s 0 []).length = 1 then (115, cutP 32 s 0 []) else (97, cutP 124 s 0 [])
/-- What the document reads, of so many units in one another at most. -/
def readR : Nat → List UInt8 → Ex
  | 0, _ => nulE
  | n + 1, s =>
    if s = [] then nulE
    else if 1 < (partsR s).2.length then .mk (partsR s).1 ByteArray.empty (if (partsR s).2.length < 30 then (partsR s).2.map (readR n) else [])
    else if repE (s.getLastD 0).toNat then .mk (s.getLastD 0).toNat ByteArray.empty [readR n s.dropLast]
    else if s = [40, 41] then .mk 115 ByteArray.empty []
    else if s.headD 0 = 40 ∧ s.getLastD 0 = 41 then readR n s.tail.dropLast
    else .mk 110 ⟨s.toArray⟩ []

def InB (s : List UInt8) : Prop := ∀ (g : UInt8) (k : Int) (r cur : List UInt8), 1 ≤ k → cutP g (s ++ r) k cur = cutP g r k (cur ++ s)
def Cln (g : UInt8) (s : List UInt8) : Prop := ∀ (r cur : List UInt8), cutP g (s ++ r) 0 cur = cutP g r 0 (cur ++ s)
theorem InB.app {s t : List UInt8} (hs : InB s) (ht : InB t) : InB (s ++ t) := fun g k r cur hk => by rw [List.append_assoc, hs g k _ cur hk, ht g k r _ hk, List.append_assoc]
theorem Cln.app {g : UInt8} {s t : List UInt8} (hs : Cln g s) (ht : Cln g t) : Cln g (s ++ t) := fun r cur => by rw [List.append_assoc, hs _ cur, ht r _, List.append_assoc]
theorem InB.nil : InB [] := fun g k r cur _ => by simp
theorem Cln.nil (g : UInt8) : Cln g [] := fun r cur => by simp
theorem lvl_other {o : Int} {c : UInt8} (h0 : c ≠ 40) (h1 : c ≠ 41) : lvl o c = o := by unfold lvl; rw [if_neg h0, if_neg h1]; omega
theorem InB.one {c : UInt8} (h0 : c ≠ 40) (h1 : c ≠ 41) : InB [c] := fun g k r cur hk => by
  rw [List.cons_append, List.nil_append, cutP, lvl_other h0 h1, if_neg (by omega)]
theorem Cln.one {g c : UInt8} (hg : c ≠ g) (h0 : c ≠ 40) (h1 : c ≠ 41) : Cln g [c] := fun r cur => by
  rw [List.cons_append, List.nil_append, cutP, lvl_other h0 h1, if_neg (fun h => hg h.1)]
theorem cut_open (g : UInt8) (k : Int) (hk : 0 ≤ k) (r cur : List UInt8) : cutP g (40 :: r) k cur = cutP g r (k + 1) (cur ++ [40]) := by
  have h : lvl k 40 = k + 1 := by unfold lvl; rw [if_pos rfl, if_neg (by decide)]; omega
  rw [cutP, h, if_neg (by omega)]
theorem cut_close (g : UInt8) (hg : g ≠ 41) (k : Int) (r cur : List UInt8) : cutP g (41 :: r) (k + 1) cur = cutP g r k (cur ++ [41]) := by
  have h : lvl (k + 1) 41 = k := by unfold lvl; rw [if_neg (by decide), if_pos rfl]; omega
  rw [cutP, h, if_neg (fun h => hg h.1.symm)]
theorem cut_close1 (g : UInt8) (k : Int) (hk : 1 ≤ k) (r cur : List UInt8) : cutP g (41 :: r) (k + 1) cur = cutP g r k (cur ++ [41]) := by
  have h : lvl (k + 1) 41 = k := by unfold lvl; rw [if_neg (by decide), if_pos rfl]; omega
  rw [cutP, h, if_neg (by omega)]
theorem InB.par {s : List UInt8} (h : InB s) : InB (40 :: (s ++ [41])) := fun g k r cur hk => by
  rw [List.cons_append, cut_open g k (by omega), List.append_assoc, h g (k + 1) _ _ (by omega), List.cons_append, List.nil_append, cut_close1 g k hk]
  simp
theorem Cln.par {g : UInt8} (hg : g ≠ 41) {s : List UInt8} (h : InB s) : Cln g (40 :: (s ++ [41])) := fun r cur => by
  rw [List.cons_append, cut_open g 0 (by omega), List.append_assoc, h g (0 + 1) _ _ (by omega), List.cons_append, List.nil_append, cut_close g hg 0]
  simp
theorem Cln.none {g : UInt8} (hg : g ≠ 41) : Cln g [40, 41] := Cln.par (s := []) hg InB.nil
theorem InB.all : ∀ {s : List UInt8}, (∀ c ∈ s, c ≠ 40 ∧ c ≠ 41) → InB s
  | [], _ => InB.nil
  | c :: _, h => InB.app (s := [c]) (InB.one (h c (List.mem_cons_self ..)).1 (h c (List.mem_cons_self ..)).2) (InB.all fun d hd => h d (List.mem_cons_of_mem _ hd))
theorem Cln.all {g : UInt8} : ∀ {s : List UInt8}, (∀ c ∈ s, c ≠ g ∧ c ≠ 40 ∧ c ≠ 41) → Cln g s
  | [], _ => Cln.nil g
  | c :: _, h => Cln.app (s := [c]) (Cln.one (h c (List.mem_cons_self ..)).1 (h c (List.mem_cons_self ..)).2.1 (h c (List.mem_cons_self ..)).2.2) (Cln.all fun d hd => h d (List.mem_cons_of_mem _ hd))
theorem InB.flat {f : Ex → List UInt8} {c : UInt8} (h0 : c ≠ 40) (h1 : c ≠ 41) : ∀ (l : List Ex), (∀ y ∈ l, InB (f y)) → InB (l.map fun y => c :: f y).flatten
  | [], _ => InB.nil
  | y :: l, h => by
    rw [List.map_cons, List.flatten_cons]
    exact InB.app (InB.app (s := [c]) (InB.one h0 h1) (h y (List.mem_cons_self ..))) (InB.flat h0 h1 l fun z hz => h z (List.mem_cons_of_mem _ hz))
theorem Cln.flat {g : UInt8} {f : Ex → List UInt8} {c : UInt8} (hg : c ≠ g) (h0 : c ≠ 40) (h1 : c ≠ 41) : ∀ (l : List Ex), (∀ y ∈ l, Cln g (f y)) → Cln g (l.map fun y => c :: f y).flatten
  | [], _ => Cln.nil g
  | y :: l, h => by
    rw [List.map_cons, List.flatten_cons]
    exact Cln.app (Cln.app (s := [c]) (Cln.one hg h0 h1) (h y (List.mem_cons_self ..))) (Cln.flat hg h0 h1 l fun z hz => h z (List.mem_cons_of_mem _ hz))
theorem cut_flat {g : UInt8} {f : Ex → List UInt8} (h0 : g ≠ 40) (h1 : g ≠ 41) : ∀ (l : List Ex) (cur : List UInt8), (∀ y ∈ l, Cln g (f y)) → cutP g (l.map fun y => g :: f y).flatten 0 cur = cur :: l.map f
  | [], cur, _ => rfl
  | y :: l, cur, h => by
    have ih := cut_flat h0 h1 l ([] ++ f y) fun z hz => h z (List.mem_cons_of_mem _ hz)
    rw [List.map_cons, List.flatten_cons, List.cons_append, cutP, lvl_other h0 h1, if_pos ⟨rfl, rfl⟩, h y (List.mem_cons_self ..), ih]
    rfl
theorem cut_join {g : UInt8} {f : Ex → List UInt8} (h0 : g ≠ 40) (h1 : g ≠ 41) (x : Ex) (l : List Ex) (h : ∀ y ∈ x :: l, Cln g (f y)) : cutP g (f x ++ (l.map fun y => g :: f y).flatten) 0 [] = (x :: l).map f := by
  rw [h x (List.mem_cons_self ..), cut_flat h0 h1 l _ fun z hz => h z (List.mem_cons_of_mem _ hz)]
  rfl
theorem cut_whole {g : UInt8} {s : List UInt8} (h : Cln g s) : cutP g s 0 [] = [s] := by
  have := h [] []
  rw [List.append_nil] at this
  rw [this]; rfl

theorem small_ne {c d : UInt8} (h : small c = true) (hd : small d = false) : c ≠ d := by rintro rfl; rw [h] at hd; cases hd
theorem wl_in : ∀ e : Ex, allE okN e = true → InB (WL e) := by
  intro e
  induction e using Ex.induct_one with
  | h o s l ih =>
    intro h
    have il : ∀ x ∈ l, allE okN x = true → InB (IL x) := fun x hx ha => by
      cases hp : parE x with
      | true => rw [il_par hp]; exact (ih x hx ha).par
      | false => rw [il_no hp]; exact ih x hx ha
    rcases write_op h with rfl | rfl | rfl | ho
    · obtain ⟨rfl, hs⟩ := all_name h
      rw [wl_name]
      exact InB.all fun c hc => ⟨small_ne ((name_letters hs).2 c hc) rfl, small_ne ((name_letters hs).2 c hc) rfl⟩
    · obtain rfl := all_empty h (by decide)
      obtain ⟨h1, h2, h3⟩ := all_alt h
      match l, h1, h3, ih with
      | x :: l, _, h3, ih =>
        rw [wl_alt]
        exact (ih x (List.mem_cons_self ..) (h3 x (List.mem_cons_self ..))).app (InB.flat (by decide) (by decide) l fun y hy => ih y (List.mem_cons_of_mem _ hy) (h3 y (List.mem_cons_of_mem _ hy)))
    · obtain rfl := all_empty h (by decide)
      obtain ⟨h1, h2, h3⟩ := all_seq h
      match l, h3, il with
      | [], _, _ => rw [wl_none]; exact InB.par (s := []) InB.nil
      | x :: l, h3, il =>
        rw [wl_seq]
        exact (il x (List.mem_cons_self ..) (h3 x (List.mem_cons_self ..))).app (InB.flat (by decide) (by decide) l fun y hy => il y (List.mem_cons_of_mem _ hy) (h3 y (List.mem_cons_of_mem _ hy)))
    · obtain ⟨_, _, _, h3, h4, h5⟩ := repE_small ho
      obtain rfl := all_empty h h3
      obtain ⟨x, rfl, hx, ha⟩ := all_rep h h3 h5 h4
      rw [wl_rep h3 h4 h5]
      refine (il x (List.mem_cons_self ..) ha).app ?_
      simp only [repE, Bool.or_eq_true, beq_iff_eq] at ho
      rcases ho with (rfl | rfl) | rfl <;> exact InB.one (by decide) (by decide)
theorem il_cln {g : UInt8} (hg : g = 124 ∨ g = 32) : ∀ e : Ex, allE okN e = true → Cln g (IL e) := by
  have g41 : g ≠ 41 := by rcases hg with rfl | rfl <;> decide
  have gs : small g = false := by rcases hg with rfl | rfl <;> rfl
  intro e
  induction e using Ex.induct_one with
  | h o s l ih =>
    intro h
    cases hp : parE (.mk o s l) with
    | true => rw [il_par hp]; exact Cln.par g41 (wl_in _ h)
    | false =>
      rw [il_no hp]
      rcases write_op h with rfl | rfl | rfl | ho
      · obtain ⟨rfl, hs⟩ := all_name h
        rw [wl_name]
        exact Cln.all fun c hc => ⟨small_ne ((name_letters hs).2 c hc) gs, small_ne ((name_letters hs).2 c hc) rfl, small_ne ((name_letters hs).2 c hc) rfl⟩
      · cases hp
      · obtain rfl := all_empty h (by decide)
        match l, hp with
        | [], _ => rw [wl_none]; exact Cln.none g41
        | x :: l, hp => cases hp
      · obtain ⟨_, _, _, h3, h4, h5⟩ := repE_small ho
        obtain rfl := all_empty h h3
        obtain ⟨x, rfl, hx, ha⟩ := all_rep h h3 h5 h4
        rw [wl_rep h3 h4 h5]
        refine (ih x (List.mem_cons_self ..) ha).app ?_
        simp only [repE, Bool.or_eq_true, beq_iff_eq] at ho
        rcases hg with rfl | rfl <;> rcases ho with (rfl | rfl) | rfl <;> exact Cln.one (by decide) (by decide) (by decide)
/-- What is no choice has no bar but in brackets. -/
theorem wl_cln : ∀ e : Ex, allE okN e = true → e.op ≠ 97 → Cln 124 (WL e) := by
  intro e h ho
  cases hp : parE e with
  | false => rw [← il_no hp]; exact il_cln (.inl rfl) e h
  | true =>
    obtain ⟨o, s, l⟩ := e
    have h1 : o = 115 ∧ 0 < l.length := by
      have h2 : o ≠ 97 := ho
      unfold parE at hp
      rw [Bool.or_eq_true] at hp
      rcases hp with hp | hp
      · exact absurd (beq_iff_eq.1 hp) h2
      · rw [Bool.and_eq_true] at hp
        exact ⟨beq_iff_eq.1 hp.1, of_decide_eq_true hp.2⟩
    obtain ⟨rfl, h2⟩ := h1
    obtain rfl := all_empty h (by decide)
    obtain ⟨_, _, h3⟩ := all_seq h
    match l, h2, h3 with
    | x :: l, _, h3 =>
      rw [wl_seq]
      exact (il_cln (.inl rfl) x (h3 x (List.mem_cons_self ..))).app (Cln.flat (by decide) (by decide) (by decide) l fun y hy => il_cln (.inl rfl) y (h3 y (List.mem_cons_of_mem _ hy)))

/-- What is cut nowhere. -/
theorem readR_one {n : Nat} {s : List UInt8} (h0 : s ≠ []) (h1 : Cln 124 s) (h2 : Cln 32 s) : readR (n + 1) s =
    if repE (s.getLastD 0).toNat then .mk (s.getLastD 0).toNat ByteArray.empty [readR n s.dropLast]
    else if s = [40, 41] then .mk 115 ByteArray.empty []
    else if s.headD 0 = 40 ∧ s.getLastD 0 = 41 then readR n s.tail.dropLast
    else .mk 110 ⟨s.toArray⟩ [] := by
  have e : partsR s = (115, [s]) := by
    unfold partsR
    rw [cut_whole h1, cut_whole h2, if_pos (show [s].length = 1 from rfl)]
  rw [readR, if_neg h0, e, if_neg (by simp)]
theorem readR_many {n : Nat} {s : List UInt8} {o : Nat} {l : List (List UInt8)} (h0 : s ≠ []) (h1 : partsR s = (o, l)) (h2 : 1 < l.length) (h3 : l.length < 30) : readR (n + 1) s = .mk o ByteArray.empty (l.map (readR n)) := by
  rw [readR, if_neg h0, h1, if_pos h2, if_pos h3]
theorem last_small {s : List UInt8} (h : s ≠ []) (hs : ∀ c ∈ s, small c = true) : small (s.getLastD 0) = true := by
  cases s with
  | nil => exact absurd rfl h
  | cons c t => rw [List.getLastD_cons, ← List.getLast_eq_getLastD (a := c) (l := t) (by simp)]; exact hs _ (List.getLast_mem _)
theorem lastD_app (s : List UInt8) (c : UInt8) : (s ++ [c]).getLastD 0 = c := by simp
theorem sizes_len : ∀ l : List Ex, l.length ≤ sizeEs l
  | [] => Nat.le_refl _
  | x :: l => by
    have := sizes_len l
    obtain ⟨o, s, k⟩ := x
    simp only [sizeEs, sizeE, List.length_cons]; omega
theorem map_same {f : Ex → List UInt8} {r : List UInt8 → Ex} : ∀ {l : List Ex}, (∀ x ∈ l, r (f x) = x) → (l.map f).map r = l
  | [], _ => rfl
  | x :: l, h => by rw [List.map_cons, List.map_cons, h x (List.mem_cons_self ..), map_same fun y hy => h y (List.mem_cons_of_mem _ hy)]
theorem readR_par {n : Nat} {e : Ex} (h : allE okN e = true) (hp : parE e = true) : readR (n + 1) (IL e) = readR n (WL e) := by
  have h1 : Cln 124 (IL e) := il_cln (.inl rfl) e h
  have h2 : Cln 32 (IL e) := il_cln (.inr rfl) e h
  obtain ⟨c, t, hct, hc⟩ := wl_head e h
  have e1 : IL e = 40 :: (WL e ++ [41]) := il_par hp
  have e2 : (40 :: (WL e ++ [41])).getLastD 0 = 41 := by rw [← List.cons_append]; exact lastD_app _ _
  rw [readR_one (by rw [e1]; simp) h1 h2, e1, e2, if_neg (by decide), if_neg (by rw [hct]; simp), if_pos ⟨rfl, rfl⟩]
  simp
theorem readR_back : ∀ e : Ex, allE okN e = true → sizeE e ≤ 24 → (∀ n, 2 * sizeE e ≤ n + 1 → readR n (WL e) = e) ∧ (∀ n, 2 * sizeE e ≤ n → readR n (IL e) = e) := by
  intro e
  induction e using Ex.induct_one with
  | h o s l ih =>
    intro h hz
    have hpos : 1 + sizeEs l = sizeE (.mk o s l) := by rw [sizeE]
    have hA : ∀ n, 2 * sizeE (.mk o s l) ≤ n + 1 → readR n (WL (.mk o s l)) = .mk o s l := by
      intro n hn
      obtain ⟨n, rfl⟩ : ∃ k, n = k + 1 := ⟨n - 1, by omega⟩
      rcases write_op h with rfl | rfl | rfl | ho
      · have hpe : parE (.mk 110 s l) = false := rfl
        have h1 := il_cln (g := 124) (.inl rfl) _ h
        have h2 := il_cln (g := 32) (.inr rfl) _ h
        rw [il_no hpe] at h1 h2
        obtain ⟨rfl, hs⟩ := all_name h
        obtain ⟨h3, h4⟩ := name_letters hs
        rw [wl_name] at h1 h2 ⊢
        have h0 : s.data.toList ≠ [] := fun e => by rw [e] at h3; simp at h3
        have h5 := last_small h0 h4
        have hr : repE (s.data.toList.getLastD 0).toNat = false := by
          cases hq : repE (s.data.toList.getLastD 0).toNat with
          | false => rfl
          | true =>
            have := (repE_small hq).2.2.1
            rw [show UInt8.ofNat (s.data.toList.getLastD 0).toNat = s.data.toList.getLastD 0 from by simp] at this
            rw [this] at h5; cases h5
        have hn41 : s.data.toList.getLastD 0 ≠ 41 := small_ne h5 rfl
        rw [readR_one h0 h1 h2, hr, if_neg (by decide), if_neg (by intro e; rw [e] at hn41; exact hn41 rfl), if_neg (fun h => hn41 h.2)]
      · obtain rfl := all_empty h (by decide)
        obtain ⟨h1, h2, h3⟩ := all_alt h
        have hl := sizes_len l
        have hk : ∀ x ∈ l, readR n (WL x) = x := fun x hx => by
          have := size_mem hx
          exact (ih x hx (h3 x hx) (by omega)).1 n (by omega)
        match l, h1, h2, h3, hl, hk with
        | x :: l, h1, h2, h3, hl, hk =>
          have hc : cutP 124 (WL (.mk 97 ByteArray.empty (x :: l))) 0 [] = (x :: l).map WL := by
            rw [wl_alt]
            exact cut_join (by decide) (by decide) x l fun y hy => wl_cln y (h3 y hy) (h2 y hy)
          have hp : partsR (WL (.mk 97 ByteArray.empty (x :: l))) = (97, (x :: l).map WL) := by
            unfold partsR
            rw [hc, if_neg (by rw [List.length_map]; omega)]
          obtain ⟨c, t, hct, _⟩ := wl_head _ h
          rw [readR_many (by rw [hct]; simp) hp (by rw [List.length_map]; omega) (by rw [List.length_map]; omega), map_same hk]
      · obtain rfl := all_empty h (by decide)
        obtain ⟨h1, h2, h3⟩ := all_seq h
        have hl := sizes_len l
        have hk : ∀ x ∈ l, readR n (IL x) = x := fun x hx => by
          have := size_mem hx
          exact (ih x hx (h3 x hx) (by omega)).2 n (by omega)
        match l, h, h1, h2, h3, hl, hk with
        | [], _, _, _, _, _, _ =>
          rw [wl_none, readR_one (by simp) (Cln.none (by decide)) (Cln.none (by decide)), if_neg (by decide), if_pos rfl]
        | x :: l, h, h1, h2, h3, hl, hk =>
          have hc : cutP 32 (WL (.mk 115 ByteArray.empty (x :: l))) 0 [] = (x :: l).map IL := by
            rw [wl_seq]
            exact cut_join (by decide) (by decide) x l fun y hy => il_cln (.inr rfl) y (h3 y hy)
          have hp : partsR (WL (.mk 115 ByteArray.empty (x :: l))) = (115, (x :: l).map IL) := by
            unfold partsR
            rw [cut_whole (wl_cln _ h (show (115 : Nat) ≠ 97 by decide)), hc, if_pos (show [WL (Ex.mk 115 ByteArray.empty (x :: l))].length = 1 from rfl)]
          obtain ⟨c, t, hct, _⟩ := wl_head _ h
          rw [readR_many (by rw [hct]; simp) hp (by rw [List.length_map]; simp only [List.length_cons] at h1 ⊢; omega) (by rw [List.length_map]; omega), map_same hk]
      · obtain ⟨_, hq, _, h3, h4, h5⟩ := repE_small ho
        obtain rfl := all_empty h h3
        obtain ⟨x, rfl, hx, ha⟩ := all_rep h h3 h5 h4
        have hpe : parE (.mk o ByteArray.empty [x]) = false := by
          unfold parE
          rw [show (Ex.mk o ByteArray.empty [x]).op = o from rfl]
          simp [h4, h5]
        have h1 := il_cln (g := 124) (.inl rfl) _ h
        have h2 := il_cln (g := 32) (.inr rfl) _ h
        rw [il_no hpe, wl_rep h3 h4 h5] at h1 h2
        have hk : readR n (IL x) = x := by
          have := size_mem (show x ∈ [x] from List.mem_cons_self ..)
          exact (ih x (List.mem_cons_self ..) ha (by omega)).2 n (by omega)
        rw [wl_rep h3 h4 h5, readR_one (by simp) h1 h2, lastD_app, hq, if_pos ho, List.dropLast_concat, hk]
    refine ⟨hA, fun n hn => ?_⟩
    cases hp : parE (.mk o s l) with
    | false => rw [il_no hp]; exact hA n (by omega)
    | true =>
      obtain ⟨n, rfl⟩ : ∃ k, n = k + 1 := ⟨n - 1, by omega⟩
      rw [readR_par h hp]
      exact hA n (by omega)
theorem readR_write {e : Ex} (h : rightE okN e = true) : readR 100 (WL e) = e := by
  simp only [rightE, Bool.and_eq_true, decide_eq_true_iff] at h
  exact (readR_back e h.1 h.2).1 100 (by omega)
end Go.Proofs.YtldmimekmjmkgaaDoor
