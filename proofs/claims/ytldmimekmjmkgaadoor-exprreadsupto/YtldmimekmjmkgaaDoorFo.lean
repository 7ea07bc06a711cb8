/-
  What inner, written and Print answer.
-/
import Derived.Test.YtldmimekmjmkgaaDoorFn
namespace Go.Proofs.YtldmimekmjmkgaaDoor
open Go.RowKit Go.Sort Go.Maps Go.WideMaps

theorem list_size (s : ByteArray) : s.data.toList.length = s.size := Array.length_toList
theorem joinE_size (sep : ByteArray) (hs : sep.size = 1) (l : List ByteArray) : (joinE sep l).size ≤ l.length + Lib.lens (l.map (·.data.toList)) := by
  have e : (joinE sep l).size = (Lib.join (l.map (·.data.toList)) sep.data.toList).length := by simp [joinE, ByteArray.size]
  rw [e]
  match l with
  | [] => simp [Lib.join_nil]
  | x :: r =>
    rw [List.map_cons, Lib.join_length]
    rw [list_size, hs]
    simp only [List.length_map, List.length_cons, Nat.one_mul]
    omega
theorem okN_size {s : ByteArray} (h : okN s = true) : s.size ≤ 8 := by
  unfold okN at h
  rw [Bool.or_eq_true] at h
  rcases h with h | h
  · simp only [nameB, Bool.and_eq_true, decide_eq_true_iff] at h
    omega
  · unfold isTxt at h
    have h1 : s.toList = [116, 101, 120, 116] := by simpa using h
    have h2 := congrArg List.length h1
    rw [Lib.toList_data, list_size] at h2
    simp only [List.length_cons, List.length_nil] at h2
    omega
theorem inE_size (e : Ex) (s : ByteArray) : (inE e s).size ≤ s.size + 2 := by
  unfold inE
  split
  · have h1 : (⟨#[40]⟩ : ByteArray).size = 1 := rfl
    have h2 : (⟨#[41]⟩ : ByteArray).size = 1 := rfl
    rw [ByteArray.size_append, ByteArray.size_append]; omega
  · omega
mutual
theorem write_len : ∀ e : Ex, allE okN e = true → (writeE e).size + 4 ≤ 12 * sizeE e
  | .mk o s l, h => by
    simp only [allE, Bool.and_eq_true] at h
    unfold writeE sizeE
    by_cases h0 : o = 110
    · rw [if_pos h0]
      have h1 := h.1
      rw [shaped_name h0, Bool.and_eq_true] at h1
      have := okN_size h1.2
      omega
    · rw [if_neg h0]
      by_cases h1 : o = 97
      · rw [if_pos h1]
        have h2 := writes_len l h.2
        have h3 := joinE_size ⟨#[124]⟩ rfl (writesE l)
        rw [writesE_map, List.length_map, ← writesE_map] at h3
        omega
      · rw [if_neg h1]
        by_cases h2 : o = 115
        · rw [if_pos h2]
          split
          · rename_i h3
            have : (⟨#[40, 41]⟩ : ByteArray).size = 2 := rfl
            omega
          · have h2 := inners_len l h.2
            have h3 := joinE_size ⟨#[32]⟩ rfl (innersE l)
            rw [innersE_map, List.length_map, ← innersE_map] at h3
            omega
        · rw [if_neg h2]
          obtain ⟨_, x, hx⟩ := rep_inv h0 h2 h1 h.1
          have h3 := first_len l h.2 (by rw [hx]; simp)
          rw [ByteArray.size_append]
          have : (⟨#[UInt8.ofNat o]⟩ : ByteArray).size = 1 := rfl
          omega
theorem writes_len : ∀ l : List Ex, allEs okN l = true → Lib.lens ((writesE l).map (·.data.toList)) + 4 * l.length ≤ 12 * sizeEs l
  | [], _ => by simp [writesE, Lib.lens, sizeEs]
  | x :: l, h => by
    simp only [allEs, Bool.and_eq_true] at h
    have h1 := write_len x h.1
    have h2 := writes_len l h.2
    unfold writesE sizeEs
    simp only [List.map_cons, Lib.lens, List.length_cons, List.sum_cons] at h2 ⊢
    have := list_size (writeE x)
    omega
theorem inners_len : ∀ l : List Ex, allEs okN l = true → Lib.lens ((innersE l).map (·.data.toList)) + 2 * l.length ≤ 12 * sizeEs l
  | [], _ => by simp [innersE, Lib.lens, sizeEs]
  | x :: l, h => by
    simp only [allEs, Bool.and_eq_true] at h
    have h1 := write_len x h.1
    have h2 := inners_len l h.2
    have h3 := inE_size x (writeE x)
    unfold innersE sizeEs
    simp only [List.map_cons, Lib.lens, List.length_cons, List.sum_cons] at h2 ⊢
    have := list_size (inE x (writeE x))
    omega
theorem first_len : ∀ l : List Ex, allEs okN l = true → l ≠ [] → (firstE l).size + 2 ≤ 12 * sizeEs l
  | [], _, h => absurd rfl h
  | x :: l, h, _ => by
    simp only [allEs, Bool.and_eq_true] at h
    have h1 := write_len x h.1
    have h3 := inE_size x (writeE x)
    unfold firstE sizeEs
    omega
end
end Go.Proofs.YtldmimekmjmkgaaDoor
