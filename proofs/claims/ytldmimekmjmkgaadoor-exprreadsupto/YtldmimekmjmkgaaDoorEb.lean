/-
  Ways along places: of a sequence, of alternatives, of a repetition (no program is named here).
-/
import Derived.Test.YtldmimekmjmkgaaDoorEa
namespace Go.Proofs.YtldmimekmjmkgaaDoor
open Go.RowKit

theorem last_cons {α : Type} (x : α) : ∀ {l : List α}, l ≠ [] → (x :: l).getLast? = l.getLast?
  | [], h => absurd rfl h
  | _ :: _, _ => by simp [List.getLast?_cons_cons]
theorem last_app {α : Type} (u : List α) {v : List α} (h : v ≠ []) : (u ++ v).getLast? = v.getLast? := by
  rw [List.getLast?_append]
  cases hv : v.getLast? with
  | none => exact absurd (List.getLast?_eq_none_iff.1 hv) h
  | some x => rfl
theorem head_app {α : Type} {u : List α} (v : List α) (h : u ≠ []) : (u ++ v).head? = u.head? := by
  cases u with
  | nil => exact absurd rfl h
  | cons x u => rfl
theorem ne_of_head {α : Type} {u : List α} {x : α} (h : u.head? = some x) : u ≠ [] := by rintro rfl; cases h
theorem head_of {α : Type} {u : List α} (h : u ≠ []) : ∃ x, u.head? = some x := by cases u with | nil => exact absurd rfl h | cons x u => exact ⟨x, rfl⟩
theorem last_of {α : Type} {u : List α} (h : u ≠ []) : ∃ x, u.getLast? = some x := ⟨_, List.getLast?_eq_some_getLast h⟩

/-- A way along both parts is split where the second part begins. -/
theorem ch_cat {a b : Pl} {n m : Nat} (ha : At a n) (hb : At b m) (hm : m = n + a.names.length) : ∀ p : List Nat, Ch (pCat a b).fol p →
    ∃ u v, p = u ++ v ∧ (∀ x ∈ u, x < m) ∧ (∀ x ∈ v, m ≤ x) ∧ Ch a.fol u ∧ Ch b.fol v ∧ (∀ x y, u.getLast? = some x → v.head? = some y → x ∈ a.last ∧ y ∈ b.first)
  | [], _ => ⟨[], [], rfl, by simp, by simp, trivial, trivial, by intro x y h; cases h⟩
  | [x], _ => by
    by_cases hx : x < m
    · exact ⟨[x], [], rfl, by simpa using hx, by simp, trivial, trivial, by intro x y _ h; cases h⟩
    · exact ⟨[], [x], rfl, by simp, by simpa using Nat.le_of_not_lt hx, trivial, trivial, by intro x y h; cases h⟩
  | x :: y :: l, h => by
    obtain ⟨hxy, hc⟩ := h
    obtain ⟨u, v, e, hu, hv, cu, cv, hl⟩ := ch_cat ha hb hm (y :: l) hc
    simp only [pCat, List.mem_append, mem_cross] at hxy
    rcases hxy with (hxy | hxy) | hxy
    · have hr := ha.fol x y hxy
      cases u with
      | nil =>
        rw [List.nil_append] at e
        have := hv y (by rw [← e]; simp)
        omega
      | cons z u =>
        rw [List.cons_append] at e
        injection e with e1 e2
        subst e1
        refine ⟨x :: y :: u, v, by rw [e2]; rfl, ?_, hv, ⟨hxy, cu⟩, cv, fun p q hp hq => hl p q (by rw [last_cons x (by simp)] at hp; exact hp) hq⟩
        intro z hz
        rcases List.mem_cons.1 hz with rfl | hz
        · omega
        · exact hu z hz
    · have hr := hb.fol x y hxy
      cases u with
      | nil =>
        rw [List.nil_append] at e
        subst e
        refine ⟨[], x :: y :: l, rfl, by simp, ?_, trivial, ⟨hxy, cv⟩, by intro p q hp; cases hp⟩
        intro z hz
        rcases List.mem_cons.1 hz with rfl | hz
        · exact hr.1.1
        · exact hv z hz
      | cons z u =>
        rw [List.cons_append] at e
        injection e with e1 e2
        subst e1
        have := hu y (by simp)
        omega
    · have h1 := ha.last x hxy.1
      have h2 := hb.first y hxy.2
      cases u with
      | nil =>
        rw [List.nil_append] at e
        subst e
        refine ⟨[x], y :: l, rfl, ?_, hv, trivial, cv, ?_⟩
        · intro z hz; have : z = x := by simpa using hz
          omega
        · intro p q hp hq
          simp at hp hq
          subst hp; subst hq; exact hxy
      | cons z u =>
        rw [List.cons_append] at e
        injection e with e1 e2
        subst e1
        have := hu y (by simp)
        omega
theorem way_cat {a b : Pl} {n : Nat} (ha : At a n) (hb : At b (n + a.names.length)) (p : List Nat) : Way (pCat a b) p ↔ ∃ u v, p = u ++ v ∧ Way a u ∧ Way b v := by
  constructor
  · rintro (⟨rfl, hn⟩ | ⟨⟨x, hx, hxf⟩, ⟨y, hy, hyl⟩, hc⟩)
    · simp only [pCat, Bool.and_eq_true] at hn
      exact ⟨[], [], rfl, .inl ⟨rfl, hn.1⟩, .inl ⟨rfl, hn.2⟩⟩
    · obtain ⟨u, v, rfl, hu, hv, cu, cv, hl⟩ := ch_cat ha hb rfl p hc
      simp only [pCat, List.mem_append] at hxf hyl
      refine ⟨u, v, rfl, ?_, ?_⟩
      · by_cases hu0 : u = []
        · subst hu0
          rw [List.nil_append] at hx
          have h1 := hv x (List.mem_of_mem_head? hx)
          rcases hxf with hxf | hxf
          · have := ha.first x hxf; omega
          · split at hxf
            · rename_i hn; exact .inl ⟨rfl, hn⟩
            · cases hxf
        · rw [head_app v hu0] at hx
          have h1 := hu x (List.mem_of_mem_head? hx)
          have hxa : x ∈ a.first := by
            rcases hxf with hxf | hxf
            · exact hxf
            · split at hxf
              · have := hb.first x hxf; omega
              · cases hxf
          obtain ⟨z, hz⟩ := last_of hu0
          refine .inr ⟨⟨x, hx, hxa⟩, ⟨z, hz, ?_⟩, cu⟩
          by_cases hv0 : v = []
          · subst hv0
            rw [List.append_nil, hz] at hy
            have : z = y := Option.some.inj hy
            subst this
            have h2 := hu z (List.mem_of_getLast? hz)
            rcases hyl with hyl | hyl
            · have := hb.last z hyl; omega
            · split at hyl
              · exact hyl
              · cases hyl
          · obtain ⟨q, hq⟩ := head_of hv0
            exact (hl z q hz hq).1
      · by_cases hv0 : v = []
        · subst hv0
          rw [List.append_nil] at hy hx
          have hu0 := ne_of_head hx
          have h2 := hu y (List.mem_of_getLast? hy)
          rcases hyl with hyl | hyl
          · have := hb.last y hyl; omega
          · split at hyl
            · rename_i hn; exact .inl ⟨rfl, hn⟩
            · cases hyl
        · rw [last_app u hv0] at hy
          have h2 := hv y (List.mem_of_getLast? hy)
          have hyb : y ∈ b.last := by
            rcases hyl with hyl | hyl
            · exact hyl
            · split at hyl
              · have := ha.last y hyl; omega
              · cases hyl
          obtain ⟨q, hq⟩ := head_of hv0
          refine .inr ⟨⟨q, hq, ?_⟩, ⟨y, hy, hyb⟩, cv⟩
          by_cases hu0 : u = []
          · subst hu0
            rw [List.nil_append, hq] at hx
            have : q = x := Option.some.inj hx
            subst this
            have h1 := hv q (List.mem_of_mem_head? hq)
            rcases hxf with hxf | hxf
            · have := ha.first q hxf; omega
            · split at hxf
              · exact hxf
              · cases hxf
          · obtain ⟨z, hz⟩ := last_of hu0
            exact (hl z q hz hq).2
  · rintro ⟨u, v, rfl, hu, hv⟩
    have m1 : ∀ z, z ∈ a.fol → z ∈ (pCat a b).fol := fun z hz => by simp only [pCat, List.mem_append]; exact .inl (.inl hz)
    have m2 : ∀ z, z ∈ b.fol → z ∈ (pCat a b).fol := fun z hz => by simp only [pCat, List.mem_append]; exact .inl (.inr hz)
    rcases hu with ⟨rfl, hna⟩ | ⟨⟨x, hx, hxf⟩, ⟨y, hy, hyl⟩, hc⟩
    · rcases hv with ⟨rfl, hnb⟩ | ⟨⟨x, hx, hxf⟩, ⟨y, hy, hyl⟩, hc⟩
      · exact .inl ⟨rfl, by simp [pCat, hna, hnb]⟩
      · exact .inr ⟨⟨x, hx, by simp only [pCat, List.mem_append, hna, if_true]; exact .inr hxf⟩, ⟨y, hy, by simp only [pCat, List.mem_append]; exact .inl hyl⟩, hc.mono m2⟩
    · rcases hv with ⟨rfl, hnb⟩ | ⟨⟨x', hx', hxf'⟩, ⟨y', hy', hyl'⟩, hc'⟩
      · rw [List.append_nil]
        exact .inr ⟨⟨x, hx, by simp only [pCat, List.mem_append]; exact .inl hxf⟩, ⟨y, hy, by simp only [pCat, List.mem_append, hnb, if_true]; exact .inr hyl⟩, hc.mono m1⟩
      · refine .inr ⟨⟨x, by rw [head_app v (ne_of_head hx)]; exact hx, by simp only [pCat, List.mem_append]; exact .inl hxf⟩, ⟨y', by rw [last_app u (ne_of_head hx')]; exact hy', by simp only [pCat, List.mem_append]; exact .inl hyl'⟩, ?_⟩
        refine Ch.app (hc.mono m1) (hc'.mono m2) fun p q hp hq => ?_
        rw [hy] at hp; rw [hx'] at hq
        rw [← Option.some.inj hp, ← Option.some.inj hq]
        simp only [pCat, List.mem_append, mem_cross]
        exact .inr ⟨hyl, hxf'⟩
end Go.Proofs.YtldmimekmjmkgaaDoor
