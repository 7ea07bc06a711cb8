/-
  The rows that an expression means are those along its places (no program is named here).
-/
import Derived.Test.YtldmimekmjmkgaaDoorEb
namespace Go.Proofs.YtldmimekmjmkgaaDoor
open Go.RowKit

/-! ### alternatives -/
theorem ch_alt {a b : Pl} {n m : Nat} (ha : At a n) (hb : At b m) (hm : m = n + a.names.length) : ∀ p : List Nat, p ≠ [] → Ch (pAlt a b).fol p → ((∀ x ∈ p, x < m) ∧ Ch a.fol p) ∨ ((∀ x ∈ p, m ≤ x) ∧ Ch b.fol p)
  | [], h, _ => absurd rfl h
  | [x], _, _ => by
    by_cases hx : x < m
    · exact .inl ⟨by simpa using hx, trivial⟩
    · exact .inr ⟨by simpa using Nat.le_of_not_lt hx, trivial⟩
  | x :: y :: l, _, h => by
    obtain ⟨hxy, hc⟩ := h
    have ih := ch_alt ha hb hm (y :: l) (by simp) hc
    simp only [pAlt, List.mem_append] at hxy
    rcases hxy with hxy | hxy
    · have hr := ha.fol x y hxy
      rcases ih with ⟨h1, h2⟩ | ⟨h1, _⟩
      · refine .inl ⟨fun z hz => ?_, hxy, h2⟩
        rcases List.mem_cons.1 hz with rfl | hz
        · omega
        · exact h1 z hz
      · have := h1 y (by simp); omega
    · have hr := hb.fol x y hxy
      rcases ih with ⟨h1, _⟩ | ⟨h1, h2⟩
      · have := h1 y (by simp); omega
      · refine .inr ⟨fun z hz => ?_, hxy, h2⟩
        rcases List.mem_cons.1 hz with rfl | hz
        · exact hr.1.1
        · exact h1 z hz
theorem way_alt {a b : Pl} {n : Nat} (ha : At a n) (hb : At b (n + a.names.length)) (p : List Nat) : Way (pAlt a b) p ↔ Way a p ∨ Way b p := by
  constructor
  · rintro (⟨rfl, hn⟩ | ⟨⟨x, hx, hxf⟩, ⟨y, hy, hyl⟩, hc⟩)
    · simp only [pAlt, Bool.or_eq_true] at hn
      rcases hn with hn | hn
      · exact .inl (.inl ⟨rfl, hn⟩)
      · exact .inr (.inl ⟨rfl, hn⟩)
    · simp only [pAlt, List.mem_append] at hxf hyl
      rcases ch_alt ha hb rfl p (ne_of_head hx) hc with ⟨h1, h2⟩ | ⟨h1, h2⟩
      · have hx1 := h1 x (List.mem_of_mem_head? hx)
        have hy1 := h1 y (List.mem_of_getLast? hy)
        refine .inl (.inr ⟨⟨x, hx, ?_⟩, ⟨y, hy, ?_⟩, h2⟩)
        · rcases hxf with h | h
          · exact h
          · have := hb.first x h; omega
        · rcases hyl with h | h
          · exact h
          · have := hb.last y h; omega
      · have hx1 := h1 x (List.mem_of_mem_head? hx)
        have hy1 := h1 y (List.mem_of_getLast? hy)
        refine .inr (.inr ⟨⟨x, hx, ?_⟩, ⟨y, hy, ?_⟩, h2⟩)
        · rcases hxf with h | h
          · have := ha.first x h; omega
          · exact h
        · rcases hyl with h | h
          · have := ha.last y h; omega
          · exact h
  · rintro (h | h)
    · rcases h with ⟨rfl, hn⟩ | ⟨⟨x, hx, hxf⟩, ⟨y, hy, hyl⟩, hc⟩
      · exact .inl ⟨rfl, by simp [pAlt, hn]⟩
      · exact .inr ⟨⟨x, hx, by simp only [pAlt, List.mem_append]; exact .inl hxf⟩, ⟨y, hy, by simp only [pAlt, List.mem_append]; exact .inl hyl⟩, hc.mono fun z hz => by simp only [pAlt, List.mem_append]; exact .inl hz⟩
    · rcases h with ⟨rfl, hn⟩ | ⟨⟨x, hx, hxf⟩, ⟨y, hy, hyl⟩, hc⟩
      · exact .inl ⟨rfl, by simp [pAlt, hn]⟩
      · exact .inr ⟨⟨x, hx, by simp only [pAlt, List.mem_append]; exact .inr hxf⟩, ⟨y, hy, by simp only [pAlt, List.mem_append]; exact .inr hyl⟩, hc.mono fun z hz => by simp only [pAlt, List.mem_append]; exact .inr hz⟩

/-! ### repetitions -/
inductive PStar (A : List Nat → Prop) : List Nat → Prop
  | nil : PStar A []
  | app {u v : List Nat} (hu : A u) (hv : PStar A v) : PStar A (u ++ v)
theorem ch_loop {a : Pl} {b : Bool} : ∀ (p : List Nat) (y : Nat), Ch (pLoop a b).fol p → p.getLast? = some y → y ∈ a.last →
    ∃ u v, p = u ++ v ∧ u ≠ [] ∧ Ch a.fol u ∧ (∃ z, u.getLast? = some z ∧ z ∈ a.last) ∧ PStar (Way a) v
  | [], y, _, h, _ => by cases h
  | [x], y, _, h, hy => ⟨[x], [], rfl, by simp, trivial, ⟨y, h, hy⟩, .nil⟩
  | x :: z :: l, y, hc, h, hy => by
    obtain ⟨hxz, hc⟩ := hc
    rw [last_cons x (by simp)] at h
    obtain ⟨u, v, e, hu0, cu, hl, hs⟩ := ch_loop (z :: l) y hc h hy
    obtain ⟨q, u, rfl⟩ : ∃ q u', u = q :: u' := by cases u with | nil => exact absurd rfl hu0 | cons q u => exact ⟨q, u, rfl⟩
    rw [List.cons_append] at e
    injection e with e1 e2
    subst e1
    simp only [pLoop, List.mem_append, mem_cross] at hxz
    rcases hxz with hxz | hxz
    · exact ⟨x :: z :: u, v, by rw [e2]; rfl, by simp, ⟨hxz, cu⟩, by rw [last_cons x (by simp)]; exact hl, hs⟩
    · exact ⟨[x], (z :: u) ++ v, by rw [e2]; rfl, by simp, trivial, ⟨x, rfl, hxz.1⟩, .app (.inr ⟨⟨z, rfl, hxz.2⟩, hl, cu⟩) hs⟩
theorem loop_back {a : Pl} (b : Bool) {v : List Nat} (h : PStar (Way a) v) : v = [] ∨ ((∃ x, v.head? = some x ∧ x ∈ a.first) ∧ (∃ y, v.getLast? = some y ∧ y ∈ a.last) ∧ Ch (pLoop a b).fol v) := by
  induction h with
  | nil => exact .inl rfl
  | @app u v hu _ ih =>
    rcases hu with ⟨rfl, _⟩ | ⟨⟨x, hx, hxf⟩, ⟨y, hy, hyl⟩, hc⟩
    · simpa using ih
    · have hm : Ch (pLoop a b).fol u := hc.mono fun z hz => by simp only [pLoop, List.mem_append]; exact .inl hz
      rcases ih with rfl | ⟨⟨x', hx', hxf'⟩, ⟨y', hy', hyl'⟩, hc'⟩
      · rw [List.append_nil]; exact .inr ⟨⟨x, hx, hxf⟩, ⟨y, hy, hyl⟩, hm⟩
      · refine .inr ⟨⟨x, by rw [head_app v (ne_of_head hx)]; exact hx, hxf⟩, ⟨y', by rw [last_app u (ne_of_head hx')]; exact hy', hyl'⟩, Ch.app hm hc' fun p q hp hq => ?_⟩
        rw [hy] at hp; rw [hx'] at hq
        rw [← Option.some.inj hp, ← Option.some.inj hq]
        simp only [pLoop, List.mem_append, mem_cross]
        exact .inr ⟨hyl, hxf'⟩
theorem way_star {a : Pl} (p : List Nat) : Way (pLoop a true) p ↔ PStar (Way a) p := by
  constructor
  · rintro (⟨rfl, _⟩ | ⟨⟨x, hx, hxf⟩, ⟨y, hy, hyl⟩, hc⟩)
    · exact .nil
    · obtain ⟨u, v, rfl, hu0, cu, hl, hs⟩ := ch_loop p y hc hy hyl
      rw [head_app v hu0] at hx
      exact .app (.inr ⟨⟨x, hx, hxf⟩, hl, cu⟩) hs
  · intro h
    rcases loop_back true h with rfl | ⟨h1, h2, h3⟩
    · exact .inl ⟨rfl, by simp [pLoop]⟩
    · exact .inr ⟨h1, h2, h3⟩
theorem way_plus {a : Pl} (p : List Nat) : Way (pLoop a false) p ↔ ∃ u v, p = u ++ v ∧ Way a u ∧ PStar (Way a) v := by
  constructor
  · rintro (⟨rfl, hn⟩ | ⟨⟨x, hx, hxf⟩, ⟨y, hy, hyl⟩, hc⟩)
    · exact ⟨[], [], rfl, .inl ⟨rfl, by simpa [pLoop] using hn⟩, .nil⟩
    · obtain ⟨u, v, rfl, hu0, cu, hl, hs⟩ := ch_loop p y hc hy hyl
      rw [head_app v hu0] at hx
      exact ⟨u, v, rfl, .inr ⟨⟨x, hx, hxf⟩, hl, cu⟩, hs⟩
  · rintro ⟨u, v, rfl, hu, hv⟩
    by_cases h0 : u ++ v = []
    · obtain ⟨rfl, rfl⟩ := List.append_eq_nil_iff.1 h0
      rcases hu with ⟨_, hn⟩ | ⟨⟨x, hx, _⟩, _⟩
      · exact .inl ⟨rfl, by simp [pLoop, hn]⟩
      · cases hx
    · rcases loop_back false (.app hu hv) with h | ⟨h1, h2, h3⟩
      · exact absurd h h0
      · exact .inr ⟨h1, h2, h3⟩

/-! ### the names along a way -/
def nmAt (l : List ByteArray) (n : Nat) (x : Nat) : ByteArray := l.getD (x - n) ByteArray.empty
theorem ch_range {a : Pl} {n : Nat} (ha : At a n) : ∀ (p : List Nat) (y : Nat), Ch a.fol p → p.getLast? = some y → (n ≤ y ∧ y < n + a.names.length) → ∀ x ∈ p, n ≤ x ∧ x < n + a.names.length
  | [], _, _, _, _, x, hx => by cases hx
  | [z], y, _, h, hy, x, hx => by
    have : x = z := by simpa using hx
    simp at h
    subst this; subst h; exact hy
  | z :: q :: l, y, hc, h, hy, x, hx => by
    rcases List.mem_cons.1 hx with rfl | hx
    · exact (ha.fol _ _ hc.1).1
    · rw [last_cons z (by simp)] at h
      exact ch_range ha (q :: l) y hc.2 h hy x hx
theorem way_range {a : Pl} {n : Nat} (ha : At a n) {p : List Nat} (h : Way a p) : ∀ x ∈ p, n ≤ x ∧ x < n + a.names.length := by
  rcases h with ⟨rfl, _⟩ | ⟨_, ⟨y, hy, hyl⟩, hc⟩
  · intro x hx; cases hx
  · exact ch_range ha p y hc hy (ha.last y hyl)
theorem nm_left {a b : List ByteArray} {n : Nat} {p : List Nat} (h : ∀ x ∈ p, n ≤ x ∧ x < n + a.length) : p.map (nmAt (a ++ b) n) = p.map (nmAt a n) := by
  apply List.map_congr_left
  intro x hx
  have := h x hx
  unfold nmAt
  rw [List.getD_eq_getElem?_getD, List.getD_eq_getElem?_getD, List.getElem?_append_left (by omega)]
theorem nm_right {a b : List ByteArray} {n : Nat} {p : List Nat} (h : ∀ x ∈ p, n + a.length ≤ x) : p.map (nmAt (a ++ b) n) = p.map (nmAt b (n + a.length)) := by
  apply List.map_congr_left
  intro x hx
  have := h x hx
  unfold nmAt
  rw [List.getD_eq_getElem?_getD, List.getD_eq_getElem?_getD, List.getElem?_append_right (by omega), show x - n - a.length = x - (n + a.length) by omega]
/-- The places mean just these rows. -/
def Means (L : Rws) (a : Pl) (n : Nat) : Prop := At a n ∧ ∀ w, L w ↔ ∃ p, Way a p ∧ p.map (nmAt a.names n) = w
theorem Means.congr {L L' : Rws} {a : Pl} {n : Nat} (h : Means L a n) (e : ∀ w, L' w ↔ L w) : Means L' a n := ⟨h.1, fun w => (e w).trans (h.2 w)⟩
theorem means_one (s : ByteArray) (n : Nat) : Means (fun w => w = [s]) (pOne s n) n := by
  refine ⟨at_one s n, fun w => ⟨?_, ?_⟩⟩
  · rintro rfl
    exact ⟨[n], .inr ⟨⟨n, rfl, by simp [pOne]⟩, ⟨n, rfl, by simp [pOne]⟩, trivial⟩, by simp [nmAt, pOne]⟩
  · rintro ⟨p, hw, rfl⟩
    rcases hw with ⟨_, h⟩ | ⟨⟨x, hx, hxf⟩, _, hc⟩
    · cases h
    · match p, hx, hc with
      | [y], hx, _ =>
        simp [pOne] at hxf hx
        subst hx; subst hxf
        simp [nmAt, pOne]
      | y :: z :: l, _, hc => simp [pOne, Ch] at hc
theorem means_eps (n : Nat) : Means (fun w => w = []) pEps n := by
  refine ⟨at_eps n, fun w => ⟨?_, ?_⟩⟩
  · rintro rfl; exact ⟨[], .inl ⟨rfl, rfl⟩, rfl⟩
  · rintro ⟨p, hw, rfl⟩
    rcases hw with ⟨rfl, _⟩ | ⟨⟨x, _, hxf⟩, _⟩
    · rfl
    · simp [pEps] at hxf
theorem means_void (n : Nat) : Means (fun _ => False) pVoid n := by
  refine ⟨at_void n, fun w => ⟨False.elim, ?_⟩⟩
  rintro ⟨p, hw, rfl⟩
  rcases hw with ⟨_, h⟩ | ⟨⟨x, _, hxf⟩, _⟩
  · cases h
  · simp [pVoid] at hxf
theorem means_cat {A B : Rws} {a b : Pl} {n : Nat} (ha : Means A a n) (hb : Means B b (n + a.names.length)) : Means (lCat A B) (pCat a b) n := by
  refine ⟨at_cat ha.1 hb.1, fun w => ⟨?_, ?_⟩⟩
  · rintro ⟨u, v, rfl, hu, hv⟩
    obtain ⟨p, hp, rfl⟩ := (ha.2 u).1 hu
    obtain ⟨q, hq, rfl⟩ := (hb.2 v).1 hv
    refine ⟨p ++ q, (way_cat ha.1 hb.1 _).2 ⟨p, q, rfl, hp, hq⟩, ?_⟩
    show (p ++ q).map (nmAt (a.names ++ b.names) n) = _
    rw [List.map_append, nm_left (way_range ha.1 hp), nm_right fun x hx => (way_range hb.1 hq x hx).1]
  · rintro ⟨p, hw, rfl⟩
    obtain ⟨u, v, rfl, hu, hv⟩ := (way_cat ha.1 hb.1 p).1 hw
    refine ⟨u.map (nmAt a.names n), v.map (nmAt b.names (n + a.names.length)), ?_, (ha.2 _).2 ⟨u, hu, rfl⟩, (hb.2 _).2 ⟨v, hv, rfl⟩⟩
    show (u ++ v).map (nmAt (a.names ++ b.names) n) = _
    rw [List.map_append, nm_left (way_range ha.1 hu), nm_right fun x hx => (way_range hb.1 hv x hx).1]
theorem means_alt {A B : Rws} {a b : Pl} {n : Nat} (ha : Means A a n) (hb : Means B b (n + a.names.length)) : Means (fun w => A w ∨ B w) (pAlt a b) n := by
  refine ⟨at_alt ha.1 hb.1, fun w => ⟨?_, ?_⟩⟩
  · rintro (h | h)
    · obtain ⟨p, hp, rfl⟩ := (ha.2 w).1 h
      exact ⟨p, (way_alt ha.1 hb.1 p).2 (.inl hp), nm_left (way_range ha.1 hp)⟩
    · obtain ⟨p, hp, rfl⟩ := (hb.2 w).1 h
      exact ⟨p, (way_alt ha.1 hb.1 p).2 (.inr hp), nm_right fun x hx => (way_range hb.1 hp x hx).1⟩
  · rintro ⟨p, hw, rfl⟩
    rcases (way_alt ha.1 hb.1 p).1 hw with hp | hp
    · exact .inl ((ha.2 _).2 ⟨p, hp, (nm_left (b := b.names) (way_range ha.1 hp)).symm⟩)
    · exact .inr ((hb.2 _).2 ⟨p, hp, (nm_right (a := a.names) fun x hx => (way_range hb.1 hp x hx).1).symm⟩)
theorem star_map {A : Rws} {a : Pl} {n : Nat} (ha : Means A a n) (w : List ByteArray) : lStar A w ↔ ∃ p, PStar (Way a) p ∧ p.map (nmAt a.names n) = w := by
  constructor
  · intro h
    induction h with
    | nil => exact ⟨[], .nil, rfl⟩
    | app hu _ ih =>
      obtain ⟨p, hp, rfl⟩ := (ha.2 _).1 hu
      obtain ⟨q, hq, rfl⟩ := ih
      exact ⟨p ++ q, .app hp hq, List.map_append ..⟩
  · rintro ⟨p, hp, rfl⟩
    induction hp with
    | nil => exact .nil
    | app hu _ ih => rw [List.map_append]; exact .app ((ha.2 _).2 ⟨_, hu, rfl⟩) ih
theorem means_star {A : Rws} {a : Pl} {n : Nat} (ha : Means A a n) : Means (lStar A) (pLoop a true) n :=
  ⟨at_loop true ha.1, fun w => (star_map ha w).trans ⟨fun ⟨p, hp, e⟩ => ⟨p, (way_star p).2 hp, e⟩, fun ⟨p, hp, e⟩ => ⟨p, (way_star p).1 hp, e⟩⟩⟩
theorem means_plus {A : Rws} {a : Pl} {n : Nat} (ha : Means A a n) : Means (lCat A (lStar A)) (pLoop a false) n := by
  refine ⟨at_loop false ha.1, fun w => ⟨?_, ?_⟩⟩
  · rintro ⟨u, v, rfl, hu, hv⟩
    obtain ⟨p, hp, rfl⟩ := (ha.2 u).1 hu
    obtain ⟨q, hq, rfl⟩ := (star_map ha v).1 hv
    exact ⟨p ++ q, (way_plus _).2 ⟨p, q, rfl, hp, hq⟩, List.map_append ..⟩
  · rintro ⟨p, hw, rfl⟩
    obtain ⟨u, v, rfl, hu, hv⟩ := (way_plus p).1 hw
    exact ⟨_, _, List.map_append .., (ha.2 _).2 ⟨u, hu, rfl⟩, (star_map ha _).2 ⟨v, hv, rfl⟩⟩
theorem means_opt {A : Rws} {a : Pl} {n : Nat} (ha : Means A a n) : Means (fun w => w = [] ∨ A w) (pOpt a) n := by
  refine ⟨at_opt ha.1, fun w => ⟨?_, ?_⟩⟩
  · rintro (rfl | h)
    · exact ⟨[], .inl ⟨rfl, rfl⟩, rfl⟩
    · obtain ⟨p, hp, rfl⟩ := (ha.2 w).1 h
      refine ⟨p, ?_, rfl⟩
      rcases hp with ⟨rfl, _⟩ | hp
      · exact .inl ⟨rfl, rfl⟩
      · exact .inr hp
  · rintro ⟨p, hw, rfl⟩
    rcases hw with ⟨rfl, _⟩ | hp
    · exact .inl rfl
    · exact .inr ((ha.2 _).2 ⟨p, .inr hp, rfl⟩)
theorem cat_eps (A : Rws) (w : List ByteArray) : lCat A (fun w => w = []) w ↔ A w :=
  ⟨fun ⟨u, v, e, hu, hv⟩ => by subst hv; rw [List.append_nil] at e; subst e; exact hu, fun h => ⟨w, [], by simp, h, rfl⟩⟩
theorem eps_cat (A : Rws) (w : List ByteArray) : lCat (fun w => w = []) A w ↔ A w :=
  ⟨fun ⟨u, v, e, hu, hv⟩ => by subst hu; rw [List.nil_append] at e; subst e; exact hv, fun h => ⟨[], w, rfl, rfl, h⟩⟩
theorem cat_assoc (A B C : Rws) (w : List ByteArray) : lCat A (lCat B C) w ↔ lCat (lCat A B) C w :=
  ⟨fun ⟨u, _, e, hu, v, x, e', hv, hx⟩ => ⟨u ++ v, x, by rw [e, e', List.append_assoc], ⟨u, v, rfl, hu, hv⟩, hx⟩,
   fun ⟨_, x, e, ⟨u, v, e', hu, hv⟩, hx⟩ => ⟨u, v ++ x, by rw [e, e', List.append_assoc], hu, v, x, rfl, hv, hx⟩⟩
mutual
/-- An expression's places mean its rows. -/
theorem place_means : ∀ (e : Ex) (n : Nat), Means (lang e) (place e n) n
  | .mk op s l, n => by
    unfold lang place
    split
    · exact means_one s n
    · split
      · exact (seq_means l n n pEps _ (means_eps n) (by simp [pEps])).congr fun w => (eps_cat _ w).symm
      · split
        · exact (alt_means l n n pVoid _ (means_void n) (by simp [pVoid])).congr fun w => by simp
        · split
          · exact means_star (one_means l n)
          · split
            · exact means_plus (one_means l n)
            · exact means_opt (one_means l n)
theorem seq_means : ∀ (l : List Ex) (n0 n : Nat) (acc : Pl) (A : Rws), Means A acc n0 → n = n0 + acc.names.length → Means (lCat A (langSeq l)) (placeSeq acc l n) n0
  | [], n0, n, acc, A, h, _ => by
    unfold langSeq placeSeq
    exact h.congr fun w => cat_eps A w
  | x :: l, n0, n, acc, A, h, hn => by
    unfold langSeq placeSeq
    subst hn
    have h1 := means_cat h (place_means x (n0 + acc.names.length))
    exact (seq_means l n0 _ _ _ h1 (by simp [pCat]; omega)).congr fun w => cat_assoc A _ _ w
theorem alt_means : ∀ (l : List Ex) (n0 n : Nat) (acc : Pl) (A : Rws), Means A acc n0 → n = n0 + acc.names.length → Means (fun w => A w ∨ langAlt l w) (placeAlt acc l n) n0
  | [], n0, n, acc, A, h, _ => by
    unfold langAlt placeAlt
    exact h.congr fun w => by simp
  | x :: l, n0, n, acc, A, h, hn => by
    unfold langAlt placeAlt
    subst hn
    have h1 := means_alt h (place_means x (n0 + acc.names.length))
    exact (alt_means l n0 _ _ _ h1 (by simp [pAlt]; omega)).congr fun w => by rw [or_assoc]
theorem one_means : ∀ (l : List Ex) (n : Nat), Means (langOne l) (placeOne l n) n
  | [], n => by unfold langOne placeOne; exact means_void n
  | x :: l, n => by unfold langOne placeOne; exact place_means x n
end
end Go.Proofs.YtldmimekmjmkgaaDoor
