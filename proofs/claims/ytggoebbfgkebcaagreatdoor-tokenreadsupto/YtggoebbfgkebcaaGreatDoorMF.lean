/-
  Parse told by what is written: a text is one node just if it is what is written of a formed one; what is too deep is told so. Plain facts.
  Tokens that are written as nodes are the tokens of these; how the document writes them. Plain facts.
  The document's Build as a plain function, and that it answers as the program's. Plain facts.
  The open nodes of the reader in memory: a row of the call's own, each node's kids a row of the call's own; no two share a block.
  The open row of the reader turned: a kid more, a node more, a node closed.
  The reader's loop: its operations as steps, and what a kid that is appended makes of the open row.
-/
import Derived.Test.YtggoebbfgkebcaaGreatDoorME
namespace Go.Proofs.YtggoebbfgkebcaaGreatDoor
open Go.RowKit Go.Sort Go.Maps

/-- u is what the reader keeps of t, at depth d. -/
structure Kept (d : Nat) (u t : Tree) : Prop where
  kind : u.kind = t.kind
  marks : u.marks = t.marks
  formed : formedB u = true → formedB t = true
  depth : formedB u = true → depthB u ≤ depthB t
  same : formedB u = true → d + depthB u ≤ 41 → u = t
theorem Kept.refl (d : Nat) (t : Tree) : Kept d t t := ⟨rfl, rfl, fun h => h, fun _ => Nat.le_refl _, fun _ _ => rfl⟩
def KeptAll (d : Nat) : List Tree → List Tree → Prop
  | [], [] => True
  | u :: us, t :: ts => Kept d u t ∧ KeptAll d us ts
  | _, _ => False
theorem keptAll_snoc {d : Nat} {u t : Tree} (h : Kept d u t) : ∀ {us ts : List Tree}, KeptAll d us ts → KeptAll d (us ++ [u]) (ts ++ [t])
  | [], [], _ => ⟨h, trivial⟩
  | _ :: _, _ :: _, hk => ⟨hk.1, keptAll_snoc h hk.2⟩
  | [], _ :: _, hk => hk.elim
  | _ :: _, [], hk => hk.elim
theorem keptAll_len {d : Nat} : ∀ {us ts : List Tree}, KeptAll d us ts → us.length = ts.length
  | [], [], _ => rfl
  | _ :: _, _ :: _, hk => by simp only [List.length_cons]; rw [keptAll_len hk.2]
  | [], _ :: _, hk => hk.elim
  | _ :: _, [], hk => hk.elim
theorem alikeB_kept {d e : Nat} {a b u t : Tree} (h : Kept d u t) (k : Kept e a b) : alikeB a u = alikeB b t := by
  unfold alikeB; rw [h.kind, h.marks, k.kind, k.marks]
def KeptO (d : Nat) : Option Tree → Option Tree → Prop
  | none, none => True
  | some u, some t => Kept d u t
  | _, _ => False
theorem row_kept {d : Nat} : ∀ {us ts : List Tree} {p q : Option Tree}, KeptO d p q → KeptAll d us ts → rowB p us = true → rowB q ts = true
  | [], [], _, q, _, _, _ => by simp [rowB]
  | u :: us, t :: ts, p, q, ho, hk, h => by
    simp only [rowB, Bool.and_eq_true, Bool.not_eq_true'] at h ⊢
    refine ⟨?_, hk.1.formed h.2.1, row_kept (d := d) (p := some u) (q := some t) hk.1 hk.2 h.2.2⟩
    have h1 := h.1
    match p, q, ho with
    | none, none, _ => rfl
    | some a, some b, ho => unfold alikeO at h1 ⊢; rw [← h1]; exact (alikeB_kept hk.1 ho).symm
  | [], _ :: _, _, _, _, hk, _ => hk.elim
  | _ :: _, [], _, _, _, hk, _ => hk.elim
theorem deep_kept {d : Nat} : ∀ {us ts : List Tree}, KeptAll d us ts → (∀ u ∈ us, formedB u = true) → deepB us ≤ deepB ts
  | [], [], _, _ => Nat.le_refl _
  | u :: us, t :: ts, hk, h => by
    have h1 := hk.1.depth (h u (by simp))
    have h2 := deep_kept hk.2 fun x hx => h x (by simp [hx])
    simp only [deepB]; omega
  | [], _ :: _, hk, _ => hk.elim
  | _ :: _, [], hk, _ => hk.elim
theorem same_kept {d : Nat} : ∀ {us ts : List Tree}, KeptAll d us ts → (∀ u ∈ us, formedB u = true) → d + deepB us ≤ 41 → us = ts
  | [], [], _, _, _ => rfl
  | u :: us, t :: ts, hk, h, hd => by
    simp only [deepB] at hd
    rw [hk.1.same (h u (by simp)) (by omega), same_kept hk.2 (fun x hx => h x (by simp [hx])) (by omega)]
  | [], _ :: _, hk, _, _ => hk.elim
  | _ :: _, [], hk, _, _ => hk.elim

/-- An open node, and what the reader keeps of it: all but its kids is alike. -/
structure Alike (u t : Tree) : Prop where
  kind : u.kind = t.kind
  text : u.text = t.text
  marks : u.marks = t.marks
  attrs : u.attrs = t.attrs
theorem formed_kept {d : Nat} {u t : Tree} (ha : Alike u t) (hk : KeptAll d u.kids t.kids) (h : formedB u = true) : formedB t = true := by
  obtain ⟨k, x, m, a, us⟩ := u
  obtain ⟨k', x', m', a', ts⟩ := t
  obtain ⟨rfl, rfl, rfl, rfl⟩ := ha
  simp only [Tree.kind, Tree.text, Tree.marks, Tree.attrs, Tree.kids] at hk h ⊢
  cases hx : isTxt k with
  | true =>
    obtain ⟨_, _, rfl⟩ := text_parts hx h
    match ts, hk with
    | [], _ => exact h
  | false =>
    rw [formedB, hx] at h ⊢
    simp only [Bool.false_eq_true, if_false, Bool.and_eq_true] at h ⊢
    exact ⟨h.1, row_kept (d := d) (p := none) (q := none) trivial hk h.2⟩
theorem check_two {t : Tree} : checkB t = 2 ↔ formedB t = false := by
  unfold checkB
  cases formedB t with
  | false => simp
  | true => simp only [if_true]; split <;> (try split) <;> simp
theorem bare_formed {t : Tree} (hk : isTxt t.kind = false) (h : formedB t = true) : formedB (bare t) = true := by
  obtain ⟨k, x, m, a, l⟩ := t
  simp only [Tree.kind] at hk
  show formedB (.mk k x m a []) = true
  rw [formedB, hk] at h ⊢
  simp only [Bool.false_eq_true, if_false, Bool.and_eq_true] at h ⊢
  exact ⟨h.1, rfl⟩
theorem kept_close {d : Nat} {u t : Tree} (ha : Alike u t) (hk : KeptAll (d + 1) u.kids t.kids) (hx : u.text = ⟨#[]⟩) (hc : (closedL d u).2 = false) : Kept d (closedL d u).1 t := by
  unfold closedL at hc ⊢
  by_cases hd : d ≤ 40
  · rw [if_pos hd]
    refine ⟨ha.kind, ha.marks, formed_kept ha hk, fun h => ?_, fun h hd => ?_⟩
    · obtain ⟨h1, h2⟩ := formed_node h hx
      have := deep_kept hk (row_all _ _ h2)
      have h3 : isTxt t.kind = false := by rw [← ha.kind]; exact h1
      obtain ⟨k, x, m, a, us⟩ := u
      obtain ⟨k', x', m', a', ts⟩ := t
      simp only [Tree.kind, Tree.kids] at h1 h3 this
      rw [depthB, depthB, h1, h3]
      simp only [Bool.false_eq_true, if_false]
      omega
    · obtain ⟨h1, h2⟩ := formed_node h hx
      have hs := same_kept hk (row_all _ _ h2)
      obtain ⟨k, x, m, a, us⟩ := u
      obtain ⟨k', x', m', a', ts⟩ := t
      obtain ⟨rfl, rfl, rfl, rfl⟩ := ha
      simp only [Tree.kind, Tree.text, Tree.marks, Tree.attrs, Tree.kids] at h1 hs hd ⊢
      rw [depthB, h1] at hd
      simp only [Bool.false_eq_true, if_false] at hd
      rw [hs (by omega)]
  · rw [if_neg hd] at hc ⊢
    have hf : formedB u = true := by
      cases h : formedB u with
      | true => rfl
      | false =>
        simp only at hc
        rw [check_two.2 h] at hc
        exact absurd hc (by decide)
    obtain ⟨h1, h2⟩ := formed_node hf hx
    have hft := formed_kept ha hk hf
    have h3 : isTxt t.kind = false := by rw [← ha.kind]; exact h1
    refine ⟨ha.kind, ha.marks, fun _ => hft, fun _ => ?_, fun _ hd' => ?_⟩
    · obtain ⟨k, x, m, a, us⟩ := u
      obtain ⟨k', x', m', a', ts⟩ := t
      simp only [Tree.kind] at h1 h3
      simp only [bare, Tree.kind]
      rw [depthB, depthB, h1, h3]
      simp only [Bool.false_eq_true, if_false, deepB]
      omega
    · exfalso
      obtain ⟨k, x, m, a, us⟩ := u
      simp only [Tree.kind] at h1
      simp only [bare, Tree.kind] at hd'
      rw [depthB, h1] at hd'
      simp only [Bool.false_eq_true, if_false, deepB] at hd'
      omega

/-- The open nodes as they are, and as the reader keeps them. -/
def Sim : List Tree → List Tree → Prop
  | [], [] => True
  | u :: us, t :: ts => Alike u t ∧ KeptAll (us.length + 1) u.kids t.kids ∧ Sim us ts
  | _, _ => False
theorem sim_kid {u t a b : Tree} {us ts : List Tree} (h : Sim (u :: us) (t :: ts)) (hk : Kept (us.length + 1) a b) : Sim (addKid u a :: us) (addKid t b :: ts) :=
  ⟨⟨h.1.kind, h.1.text, h.1.marks, h.1.attrs⟩, keptAll_snoc hk h.2.1, h.2.2⟩

theorem read_fwd : ∀ (n : Nat) (l : List UInt8) (st stU : List Tree) (root : Tree), l.length ≤ n → (∀ t ∈ st, t.text = ⟨#[]⟩) → Sim st stU → readN n l false st = ([root], false) →
    ∃ rootU, Sim [root] [rootU] ∧ ((∀ k ∈ root.kids, formedB k = true) → openW stU ++ l = writeAllB rootU.kids ∧ ∀ t ∈ st, ∀ k ∈ t.kids, formedB k = true)
  | n, [], st, stU, root, _, _, hs, h => by
    have e : st = [root] := by
      cases n with
      | zero => exact (Prod.mk.inj h).1
      | succ n => exact (Prod.mk.inj h).1
    subst e
    match stU, hs with
    | [rootU], hs =>
      refine ⟨rootU, hs, fun hf => ⟨by simp [openW], fun t ht => ?_⟩⟩
      simp only [List.mem_singleton] at ht
      subst ht; exact hf
    | _ :: _ :: _, hs => exact hs.2.2.elim
  | 0, c :: l, st, stU, root, hn, _, _, _ => by simp at hn
  | n + 1, c :: l, [], stU, root, _, _, _, h => by
    have := (Prod.mk.inj h).1
    cases this
  | n + 1, c :: l, top :: st, stU, root, hn, hx, hs, h => by
    rw [readN_step] at h
    have hlen := (round_size c l false top st).2
    have hx' : (roundL c l false top st).2.1 = false := by
      cases hq : (roundL c l false top st).2.1 with
      | false => rfl
      | true =>
        rw [hq] at h
        have := readN_wrong n (roundL c l false top st).1 (roundL c l false top st).2.2
        rw [h] at this; cases this
    rw [hx'] at h
    have hn' : (roundL c l false top st).1.length ≤ n := by simp only [List.length_cons] at hn; omega
    match stU, hs with
    | [], hs => exact hs.elim
    | topU :: stU, hs =>
    by_cases h34 : (c == 34) = true
    · have e : roundL c l false top st = ((textL (c :: l)).2.1, false || (textL (c :: l)).2.2, addKid top (textL (c :: l)).1 :: st) := by unfold roundL; rw [if_pos h34]
      rw [e] at h hx' hn'
      simp only [Bool.false_or] at hx'
      simp only at h hn'
      obtain ⟨rootU, i0, i1⟩ := read_fwd n _ _ (addKid topU (textL (c :: l)).1 :: stU) root hn' (by
        intro t ht
        rcases List.mem_cons.1 ht with rfl | ht
        · exact hx top (List.mem_cons_self ..)
        · exact hx t (List.mem_cons_of_mem _ ht)) (sim_kid hs (Kept.refl _ _)) h
      refine ⟨rootU, i0, fun hf => ?_⟩
      obtain ⟨i1, i2⟩ := i1 hf
      refine ⟨?_, ?_⟩
      · rw [openW_kid, write_txt (show isTxt (textL (c :: l)).1.kind = true from txt_is)] at i1
        rw [← i1]
        have := text_inv hx'
        conv => lhs; rw [this]
        simp
      · intro t ht
        rcases List.mem_cons.1 ht with e1 | ht
        · intro k hk
          rw [e1] at hk
          exact i2 _ (List.mem_cons_self ..) k (by show k ∈ top.kids ++ _; exact List.mem_append_left _ hk)
        · exact i2 t (List.mem_cons_of_mem _ ht)
    · by_cases h93 : (c == 93) = true
      · cases st with
        | nil =>
          have e : roundL c l false top [] = ([], true, [top]) := by unfold roundL; rw [if_neg h34, if_pos h93]
          rw [e] at hx'; cases hx'
        | cons up st =>
          have e : roundL c l false top (up :: st) = (if (closedL (st.length + 1) top).2 then [] else l, false || (closedL (st.length + 1) top).2, addKid up (closedL (st.length + 1) top).1 :: st) := by unfold roundL; rw [if_neg h34, if_pos h93]
          rw [e] at h hx' hn'
          simp only [Bool.false_or] at hx'
          rw [hx'] at h hn'
          simp only [Bool.false_eq_true, if_false] at h hn'
          match stU, hs with
          | [], hs => exact hs.2.2.elim
          | upU :: stU, hs =>
          have htx := hx top (List.mem_cons_self ..)
          have hkc : Kept (st.length + 1) (closedL (st.length + 1) top).1 topU := kept_close hs.1 (by have := hs.2.1; simpa using this) htx hx'
          obtain ⟨rootU, i0, i1⟩ := read_fwd n _ _ (addKid upU topU :: stU) root hn' (by
            intro t ht
            rcases List.mem_cons.1 ht with rfl | ht
            · exact hx up (by simp)
            · exact hx t (by simp [ht])) (sim_kid hs.2.2 hkc) h
          refine ⟨rootU, i0, fun hf => ?_⟩
          obtain ⟨i1, i2⟩ := i1 hf
          have hcf : formedB (closedL (st.length + 1) top).1 = true := i2 _ (List.mem_cons_self ..) _ (by show _ ∈ up.kids ++ _; simp)
          have hft := hkc.formed hcf
          have hkt : isTxt topU.kind = false := (formed_node hft (by rw [← hs.1.text]; exact htx)).1
          have hftop : formedB top = true := by
            cases hb : formedB top with
            | true => rfl
            | false =>
              exfalso
              have hcx := hx'
              unfold closedL at hcf hcx
              split at hcf
              · rw [hb] at hcf; cases hcf
              · rename_i hd
                rw [if_neg hd] at hcx
                simp only at hcx
                rw [check_two.2 hb] at hcx
                exact absurd hcx (by decide)
          refine ⟨?_, ?_⟩
          · rw [openW_kid, wnode_inv hkt] at i1
            rw [← i1]
            have e93 : c = 93 := by simpa using h93
            subst e93
            show (openW (upU :: stU) ++ (topU.kind.data.toList ++ (attrsW topU.attrs ++ 91 :: writeAllB topU.kids))) ++ 93 :: l = _
            simp
          · intro t ht
            rcases List.mem_cons.1 ht with e1 | ht
            · rw [e1]; exact row_all _ none (formed_node hftop htx).2
            · rcases List.mem_cons.1 ht with e1 | ht
              · intro k hk
                rw [e1] at hk
                exact i2 _ (List.mem_cons_self ..) k (by show k ∈ up.kids ++ _; exact List.mem_append_left _ hk)
              · exact i2 t (List.mem_cons_of_mem _ ht)
      · have e : roundL c l false top st = ((headL (c :: l)).2.1, false || (headL (c :: l)).2.2, (headL (c :: l)).1 :: top :: st) := by unfold roundL; rw [if_neg h34, if_neg h93]
        rw [e] at h hx' hn'
        simp only [Bool.false_or] at hx'
        simp only at h hn'
        obtain ⟨rootU, i0, i1⟩ := read_fwd n _ _ ((headL (c :: l)).1 :: topU :: stU) root hn' (by
          intro t ht
          rcases List.mem_cons.1 ht with rfl | ht
          · rfl
          · exact hx t ht) (show Sim ((headL (c :: l)).1 :: top :: st) ((headL (c :: l)).1 :: topU :: stU) from ⟨⟨rfl, rfl, rfl, rfl⟩, (show KeptAll _ [] [] from trivial), hs⟩) h
        refine ⟨rootU, i0, fun hf => ?_⟩
        obtain ⟨i1, i2⟩ := i1 hf
        refine ⟨?_, fun t ht => i2 t (List.mem_cons_of_mem _ ht)⟩
        rw [← i1]
        have := head_inv hx'
        show openW (topU :: stU) ++ (c :: l) = (openW (topU :: stU) ++ ((headL (c :: l)).1.kind.data.toList ++ (attrsW (headL (c :: l)).1.attrs ++ 91 :: writeAllB []))) ++ (headL (c :: l)).2.1
        conv => lhs; rw [this]
        simp [writeAllB]
/-- What was read without fault, and is formed as far as it was kept, is what is written of a row of formed nodes. -/
theorem readL_fwd {s : List UInt8} {l : List Tree} (h : readL s = (l, true)) (hf : ∀ k ∈ l, formedB k = true) : ∃ ts, KeptAll 1 l ts ∧ writeAllB ts = s := by
  unfold readL at h
  obtain ⟨h1, h2⟩ := Prod.mk.inj h
  simp only [Bool.and_eq_true, Bool.not_eq_true', beq_iff_eq] at h2
  rcases hq : readN s.length s false [around []] with ⟨st, x⟩
  rw [hq] at h1 h2
  obtain ⟨h2, h3⟩ := h2
  simp only at h1 h2 h3
  subst h2
  match st, h3 with
  | [root], _ =>
    have e : root.kids = l := by simpa using h1
    subst e
    obtain ⟨rootU, hs, hw⟩ := read_fwd s.length s [around []] [around []] root (Nat.le_refl _) (by intro t ht; simp only [List.mem_singleton] at ht; subst ht; rfl) ⟨⟨rfl, rfl, rfl, rfl⟩, trivial, trivial⟩ hq
    refine ⟨rootU.kids, hs.2.1, ?_⟩
    rw [← (hw hf).1]
    simp [openW, around, Tree.kids, writeAllB]

/-! ### what was written of formed nodes is read, however deep -/
/-- The kind and the marks of nodes, which are formed. -/
def Heads : List Tree → List Tree → Prop
  | [], [] => True
  | u :: us, t :: ts => (formedB u = true ∧ u.kind = t.kind ∧ u.marks = t.marks) ∧ Heads us ts
  | _, _ => False
theorem row_heads : ∀ {us ts : List Tree} {p q : Option Tree}, (∀ a b, p = some a → q = some b → a.kind = b.kind ∧ a.marks = b.marks) → (q = none → p = none) → Heads us ts → rowB q ts = true → rowB p us = true
  | [], [], _, q, _, _, _, _ => by simp [rowB]
  | u :: us, t :: ts, p, q, ho, hn, hk, h => by
    simp only [rowB, Bool.and_eq_true, Bool.not_eq_true'] at h ⊢
    refine ⟨?_, hk.1.1, row_heads (p := some u) (q := some t) (fun a b ha hb => by cases ha; cases hb; exact hk.1.2) (fun e => by cases e) hk.2 h.2.2⟩
    have h1 := h.1
    match p, q, ho, hn with
    | none, _, _, _ => rfl
    | some a, none, _, hn => cases hn rfl
    | some a, some b, ho, _ =>
      obtain ⟨e1, e2⟩ := ho a b rfl rfl
      simp only [alikeO, alikeB] at h1 ⊢
      rw [e1, e2, hk.1.2.1, hk.1.2.2]; exact h1
  | [], _ :: _, _, _, _, _, hk, _ => hk.elim
  | _ :: _, [], _, _, _, _, hk, _ => hk.elim
def BackU (t : Tree) : Prop := ∀ (r : List UInt8) (x : Bool) (top : Tree) (st : List Tree) (n : Nat), formedB t = true → Aft r → (writeB t ++ r).length ≤ n →
  ∃ m u, r.length ≤ m ∧ (formedB u = true ∧ u.kind = t.kind ∧ u.marks = t.marks) ∧ readN n (writeB t ++ r) x (top :: st) = readN m r x (addKid top u :: st)
theorem backU_all : ∀ (l : List Tree), (∀ t ∈ l, BackU t) → ∀ (r : List UInt8) (x : Bool) (top : Tree) (st : List Tree) (n : Nat), (∀ t ∈ l, formedB t = true) → Aft r → (writeAllB l ++ r).length ≤ n →
    ∃ m us, r.length ≤ m ∧ Heads us l ∧ readN n (writeAllB l ++ r) x (top :: st) = readN m r x (addKids top us :: st)
  | [], _, r, x, top, st, n, _, _, hn => ⟨n, [], by simpa [writeAllB] using hn, trivial, by rw [addKids_nil]; rfl⟩
  | t :: l, hb, r, x, top, st, n, hf, hr, hn => by
    have e : writeAllB (t :: l) ++ r = writeB t ++ (writeAllB l ++ r) := by rw [writeAllB, List.append_assoc]
    rw [e] at hn ⊢
    obtain ⟨m1, u, h1, hu, h2⟩ := hb t (by simp) (writeAllB l ++ r) x top st n (hf t (by simp)) (aft_all l r (fun y hy => hf y (by simp [hy])) hr) hn
    obtain ⟨m2, us, h3, hus, h4⟩ := backU_all l (fun y hy => hb y (by simp [hy])) r x (addKid top u) st m1 (fun y hy => hf y (by simp [hy])) hr h1
    exact ⟨m2, u :: us, h3, ⟨hu, hus⟩, by rw [h2, h4, addKids_cons]⟩
theorem backU_one : ∀ t, BackU t := by
  refine Tree.induct_one ?_
  intro k t m a l ih r x top st n hf hr hn
  cases hk : isTxt k with
  | true =>
    obtain ⟨hm, rfl, rfl⟩ := text_parts hk hf
    have hkt : k = TEXT := txt_eq hk (by unfold isTxt; rw [beq_iff_eq, Lib.toList_data]; rfl)
    have e : writeB (.mk k t m [] []) ++ r = quoteL t.data.toList ++ (marksW m ++ r) := by rw [writeB, if_pos hk, List.append_assoc]
    rw [e] at hn ⊢
    have hb := text_back t m r (marks_names hm) hr
    have e2 : quoteL t.data.toList ++ (marksW m ++ r) = 34 :: ((escL t.data.toList ++ [34]) ++ (marksW m ++ r)) := rfl
    rw [e2] at hn hb ⊢
    cases n with
    | zero => simp at hn
    | succ n =>
      refine ⟨n, .mk k t m [] [], ?_, ⟨hf, rfl, rfl⟩, ?_⟩
      · simp only [List.length_cons, List.length_append] at hn ⊢; omega
      · rw [readN_step]
        have : roundL 34 ((escL t.data.toList ++ [34]) ++ (marksW m ++ r)) x top st = (r, x, addKid top (.mk k t m [] []) :: st) := by
          unfold roundL
          rw [if_pos (by decide), hb, hkt, Bool.or_false]
        rw [this]
  | false =>
    obtain ⟨hnm, ht, rfl, ha, hrow⟩ := node_parts hk hf
    obtain rfl : t = ⟨#[]⟩ := bytes_of ht
    have e : writeB (.mk k ⟨#[]⟩ [] a l) ++ r = k.data.toList ++ (attrsW a ++ 91 :: (writeAllB l ++ 93 :: r)) := by rw [writeB, hk]; simp
    obtain ⟨c, q, hc, hcs⟩ : ∃ c q, k.data.toList = c :: q ∧ small c = true := by
      cases h : k.data.toList with
      | nil => exact absurd h (name_ne hnm)
      | cons c q => exact ⟨c, q, rfl, name_small hnm c (by rw [h]; simp)⟩
    have hb := head_back k a (writeAllB l ++ 93 :: r) hnm (attrs_names ha)
    have hlen : (writeAllB l ++ 93 :: r).length + 1 ≤ n := by
      rw [e, hc] at hn
      simp only [List.length_cons, List.length_append] at hn ⊢; omega
    rw [e, hc] at hn ⊢
    rw [hc] at hb
    have h34 : (c == 34) = false := by cases h : (c == 34) with
      | false => rfl
      | true => rw [beq_iff_eq.1 h] at hcs; revert hcs; decide
    have h93 : (c == 93) = false := by cases h : (c == 93) with
      | false => rfl
      | true => rw [beq_iff_eq.1 h] at hcs; revert hcs; decide
    cases n with
    | zero => simp at hlen
    | succ n =>
      rw [List.cons_append, readN_step]
      have h1 : roundL c (q ++ (attrsW a ++ 91 :: (writeAllB l ++ 93 :: r))) x top st = (writeAllB l ++ 93 :: r, x, .mk k ⟨#[]⟩ [] a [] :: top :: st) := by
        unfold roundL
        rw [h34, h93, ← List.cons_append, hb, Bool.or_false]; rfl
      rw [h1]
      obtain ⟨m1, us, g1, hus, g2⟩ := backU_all l ih (93 :: r) x (.mk k ⟨#[]⟩ [] a []) (top :: st) n (row_all l none hrow) (aft_93 r) (by omega)
      have e3 : addKids (.mk k ⟨#[]⟩ [] a []) us = .mk k ⟨#[]⟩ [] a us := rfl
      rw [e3] at g2
      have hfu : formedB (.mk k ⟨#[]⟩ [] a us) = true := by
        rw [formedB, hk] at hf ⊢
        simp only [Bool.false_eq_true, if_false, Bool.and_eq_true] at hf ⊢
        exact ⟨hf.1, row_heads (p := none) (q := none) (fun a b h => by cases h) (fun _ => rfl) hus hf.2⟩
      have hcl : (closedL (st.length + 1) (.mk k ⟨#[]⟩ [] a us)).2 = false ∧ formedB (closedL (st.length + 1) (.mk k ⟨#[]⟩ [] a us)).1 = true ∧ (closedL (st.length + 1) (.mk k ⟨#[]⟩ [] a us)).1.kind = k ∧ (closedL (st.length + 1) (.mk k ⟨#[]⟩ [] a us)).1.marks = [] := by
        unfold closedL
        split
        · exact ⟨rfl, hfu, rfl, rfl⟩
        · refine ⟨?_, bare_formed hk hfu, rfl, rfl⟩
          cases hc2 : (checkB (.mk k ⟨#[]⟩ [] a us) == 2) with
          | false => rfl
          | true => rw [check_two.1 (beq_iff_eq.1 hc2)] at hfu; cases hfu
      obtain ⟨c1, c2, c3, c4⟩ := hcl
      cases m1 with
      | zero => simp at g1
      | succ m1 =>
        refine ⟨m1, (closedL (st.length + 1) (.mk k ⟨#[]⟩ [] a us)).1, by simpa using g1, ⟨c2, c3, c4⟩, ?_⟩
        show readN n (writeAllB l ++ 93 :: r) x (.mk k ⟨#[]⟩ [] a [] :: top :: st) = _
        rw [g2, readN_step]
        have h2 : roundL 93 r x (.mk k ⟨#[]⟩ [] a us) (top :: st) = (r, x, addKid top (closedL (st.length + 1) (.mk k ⟨#[]⟩ [] a us)).1 :: st) := by
          unfold roundL
          rw [if_neg (by decide), if_pos (by decide)]
          simp only [c1, Bool.or_false]; rfl
        rw [h2]
theorem readU_all (l : List Tree) (hf : ∀ t ∈ l, formedB t = true) : ∃ us, Heads us l ∧ readL (writeAllB l) = (us, true) := by
  obtain ⟨m, us, _, hu, h⟩ := backU_all l (fun t _ => backU_one t) [] false (around []) [] (writeAllB l).length hf aft_nil (by simp)
  rw [List.append_nil, readN_nil] at h
  refine ⟨us, hu, ?_⟩
  unfold readL
  rw [h]; rfl

/-! ### the answers -/
theorem heads_formed : ∀ {us ts : List Tree}, Heads us ts → ∀ u ∈ us, formedB u = true
  | [], [], _, u, hu => by cases hu
  | u :: us, t :: ts, hk, x, hx => by
    rcases List.mem_cons.1 hx with rfl | hx
    · exact hk.1.1
    · exact heads_formed hk.2 x hx
  | [], _ :: _, hk, _, _ => hk.elim
  | _ :: _, [], hk, _, _ => hk.elim
theorem kept_formed {d : Nat} : ∀ {us ts : List Tree}, KeptAll d us ts → (∀ u ∈ us, formedB u = true) → ∀ t ∈ ts, formedB t = true
  | [], [], _, _, u, hu => by cases hu
  | u :: us, t :: ts, hk, h, x, hx => by
    rcases List.mem_cons.1 hx with rfl | hx
    · exact hk.1.formed (h u (by simp))
    · exact kept_formed hk.2 (fun y hy => h y (by simp [hy])) x hx
  | [], _ :: _, hk, _, _, _ => hk.elim
  | _ :: _, [], hk, _, _, _ => hk.elim
theorem rowW_inj {l l' : List Tree} (h : ∀ t ∈ l, formedB t = true) (h' : ∀ t ∈ l', formedB t = true) (e : writeAllB l = writeAllB l') : l = l' :=
  (writeAll_inj l l' [] [] h h' (by rw [e])).1
theorem check_deep {t : Tree} (h : formedB t = true) (hd : 40 < depthB t) : checkB t = 4 := by unfold checkB; rw [if_pos h, if_pos hd]
/-- A text that is written of a formed node. -/
theorem parse_formed {t : Tree} (hf : formedB t = true) : parseB (writeB t) = if checkB t = 0 then (t, 0) else (noTree, checkB t) := by
  obtain ⟨us, hu, hr⟩ := readU_all [t] (by simpa using hf)
  have ew : writeAllB [t] = writeB t := by simp [writeAllB]
  rw [ew] at hr
  match us, hu with
  | [u], hu =>
    have hfu := heads_formed hu
    obtain ⟨ts, hk, hw⟩ := readL_fwd hr hfu
    have := rowW_inj (l := ts) (l' := [t]) (kept_formed hk hfu) (by simpa using hf) (by rw [hw, ew])
    subst this
    unfold parseB
    rw [hr]
    simp only
    by_cases hd : depthB u ≤ 40
    · rw [hk.1.same (hfu u (by simp)) (by omega)]
    · have h1 := hk.1.depth (hfu u (by simp))
      rw [check_deep (hfu u (by simp)) (by omega), check_deep hf (by omega)]; rfl
/-- A text that is none. -/
theorem parse_no2 {s : List UInt8} (h : ∀ t, formedB t = true → writeB t ≠ s) : parseB s = (noTree, 2) := by
  unfold parseB
  split
  · rename_i u hr
    have hn : formedB u = false := by
      cases hf : formedB u with
      | false => rfl
      | true =>
        obtain ⟨ts, hk, hw⟩ := readL_fwd hr (by simpa using hf)
        match ts, hk with
        | [t], hk => exact absurd (by rw [← hw]; simp [writeAllB]) (h t (hk.1.formed hf))
    rw [check_two.2 hn]; rfl
  · rfl
theorem around_formed {l : List Tree} : formedB (around l) = rowB none l := by
  have hk : isTxt (⟨#[120]⟩ : ByteArray) = false := by decide +kernel
  have hh : headB (.mk ⟨#[120]⟩ ⟨#[]⟩ [] [] l) = true := by
    have : headB (.mk ⟨#[120]⟩ ⟨#[]⟩ [] [] []) = true := by decide +kernel
    exact this
  unfold around
  rw [formedB, hk, hh]; simp
theorem around_depth {l : List Tree} : depthB (around l) = deepB l + 1 := by
  have hk : isTxt (⟨#[120]⟩ : ByteArray) = false := by decide +kernel
  unfold around
  rw [depthB, hk]; simp
theorem parseAll_formed {l : List Tree} (hf : rowB none l = true) : parseAllB (writeAllB l) = if checkB (around l) = 0 then (l, 0) else ([], checkB (around l)) := by
  have hfl := row_all l none hf
  obtain ⟨us, hu, hr⟩ := readU_all l hfl
  have hfu := heads_formed hu
  obtain ⟨ts, hk, hw⟩ := readL_fwd hr hfu
  have := rowW_inj (l := ts) (l' := l) (kept_formed hk hfu) hfl hw
  subst this
  unfold parseAllB
  rw [hr]
  simp only
  have hfa : formedB (around us) = true := by rw [around_formed]; exact row_heads (p := none) (q := none) (fun a b h => by cases h) (fun _ => rfl) hu hf
  by_cases hd : depthB (around us) ≤ 40
  · rw [around_depth] at hd
    rw [same_kept hk hfu (by omega)]
  · have h1 := deep_kept hk hfu
    rw [around_depth] at hd
    rw [check_deep hfa (by rw [around_depth]; omega), check_deep (by rw [around_formed]; exact hf) (by rw [around_depth]; omega)]; rfl
theorem parseAll_none {s : List UInt8} (h : ∀ l, rowB none l = true → writeAllB l ≠ s) : parseAllB s = ([], 2) := by
  unfold parseAllB
  split
  · rename_i us hr
    have hn : formedB (around us) = false := by
      cases hf : formedB (around us) with
      | false => rfl
      | true =>
        rw [around_formed] at hf
        have hfu := row_all us none hf
        obtain ⟨ts, hk, hw⟩ := readL_fwd hr hfu
        exact absurd hw (h ts (row_kept (d := 1) (p := none) (q := none) trivial hk hf))
    rw [check_two.2 hn]; rfl
  · rfl
theorem around_write (l : List Tree) : writeB (around l) = 120 :: 91 :: (writeAllB l ++ [93]) := by
  have hk : isTxt (⟨#[120]⟩ : ByteArray) = false := by decide +kernel
  unfold around
  rw [writeB, hk]; simp [attrsW]
/-- A formed node that is written x[..] is that one. -/
theorem around_inv {t : Tree} {s : List UInt8} (hf : formedB t = true) (h : writeB t = 120 :: 91 :: (s ++ [93])) : ∃ l, t = around l ∧ writeAllB l = s := by
  obtain ⟨k, x, m, a, l⟩ := t
  cases hk : isTxt k with
  | true => rw [writeB, hk] at h; simp [quoteL] at h
  | false =>
    obtain ⟨hnm, ht, rfl, ha, hrow⟩ := node_parts hk hf
    obtain rfl : x = ⟨#[]⟩ := bytes_of ht
    have e : writeB (.mk k ⟨#[]⟩ [] a l) = k.data.toList ++ (attrsW a ++ 91 :: (writeAllB l ++ [93])) := by rw [writeB, hk]; simp
    rw [e] at h
    obtain ⟨y, q, hy, hys⟩ : ∃ y q, attrsW a ++ 91 :: (writeAllB l ++ [93]) = y :: q ∧ small y = false := by
      cases a with
      | nil => exact ⟨91, _, rfl, by decide⟩
      | cons p l => exact ⟨40, _, by rw [attrsW_cons (by simp)]; rfl, by decide⟩
    rw [hy] at h
    obtain ⟨e1, e2, e3⟩ := letters_inj k.data.toList [120] q (s ++ [93]) y 91 (name_small hnm) (by intro c hc; simp only [List.mem_singleton] at hc; subst hc; decide) hys (by decide) h
    obtain rfl : k = ⟨#[120]⟩ := bytes_of (by rw [e1])
    cases a with
    | cons p b =>
      rw [attrsW_cons (by simp)] at hy
      rw [e2] at hy
      exact absurd (List.cons.inj hy).1 (by decide)
    | nil =>
      have hq : writeAllB l ++ [93] = q := (List.cons.inj hy).2
      rw [e3] at hq
      exact ⟨l, rfl, (List.append_inj' hq rfl).1⟩
theorem parseAll_wrap (s : List UInt8) : parseAllB s = ((parseB (120 :: 91 :: (s ++ [93]))).1.kids, (parseB (120 :: 91 :: (s ++ [93]))).2) := by
  by_cases h : ∃ l, rowB none l = true ∧ writeAllB l = s
  · obtain ⟨l, hl, rfl⟩ := h
    rw [parseAll_formed hl, ← around_write, parse_formed (by rw [around_formed]; exact hl)]
    split <;> rfl
  · have hn : ∀ l, rowB none l = true → writeAllB l ≠ s := fun l hl e => h ⟨l, hl, e⟩
    rw [parseAll_none hn, parse_no2 (s := 120 :: 91 :: (s ++ [93])) fun t ht e => ?_]
    · rfl
    · obtain ⟨l, rfl, hw⟩ := around_inv ht e
      rw [around_formed] at ht
      exact hn l ht hw
end Go.Proofs.YtggoebbfgkebcaaGreatDoor

namespace Go.Proofs.YtggoebbfgkebcaaGreatDoor
open Go.RowKit Go.Sort Go.Maps

/-! ### the parts -/
theorem part_like : ∀ (t : Tok) (l : List Tok), t.kind = 116 → ∀ x ∈ (t :: l).take (partN (t :: l)), x.kind = 116 ∧ x.head = t.head
  | t, [], h, x, hx => by
    have : x = t := by simpa [partN] using hx
    rw [this]; exact ⟨h, rfl⟩
  | t, b :: l, h, x, hx => by
    rw [partN] at hx
    split at hx
    · rename_i hl
      unfold likeT at hl
      simp only [Bool.and_eq_true, decide_eq_true_eq] at hl
      rw [List.take_succ_cons] at hx
      rcases List.mem_cons.1 hx with rfl | hx
      · exact ⟨h, rfl⟩
      · obtain ⟨h1, h2⟩ := part_like b l hl.2.1 x hx
        exact ⟨h1, h2.trans hl.2.2.symm⟩
    · have : x = t := by simpa using hx
      rw [this]; exact ⟨h, rfl⟩
theorem part_cases {t : Tok} {q : List Tok} {s : List UInt8} (h : partB (t :: q) = some s) :
    (t = closeT ∧ s = [93]) ∨ (t = openT t.head ∧ readsB (t.head.data.toList ++ [91, 93]) = true ∧ s = t.head.data.toList ++ [91]) ∨
    (t.kind = 116 ∧ (∀ x ∈ t :: q, oneCp x.text = true) ∧ readsB (quoteL t.text.data.toList ++ t.head.data.toList) = true ∧ s = quoteL (saysL (t :: q)) ++ t.head.data.toList) := by
  unfold partB at h
  simp only at h
  split at h
  · rename_i h1
    exact .inl ⟨h1, (Option.some.inj h).symm⟩
  · split at h
    · rename_i h2
      split at h
      · rename_i h3
        exact .inr (.inl ⟨h2, h3, (Option.some.inj h).symm⟩)
      · cases h
    · split at h
      · rename_i h2
        split at h
        · rename_i h3
          simp only [Bool.and_eq_true, List.all_eq_true] at h3
          exact .inr (.inr ⟨h2, h3.1, h3.2, (Option.some.inj h).symm⟩)
        · cases h
      · cases h
/-- The first part, and what stands behind it. -/
theorem build_cases {t : Tok} {l : List Tok} {s : List UInt8} (h : buildW (t :: l) = some s) :
    (t = closeT ∧ ∃ s', buildW l = some s' ∧ s = 93 :: s') ∨
    (t = openT t.head ∧ readsB (t.head.data.toList ++ [91, 93]) = true ∧ ∃ s', buildW l = some s' ∧ s = t.head.data.toList ++ 91 :: s') ∨
    (t.kind = 116 ∧ (∀ x ∈ (t :: l).take (partN (t :: l)), x.kind = 116 ∧ x.head = t.head ∧ oneCp x.text = true) ∧ readsB (quoteL t.text.data.toList ++ t.head.data.toList) = true ∧
      ∃ s', buildW ((t :: l).drop (partN (t :: l))) = some s' ∧ s = quoteL (saysL ((t :: l).take (partN (t :: l)))) ++ (t.head.data.toList ++ s')) := by
  rw [buildW_step _ (by simp)] at h
  obtain ⟨k, hk⟩ : ∃ k, partN (t :: l) = k + 1 := ⟨partN (t :: l) - 1, by have := partN_pos t l; omega⟩
  have et : (t :: l).take (partN (t :: l)) = t :: l.take k := by rw [hk, List.take_succ_cons]
  have ed : (t :: l).drop (partN (t :: l)) = l.drop k := by rw [hk, List.drop_succ_cons]
  cases hp : partB ((t :: l).take (partN (t :: l))) with
  | none => rw [hp] at h; cases h
  | some sp =>
    rw [hp] at h
    simp only [Option.bind_some] at h
    cases hb : buildW ((t :: l).drop (partN (t :: l))) with
    | none => rw [hb] at h; cases h
    | some s' =>
      rw [hb] at h
      simp only [Option.map_some, Option.some.injEq] at h
      have hp' := hp
      rw [et] at hp'
      rcases part_cases hp' with ⟨h1, h2⟩ | ⟨h1, h2, h3⟩ | ⟨h1, h2, h3, h4⟩
      · have hn : partN (t :: l) = 1 := partN_other t l (by rw [h1]; decide)
        rw [hn] at hb
        exact .inl ⟨h1, s', by simpa using hb, by rw [← h, h2]; rfl⟩
      · have hn : partN (t :: l) = 1 := partN_other t l (by rw [h1]; show (111 : Nat) ≠ 116; decide)
        rw [hn] at hb
        exact .inr (.inl ⟨h1, h2, s', by simpa using hb, by rw [← h, h3]; simp⟩)
      · refine .inr (.inr ⟨h1, fun x hx => ?_, h3, s', rfl, by rw [← h, h4, ← et]; simp⟩)
        obtain ⟨a1, a2⟩ := part_like t l h1 x hx
        rw [et] at hx
        exact ⟨a1, a2, h2 x hx⟩

/-! ### what reads is asked of -/
theorem reads_is {s : List UInt8} (h : readsB s = true) : ∃ t, formedB t = true ∧ writeB t = s := by
  unfold readsB at h
  rw [decide_eq_true_eq] at h
  obtain ⟨h1, h2⟩ := parse_inv (s := s) (t := (parseB s).1) (Prod.ext rfl h)
  exact ⟨_, (check_zero h1).1, h2⟩
theorem marks_last (m : List ByteArray) : m ≠ [] → ∃ a, marksW m = a ++ [62] := by
  intro h
  exact ⟨60 :: commaM m, by rw [marksW_cons h]; simp⟩
theorem write_last {t : Tree} (_ : formedB t = true) : ∃ a c, writeB t = a ++ [c] ∧ c ≠ 91 ∧ (isTxt t.kind = true → c ≠ 93) := by
  cases hk : isTxt t.kind with
  | true =>
    rw [write_txt hk]
    cases hm : t.marks with
    | nil => exact ⟨34 :: escL t.text.data.toList, 34, by simp [quoteL, marksW], by decide, fun _ => by decide⟩
    | cons x m =>
      obtain ⟨a, ha⟩ := marks_last (x :: m) (by simp)
      exact ⟨quoteL t.text.data.toList ++ a, 62, by rw [ha]; simp, by decide, fun _ => by decide⟩
  | false =>
    rw [wnode_inv hk]
    exact ⟨t.kind.data.toList ++ (attrsW t.attrs ++ 91 :: writeAllB t.kids), 93, by simp, by decide, fun h => by cases h⟩
theorem writeAll_last : ∀ (l : List Tree), l ≠ [] → (∀ t ∈ l, formedB t = true) → ∃ a c, writeAllB l = a ++ [c] ∧ c ≠ 91
  | [], h, _ => absurd rfl h
  | [t], _, h => by
    obtain ⟨a, c, h1, h2, _⟩ := write_last (h t (by simp))
    exact ⟨a, c, by simp [writeAllB, h1], h2⟩
  | t :: u :: l, _, h => by
    obtain ⟨a, c, h1, h2⟩ := writeAll_last (u :: l) (by simp) fun x hx => h x (by simp only [List.mem_cons] at hx ⊢; exact .inr hx)
    exact ⟨writeB t ++ a, c, by rw [writeAllB, h1]; simp, h2⟩
theorem snoc_inj {α : Type} {a b : List α} {x y : α} (h : a ++ [x] = b ++ [y]) : a = b ∧ x = y := by
  obtain ⟨h1, h2⟩ := List.append_inj' h rfl
  exact ⟨h1, by simpa using h2⟩
theorem open_head {h : ByteArray} (hr : readsB (h.data.toList ++ [91, 93]) = true) : ∃ k a, nameB k = true ∧ (∀ p ∈ a, nameB p.1 = true) ∧ h.data.toList = k.data.toList ++ attrsW a := by
  obtain ⟨t, hf, hw⟩ := reads_is hr
  have hw' : writeB t = (h.data.toList ++ [91]) ++ [93] := by rw [hw]; simp
  cases hk : isTxt t.kind with
  | true =>
    obtain ⟨a, c, h1, _, h3⟩ := write_last hf
    rw [h1] at hw'
    exact absurd (snoc_inj hw').2 (h3 hk)
  | false =>
    obtain ⟨k, x, m, a, l⟩ := t
    obtain ⟨hnm, ht, rfl, ha, hrow⟩ := node_parts hk hf
    have e : writeB (.mk k x [] a l) = (k.data.toList ++ (attrsW a ++ 91 :: writeAllB l)) ++ [93] := by rw [writeB, show isTxt k = false from hk]; simp
    rw [e] at hw'
    obtain ⟨h1, _⟩ := snoc_inj hw'
    have hl : l = [] := by
      cases hl : l with
      | nil => rfl
      | cons u l' =>
        obtain ⟨b, c, h2, h3⟩ := writeAll_last l (by rw [hl]; simp) (row_all l none hrow)
        rw [h2] at h1
        have : (k.data.toList ++ (attrsW a ++ 91 :: b)) ++ [c] = h.data.toList ++ [91] := by rw [← h1]; simp
        exact absurd (snoc_inj this).2 h3
    subst hl
    have : (k.data.toList ++ attrsW a) ++ [91] = h.data.toList ++ [91] := by rw [← h1]; simp [writeAllB]
    exact ⟨k, a, hnm, attrs_names ha, (snoc_inj this).1.symm⟩
theorem sign_head {x : List UInt8} {h : ByteArray} (hr : readsB (quoteL x ++ h.data.toList) = true) : ∃ m, (∀ s ∈ m, nameB s = true) ∧ h.data.toList = marksW m := by
  obtain ⟨t, hf, hw⟩ := reads_is hr
  obtain ⟨k, y, m, a, l⟩ := t
  cases hk : isTxt k with
  | true =>
    obtain ⟨hm, rfl, rfl⟩ := text_parts hk hf
    rw [writeB, if_pos hk] at hw
    exact ⟨m, marks_names hm, (quote_inj hw).2.symm⟩
  | false =>
    exfalso
    obtain ⟨hnm, _, _, _, _⟩ := node_parts hk hf
    rw [writeB, hk] at hw
    simp only [Bool.false_eq_true, if_false] at hw
    cases hc : k.data.toList with
    | nil => exact absurd hc (name_ne hnm)
    | cons c q =>
      have hs := name_small hnm c (by rw [hc]; simp)
      rw [hc] at hw
      have := (List.cons.inj (show c :: _ = 34 :: _ from hw)).1
      rw [this] at hs; revert hs; decide

/-! ### what may stand at the beginning -/
theorem build_aft {l : List Tok} {s : List UInt8} (h : buildW l = some s) : Aft s := by
  cases l with
  | nil => rw [buildW_nil] at h; rw [← Option.some.inj h]; exact aft_nil
  | cons t l =>
    rcases build_cases h with ⟨_, s', _, rfl⟩ | ⟨_, h2, s', _, rfl⟩ | ⟨_, _, _, s', _, rfl⟩
    · exact aft_93 _
    · obtain ⟨k, a, hnm, _, he⟩ := open_head h2
      cases hc : k.data.toList with
      | nil => exact absurd hc (name_ne hnm)
      | cons c q =>
        intro d hd
        rw [he, hc] at hd
        have hs := name_small hnm c (by rw [hc]; simp)
        have : c = d := by simpa using hd
        rintro rfl
        rw [this] at hs; revert hs; decide
    · intro d hd
      have : (34 : UInt8) = d := by simpa [quoteL] using hd
      rw [← this]; decide
theorem one_pt {s : ByteArray} (h : oneCp s = true) : ∃ r, pts s.data.toList = [r] ∧ s = encB r ∧ Lib.validD s.data.toList = true := by
  unfold oneCp at h
  simp only [Bool.and_eq_true, decide_eq_true_eq] at h
  obtain ⟨h1, h2⟩ := h
  rw [← pts_count] at h2
  obtain ⟨r, hr⟩ : ∃ r, pts s.data.toList = [r] := List.length_eq_one_iff.1 h2
  refine ⟨r, hr, ?_, h1⟩
  have := back_same s.data.toList
  rw [h1, beq_iff_eq] at this
  unfold backB at this
  rw [hr] at this
  simp only [List.map_cons, List.map_nil, List.flatten_cons, List.flatten_nil, List.append_nil] at this
  exact bytes_of (by rw [encB_data, this])
theorem signs_is (h : ByteArray) : ∀ p : List Tok, (∀ x ∈ p, x.kind = 116 ∧ x.head = h ∧ oneCp x.text = true) → p = (pts (saysL p)).map (signT h)
  | [], _ => by simp [saysL, pts_nil]
  | x :: p, hp => by
    obtain ⟨h1, h2, h3⟩ := hp x (by simp)
    obtain ⟨r, h4, h5, h6⟩ := one_pt h3
    have ih := signs_is h p fun y hy => hp y (by simp [hy])
    have e : saysL (x :: p) = x.text.data.toList ++ saysL p := by simp [saysL]
    rw [e, pts_app _ _ _ (Nat.le_refl _) h6, h4, List.map_append, ← ih]
    have : signT h r = x := by
      obtain ⟨a, b, c⟩ := x
      simp only at h1 h2 h5
      rw [h1, h2, h5]; rfl
    simp [this]

theorem node_first {k : ByteArray} (hnm : nameB k = true) (r : List UInt8) {d : UInt8} {q : List UInt8} (hd : small d = false) (h : k.data.toList ++ r = d :: q) : False := by
  cases hc : k.data.toList with
  | nil => exact name_ne hnm hc
  | cons c q' =>
    rw [hc] at h
    have hs := name_small hnm c (by rw [hc]; simp)
    rw [(List.cons.inj h).1, hd] at hs
    cases hs
theorem attrs_first (a : List (ByteArray × ByteArray)) (r : List UInt8) : ∃ x q, attrsW a ++ 91 :: r = x :: q ∧ small x = false := by
  cases a with
  | nil => exact ⟨91, r, rfl, by decide⟩
  | cons p l => exact ⟨40, _, by rw [attrsW_cons (by simp)]; rfl, by decide⟩
/-- Two heads with a bracket behind them that begin alike. -/
theorem heads_inj {k k' : ByteArray} {a a' : List (ByteArray × ByteArray)} {r r' : List UInt8} (hk : nameB k = true) (hk' : nameB k' = true) (ha : ∀ p ∈ a, nameB p.1 = true) (ha' : ∀ p ∈ a', nameB p.1 = true)
    (h : k.data.toList ++ (attrsW a ++ 91 :: r) = k'.data.toList ++ (attrsW a' ++ 91 :: r')) : k = k' ∧ a = a' ∧ r = r' := by
  obtain ⟨x, q, e, hx⟩ := attrs_first a r
  obtain ⟨x', q', e', hx'⟩ := attrs_first a' r'
  rw [e, e'] at h
  obtain ⟨h1, h2, h3⟩ := letters_inj _ _ _ _ _ _ (name_small hk) (name_small hk') hx hx' h
  obtain ⟨h4, h5⟩ := attrs_inj a a' r r' ha ha' (by rw [e, e', h2, h3])
  exact ⟨bytes_of h1, h4, h5⟩

/-- What may stand behind nodes. -/
def EndB (r : List UInt8) : Prop := r = [] ∨ ∃ q, r = 93 :: q
theorem EndB.aft {r : List UInt8} (h : EndB r) : Aft r := by
  rcases h with rfl | ⟨q, rfl⟩
  · exact aft_nil
  · exact aft_93 q
theorem build_inv : ∀ (n : Nat) (ks : List Tree) (l : List Tok) (r : List UInt8), weighAll ks ≤ n → (∀ k ∈ ks, formedB k = true) → EndB r → buildW l = some (writeAllB ks ++ r) → ∃ l2, l = toksB ks ++ l2 ∧ buildW l2 = some r
  | _, [], l, r, _, _, _, h => ⟨l, by simp [toksB], by simpa [writeAllB] using h⟩
  | 0, x :: ks, _, _, hn, _, _, _ => by
    have := weigh_two x
    simp only [weighAll] at hn; omega
  | n + 1, x :: ks, l, r, hn, hf, hr, h => by
    have hfx := hf x (by simp)
    have hfk : ∀ k ∈ ks, formedB k = true := fun k hk => hf k (by simp [hk])
    have hw2 := weigh_two x
    have hwk := kids_weigh x
    simp only [weighAll] at hn
    rw [writeAllB, List.append_assoc] at h
    cases l with
    | nil =>
      exfalso
      rw [buildW_nil] at h
      have := (List.append_eq_nil_iff.1 (Option.some.inj h).symm).1
      cases hk : isTxt x.kind with
      | true => rw [write_txt hk] at this; simp [quoteL] at this
      | false => rw [wnode_inv hk] at this; simp at this
    | cons t l =>
      cases hk : isTxt x.kind with
      | true =>
        have hX : writeB x ++ (writeAllB ks ++ r) = 34 :: (escL x.text.data.toList ++ [34] ++ (marksW x.marks ++ (writeAllB ks ++ r))) := by rw [write_txt hk]; simp [quoteL]
        rcases build_cases h with ⟨_, s', _, e⟩ | ⟨_, h2, s', _, e⟩ | ⟨h1, h2, h3, s', hb, e⟩
        · rw [hX] at e; exact absurd (List.cons.inj e).1 (by decide)
        · obtain ⟨k, a, hnm, _, he⟩ := open_head h2
          rw [hX, he, List.append_assoc] at e
          exact (node_first (d := 34) hnm (attrsW a ++ 91 :: s') (by decide) (by rw [← List.append_assoc]; exact e.symm)).elim
        · obtain ⟨m, hm, he⟩ := sign_head h3
          rw [write_txt hk, List.append_assoc, he] at e
          obtain ⟨e1, e2⟩ := quote_inj e
          have hmx : ∀ s ∈ x.marks, nameB s = true := by
            obtain ⟨k, y, mm, a, l⟩ := x
            exact marks_names (text_parts hk hfx).1
          obtain ⟨e3, e4⟩ := marks_inj _ _ _ _ hmx hm (aft_all ks r hfk hr.aft) (build_aft hb) e2
          have hsg := signs_is t.head _ h2
          rw [← e1] at hsg
          have hhd : t.head = headT x := bytes_of (by rw [headT_data, headW, if_pos hk, he, e3])
          obtain ⟨l2, g1, g2⟩ := build_inv n ks ((t :: l).drop (partN (t :: l))) r (by omega) hfk hr (by rw [hb, e4])
          refine ⟨l2, ?_, g2⟩
          rw [toksB, tokB_text x hk, ← hhd, ← hsg, List.append_assoc, ← g1, List.take_append_drop]
      | false =>
        have hpx : nameB x.kind = true ∧ (∀ p ∈ x.attrs, nameB p.1 = true) ∧ rowB none x.kids = true := by
          obtain ⟨k, y, mm, a, l⟩ := x
          obtain ⟨p1, _, _, p4, p5⟩ := node_parts hk hfx
          exact ⟨p1, attrs_names p4, p5⟩
        have hX : writeB x ++ (writeAllB ks ++ r) = x.kind.data.toList ++ (attrsW x.attrs ++ 91 :: (writeAllB x.kids ++ 93 :: (writeAllB ks ++ r))) := by rw [wnode_inv hk]; simp
        rcases build_cases h with ⟨_, s', _, e⟩ | ⟨h1, h2, s', hb, e⟩ | ⟨_, _, _, s', _, e⟩
        · rw [hX] at e; exact (node_first (d := 93) hpx.1 _ (by decide) e).elim
        · obtain ⟨k, a, hnm, ha, he⟩ := open_head h2
          rw [hX, he, List.append_assoc] at e
          obtain ⟨e1, e2, e3⟩ := heads_inj hpx.1 hnm hpx.2.1 ha e
          have hhd : t.head = headT x := bytes_of (by rw [headT_data, headW, hk, he, e1, e2]; simp)
          rw [← e3] at hb
          obtain ⟨l2, g1, g2⟩ := build_inv n x.kids l (93 :: (writeAllB ks ++ r)) (by omega) (row_all _ none hpx.2.2) (.inr ⟨_, rfl⟩) hb
          cases l2 with
          | nil => rw [buildW_nil] at g2; cases g2
          | cons t2 l2 =>
            rcases build_cases g2 with ⟨c1, s2, c2, c3⟩ | ⟨_, c2, s2, _, c3⟩ | ⟨_, _, _, s2, _, c3⟩
            · rw [← (List.cons.inj c3).2] at c2
              obtain ⟨l3, g3, g4⟩ := build_inv n ks l2 r (by omega) hfk hr c2
              refine ⟨l3, ?_, g4⟩
              rw [toksB, tokB_node x hk, ← hhd, g1, c1, g3, ← h1]
              simp
            · obtain ⟨k2, a2, hnm2, _, he2⟩ := open_head c2
              rw [he2, List.append_assoc] at c3
              exact (node_first (d := 93) hnm2 _ (by decide) c3.symm).elim
            · exact absurd (List.cons.inj (show (93 : UInt8) :: _ = 34 :: _ from c3)).1 (by decide)
        · rw [hX] at e
          exact (node_first (d := 34) hpx.1 _ (by decide) (show x.kind.data.toList ++ _ = 34 :: _ from e)).elim
end Go.Proofs.YtggoebbfgkebcaaGreatDoor

namespace Go.Proofs.YtggoebbfgkebcaaGreatDoor
open Go.RowKit Go.Sort Go.Maps

/-- How the document writes tokens. -/
def rwrN : Nat → List Tok → List UInt8
  | 0, _ => []
  | _ + 1, [] => []
  | n + 1, t :: l =>
    if t.kind = 116 then quoteL (saysL ((t :: l).take (partN (t :: l)))) ++ (t.head.data.toList ++ rwrN n ((t :: l).drop (partN (t :: l))))
    else (if t.kind = 111 then t.head.data.toList ++ [91] else if t.kind = 99 then [93] else []) ++ rwrN n l
def rwr (l : List Tok) : List UInt8 := rwrN l.length l
theorem rwrN_more : ∀ (n m : Nat) (l : List Tok), l.length ≤ n → l.length ≤ m → rwrN n l = rwrN m l
  | 0, 0, l, _, _ => rfl
  | 0, m + 1, l, h, _ => by
    have : l = [] := List.eq_nil_of_length_eq_zero (by omega)
    subst this; rfl
  | n + 1, 0, l, _, h => by
    have : l = [] := List.eq_nil_of_length_eq_zero (by omega)
    subst this; rfl
  | n + 1, m + 1, [], _, _ => rfl
  | n + 1, m + 1, t :: l, h1, h2 => by
    have hp := partN_pos t l
    simp only [rwrN]
    rw [rwrN_more n m _ (by simp only [List.length_drop, List.length_cons] at *; omega) (by simp only [List.length_drop, List.length_cons] at *; omega),
      rwrN_more n m l (by simp only [List.length_cons] at h1; omega) (by simp only [List.length_cons] at h2; omega)]
theorem rwr_nil : rwr [] = [] := rfl
theorem rwr_sign {t : Tok} {l : List Tok} (h : t.kind = 116) : rwr (t :: l) = quoteL (saysL ((t :: l).take (partN (t :: l)))) ++ (t.head.data.toList ++ rwr ((t :: l).drop (partN (t :: l)))) := by
  have hp := partN_pos t l
  show rwrN (l.length + 1) (t :: l) = _
  simp only [rwrN]
  rw [if_pos h, rwrN_more l.length ((t :: l).drop (partN (t :: l))).length _ (by simp only [List.length_drop, List.length_cons]; omega) (Nat.le_refl _)]; rfl
theorem rwr_other {t : Tok} {l : List Tok} (h : t.kind ≠ 116) : rwr (t :: l) = (if t.kind = 111 then t.head.data.toList ++ [91] else if t.kind = 99 then [93] else []) ++ rwr l := by
  show rwrN (l.length + 1) (t :: l) = _
  simp only [rwrN]
  rw [if_neg h]; rfl
/-- Where the program writes tokens, the document writes them alike. -/
theorem rwr_build : ∀ (n : Nat) (l : List Tok) (s : List UInt8), l.length ≤ n → buildW l = some s → rwr l = s
  | _, [], s, _, h => by rw [buildW_nil] at h; rw [← Option.some.inj h]; rfl
  | 0, t :: l, _, hn, _ => by simp at hn
  | n + 1, t :: l, s, hn, h => by
    have hp := partN_pos t l
    simp only [List.length_cons] at hn
    rcases build_cases h with ⟨h1, s', hb, e⟩ | ⟨h1, _, s', hb, e⟩ | ⟨h1, _, _, s', hb, e⟩
    · have hk : t.kind = 99 := by rw [h1]; rfl
      rw [rwr_other (by rw [hk]; decide), if_neg (by rw [hk]; decide), if_pos hk, rwr_build n l s' (by omega) hb, e]; rfl
    · have hk : t.kind = 111 := by rw [h1]; rfl
      rw [rwr_other (by rw [hk]; decide), if_pos hk, rwr_build n l s' (by omega) hb, e]; simp
    · rw [rwr_sign h1, rwr_build n _ s' (by simp only [List.length_drop, List.length_cons]; omega) hb, e]
theorem saysL_len (l : List Tok) (t : Tok) (h : t ∈ l) : t.text.size ≤ (saysL l).length := by
  induction l with
  | nil => cases h
  | cons x l ih =>
    have e : (saysL (x :: l)).length = x.text.size + (saysL l).length := by
      unfold saysL
      rw [List.flatMap_cons, List.length_append, ← Lib.size_eq]
    rcases List.mem_cons.1 h with rfl | h
    · omega
    · have := ih h; omega

/-- The row that tokens are. -/
theorem build_yes {l : List Tok} {ks : List Tree} (hr : rowB none ks = true) (ht : toksB ks = l) : rwr l = writeAllB ks ∧ buildB l = if checkB (around ks) = 0 then (ks, 0) else ([], checkB (around ks)) := by
  have hb : buildW l = some (writeAllB ks) := by rw [← ht]; exact build_right hr
  exact ⟨rwr_build _ l _ (Nat.le_refl _) hb, by rw [buildB_some hb, parseAll_formed hr]⟩
/-- Tokens that are of no row. -/
theorem build_no {l : List Tok} (h : ∀ ks, rowB none ks = true → writeAllB ks = rwr l → toksB ks ≠ l) : buildB l = ([], 2) := by
  cases hb : buildW l with
  | none => exact buildB_none hb
  | some s =>
    rw [buildB_some hb]
    have hs := rwr_build _ l _ (Nat.le_refl _) hb
    refine parseAll_none fun ks hk hw => ?_
    obtain ⟨l2, g1, g2⟩ := build_inv (weighAll ks) ks l [] (Nat.le_refl _) (row_all ks none hk) (.inl rfl) (by rw [hb, ← hw]; simp)
    cases l2 with
    | nil => exact h ks hk (by rw [hw, hs]) (by rw [g1]; simp)
    | cons t l2 =>
      rcases build_cases g2 with ⟨_, s', _, e⟩ | ⟨_, h2, s', _, e⟩ | ⟨_, _, _, s', _, e⟩
      · cases e
      · cases hx : t.head.data.toList <;> rw [hx] at e <;> cases e
      · cases e
end Go.Proofs.YtggoebbfgkebcaaGreatDoor

namespace Go.Proofs.YtggoebbfgkebcaaGreatDoor
open Go.RowKit Go.Sort Go.Maps

/-- What lies in open node i, but for the row of its kids. -/
def Part (w : World) (own : Nat → Nat) (i : Nat) : Nat → Prop := fun b => b < w.heap.size ∧ own b = 2 * i + 1
/-- .. with it. -/
def Whole (w : World) (own : Nat → Nat) (i : Nat) : Nat → Prop := fun b => b < w.heap.size ∧ (own b = 2 * i + 1 ∨ own b = 2 * i + 2)
/-- An open node: its three slices. -/
def OpenAt (w : World) (base : Nat) (own : Nat → Nat) (i : Nat) (vm va vk : Value) (t : Tree) : Prop :=
  Strs w (Part w own i) vm t.marks ∧ Pairs w (Part w own i) va t.attrs ∧ Own w base (Part w own i) vk t.kids ∧ ∀ g, vk.ownBlock = some g → own g = 2 * i + 2
/-- The cells of open nodes, the outermost ahead. -/
def OC (w : World) (base : Nat) (own : Nat → Nat) : Nat → List Tree → List Value → Prop
  | _, [], xs => xs = []
  | i, t :: l, xs => ∃ vm va vk ys, xs = .string t.kind :: .string t.text :: vm :: va :: vk :: ys ∧ OpenAt w base own i vm va vk t ∧ OC w base own (i + 1) l ys
/-- The row of open nodes (st: the innermost ahead). -/
def Opens (w : World) (base : Nat) (own : Nat → Nat) (v : Value) (st : List Tree) : Prop :=
  (∃ xs, w.ownsRow base 41 5 v st.length xs ∧ OC w base own 0 st.reverse xs) ∧ (∀ g, v.ownBlock = some g → own g = 0) ∧ ∀ b, w.heap.size ≤ b → own b = 0

theorem ownsRow_block {w w' : World} {base : Nat} {e : TypeId} {size : Nat} {v : Value} {n : Nat} {xs : List Value} (h : w.ownsRow base e size v n xs) (hb : ∀ g, v.ownBlock = some g → w'.heap[g]? = w.heap[g]?) : w'.ownsRow base e size v n xs := by
  refine ⟨h.1, ?_⟩
  rcases h.2 with hn | ⟨g, cap, cur, hv, hB, hg, rest⟩
  · exact .inl hn
  · exact .inr ⟨g, cap, cur, hv, hB, (hb g (by rw [hv]; rfl)).trans hg, rest⟩
theorem Own.lt {w : World} {base : Nat} {S : Nat → Prop} {v : Value} {l : List Tree} (h : Own w base S v l) : ∀ g, v.ownBlock = some g → base ≤ g ∧ g < w.heap.size := by
  obtain ⟨xs, ho, _⟩ := h
  exact ho.lt
theorem OpenAt.keep {w w' : World} {base : Nat} {own own' : Nat → Nat} {i : Nat} {vm va vk : Value} {t : Tree} (h : OpenAt w base own i vm va vk t)
    (hz : w.heap.size ≤ w'.heap.size) (hk : ∀ b, b < w.heap.size → own b = 2 * i + 1 ∨ own b = 2 * i + 2 → w'.heap[b]? = w.heap[b]? ∧ own' b = own b) : OpenAt w' base own' i vm va vk t := by
  obtain ⟨hm, ha, ⟨xs, ho, hc⟩, hg⟩ := h
  have hS : ∀ b, Part w own i b → Part w' own' i b := fun b hb => ⟨Nat.lt_of_lt_of_le hb.1 hz, by rw [(hk b hb.1 (.inl hb.2)).2]; exact hb.2⟩
  have hB : ∀ b, Part w own i b → w'.heap[b]? = w.heap[b]? := fun b hb => (hk b hb.1 (.inl hb.2)).1
  refine ⟨hm.keep hS hB, ha.keep hS hB, ⟨xs, ownsRow_block ho fun g e => (hk g (ho.lt g e).2 (.inr (hg g e))).1, hc.keep hS hB⟩, fun g e => ?_⟩
  rw [(hk g (ho.lt g e).2 (.inr (hg g e))).2]; exact hg g e
theorem OpenAt.node {w : World} {base : Nat} {own : Nat → Nat} {i : Nat} {vm va vk : Value} {t : Tree} (h : OpenAt w base own i vm va vk t) :
    Node w (Whole w own i) (.agg #[.string t.kind, .string t.text, vm, va, vk]) t := by
  obtain ⟨hm, ha, hk, hg⟩ := h
  have hS : ∀ b, Part w own i b → Whole w own i b := fun b hb => ⟨hb.1, .inl hb.2⟩
  exact ⟨vm, va, vk, rfl, hm.keep hS fun _ _ => rfl, ha.keep hS fun _ _ => rfl, hk.kids hS fun g e => ⟨(hk.lt g e).2, .inr (hg g e)⟩⟩

theorem OC.keep {w w' : World} {base : Nat} {own own' : Nat → Nat} (hz : w.heap.size ≤ w'.heap.size) : ∀ {l : List Tree} {i : Nat} {xs : List Value}, OC w base own i l xs →
    (∀ b, b < w.heap.size → 2 * i + 1 ≤ own b → own b ≤ 2 * (i + l.length) → w'.heap[b]? = w.heap[b]? ∧ own' b = own b) → OC w' base own' i l xs
  | [], _, _, h, _ => h
  | t :: l, i, _, ⟨vm, va, vk, ys, e, ho, h⟩, hk => ⟨vm, va, vk, ys, e, ho.keep hz fun b hb hc => hk b hb (by omega) (by simp only [List.length_cons]; omega),
      OC.keep hz h fun b hb h1 h2 => hk b hb (by omega) (by simp only [List.length_cons]; omega)⟩
theorem OC.length {w : World} {base : Nat} {own : Nat → Nat} : ∀ {l : List Tree} {i : Nat} {xs : List Value}, OC w base own i l xs → xs.length = l.length * 5
  | [], _, _, h => by simp only [OC] at h; subst h; rfl
  | t :: l, _, _, ⟨vm, va, vk, ys, e, _, h⟩ => by have := h.length; subst e; simp only [List.length_cons, this]; omega
theorem OC.append {w : World} {base : Nat} {own : Nat → Nat} : ∀ {a b : List Tree} {i : Nat} {xs ys : List Value}, OC w base own i a xs → OC w base own (i + a.length) b ys → OC w base own i (a ++ b) (xs ++ ys)
  | [], _, _, _, _, h, h' => by simp only [OC] at h; subst h; exact h'
  | t :: a, b, i, _, ys, ⟨vm, va, vk, zs, e, ho, h⟩, h' => ⟨vm, va, vk, zs ++ ys, by subst e; rfl, ho, OC.append h (by rw [show i + 1 + a.length = i + (t :: a).length by simp only [List.length_cons]; omega]; exact h')⟩
theorem OC.split {w : World} {base : Nat} {own : Nat → Nat} : ∀ {a b : List Tree} {i : Nat} {xs : List Value}, OC w base own i (a ++ b) xs → ∃ ys zs, xs = ys ++ zs ∧ OC w base own i a ys ∧ OC w base own (i + a.length) b zs
  | [], _, _, xs, h => ⟨[], xs, rfl, rfl, h⟩
  | t :: a, b, i, _, ⟨vm, va, vk, qs, e, ho, h⟩ => by
    obtain ⟨ys, zs, e2, h1, h2⟩ := OC.split (a := a) h
    subst e2
    refine ⟨.string t.kind :: .string t.text :: vm :: va :: vk :: ys, zs, by rw [e]; rfl, ⟨vm, va, vk, ys, rfl, ho, h1⟩, ?_⟩
    rw [show i + (t :: a).length = i + 1 + a.length by simp only [List.length_cons]; omega]; exact h2

/-- The innermost open node, and where it lies. -/
theorem Opens.top {w : World} {base : Nat} {own : Nat → Nat} {v : Value} {top : Tree} {st : List Tree} (h : Opens w base own v (top :: st)) :
    ∃ O cap vm va vk ys, v = .slice (some ⟨O, 0, none⟩) (st.length + 1) cap ∧ base ≤ O ∧ O < w.heap.size ∧ own O = 0 ∧ st.length + 1 ≤ cap ∧ cap ≤ maxLen ∧ OpenAt w base own st.length vm va vk top ∧
      w.ownsRow base 41 5 (.slice (some ⟨O, 0, none⟩) (st.length + 1) cap) (st.length + 1) (ys ++ [.string top.kind, .string top.text, vm, va, vk]) ∧ OC w base own 0 st.reverse ys ∧ ys.length = st.length * 5 := by
  obtain ⟨⟨xs, ho, hc⟩, hO, _⟩ := h
  rw [List.reverse_cons] at hc
  obtain ⟨ys, zs, rfl, h1, h2⟩ := hc.split
  obtain ⟨vm, va, vk, us, rfl, h3, h4⟩ := h2
  simp only [OC] at h4
  subst h4
  simp only [List.length_reverse, Nat.zero_add] at h3
  obtain ⟨hl, hor⟩ := ho
  have hoo := hor
  rcases hor with ⟨_, hn⟩ | ⟨g, cap, cur, rfl, hb, hg, hnc, hcap, hsz, htk⟩
  · simp at hn
  · refine ⟨g, cap, vm, va, vk, ys, rfl, hb, (Array.getElem?_eq_some_iff.1 hg).1, hO g rfl, hnc, hcap, h3, ⟨hl, hoo⟩, h1, ?_⟩
    have := h1.length
    simpa using this
end Go.Proofs.YtggoebbfgkebcaaGreatDoor

namespace Go.Proofs.YtggoebbfgkebcaaGreatDoor
open Go.RowKit Go.Sort Go.Maps

theorem set_last (ys : List Value) (a b c d e f : Value) (n : Nat) (h : ys.length = n) : (ys ++ [a, b, c, d, e]).set (n + 4) f = ys ++ [a, b, c, d, f] := by
  subst h
  rw [List.set_append_right _ _ (by omega)]
  rw [show ys.length + 4 - ys.length = 4 by omega]
  rfl

theorem Opens.pushKid {w w4 : World} {base : Nat} {own : Nat → Nat} {O cap : Nat} {top : Tree} {st : List Tree} {vm va vk : Value} {ys : List Value}
    (hop : OpenAt w base own st.length vm va vk top) (hrow : w.ownsRow base 41 5 (.slice (some ⟨O, 0, none⟩) (st.length + 1) cap) (st.length + 1) (ys ++ [.string top.kind, .string top.text, vm, va, vk]))
    (hoc : OC w base own 0 st.reverse ys) (hys : ys.length = st.length * 5) (hO : own O = 0) (hOz : O < w.heap.size) (hz : ∀ b, w.heap.size ≤ b → own b = 0)
    (k : Tree) (vk' : Value) (zs : List Value) (S : Nat → Prop) (hsz : w.heap.size ≤ w4.heap.size)
    (hkeep : ∀ b, b < w.heap.size → own b ≠ 0 → some b ≠ vk.ownBlock → w4.heap[b]? = w.heap[b]?)
    (hO4 : w4.heap[O]? = (w.setCell ⟨O, st.length * 5 + 4, none⟩ vk').heap[O]?)
    (hk4 : w4.ownsRow base 41 5 vk' (top.kids.length + 1) zs) (hc4 : Cells w4 S (top.kids ++ [k]) zs)
    (hat : ∀ g, vk'.ownBlock = some g → vk.ownBlock = some g ∨ w.heap.size ≤ g)
    (hS : ∀ b, S b → (Part w own st.length b ∨ From w.heap.size w4.heap.size b) ∧ some b ≠ vk'.ownBlock) :
    ∃ own', Opens w4 base own' (.slice (some ⟨O, 0, none⟩) (st.length + 1) cap) (addKid top k :: st) ∧ ∀ b, b < w.heap.size → own' b = own b := by
  obtain ⟨hm, ha, hk, hg⟩ := hop
  refine ⟨fun b => if w.heap.size ≤ b ∧ b < w4.heap.size then (if vk'.ownBlock = some b then 2 * st.length + 2 else 2 * st.length + 1) else own b, ?_, fun b hb => if_neg (by omega)⟩
  have hold : ∀ b, b < w.heap.size → (fun b => if w.heap.size ≤ b ∧ b < w4.heap.size then (if vk'.ownBlock = some b then 2 * st.length + 2 else 2 * st.length + 1) else own b) b = own b := fun b hb => if_neg (by omega)
  have hnew : ∀ b, w.heap.size ≤ b → b < w4.heap.size → (fun b => if w.heap.size ≤ b ∧ b < w4.heap.size then (if vk'.ownBlock = some b then 2 * st.length + 2 else 2 * st.length + 1) else own b) b = if vk'.ownBlock = some b then 2 * st.length + 2 else 2 * st.length + 1 := fun b h1 h2 => if_pos ⟨h1, h2⟩
  have hend : ∀ b, w4.heap.size ≤ b → (fun b => if w.heap.size ≤ b ∧ b < w4.heap.size then (if vk'.ownBlock = some b then 2 * st.length + 2 else 2 * st.length + 1) else own b) b = own b := fun b hb => if_neg (by omega)
  generalize (fun b => if w.heap.size ≤ b ∧ b < w4.heap.size then (if vk'.ownBlock = some b then 2 * st.length + 2 else 2 * st.length + 1) else own b) = own' at *
  have hP : ∀ b, Part w own st.length b → Part w4 own' st.length b := fun b hb => ⟨Nat.lt_of_lt_of_le hb.1 hsz, by rw [hold b hb.1]; exact hb.2⟩
  have hPk : ∀ b, Part w own st.length b → w4.heap[b]? = w.heap[b]? := fun b hb => hkeep b hb.1 (by rw [hb.2]; omega) fun e => by
    have := hg b e.symm
    rw [hb.2] at this; omega
  refine ⟨⟨ys ++ [.string top.kind, .string top.text, vm, va, vk'], ?_, ?_⟩, fun g e => ?_, fun b hb => by rw [hend b hb]; exact hz b (by omega)⟩
  · have h1 := (hrow.stored (st.length * 5 + 4) vk').1
    rw [set_last ys _ _ _ _ _ _ _ hys] at h1
    exact ownsRow_block h1 fun g e => by
      have : O = g := Option.some.inj e
      subst this; exact hO4
  · rw [List.reverse_cons]
    refine OC.append (OC.keep hsz hoc fun b hb h1 h2 => ⟨hkeep b hb (by omega) fun e => ?_, hold b hb⟩) ?_
    · have := hg b e.symm
      rw [this, List.length_reverse] at h2; omega
    · rw [List.length_reverse, Nat.zero_add]
      refine ⟨vm, va, vk', [], rfl, ⟨hm.keep hP hPk, ha.keep hP hPk, ⟨zs, ?_, ?_⟩, fun g e => ?_⟩, rfl⟩
      · show w4.ownsRow base 41 5 vk' (top.kids ++ [k]).length zs
        rw [List.length_append]; exact hk4
      · show Cells w4 (Part w4 own' st.length) (top.kids ++ [k]) zs
        refine hc4.keep (fun b hb => ?_) fun _ _ => rfl
        obtain ⟨h1, h2⟩ := hS b hb
        rcases h1 with h1 | h1
        · exact hP b h1
        · exact ⟨h1.2, by rw [hnew b h1.1 h1.2]; exact if_neg fun e => h2 e.symm⟩
      · rcases hat g e with h1 | h1
        · rw [hold g (hk.lt g h1).2]; exact hg g h1
        · rw [hnew g h1 (hk4.lt g e).2]; exact if_pos e
  · have : O = g := Option.some.inj e
    subst this
    rw [hold O hOz]; exact hO

theorem Opens.pushOpen {w w4 : World} {base : Nat} {own : Nat → Nat} {v v' va : Value} {st : List Tree} {xs : List Value} {k : Tree}
    (hoc : OC w base own 0 st.reverse xs) (hO : ∀ g, v.ownBlock = some g → own g = 0) (hz : ∀ b, w.heap.size ≤ b → own b = 0)
    (hsz : w.heap.size ≤ w4.heap.size) (hkeep : ∀ b, b < w.heap.size → own b ≠ 0 → w4.heap[b]? = w.heap[b]?)
    (hrow : w4.ownsRow base 41 5 v' (st.length + 1) (xs ++ [.string k.kind, .string k.text, .slice none 0 0, va, .slice none 0 0])) (hkm : k.marks = []) (hkk : k.kids = [])
    (S : Nat → Prop) (hva : Pairs w4 S va k.attrs) (hS : ∀ b, S b → From w.heap.size w4.heap.size b ∧ some b ≠ v'.ownBlock)
    (hat : ∀ g, v'.ownBlock = some g → v.ownBlock = some g ∨ w.heap.size ≤ g) :
    ∃ own', Opens w4 base own' v' (k :: st) ∧ ∀ b, b < w.heap.size → own' b = own b := by
  refine ⟨fun b => if w.heap.size ≤ b ∧ b < w4.heap.size ∧ v'.ownBlock ≠ some b then 2 * st.length + 1 else own b, ?_, fun b hb => if_neg (by omega)⟩
  have hold : ∀ b, b < w.heap.size → (fun b => if w.heap.size ≤ b ∧ b < w4.heap.size ∧ v'.ownBlock ≠ some b then 2 * st.length + 1 else own b) b = own b := fun b hb => if_neg (by omega)
  have hnew : ∀ b, w.heap.size ≤ b → b < w4.heap.size → v'.ownBlock ≠ some b → (fun b => if w.heap.size ≤ b ∧ b < w4.heap.size ∧ v'.ownBlock ≠ some b then 2 * st.length + 1 else own b) b = 2 * st.length + 1 := fun b h1 h2 h3 => if_pos ⟨h1, h2, h3⟩
  have hown : ∀ b, v'.ownBlock = some b → (fun b => if w.heap.size ≤ b ∧ b < w4.heap.size ∧ v'.ownBlock ≠ some b then 2 * st.length + 1 else own b) b = own b := fun b hb => if_neg fun h => h.2.2 hb
  have hend : ∀ b, w4.heap.size ≤ b → (fun b => if w.heap.size ≤ b ∧ b < w4.heap.size ∧ v'.ownBlock ≠ some b then 2 * st.length + 1 else own b) b = own b := fun b hb => if_neg (by omega)
  generalize (fun b => if w.heap.size ≤ b ∧ b < w4.heap.size ∧ v'.ownBlock ≠ some b then 2 * st.length + 1 else own b) = own' at *
  refine ⟨⟨_, hrow, ?_⟩, fun g e => ?_, fun b hb => by rw [hend b hb]; exact hz b (by omega)⟩
  · rw [List.reverse_cons]
    refine OC.append (OC.keep hsz hoc fun b hb h1 h2 => ⟨hkeep b hb (by omega), hold b hb⟩) ?_
    rw [List.length_reverse, Nat.zero_add]
    refine ⟨.slice none 0 0, va, .slice none 0 0, [], rfl, ⟨by rw [hkm]; exact strs_nil, hva.keep (fun b hb => ?_) (fun _ _ => rfl), ⟨[], ?_, ?_⟩, fun g e => by cases e⟩, rfl⟩
    · obtain ⟨h1, h2⟩ := hS b hb
      exact ⟨h1.2, hnew b h1.1 h1.2 fun e => h2 e.symm⟩
    · rw [hkk]; exact World.ownsRow_nil _ _ _ _
    · rw [hkk]; rfl
  · rw [hown g e]
    rcases hat g e with h1 | h1
    · exact hO g h1
    · exact hz g h1

/-- The innermost node closed: it is what the next one holds. -/
theorem Opens.close {w : World} {base : Nat} {own : Nat → Nat} {O cap : Nat} {top up : Tree} {st : List Tree} (h : Opens w base own (.slice (some ⟨O, 0, none⟩) (st.length + 2) cap) (top :: up :: st)) :
    ∃ own' vm va vk, Opens w base own' (.slice (some ⟨O, 0, none⟩) (st.length + 1) cap) (up :: st) ∧ Node w (Part w own' st.length) (.agg #[.string top.kind, .string top.text, vm, va, vk]) top ∧
      (∀ j u, [Value.string top.kind, .string top.text, vm, va, vk][j]? = some u → w.cell? ⟨O, (st.length + 1) * 5 + j, none⟩ = some u) ∧ ∀ b, own b = 0 → own' b = 0 := by
  obtain ⟨O', cap', vm, va, vk, ys, e, hb, hlt, hO, hnc, hcap, hop, hrow, hoc, hys⟩ := h.top
  injection e with e1 e2 e3
  have e1 : O = O' := by injection e1 with e1; injection e1
  subst e1; subst e3
  obtain ⟨_, _, hz⟩ := h
  refine ⟨fun b => if own b = 2 * (st.length + 1) + 1 ∨ own b = 2 * (st.length + 1) + 2 then 2 * st.length + 1 else own b, vm, va, vk, ?_, ?_, ?_, fun b hb => ?_⟩
  · have hlow : ∀ b, own b ≤ 2 * (st.length + 1) → (fun b => if own b = 2 * (st.length + 1) + 1 ∨ own b = 2 * (st.length + 1) + 2 then 2 * st.length + 1 else own b) b = own b := fun b hb => if_neg (by omega)
    refine ⟨⟨ys, ?_, ?_⟩, fun g e => ?_, fun b hb => ?_⟩
    · obtain ⟨hl, hor⟩ := hrow
      rcases hor with ⟨h1, _⟩ | ⟨g, c, cur, h1, h2, h3, h4, h5, h6, h7⟩
      · cases h1
      · refine ⟨by simpa using hys, .inr ⟨g, c, cur, ?_, h2, h3, ?_, h5, h6, ?_⟩⟩
        · injection h1 with a1 a2 a3
          rw [a1, a3]; rfl
        · simp only [List.length_cons] at h4 ⊢; omega
        · have : (cur.toList.take (((up :: st).length + 1) * 5)).take ((up :: st).length * 5) = ys := by
            rw [h7, List.take_append_of_le_length (by rw [hys]; exact Nat.le_refl _), List.take_of_length_le (by rw [hys]; exact Nat.le_refl _)]
          rwa [List.take_take, Nat.min_eq_left (by omega)] at this
    · refine OC.keep (Nat.le_refl _) hoc fun b hb h1 h2 => ⟨rfl, hlow b ?_⟩
      simp only [List.length_reverse, List.length_cons] at h2; omega
    · have : O = g := Option.some.inj e
      subst this
      rw [hlow O (by omega)]; exact hO
    · rw [hlow b (by have := hz b hb; omega)]; exact hz b hb
  · refine hop.node.keep (fun b hb => ⟨hb.1, if_pos ?_⟩) fun _ _ => rfl
    simpa using hb.2
  · intro j u hj
    have hj5 : j < 5 := by
      have := (List.getElem?_eq_some_iff.1 hj).1
      simpa using this
    rw [hrow.cellAt _ (by simp only [List.length_cons]; omega), List.getElem?_append_right (by rw [hys]; simp only [List.length_cons]; omega), hys]
    simp only [List.length_cons]
    rw [show (st.length + 1) * 5 + j - (st.length + 1) * 5 = j by omega]
    exact hj
  · exact (if_neg (by omega)).trans hb
end Go.Proofs.YtggoebbfgkebcaaGreatDoor

namespace Go.Proofs.YtggoebbfgkebcaaGreatDoor
open Go.RowKit Go.Sort Go.Maps

section
variable {w : World} {ops : Array Oper} {rest : List Oper} {o : Oper} {a : Act} {K : Act → World → Prop} {Q : Exit → Act → World → Prop} {E : Prop}
/-- A text read, in a region that draws its order. -/
theorem step_text {R : Nat} {l : List UInt8} {x : Bool} (hgd : o.guard = none) (p : Operand) (ho : o.op = .call { callee := .value (.func 57), args := #[p], argTypes := #[92] })
    (hp : a.eval p = .pointer (some ⟨R, 0, none⟩)) (hR : Rd w R l x) (hl : l.length ≤ 10000000)
    (h : ∀ v w', Node w' (From w.heap.size w'.heap.size) v (textL l).1 → Rd w' R (textL l).2.1 (x || (textL l).2.2) → OnlyR R w w' → K (a.put o.dst v) w') :
    if Region.wanted o (yielded ops a.tmps) = true then Oper.wp Tryz.prog o a w K Q else E := by
  have hwn : Region.wanted o (yielded ops a.tmps) = true := by simp [Region.wanted, hgd]
  rw [if_pos hwn]
  have hrun : (execOp a.eval o).run Tryz.prog w = .ok (.enter 57 #[.pointer (some ⟨R, 0, none⟩)]) w := by
    have hf : a.eval (.func 57) = .func (.func 57) #[] #[] := rfl
    obtain ⟨c, hc⟩ : ∃ c, Tryz.f57.body = some c := Option.isSome_iff_exists.1 (by kernel_rfl)
    have hne : ¬ Tryz.f57.name = "runtime.NumGoroutine" := of_decide_eq_false (by kernel_rfl)
    simp [execOp, ho, resolve, invoke, hp, hf, Deferred.ofValue, callFunc, hne, hc]
  unfold Oper.wp
  rw [hrun, Oper.upon_enter]
  refine (rd_text R l x w hR hl).mono fun e w'' hh => ?_
  obtain ⟨v', rfl, h1, h2, h3⟩ := hh
  exact h v' w'' h1 h2 h3
/-- A node closed, in a region that draws its order. -/
theorem step_closed {R : Nat} {l : List UInt8} {x : Bool} {v : Value} {t : Tree} {S : Nat → Prop} {d : Nat} {di : Int} (hgd : o.guard = none) (p q r : Operand) (ho : o.op = .call { callee := .value (.func 61), args := #[p, q, r], argTypes := #[92, 41, 3] })
    (hp : a.eval p = .pointer (some ⟨R, 0, none⟩)) (hq : a.eval q = v) (hr : a.eval r = .int .i64 di) (hdi : di = (d : Int)) (hR : Rd w R l x) (hn : Node w S v t) (hS : ∀ b, S b → b < w.heap.size ∧ b ≠ R) (hd : d ≤ 100000000) (hw : weigh t ≤ 1000000) (hT : Tabs w)
    (h : ∀ v' w', Node w' S v' (closedL d t).1 → Rd w' R (if (closedL d t).2 then [] else l) (x || (closedL d t).2) → OnlyR R w w' → K (a.put o.dst v') w') :
    if Region.wanted o (yielded ops a.tmps) = true then Oper.wp Tryz.prog o a w K Q else E := by
  subst hdi
  have hwn : Region.wanted o (yielded ops a.tmps) = true := by simp [Region.wanted, hgd]
  rw [if_pos hwn]
  have hrun : (execOp a.eval o).run Tryz.prog w = .ok (.enter 61 #[.pointer (some ⟨R, 0, none⟩), v, .int .i64 (d : Int)]) w := by
    have hf : a.eval (.func 61) = .func (.func 61) #[] #[] := rfl
    obtain ⟨c, hc⟩ : ∃ c, Tryz.f61.body = some c := Option.isSome_iff_exists.1 (by kernel_rfl)
    have hne : ¬ Tryz.f61.name = "runtime.NumGoroutine" := of_decide_eq_false (by kernel_rfl)
    simp [execOp, ho, resolve, invoke, hp, hq, hr, hf, Deferred.ofValue, callFunc, hne, hc]
  unfold Oper.wp
  rw [hrun, Oper.upon_enter]
  refine (rd_closed R l x v t S d w hR hn hS hd hw hT).mono fun e w'' hh => ?_
  obtain ⟨v', rfl, h1, h2, h3⟩ := hh
  exact h v' w'' h1 h2 h3
theorem wp_append_raw (s y : Operand) (ho : o.op = .call { callee := .builtin .append, args := #[s, y], argTypes := #[26, 26] })
    (base : Nat) (v : Value) (n : Nat) (xs : List Value) (g c : Nat) (cs : Array Value) (hs : a.eval s = v) (hy : a.eval y = .slice (some ⟨g, 0, none⟩) 1 c) (hown : w.ownsRow base 41 5 v n xs)
    (hlit : w.heap[g]? = some (.cells cs 41)) (hcs : cs.size = 5) (h1 : ∀ u ∈ cs.toList, u.oneCell' = true) (hn : n + 1 ≤ 100000000) (hbase : base ≤ w.heap.size)
    (h : ∀ v' w', w'.ownsRow base 41 5 v' (n + 1) (xs ++ cs.toList) → w.grownBy w' v.ownBlock → (v'.ownBlock = v.ownBlock ∨ v'.ownBlock = some w.heap.size) → K (a.put o.dst v') w') : o.wp Tryz.prog a w K Q := by
  obtain ⟨i, hi, hz0, hz1, hz2⟩ := info_parts node_info
  have hnews : ∀ j u, cs.toList[j]? = some u → w.cell? (Addr.add ⟨g, 0, none⟩ j) = some u := fun j u hj => by
    rw [add_cell, Nat.zero_add, cell_of_row w g j cs _ _ hlit]; simpa using hj
  obtain ⟨v', w', hr, h2, h3, _, h4⟩ := run_append_own_at (P := Tryz.prog) w base 26 o.type 41 i _ 5 104 Tryz.underlying26 hi hz0 hz1 hz2 rfl (by omega) v n xs hown ⟨g, 0, none⟩ 1 c cs.toList (by simpa using hcs) hnews h1 (by unfold maxLen; omega) (Nat.le_trans (Nat.mul_le_mul_right _ hn) (by decide)) hbase
  unfold Oper.wp execOp
  simp only [ho, resolve, invoke, builtin, Sem.run_bind, Sem.run_pure, Result.andThen_ok, List.map_toArray, List.map_cons, List.map_nil, hs, hy, hr]
  exact h v' w' h2 h3 h4
theorem wpList_append_raw (hgd : o.guard = none) (s y : Operand) (ho : o.op = .call { callee := .builtin .append, args := #[s, y], argTypes := #[26, 26] })
    (base : Nat) (v : Value) (n : Nat) (xs : List Value) (g c : Nat) (cs : Array Value) (hs : a.eval s = v) (hy : a.eval y = .slice (some ⟨g, 0, none⟩) 1 c) (hown : w.ownsRow base 41 5 v n xs)
    (hlit : w.heap[g]? = some (.cells cs 41)) (hcs : cs.size = 5) (h1 : ∀ u ∈ cs.toList, u.oneCell' = true) (hn : n + 1 ≤ 100000000) (hbase : base ≤ w.heap.size)
    (h : ∀ v' w', w'.ownsRow base 41 5 v' (n + 1) (xs ++ cs.toList) → w.grownBy w' v.ownBlock → (v'.ownBlock = v.ownBlock ∨ v'.ownBlock = some w.heap.size) → wpList Tryz.prog ops Q rest (a.put o.dst v') w') : wpList Tryz.prog ops Q (o :: rest) a w :=
  wpList_plain hgd fun _ hK => wp_append_raw s y ho base v n xs g c cs hs hy hown hlit hcs h1 hn hbase fun v' w' h1 h2 h3 => hK _ _ (h v' w' h1 h2 h3)
theorem step_append_raw (hgd : o.guard = none) (s y : Operand) (ho : o.op = .call { callee := .builtin .append, args := #[s, y], argTypes := #[26, 26] })
    (base : Nat) (v : Value) (n : Nat) (xs : List Value) (g c : Nat) (cs : Array Value) (hs : a.eval s = v) (hy : a.eval y = .slice (some ⟨g, 0, none⟩) 1 c) (hown : w.ownsRow base 41 5 v n xs)
    (hlit : w.heap[g]? = some (.cells cs 41)) (hcs : cs.size = 5) (h1 : ∀ u ∈ cs.toList, u.oneCell' = true) (hn : n + 1 ≤ 100000000) (hbase : base ≤ w.heap.size)
    (h : ∀ v' w', w'.ownsRow base 41 5 v' (n + 1) (xs ++ cs.toList) → w.grownBy w' v.ownBlock → (v'.ownBlock = v.ownBlock ∨ v'.ownBlock = some w.heap.size) → K (a.put o.dst v') w') :
    if Region.wanted o (yielded ops a.tmps) = true then Oper.wp Tryz.prog o a w K Q else E := by
  have hw : Region.wanted o (yielded ops a.tmps) = true := by simp [Region.wanted, hgd]
  rw [if_pos hw]
  exact wp_append_raw s y ho base v n xs g c cs hs hy hown hlit hcs h1 hn hbase h
end

abbrev zeros5 : Array Value := #[.string ⟨#[]⟩, .string ⟨#[]⟩, .slice none 0 0, .slice none 0 0, .slice none 0 0]
/-- Five cells put at a place of a block. -/
def put5o (w : World) (g o : Nat) (v0 v1 v2 v3 v4 : Value) : World := ((((w.setCell ⟨g, o, none⟩ v0).setCell ⟨g, o + 1, none⟩ v1).setCell ⟨g, o + 2, none⟩ v2).setCell ⟨g, o + 3, none⟩ v3).setCell ⟨g, o + 4, none⟩ v4
theorem put5o_only (w : World) (g o : Nat) (v0 v1 v2 v3 v4 : Value) : OnlyR g w (put5o w g o v0 v1 v2 v3 v4) :=
  ((((OnlyR.set g o w v0).trans (OnlyR.set g (o + 1) _ v1)).trans (OnlyR.set g (o + 2) _ v2)).trans (OnlyR.set g (o + 3) _ v3)).trans (OnlyR.set g (o + 4) _ v4)
theorem put5o_size (w : World) (g o : Nat) (v0 v1 v2 v3 v4 : Value) : (put5o w g o v0 v1 v2 v3 v4).heap.size = w.heap.size := by simp [put5o, World.setCell]
theorem set_five (xs : List Value) (z0 z1 z2 z3 z4 a0 a1 a2 a3 a4 : Value) (o : Nat) (h : xs.length = o) :
    (((((xs ++ [z0, z1, z2, z3, z4]).set o a0).set (o + 1) a1).set (o + 2) a2).set (o + 3) a3).set (o + 4) a4 = xs ++ [a0, a1, a2, a3, a4] := by
  subst h
  have e : ∀ (ys : List Value) (j : Nat) (u : Value), (xs ++ ys).set (xs.length + j) u = xs ++ ys.set j u := fun ys j u => by
    rw [List.set_append_right _ _ (by omega)]
    rw [show xs.length + j - xs.length = j by omega]
  have e0 := e [z0, z1, z2, z3, z4] 0 a0
  rw [Nat.add_zero] at e0
  rw [e0, e, e, e, e]
  rfl
theorem own_put5 {w : World} {base G m c : Nat} {xs : List Value} {z0 z1 z2 z3 z4 : Value} (h : w.ownsRow base 41 5 (.slice (some ⟨G, 0, none⟩) (m + 1) c) (m + 1) (xs ++ [z0, z1, z2, z3, z4])) (hx : xs.length = m * 5) (a0 a1 a2 a3 a4 : Value) :
    (put5o w G (m * 5) a0 a1 a2 a3 a4).ownsRow base 41 5 (.slice (some ⟨G, 0, none⟩) (m + 1) c) (m + 1) (xs ++ [a0, a1, a2, a3, a4]) := by
  have h1 := (((((h.stored (m * 5) a0).1.stored (m * 5 + 1) a1).1.stored (m * 5 + 2) a2).1.stored (m * 5 + 3) a3).1.stored (m * 5 + 4) a4).1
  rw [set_five xs z0 z1 z2 z3 z4 a0 a1 a2 a3 a4 (m * 5) hx] at h1
  exact h1

theorem rd_ne_row {w : World} {R base : Nat} {l : List UInt8} {x : Bool} {v : Value} {n : Nat} {xs : List Value} (h : Rd w R l x) (ho : w.ownsRow base 41 5 v n xs) : ∀ g, v.ownBlock = some g → g ≠ R := by
  intro g hg e
  subst e
  rcases ho.2 with ⟨rfl, _⟩ | ⟨g', cap, cur, rfl, _, hh, _⟩
  · cases hg
  · have : g' = g := Option.some.inj hg
    subst this
    have h' : w.heap[g']? = some (.cells #[.string ⟨l.toArray⟩, .bool x] 92) := h
    rw [h'] at hh
    injection hh with hh; injection hh with _ hh _
    exact absurd hh (by decide)

/-- What lies in memory as a kid is appended to the innermost open node. -/
def KidMid (wr w : World) (own : Nat → Nat) (i R g : Nat) (cs : Array Value) (v : Value) (k : Tree) : Prop :=
  OnlyR R wr w ∧ (∃ S, Node w S v k ∧ ∀ b, S b → (Part wr own i b ∨ wr.heap.size ≤ b) ∧ b < w.heap.size ∧ b ≠ g) ∧ w.heap[g]? = some (.cells cs 41) ∧ wr.heap.size ≤ g

/-- The end of a round in which a kid came. -/
theorem kid_fin {wr w w' w4 : World} {base : Nat} {own : Nat → Nat} {O cap R g : Nat} {top : Tree} {st : List Tree} {vm va vk vk' : Value} {ys ks : List Value} {cs : Array Value} {k : Tree} {k2 k3 k4 : Value}
    (hop : OpenAt wr base own st.length vm va vk top) (hrow : wr.ownsRow base 41 5 (.slice (some ⟨O, 0, none⟩) (st.length + 1) cap) (st.length + 1) (ys ++ [.string top.kind, .string top.text, vm, va, vk]))
    (hoc : OC wr base own 0 st.reverse ys) (hys : ys.length = st.length * 5) (hO : own O = 0) (hOz : O < wr.heap.size) (hz : ∀ b, wr.heap.size ≤ b → own b = 0)
    (hR : own R = 0) (hOR : O ≠ R)
    (hmid : KidMid wr w own st.length R g cs (.agg #[.string k.kind, .string k.text, k2, k3, k4]) k)
    (hks : Cells wr (Part wr own st.length) top.kids ks)
    (hg : w.grownBy w' vk.ownBlock) (hat : vk'.ownBlock = vk.ownBlock ∨ vk'.ownBlock = some w.heap.size)
    (hsz : w4.heap.size = w'.heap.size) (hkeep : ∀ b, b < w'.heap.size → b ≠ O → some b ≠ vk'.ownBlock → w4.heap[b]? = w'.heap[b]?)
    (hO4 : w4.heap[O]? = (w'.setCell ⟨O, st.length * 5 + 4, none⟩ vk').heap[O]?)
    (hk4 : w4.ownsRow base 41 5 vk' (top.kids.length + 1) (ks ++ [.string k.kind, .string k.text, k2, k3, k4])) :
    ∃ own', Opens w4 base own' (.slice (some ⟨O, 0, none⟩) (st.length + 1) cap) (addKid top k :: st) ∧ ∀ b, b < wr.heap.size → own' b = own b := by
  obtain ⟨mo, ⟨S, mn, mS⟩, m3, m4⟩ := hmid
  have m1 := mo.size
  have m2 := mo.block
  have hvk : ∀ b, vk.ownBlock = some b → own b = 2 * st.length + 2 := hop.2.2.2
  have hvlt : ∀ b, vk.ownBlock = some b → b < wr.heap.size := fun b hb => (hop.2.2.1.lt b hb).2
  have hOvk : some O ≠ vk.ownBlock := fun e => by have := hvk O e.symm; omega
  have hvk' : ∀ b, b < wr.heap.size → vk'.ownBlock = some b → vk.ownBlock = some b := fun b hb e => by
    rcases hat with h | h
    · rw [← h]; exact e
    · rw [h] at e; have := Option.some.inj e; omega
  -- blocks of old but R, O and the kids' row
  have hall : ∀ b, b < wr.heap.size → own b ≠ 0 → some b ≠ vk.ownBlock → w4.heap[b]? = wr.heap[b]? := fun b hb h0 hv => by
    have hbO : b ≠ O := fun e => h0 (by rw [e]; exact hO)
    have hbR : b ≠ R := fun e => h0 (by rw [e]; exact hR)
    rw [hkeep b (by have := hg.size; omega) hbO fun e => hv (hvk' b hb e.symm).symm, hg.block b (by omega) hv, m2 b hb hbR]
  have hO' : w'.heap[O]? = wr.heap[O]? := by rw [hg.block O (by omega) hOvk, m2 O hOz hOR]
  obtain ⟨cur, hcur⟩ : ∃ cur, wr.heap[O]? = some (.cells cur 41) := by
    rcases hrow.2 with ⟨h1, _⟩ | ⟨g', c, cur, h1, _, h3, _⟩
    · cases h1
    · injection h1 with a1 _ _
      injection a1 with a1
      injection a1 with a1
      subst a1
      exact ⟨cur, h3⟩
  have hOset : w4.heap[O]? = (wr.setCell ⟨O, st.length * 5 + 4, none⟩ vk').heap[O]? := by
    rw [hO4, heap_setCell_same w' O _ cur _ vk' (hO'.trans hcur), heap_setCell_same wr O _ cur _ vk' hcur]
  have hSw : ∀ b, S b → w4.heap[b]? = w.heap[b]? := fun b hb => by
    obtain ⟨h1, h2, h3⟩ := mS b hb
    have hbO : b ≠ O := by
      rcases h1 with h1 | h1
      · intro e; subst e; have := h1.2; omega
      · omega
    have hbv : some b ≠ vk.ownBlock := by
      rcases h1 with h1 | h1
      · intro e; have := hvk b e.symm; have := h1.2; omega
      · intro e; have := hvlt b e.symm; omega
    have hbv' : some b ≠ vk'.ownBlock := by
      rcases hat with h | h
      · rw [h]; exact hbv
      · rw [h]; intro e; have := Option.some.inj e; omega
    rw [hkeep b (by have := hg.size; omega) hbO hbv', hg.block b h2 hbv]
  have hPw : ∀ b, Part wr own st.length b → w4.heap[b]? = wr.heap[b]? := fun b hb => hall b hb.1 (by rw [hb.2]; omega) fun e => by
    have := hvk b e.symm; have := hb.2; omega
  obtain ⟨um, ua, uk, ue, n1, n2, n3⟩ := mn
  injection ue with ue
  have ue2 : k2 = um ∧ k3 = ua ∧ k4 = uk := by simpa using ue
  obtain ⟨rfl, rfl, rfl⟩ := ue2
  refine Opens.pushKid hop hrow hoc hys hO hOz hz k vk' _ (fun b => Part wr own st.length b ∨ S b) (by have := hg.size; omega) hall hOset hk4 ((hks.keep (fun _ h => .inl h) hPw).append (Cells.one (n1.keep (fun _ h => .inr h) hSw) (n2.keep (fun _ h => .inr h) hSw) (n3.keep (fun _ h => .inr h) hSw))) (fun b e => ?_) fun b hb => ?_
  · rcases hat with h | h
    · exact .inl (by rw [← h]; exact e)
    · rw [h] at e; exact .inr (by have := Option.some.inj e; omega)
  · have hb2 : (Part wr own st.length b ∨ wr.heap.size ≤ b) ∧ b < w.heap.size := by
      rcases hb with hb | hb
      · exact ⟨.inl hb, by have := hb.1; omega⟩
      · exact ⟨(mS b hb).1, (mS b hb).2.1⟩
    refine ⟨?_, fun e => ?_⟩
    · rcases hb2.1 with h | h
      · exact .inl h
      · exact .inr ⟨h, by have := hb2.2; have := hg.size; omega⟩
    · rcases hat with h | h
      · rw [h] at e
        rcases hb2.1 with h1 | h1
        · have := hvk b e.symm; have := h1.2; omega
        · have := hvlt b e.symm; omega
      · rw [h] at e; have := Option.some.inj e; have := hb2.2; omega

/-- All that a round begins with. -/
structure Stage (w0 wr : World) (own : Nat → Nat) (O cap R : Nat) (top : Tree) (st : List Tree) (vm va vk : Value) (ys ks : List Value) : Prop where
  op : OpenAt wr w0.heap.size own st.length vm va vk top
  row : wr.ownsRow w0.heap.size 41 5 (.slice (some ⟨O, 0, none⟩) (st.length + 1) cap) (st.length + 1) (ys ++ [.string top.kind, .string top.text, vm, va, vk])
  oc : OC wr w0.heap.size own 0 st.reverse ys
  ysl : ys.length = st.length * 5
  oO : own O = 0
  Ob : w0.heap.size ≤ O
  Oz : O < wr.heap.size
  z : ∀ b, wr.heap.size ≤ b → own b = 0
  oR : own R = 0
  OR : O ≠ R
  ob : ∀ b, b < w0.heap.size → own b = 0
  B : Below w0.heap.size w0 wr
  bR : w0.heap.size ≤ R
  Rz : R < wr.heap.size
  kc : Cells wr (Part wr own st.length) top.kids ks
  kr : wr.ownsRow w0.heap.size 41 5 vk top.kids.length ks
/-- What a round ends with. -/
def Ready (w0 W : World) (R : Nat) (v : Value) (st : List Tree) (l : List UInt8) (x : Bool) : Prop :=
  ∃ own', Opens W w0.heap.size own' v st ∧ own' R = 0 ∧ (∀ b, b < w0.heap.size → own' b = 0) ∧ Rd W R l x ∧ Below w0.heap.size w0 W

section
variable {w0 wr w w3 : World} {own : Nat → Nat} {O cap R g G c3 : Nat} {top : Tree} {st : List Tree} {vm va vk k2 k3 k4 : Value} {ys ks : List Value} {cs : Array Value} {k : Tree} {l : List UInt8} {x : Bool}
theorem Stage.vkR (S : Stage w0 wr own O cap R top st vm va vk ys ks) : ∀ b, vk.ownBlock = some b → b ≠ R ∧ b ≠ O ∧ b < wr.heap.size ∧ w0.heap.size ≤ b := fun b e => by
  have h1 := S.op.2.2.2 b e
  have h2 := S.oR
  have h3 := S.oO
  have h4 := S.kr.lt b e
  refine ⟨?_, ?_, h4.2, h4.1⟩
  · intro h; subst h; omega
  · intro h; subst h; omega
theorem Stage.kids (S : Stage w0 wr own O cap R top st vm va vk ys ks) (o : OnlyR R wr w) : w.ownsRow w0.heap.size 41 5 vk top.kids.length ks :=
  ownsRow_block S.kr fun b e => o.block b (S.vkR b e).2.2.1 (S.vkR b e).1
theorem Stage.cellO (S : Stage w0 wr own O cap R top st vm va vk ys ks) (o : OnlyR R wr w) : w.cell? ⟨O, st.length * 5 + 4, none⟩ = some vk := by
  rw [World.cell?_of_block (a := ⟨O, st.length * 5 + 4, none⟩) (o.block O S.Oz S.OR), S.row.cellAt _ (by omega), List.getElem?_append_right (by rw [S.ysl]; omega), S.ysl, show st.length * 5 + 4 - st.length * 5 = 4 by omega]; rfl
theorem Stage.blockO (S : Stage w0 wr own O cap R top st vm va vk ys ks) (o : OnlyR R wr w) (hg : w.grownBy w3 vk.ownBlock) : w3.heap[O]? = wr.heap[O]? :=
  (hg.block O (Nat.lt_of_lt_of_le S.Oz o.size) fun e => (S.vkR O e.symm).2.1 rfl).trans (o.block O S.Oz S.OR)
theorem Stage.frozenO (S : Stage w0 wr own O cap R top st vm va vk ys ks) (h : w3.heap[O]? = wr.heap[O]?) : w3.frozen? ⟨O, st.length * 5 + 4, none⟩ = false :=
  (World.frozen?_of_block (a := ⟨O, st.length * 5 + 4, none⟩) h).trans (S.row.frozenAt _)
theorem Stage.neG (S : Stage w0 wr own O cap R top st vm va vk ys ks) (o : OnlyR R wr w) (hat : (some G : Option Nat) = vk.ownBlock ∨ (some G : Option Nat) = some w.heap.size) : G ≠ O ∧ G ≠ R ∧ w0.heap.size ≤ G := by
  have h1 := S.Oz
  have h2 := S.Rz
  have h3 := o.size
  have h4 := S.B.size
  rcases hat with h | h
  · have := S.vkR G h.symm; exact ⟨this.2.1, this.1, this.2.2.2⟩
  · have := Option.some.inj h; omega
/-- The end, whatever the order of the stores. -/
theorem Stage.fin (S : Stage w0 wr own O cap R top st vm va vk ys ks) (hmid : KidMid wr w own st.length R g cs (.agg #[.string k.kind, .string k.text, k2, k3, k4]) k) (hr : Rd w R l x)
    (hg : w.grownBy w3 vk.ownBlock) (hat : (some G : Option Nat) = vk.ownBlock ∨ (some G : Option Nat) = some w.heap.size) {w4 : World}
    (hsz : w4.heap.size = w3.heap.size) (hkeep : ∀ b, b ≠ O → b ≠ G → w4.heap[b]? = w3.heap[b]?) (hos : w4.os = w3.os) (htp : w4.tape = w3.tape) (hout : w4.output = w3.output)
    (hO4 : w4.heap[O]? = (w3.setCell ⟨O, st.length * 5 + 4, none⟩ (.slice (some ⟨G, 0, none⟩) (top.kids.length + 1) c3)).heap[O]?)
    (hk4 : w4.ownsRow w0.heap.size 41 5 (.slice (some ⟨G, 0, none⟩) (top.kids.length + 1) c3) (top.kids.length + 1) (ks ++ [.string k.kind, .string k.text, k2, k3, k4])) :
    Ready w0 w4 R (.slice (some ⟨O, 0, none⟩) (st.length + 1) cap) (addKid top k :: st) l x := by
  have o := hmid.1
  obtain ⟨n1, n2, n3⟩ := S.neG o hat
  obtain ⟨own', h1, h2⟩ := kid_fin (vk' := .slice (some ⟨G, 0, none⟩) (top.kids.length + 1) c3) S.op S.row S.oc S.ysl S.oO S.Oz S.z S.oR S.OR hmid S.kc hg hat hsz (fun b _ h1 h2 => hkeep b h1 fun e => h2 (by rw [e]; rfl)) hO4 hk4
  have hRw : R < w.heap.size := hr.lt
  have hb3 : w3.heap[R]? = w.heap[R]? := hg.block R hRw fun e => (S.vkR R e.symm).1 rfl
  refine ⟨own', h1, by rw [h2 R S.Rz]; exact S.oR, fun b hb => by rw [h2 b (Nat.lt_of_lt_of_le hb S.B.size)]; exact S.ob b hb, ?_, ?_⟩
  · show w4.heap[R]? = _
    rw [hkeep R (Ne.symm S.OR) (Ne.symm n2), hb3]; exact hr
  · have hB1 : Below w0.heap.size w0 w := S.B.trans (o.below S.bR S.B.size)
    refine hB1.trans ⟨hos.trans hg.os, htp.trans hg.tape, hout.trans hg.output, by rw [hsz]; exact hg.size, fun b hb => ?_⟩
    rw [hkeep b (by have := S.Ob; omega) (by omega)]
    exact hg.block b (Nat.lt_of_lt_of_le hb hB1.size) fun e => by have := S.vkR b e.symm; omega
/-- The node put behind the row, then the row put in its place. -/
theorem Stage.gc (S : Stage w0 wr own O cap R top st vm va vk ys ks) (hmid : KidMid wr w own st.length R g zeros5 (.agg #[.string k.kind, .string k.text, k2, k3, k4]) k) (hr : Rd w R l x)
    (hg : w.grownBy w3 vk.ownBlock) (hat : (some G : Option Nat) = vk.ownBlock ∨ (some G : Option Nat) = some w.heap.size)
    (ho : w3.ownsRow w0.heap.size 41 5 (.slice (some ⟨G, 0, none⟩) (top.kids.length + 1) c3) (top.kids.length + 1) (ks ++ zeros5.toList)) :
    Ready w0 ((put5o w3 G (top.kids.length * 5) (.string k.kind) (.string k.text) k2 k3 k4).setCell ⟨O, st.length * 5 + 4, none⟩ (.slice (some ⟨G, 0, none⟩) (top.kids.length + 1) c3)) R (.slice (some ⟨O, 0, none⟩) (st.length + 1) cap) (addKid top k :: st) l x := by
  obtain ⟨n1, n2, n3⟩ := S.neG hmid.1 hat
  have p := put5o_only w3 G (top.kids.length * 5) (.string k.kind) (.string k.text) k2 k3 k4
  have hO3 := S.blockO hmid.1 hg
  have hpO := p.block O (by have := S.Oz; have := hmid.1.size; have := hg.size; omega) (Ne.symm n1)
  have hp := own_put5 ho S.kc.length (.string k.kind) (.string k.text) k2 k3 k4
  have hps := put5o_size w3 G (top.kids.length * 5) (.string k.kind) (.string k.text) k2 k3 k4
  obtain ⟨cur, hcur⟩ : ∃ cur, wr.heap[O]? = some (.cells cur 41) := by
    rcases S.row.2 with ⟨h1, _⟩ | ⟨g', c, cur, h1, _, h3, _⟩
    · cases h1
    · injection h1 with a1 _ _
      injection a1 with a1
      injection a1 with a1
      subst a1
      exact ⟨cur, h3⟩
  generalize put5o w3 G (top.kids.length * 5) (.string k.kind) (.string k.text) k2 k3 k4 = W' at *
  have hother : ∀ b, b ≠ G → W'.heap[b]? = w3.heap[b]? := fun b hb => by
    by_cases hlt : b < w3.heap.size
    · exact p.block b hlt hb
    · rw [Array.getElem?_eq_none (by omega), Array.getElem?_eq_none (by omega)]
  have q := OnlyR.set O (st.length * 5 + 4) W' (.slice (some ⟨G, 0, none⟩) (top.kids.length + 1) c3)
  have hq4 := heap_setCell_same W' O (st.length * 5 + 4) cur _ (.slice (some ⟨G, 0, none⟩) (top.kids.length + 1) c3) (hpO.trans (hO3.trans hcur))
  have hq5 := heap_setCell_same w3 O (st.length * 5 + 4) cur _ (.slice (some ⟨G, 0, none⟩) (top.kids.length + 1) c3) (hO3.trans hcur)
  have hqz : (W'.setCell ⟨O, st.length * 5 + 4, none⟩ (.slice (some ⟨G, 0, none⟩) (top.kids.length + 1) c3)).heap.size = W'.heap.size := by simp [World.setCell]
  have hqo : ∀ b, b ≠ O → (W'.setCell ⟨O, st.length * 5 + 4, none⟩ (.slice (some ⟨G, 0, none⟩) (top.kids.length + 1) c3)).heap[b]? = W'.heap[b]? := fun b hb => Below.heap_setCell _ _ _ _ hb
  have hqr : (W'.setCell ⟨O, st.length * 5 + 4, none⟩ (.slice (some ⟨G, 0, none⟩) (top.kids.length + 1) c3)).ownsRow w0.heap.size 41 5 (.slice (some ⟨G, 0, none⟩) (top.kids.length + 1) c3) (top.kids.length + 1) (ks ++ [.string k.kind, .string k.text, k2, k3, k4]) :=
    ownsRow_block hp fun b e => hqo b (by have := Option.some.inj e; subst this; exact n1)
  generalize W'.setCell ⟨O, st.length * 5 + 4, none⟩ (.slice (some ⟨G, 0, none⟩) (top.kids.length + 1) c3) = W4 at *
  exact S.fin hmid hr hg hat (by omega) (fun b h1 h2 => (hqo b h1).trans (hother b h2)) (q.os.trans p.os) (q.tape.trans p.tape) (q.output.trans p.output) (hq4.trans hq5.symm) hqr
/-- The row put in its place, then the node put behind it. -/
theorem Stage.text (S : Stage w0 wr own O cap R top st vm va vk ys ks) (hmid : KidMid wr w own st.length R g zeros5 (.agg #[.string k.kind, .string k.text, k2, k3, k4]) k) (hr : Rd w R l x)
    (hg : w.grownBy w3 vk.ownBlock) (hat : (some G : Option Nat) = vk.ownBlock ∨ (some G : Option Nat) = some w.heap.size)
    (ho : w3.ownsRow w0.heap.size 41 5 (.slice (some ⟨G, 0, none⟩) (top.kids.length + 1) c3) (top.kids.length + 1) (ks ++ zeros5.toList)) :
    Ready w0 (put5o (w3.setCell ⟨O, st.length * 5 + 4, none⟩ (.slice (some ⟨G, 0, none⟩) (top.kids.length + 1) c3)) G (top.kids.length * 5) (.string k.kind) (.string k.text) k2 k3 k4) R (.slice (some ⟨O, 0, none⟩) (st.length + 1) cap) (addKid top k :: st) l x := by
  obtain ⟨n1, n2, n3⟩ := S.neG hmid.1 hat
  have ho' : (w3.setCell ⟨O, st.length * 5 + 4, none⟩ (.slice (some ⟨G, 0, none⟩) (top.kids.length + 1) c3)).ownsRow w0.heap.size 41 5 (.slice (some ⟨G, 0, none⟩) (top.kids.length + 1) c3) (top.kids.length + 1) (ks ++ zeros5.toList) :=
    ownsRow_block ho fun b e => Below.heap_setCell _ _ _ _ (by have := Option.some.inj e; subst this; exact n1)
  have hz3 : (w3.setCell ⟨O, st.length * 5 + 4, none⟩ (.slice (some ⟨G, 0, none⟩) (top.kids.length + 1) c3)).heap.size = w3.heap.size := by simp [World.setCell]
  have hoth : ∀ b, b ≠ O → (w3.setCell ⟨O, st.length * 5 + 4, none⟩ (.slice (some ⟨G, 0, none⟩) (top.kids.length + 1) c3)).heap[b]? = w3.heap[b]? := fun b hb => Below.heap_setCell _ _ _ _ hb
  have hOz : O < w3.heap.size := by have := S.Oz; have := hmid.1.size; have := hg.size; omega
  have hot : (w3.setCell ⟨O, st.length * 5 + 4, none⟩ (.slice (some ⟨G, 0, none⟩) (top.kids.length + 1) c3)).os = w3.os ∧ (w3.setCell ⟨O, st.length * 5 + 4, none⟩ (.slice (some ⟨G, 0, none⟩) (top.kids.length + 1) c3)).tape = w3.tape ∧ (w3.setCell ⟨O, st.length * 5 + 4, none⟩ (.slice (some ⟨G, 0, none⟩) (top.kids.length + 1) c3)).output = w3.output := ⟨rfl, rfl, rfl⟩
  have key : ∀ W' : World, W' = w3.setCell ⟨O, st.length * 5 + 4, none⟩ (.slice (some ⟨G, 0, none⟩) (top.kids.length + 1) c3) → Ready w0 (put5o W' G (top.kids.length * 5) (.string k.kind) (.string k.text) k2 k3 k4) R (.slice (some ⟨O, 0, none⟩) (st.length + 1) cap) (addKid top k :: st) l x := by
    intro W' hW'
    rw [← hW'] at ho' hz3 hoth hot
    have p := put5o_only W' G (top.kids.length * 5) (.string k.kind) (.string k.text) k2 k3 k4
    have hp := own_put5 ho' S.kc.length (.string k.kind) (.string k.text) k2 k3 k4
    have hps := put5o_size W' G (top.kids.length * 5) (.string k.kind) (.string k.text) k2 k3 k4
    refine S.fin hmid hr hg hat (by rw [hps, hz3]) (fun b h1 h2 => ?_) (p.os.trans hot.1) (p.tape.trans hot.2.1) (p.output.trans hot.2.2) ?_ hp
    · by_cases hlt : b < W'.heap.size
      · exact (p.block b hlt h2).trans (hoth b h1)
      · rw [Array.getElem?_eq_none (by omega), Array.getElem?_eq_none (by omega)]
    · rw [p.block O (by omega) (Ne.symm n1), hW']
  exact key _ rfl
/-- The row put in its place, the node in it already. -/
theorem Stage.plain (S : Stage w0 wr own O cap R top st vm va vk ys ks) (hmid : KidMid wr w own st.length R g cs (.agg #[.string k.kind, .string k.text, k2, k3, k4]) k) (hr : Rd w R l x)
    (hg : w.grownBy w3 vk.ownBlock) (hat : (some G : Option Nat) = vk.ownBlock ∨ (some G : Option Nat) = some w.heap.size)
    (ho : w3.ownsRow w0.heap.size 41 5 (.slice (some ⟨G, 0, none⟩) (top.kids.length + 1) c3) (top.kids.length + 1) (ks ++ [.string k.kind, .string k.text, k2, k3, k4])) :
    Ready w0 (w3.setCell ⟨O, st.length * 5 + 4, none⟩ (.slice (some ⟨G, 0, none⟩) (top.kids.length + 1) c3)) R (.slice (some ⟨O, 0, none⟩) (st.length + 1) cap) (addKid top k :: st) l x := by
  obtain ⟨n1, n2, n3⟩ := S.neG hmid.1 hat
  refine S.fin hmid hr hg hat (by simp [World.setCell]) (fun b h1 _ => Below.heap_setCell _ _ _ _ h1) rfl rfl rfl rfl ?_
  exact ownsRow_block ho fun b e => Below.heap_setCell _ _ _ _ (by have := Option.some.inj e; subst this; exact n1)
end

section
variable {w0 wr w w3 : World} {own : Nat → Nat} {O cap R g G c3 : Nat} {top : Tree} {st : List Tree} {vm va vk k2 k3 k4 : Value} {ys ks : List Value} {k : Tree} {l : List UInt8} {x : Bool}
theorem Stage.gcX (S : Stage w0 wr own O cap R top st vm va vk ys ks) (hmid : KidMid wr w own st.length R g zeros5 (.agg #[.string k.kind, .string k.text, k2, k3, k4]) k) (hr : Rd w R l x)
    (hg : w.grownBy w3 vk.ownBlock) (hat : (some G : Option Nat) = vk.ownBlock ∨ (some G : Option Nat) = some w.heap.size)
    (ho : w3.ownsRow w0.heap.size 41 5 (.slice (some ⟨G, 0, none⟩) (top.kids.length + 1) c3) (top.kids.length + 1) (ks ++ zeros5.toList)) :
    Ready w0 ((((((w3.setCell ⟨G, top.kids.length * 5, none⟩ (.string k.kind)).setCell ⟨G, top.kids.length * 5 + 1, none⟩ (.string k.text)).setCell ⟨G, top.kids.length * 5 + 2, none⟩ k2).setCell ⟨G, top.kids.length * 5 + 3, none⟩ k3).setCell ⟨G, top.kids.length * 5 + 4, none⟩ k4).setCell ⟨O, st.length * 5 + 4, none⟩ (.slice (some ⟨G, 0, none⟩) (top.kids.length + 1) c3)) R (.slice (some ⟨O, 0, none⟩) (st.length + 1) cap) (addKid top k :: st) l x :=
  S.gc hmid hr hg hat ho
theorem Stage.textX (S : Stage w0 wr own O cap R top st vm va vk ys ks) (hmid : KidMid wr w own st.length R g zeros5 (.agg #[.string k.kind, .string k.text, k2, k3, k4]) k) (hr : Rd w R l x)
    (hg : w.grownBy w3 vk.ownBlock) (hat : (some G : Option Nat) = vk.ownBlock ∨ (some G : Option Nat) = some w.heap.size)
    (ho : w3.ownsRow w0.heap.size 41 5 (.slice (some ⟨G, 0, none⟩) (top.kids.length + 1) c3) (top.kids.length + 1) (ks ++ zeros5.toList)) :
    Ready w0 ((((((w3.setCell ⟨O, st.length * 5 + 4, none⟩ (.slice (some ⟨G, 0, none⟩) (top.kids.length + 1) c3)).setCell ⟨G, top.kids.length * 5, none⟩ (.string k.kind)).setCell ⟨G, top.kids.length * 5 + 1, none⟩ (.string k.text)).setCell ⟨G, top.kids.length * 5 + 2, none⟩ k2).setCell ⟨G, top.kids.length * 5 + 3, none⟩ k3).setCell ⟨G, top.kids.length * 5 + 4, none⟩ k4) R (.slice (some ⟨O, 0, none⟩) (st.length + 1) cap) (addKid top k :: st) l x :=
  S.text hmid hr hg hat ho
theorem hat_form {G n c : Nat} {X Y : Option Nat} (h : (Value.slice (some ⟨G, 0, none⟩) n c).ownBlock = X ∨ (Value.slice (some ⟨G, 0, none⟩) n c).ownBlock = Y) : (some G : Option Nat) = X ∨ (some G : Option Nat) = Y := h
end

theorem mid_after {wr W w2 : World} {own : Nat → Nat} {i R : Nat} {v : Value} {k : Tree} (hW : W.heap = wr.heap) (ho : OnlyR R wr W) (hn : Node w2 (From W.heap.size w2.heap.size) v k) (o : OnlyR R W w2) (cs : Array Value) :
    KidMid wr (w2.alloc (.cells cs 41)) own i R w2.heap.size cs v k := by
  have hb : Below w2.heap.size w2 (w2.alloc (.cells cs 41)) := (Below.refl _ _).alloc (Nat.le_refl _) _
  have hz : (w2.alloc (.cells cs 41)).heap.size = w2.heap.size + 1 := by simp
  have ho2 := ho.trans o
  refine ⟨ho2.thenBelow hb ho2.size, ⟨From W.heap.size w2.heap.size, hn.keep (fun _ h => h) fun b hb' => hb.block b hb'.2, fun b hb' => ⟨.inr (by rw [← hW]; exact hb'.1), by have := hb'.2; omega, by have := hb'.2; omega⟩⟩, heap_alloc_new _ _, ho2.size⟩
theorem mid_before {wr W w2 : World} {own : Nat → Nat} {i R : Nat} {v : Value} {k : Tree} {cs : Array Value} (hW : W.heap = (wr.alloc (.cells cs 41)).heap) (hos : W.os = wr.os) (htp : W.tape = wr.tape) (hou : W.output = wr.output) (hR : R < wr.heap.size) (hn : Node w2 (From W.heap.size w2.heap.size) v k) (o : OnlyR R W w2) :
    KidMid wr w2 own i R wr.heap.size cs v k := by
  have hz : W.heap.size = wr.heap.size + 1 := by rw [hW]; simp
  have ho : OnlyR R wr W := ⟨hos, htp, hou, by omega, fun b hb _ => by rw [hW]; exact ((Below.refl wr.heap.size wr).alloc (Nat.le_refl _) (.cells cs 41)).block b hb⟩
  refine ⟨ho.trans o, ⟨From W.heap.size w2.heap.size, hn, fun b hb' => ⟨.inr (by have := hb'.1; omega), hb'.2, by have := hb'.1; omega⟩⟩, ?_, by omega⟩
  rw [o.block _ (by omega) (by omega), hW]; exact heap_alloc_new _ _
theorem mid_after2 {wr W w2 : World} {own : Nat → Nat} {i R : Nat} {v : Value} {k : Tree} (ho : OnlyR R wr W) (hn : Node w2 (Part wr own i) v k) (o : OnlyR R W w2) (cs : Array Value) :
    KidMid wr (w2.alloc (.cells cs 41)) own i R w2.heap.size cs v k := by
  have hb : Below w2.heap.size w2 (w2.alloc (.cells cs 41)) := (Below.refl _ _).alloc (Nat.le_refl _) _
  have hz : (w2.alloc (.cells cs 41)).heap.size = w2.heap.size + 1 := by simp
  have ho2 := ho.trans o
  have hs := ho2.size
  refine ⟨ho2.thenBelow hb ho2.size, ⟨Part wr own i, hn.keep (fun _ h => h) fun b hb' => hb.block b (by have := hb'.1; omega), fun b hb' => ⟨.inl hb', by have := hb'.1; omega, by have := hb'.1; omega⟩⟩, heap_alloc_new _ _, ho2.size⟩
theorem mid_before2 {wr W w2 : World} {own : Nat → Nat} {i R : Nat} {v : Value} {k : Tree} {cs : Array Value} (hW : W.heap = (wr.alloc (.cells cs 41)).heap) (hos : W.os = wr.os) (htp : W.tape = wr.tape) (hou : W.output = wr.output) (hR : R < wr.heap.size) (hn : Node w2 (Part wr own i) v k) (o : OnlyR R W w2) :
    KidMid wr w2 own i R wr.heap.size cs v k := by
  have hz : W.heap.size = wr.heap.size + 1 := by rw [hW]; simp
  have ho : OnlyR R wr W := ⟨hos, htp, hou, by omega, fun b hb _ => by rw [hW]; exact ((Below.refl wr.heap.size wr).alloc (Nat.le_refl _) (.cells cs 41)).block b hb⟩
  have hs := o.size
  refine ⟨ho.trans o, ⟨Part wr own i, hn, fun b hb' => ⟨.inl hb', by have := hb'.1; omega, by have := hb'.1; omega⟩⟩, ?_, by omega⟩
  rw [o.block _ (by omega) (by omega), hW]; exact heap_alloc_new _ _
/-- The end of a round in which a node was opened. -/
theorem ready_open {w0 wr w w3 : World} {own : Nat → Nat} {R g : Nat} {v v' va : Value} {st : List Tree} {xs : List Value} {k : Tree} {l : List UInt8} {x : Bool} {S : Nat → Prop}
    (hO : Opens wr w0.heap.size own v st) (hrow : wr.ownsRow w0.heap.size 41 5 v st.length xs) (hoc : OC wr w0.heap.size own 0 st.reverse xs) (hR : own R = 0) (hob : ∀ b, b < w0.heap.size → own b = 0) (hB : Below w0.heap.size w0 wr) (hbR : w0.heap.size ≤ R) (hvR : ∀ b, v.ownBlock = some b → b ≠ R) (hRz : R < wr.heap.size)
    (o : OnlyR R wr w) (hr : Rd w R l x) (hva : Pairs w S va k.attrs) (hS : ∀ b, S b → wr.heap.size ≤ b ∧ b < w.heap.size ∧ b ≠ g) (hkm : k.marks = []) (hkk : k.kids = [])
    (h3 : w3.ownsRow w0.heap.size 41 5 v' (st.length + 1) (xs ++ [.string k.kind, .string k.text, .slice none 0 0, va, .slice none 0 0])) (hg : w.grownBy w3 v.ownBlock) (hat : v'.ownBlock = v.ownBlock ∨ v'.ownBlock = some w.heap.size) :
    Ready w0 w3 R v' (k :: st) l x := by
  have hvb : ∀ b, v.ownBlock = some b → w0.heap.size ≤ b ∧ b < wr.heap.size := hrow.lt
  have hsz := o.size
  have hgz := hg.size
  have hblk : ∀ b, b < wr.heap.size → b ≠ R → some b ≠ v.ownBlock → w3.heap[b]? = wr.heap[b]? := fun b hb h1 h2 => (hg.block b (by omega) h2).trans (o.block b hb h1)
  have hvb' : ∀ b, S b → some b ≠ v.ownBlock := fun b hb e => by have := hvb b e.symm; have := hS b hb; omega
  obtain ⟨own', h1, h2⟩ := Opens.pushOpen (v := v) (k := k) (w4 := w3) hoc hO.2.1 hO.2.2 (by omega) (fun b hb h0 => hblk b hb (fun e => h0 (by rw [e]; exact hR)) fun e => h0 (hO.2.1 b e.symm)) h3 hkm hkk S (hva.keep (fun _ h => h) fun b hb => hg.block b (hS b hb).2.1 (hvb' b hb))
    (fun b hb => ⟨⟨(hS b hb).1, by have := (hS b hb).2.1; omega⟩, fun e => by
      rcases hat with h | h
      · rw [h] at e; exact hvb' b hb e
      · rw [h] at e; have := Option.some.inj e; have := (hS b hb).2.1; omega⟩)
    (fun b e => by
      rcases hat with h | h
      · exact .inl (by rw [← h]; exact e)
      · rw [h] at e; exact .inr (by have := Option.some.inj e; omega))
  refine ⟨own', h1, by rw [h2 R hRz]; exact hR, fun b hb => by rw [h2 b (Nat.lt_of_lt_of_le hb hB.size)]; exact hob b hb, ?_, ?_⟩
  · show w3.heap[R]? = _
    rw [hg.block R hr.lt fun e => hvR R e.symm rfl]; exact hr
  · have hB1 : Below w0.heap.size w0 w := hB.trans (o.below hbR hB.size)
    exact hB1.trans ⟨hg.os, hg.tape, hg.output, hg.size, fun b hb => hg.block b (Nat.lt_of_lt_of_le hb hB1.size) fun e => by have := hvb b e.symm; omega⟩
end Go.Proofs.YtggoebbfgkebcaaGreatDoor
