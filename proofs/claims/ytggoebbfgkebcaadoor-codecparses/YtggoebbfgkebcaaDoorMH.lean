/-
  What was read is what is written of it: texts and heads. Plain facts.
  What was read without fault, and is right, is what is written of it: the reader's loop. Plain facts.
  Parse told by what is written: a text is one node just if it is what is written of a formed one; what is too deep is told so. Plain facts.
  The document's reader: its steps in a region that draws its order, the variable of a node, rows of nodes.
  The document's reader: nodes, from node.
  The document's reader: what a node is, part by part. Plain facts.
-/
import Derived.Test.YtggoebbfgkebcaaDoorMF
import Derived.Test.YtggoebbfgkebcaaDoorMG
import Derived.Test.YtggoebbfgkebcaaDoorME
namespace Go.Proofs.YtggoebbfgkebcaaDoor
open Go.RowKit Go.Sort Go.Maps

theorem unq_inv : ∀ (n : Nat) (l s r : List UInt8), l.length ≤ n → unq l = some (s, r) → l = escL s ++ 34 :: r
  | n, [], s, r, _, h => by simp [unq] at h
  | 0, _ :: _, _, _, hn, _ => by simp at hn
  | n + 1, c :: l, s, r, hn, h => by
    rw [List.length_cons] at hn
    by_cases h1 : c = 34
    · subst h1
      rw [unq_q] at h
      injection h with h
      injection h with h1 h2
      subst h1; subst h2
      rfl
    · by_cases h2 : c = 92
      · subst h2
        cases l with
        | nil => rw [unq_s1] at h; cases h
        | cons d l =>
          rw [unq_s] at h
          split at h
          · rename_i hd
            cases hq : unq l with
            | none => rw [hq] at h; cases h
            | some p =>
              rw [hq] at h
              injection h with h
              injection h with h3 h4
              subst h3; subst h4
              have := unq_inv n l p.1 p.2 (by simp only [List.length_cons] at hn; omega) hq
              rw [this]
              show _ = escL (d :: p.1) ++ _
              rw [escL, if_pos hd]; simp
          · cases h
      · have e1 : (c == 34) = false := beq_eq_false_iff_ne.2 h1
        have e2 : (c == 92) = false := beq_eq_false_iff_ne.2 h2
        have hu : unq (c :: l) = (unq l).map (fun p => (c :: p.1, p.2)) := by rw [unq.eq_def]; simp [e1, e2]
        rw [hu] at h
        cases hq : unq l with
        | none => rw [hq] at h; cases h
        | some p =>
          rw [hq] at h
          injection h with h
          injection h with h3 h4
          subst h3; subst h4
          have := unq_inv n l p.1 p.2 (by omega) hq
          rw [this]
          show _ = escL (c :: p.1) ++ _
          rw [escL, e1, e2]; simp
theorem want_inv {p l : List UInt8} (h : Lib.hasPrefix l p = true) : l = p ++ wantL p l := by
  unfold wantL; rw [if_pos h]
  obtain ⟨t, ht⟩ := List.isPrefixOf_iff_prefix.1 h
  rw [← ht]; simp
theorem qL_inv {l s r : List UInt8} (h : qL l = some (s, r)) : l = quoteL s ++ r := by
  unfold qL at h
  have hp : Lib.hasPrefix l [34] = true := by
    cases hp : Lib.hasPrefix l [34] with
    | true => rfl
    | false => unfold wantL at h; rw [hp] at h; simp [unq] at h
  have h1 := want_inv hp
  have h2 := unq_inv _ _ s r (Nat.le_refl _) h
  rw [h1, h2]; simp [quoteL]
theorem quo_inv {l r : List UInt8} (h : (quoL l).2 = some r) : l = quoteL (quoL l).1.data.toList ++ r := by
  cases hq : qL l with
  | none => unfold quoL at h; rw [hq] at h; cases h
  | some p =>
    have h1 := qL_inv (s := p.1) (r := p.2) hq
    have e : quoL l = (⟨p.1.toArray⟩, some p.2) := by unfold quoL; rw [hq]
    rw [e] at h ⊢
    injection h with h
    rw [← h]; simpa using h1
theorem names_inv (l : List UInt8) : l = ((restNames l).1.flatMap fun x => 44 :: x.data.toList) ++ (restNames l).2 := by
  cases l with
  | nil => rw [restNames.eq_def]; rfl
  | cons c r =>
    rw [restNames.eq_def]
    split
    · rename_i hc
      simp at hc
    · rename_i c' r' he
      injection he with h1 h2
      subst h1; subst h2
      by_cases h44 : (c == 44) = true
      · rw [if_pos h44]
        have ih := names_inv (r.dropWhile small)
        have e : c = 44 := by simpa using h44
        subst e
        simp only [List.flatMap_cons, List.cons_append, List.append_assoc]
        rw [← ih]
        simp
      · rw [if_neg h44]; rfl
termination_by l.length
decreasing_by
  have := drops_le r
  simp only [List.length_cons]; omega
theorem comma_flat : ∀ (x : ByteArray) (m : List ByteArray), commaM (x :: m) = x.data.toList ++ m.flatMap fun x => 44 :: x.data.toList
  | x, [] => by simp [commaM]
  | x, y :: m => by
    show x.data.toList ++ 44 :: commaM (y :: m) = _
    rw [comma_flat y m]; simp
theorem marks_inv {l : List UInt8} (h : (marksL l).2.2 = true) : l = marksW (marksL l).1 ++ (marksL l).2.1 := by
  unfold marksL at h ⊢
  split
  · rename_i hp
    rw [if_pos hp] at h
    simp only at h ⊢
    have h1 := want_inv hp
    have h2 := names_inv ((l.drop 1).dropWhile small)
    have h3 := want_inv h
    have e0 : l = 60 :: l.drop 1 := by unfold wantL at h1; rw [if_pos hp] at h1; simpa using h1
    have e1 : l.drop 1 = (l.drop 1).takeWhile small ++ (l.drop 1).dropWhile small := (List.takeWhile_append_dropWhile).symm
    rw [marksW, if_neg (by simp), comma_flat]
    conv => lhs; rw [e0, e1, h2, h3]
    simp
  · simp [marksW]
theorem attr_inv {l r : List UInt8} (h : (attrL l).2 = some r) : l = attrW (attrL l).1 ++ r := by
  unfold attrL at h ⊢
  simp only at h ⊢
  have h1 := quo_inv h
  have hp : Lib.hasPrefix (l.dropWhile small) [61] = true := by
    cases hp : Lib.hasPrefix (l.dropWhile small) [61] with
    | true => rfl
    | false =>
      unfold wantL at h; rw [hp] at h
      simp [quoL, qL, wantL, Lib.hasPrefix, unq] at h
  have h2 := want_inv hp
  have e1 : l = l.takeWhile small ++ l.dropWhile small := (List.takeWhile_append_dropWhile).symm
  unfold attrW
  conv => lhs; rw [e1, h2, h1]
  simp
theorem pre_drop {l : List UInt8} {c : UInt8} (h : Lib.hasPrefix l [c] = true) : l = c :: l.drop 1 := by
  have h1 := want_inv h
  unfold wantL at h1; rw [if_pos h] at h1; simpa using h1
theorem restAttrs_inv (l : List UInt8) (h : (restAttrs l).2.2 = false) : l = ((restAttrs l).1.flatMap fun p => 32 :: attrW p) ++ (restAttrs l).2.1 := by
  rw [restAttrs.eq_def] at h ⊢
  split
  · rename_i hp
    rw [dif_pos hp] at h
    simp only [Bool.or_eq_false_iff] at h ⊢
    obtain ⟨h1, h2⟩ := h
    cases hq : (attrL (l.drop 1)).2 with
    | none => rw [hq] at h1; cases h1
    | some r =>
      rw [hq] at h2
      have e1 := attr_inv hq
      have e0 := pre_drop hp
      have hlt : r.length < l.length := by
        have := congrArg List.length e1
        rw [List.length_append] at this
        have h3 := congrArg List.length e0
        rw [List.length_cons] at h3
        omega
      have ih := restAttrs_inv r h2
      rw [show (some r).getD [] = r from rfl]
      conv => lhs; rw [e0, e1, ih]
      simp
  · simp
termination_by l.length
theorem blank_flat : ∀ (x : ByteArray × ByteArray) (m : List (ByteArray × ByteArray)), blankA (x :: m) = attrW x ++ m.flatMap fun p => 32 :: attrW p
  | x, [] => by simp [blankA]
  | x, y :: m => by
    show attrW x ++ 32 :: blankA (y :: m) = _
    rw [blank_flat y m]; simp
theorem attrs_inv {l : List UInt8} (h : (attrsL l).2.2 = false) : l = attrsW (attrsL l).1 ++ (attrsL l).2.1 := by
  unfold attrsL at h ⊢
  split
  · rename_i hp
    rw [if_pos hp] at h
    simp only [Bool.or_eq_false_iff] at h ⊢
    obtain ⟨⟨h1, h2⟩, h3⟩ := h
    cases hq : (attrL (l.drop 1)).2 with
    | none => rw [hq] at h1; cases h1
    | some r =>
      rw [hq] at h2 h3
      rw [show (some r).getD [] = r from rfl] at h2 h3 ⊢
      have e1 := attr_inv hq
      have e0 := pre_drop hp
      have e2 := restAttrs_inv r h2
      have e3 := want_inv (p := [41]) (l := (restAttrs r).2.1) (by simpa using h3)
      rw [attrsW, if_neg (by simp), blank_flat]
      conv => lhs; rw [e0, e1, e2, e3]
      simp
  · simp [attrsW]
/-- A text that was read without fault. -/
theorem text_inv {l : List UInt8} (h : (textL l).2.2 = false) : l = quoteL (textL l).1.text.data.toList ++ (marksW (textL l).1.marks ++ (textL l).2.1) := by
  unfold textL at h ⊢
  simp only [Bool.or_eq_false_iff] at h
  obtain ⟨h1, h2⟩ := h
  cases hq : (quoL l).2 with
  | none => rw [hq] at h1; cases h1
  | some r =>
    rw [hq] at h2
    rw [show (some r).getD [] = r from rfl] at h2 ⊢
    have e1 := quo_inv hq
    have e2 := marks_inv (l := r) (by simpa using h2)
    simp only [Tree.text, Tree.marks]
    rw [← e2]
    exact e1
/-- A head that was read without fault. -/
theorem head_inv {l : List UInt8} (h : (headL l).2.2 = false) : l = (headL l).1.kind.data.toList ++ (attrsW (headL l).1.attrs ++ 91 :: (headL l).2.1) := by
  unfold headL at h ⊢
  simp only [Bool.or_eq_false_iff] at h
  obtain ⟨h1, h2⟩ := h
  have e1 := attrs_inv h1
  have e2 := want_inv (p := [91]) (l := (attrsL (l.dropWhile small)).2.1) (by simpa using h2)
  have e0 : l = l.takeWhile small ++ l.dropWhile small := (List.takeWhile_append_dropWhile).symm
  simp only [Tree.kind, Tree.attrs]
  conv => lhs; rw [e0, e1, e2]
  simp
end Go.Proofs.YtggoebbfgkebcaaDoor

namespace Go.Proofs.YtggoebbfgkebcaaDoor
open Go.RowKit Go.Sort Go.Maps

/-- What has been read of the open nodes (the innermost ahead, the last one the root). -/
def openW : List Tree → List UInt8
  | [] => []
  | [root] => writeAllB root.kids
  | top :: up :: st => openW (up :: st) ++ (top.kind.data.toList ++ (attrsW top.attrs ++ 91 :: writeAllB top.kids))
/-- No open node lies, or leads, too deep. -/
def levelOK : List Tree → Prop
  | [] => True
  | top :: st => st.length + deepB top.kids ≤ 40 ∧ levelOK st
theorem openW_kid : ∀ (top : Tree) (st : List Tree) (k : Tree), openW (addKid top k :: st) = openW (top :: st) ++ writeB k
  | top, [], k => by
    show writeAllB (top.kids ++ [k]) = writeAllB top.kids ++ writeB k
    rw [writeAllB_append]; simp [writeAllB]
  | top, up :: st, k => by
    show openW (up :: st) ++ (top.kind.data.toList ++ (attrsW top.attrs ++ 91 :: writeAllB (top.kids ++ [k]))) = (openW (up :: st) ++ (top.kind.data.toList ++ (attrsW top.attrs ++ 91 :: writeAllB top.kids))) ++ writeB k
    rw [writeAllB_append]; simp [writeAllB]
theorem readN_wrong : ∀ (n : Nat) (l : List UInt8) (st : List Tree), (readN n l true st).2 = true
  | 0, _, _ => rfl
  | _ + 1, [], _ => rfl
  | _ + 1, _ :: _, [] => rfl
  | n + 1, c :: l, top :: st => by
    rw [readN_step]
    have : (roundL c l true top st).2.1 = true := by
      unfold roundL
      split
      · simp
      · split
        · cases st <;> simp
        · simp
    rw [this]
    exact readN_wrong n _ _
theorem wnode_inv {t : Tree} (h : isTxt t.kind = false) : writeB t = t.kind.data.toList ++ (attrsW t.attrs ++ 91 :: (writeAllB t.kids ++ [93])) := by
  obtain ⟨k, x, m, a, l⟩ := t
  simp only [Tree.kind] at h
  rw [writeB, h]; simp [Tree.kind, Tree.attrs, Tree.kids]
theorem write_txt {t : Tree} (h : isTxt t.kind = true) : writeB t = quoteL t.text.data.toList ++ marksW t.marks := by
  obtain ⟨k, x, m, a, l⟩ := t
  simp only [Tree.kind] at h
  rw [writeB, h]; simp [Tree.marks, Tree.text]
theorem txt_is : isTxt TEXT = true := by decide +kernel
/-- A formed node without words is none of the texts. -/
theorem formed_node {t : Tree} (h : formedB t = true) (ht : t.text = ⟨#[]⟩) : isTxt t.kind = false ∧ rowB none t.kids = true := by
  obtain ⟨k, x, m, a, l⟩ := t
  simp only [Tree.text] at ht
  subst ht
  cases hk : isTxt k with
  | true =>
    rw [formedB, hk] at h
    simp only [if_true] at h
    have : textB (.mk k ⟨#[]⟩ m a l) = false := by unfold textB; simp [Tree.text]
    rw [this] at h; cases h
  | false =>
    rw [formedB, hk] at h
    simp only [Bool.false_eq_true, if_false, Bool.and_eq_true] at h
    exact ⟨hk, h.2⟩

theorem read_inv : ∀ (n : Nat) (l : List UInt8) (st : List Tree) (root : Tree), l.length ≤ n → (∀ t ∈ st, t.text = ⟨#[]⟩) → readN n l false st = ([root], false) → (∀ k ∈ root.kids, formedB k = true) → deepB root.kids ≤ 40 →
    openW st ++ l = writeAllB root.kids ∧ (∀ t ∈ st, ∀ k ∈ t.kids, formedB k = true) ∧ levelOK st
  | n, [], st, root, _, _, h, hf, hd => by
    have e : st = [root] := by
      cases n with
      | zero => exact (Prod.mk.inj h).1
      | succ n => exact (Prod.mk.inj h).1
    subst e
    refine ⟨by simp [openW], fun t ht => ?_, by simpa [levelOK] using hd⟩
    simp only [List.mem_singleton] at ht
    subst ht; exact hf
  | 0, c :: l, st, root, hn, _, _, _, _ => by simp at hn
  | n + 1, c :: l, [], root, _, _, h, _, _ => by
    have := (Prod.mk.inj h).1
    cases this
  | n + 1, c :: l, top :: st, root, hn, hx, h, hf, hd => by
    rw [readN_step] at h
    have hlen := (round_size c l false top st).2
    have hx' : (roundL c l false top st).2.1 = false := by
      cases hq : (roundL c l false top st).2.1 with
      | false => rfl
      | true =>
        rw [hq] at h
        have := readN_wrong n (roundL c l false top st).1 (roundL c l false top st).2.2
        rw [h] at this; cases this
    rw [hx'] at h
    have hn' : (roundL c l false top st).1.length ≤ n := by simp only [List.length_cons] at hn; omega
    by_cases h34 : (c == 34) = true
    · -- a text
      have e : roundL c l false top st = ((textL (c :: l)).2.1, false || (textL (c :: l)).2.2, addKid top (textL (c :: l)).1 :: st) := by unfold roundL; rw [if_pos h34]
      rw [e] at h hx' hn'
      simp only [Bool.false_or] at hx'
      simp only at h hn'
      obtain ⟨i1, i2, i3⟩ := read_inv n _ _ root hn' (by
        intro t ht
        rcases List.mem_cons.1 ht with rfl | ht
        · exact hx top (List.mem_cons_self ..)
        · exact hx t (List.mem_cons_of_mem _ ht)) h hf hd
      refine ⟨?_, ?_, ?_⟩
      · rw [openW_kid, write_txt (show isTxt (textL (c :: l)).1.kind = true from txt_is)] at i1
        rw [← i1]
        have := text_inv hx'
        conv => lhs; rw [this]
        simp
      · intro t ht
        rcases List.mem_cons.1 ht with e1 | ht
        · intro k hk
          rw [e1] at hk
          exact i2 _ (List.mem_cons_self ..) k (by show k ∈ top.kids ++ _; exact List.mem_append_left _ hk)
        · exact i2 t (List.mem_cons_of_mem _ ht)
      · obtain ⟨j1, j2⟩ := i3
        refine ⟨?_, j2⟩
        have : deepB (addKid top (textL (c :: l)).1).kids = max (deepB top.kids) (deepB [(textL (c :: l)).1]) := deepB_append _ _
        omega
    · by_cases h93 : (c == 93) = true
      · cases st with
        | nil =>
          have e : roundL c l false top [] = ([], true, [top]) := by unfold roundL; rw [if_neg h34, if_pos h93]
          rw [e] at hx'; cases hx'
        | cons up st =>
          have e : roundL c l false top (up :: st) = (if (closedL (st.length + 1) top).2 then [] else l, false || (closedL (st.length + 1) top).2, addKid up (closedL (st.length + 1) top).1 :: st) := by unfold roundL; rw [if_neg h34, if_pos h93]
          rw [e] at h hx' hn'
          simp only [Bool.false_or] at hx'
          rw [hx'] at h hn'
          simp only [Bool.false_eq_true, if_false] at h hn'
          obtain ⟨i1, i2, i3⟩ := read_inv n _ _ root hn' (by
            intro t ht
            rcases List.mem_cons.1 ht with rfl | ht
            · exact hx up (by simp)
            · exact hx t (by simp [ht])) h hf hd
          have htx := hx top (List.mem_cons_self ..)
          have hcf : formedB (closedL (st.length + 1) top).1 = true := i2 _ (List.mem_cons_self ..) _ (by show _ ∈ up.kids ++ _; simp)
          have hct : (closedL (st.length + 1) top).1.text = ⟨#[]⟩ := by unfold closedL; split <;> exact htx
          obtain ⟨f1, f2⟩ := formed_node hcf hct
          have hdeep : deepB (addKid up (closedL (st.length + 1) top).1).kids = max (deepB up.kids) (deepB [(closedL (st.length + 1) top).1]) := deepB_append _ _
          have hd1 : deepB [(closedL (st.length + 1) top).1] = depthB (closedL (st.length + 1) top).1 := by simp [deepB]
          have hdn : depthB (closedL (st.length + 1) top).1 = deepB (closedL (st.length + 1) top).1.kids + 1 := by
            generalize (closedL (st.length + 1) top).1 = q at *
            obtain ⟨k, x, m, a, l⟩ := q
            simp only [Tree.kind] at f1
            rw [depthB, f1]; simp [Tree.kids]
          obtain ⟨j1, j2⟩ := i3
          have hle : st.length + 1 ≤ 40 := by omega
          have hcl : (closedL (st.length + 1) top).1 = top := by unfold closedL; rw [if_pos hle]
          rw [hcl] at f1 f2 hdeep hd1 hdn i1 j1
          refine ⟨?_, ?_, ?_, ?_, j2⟩
          · rw [openW_kid, wnode_inv f1] at i1
            rw [← i1]
            have e93 : c = 93 := by simpa using h93
            subst e93
            show (openW (up :: st) ++ (top.kind.data.toList ++ (attrsW top.attrs ++ 91 :: writeAllB top.kids))) ++ 93 :: l = _
            simp
          · intro t ht
            rcases List.mem_cons.1 ht with e1 | ht
            · rw [e1]; exact row_all _ none f2
            · rcases List.mem_cons.1 ht with e1 | ht
              · intro k hk
                rw [e1] at hk
                exact i2 _ (List.mem_cons_self ..) k (by show k ∈ up.kids ++ _; exact List.mem_append_left _ hk)
              · exact i2 t (List.mem_cons_of_mem _ ht)
          · show (up :: st).length + deepB top.kids ≤ 40
            simp only [List.length_cons]; omega
          · show st.length + deepB up.kids ≤ 40
            omega
      · have e : roundL c l false top st = ((headL (c :: l)).2.1, false || (headL (c :: l)).2.2, (headL (c :: l)).1 :: top :: st) := by unfold roundL; rw [if_neg h34, if_neg h93]
        rw [e] at h hx' hn'
        simp only [Bool.false_or] at hx'
        simp only at h hn'
        obtain ⟨i1, i2, i3⟩ := read_inv n _ _ root hn' (by
          intro t ht
          rcases List.mem_cons.1 ht with rfl | ht
          · rfl
          · exact hx t ht) h hf hd
        refine ⟨?_, fun t ht => i2 t (List.mem_cons_of_mem _ ht), i3.2⟩
        rw [← i1]
        have := head_inv hx'
        show openW (top :: st) ++ (c :: l) = (openW (top :: st) ++ ((headL (c :: l)).1.kind.data.toList ++ (attrsW (headL (c :: l)).1.attrs ++ 91 :: writeAllB []))) ++ (headL (c :: l)).2.1
        conv => lhs; rw [this]
        simp [writeAllB]
theorem readL_inv {s : List UInt8} {l : List Tree} (h : readL s = (l, true)) (hf : ∀ k ∈ l, formedB k = true) (hd : deepB l ≤ 40) : writeAllB l = s := by
  unfold readL at h
  obtain ⟨h1, h2⟩ := Prod.mk.inj h
  simp only [Bool.and_eq_true, Bool.not_eq_true', beq_iff_eq] at h2
  rcases hq : readN s.length s false [around []] with ⟨st, x⟩
  rw [hq] at h1 h2
  obtain ⟨h2, h3⟩ := h2
  simp only at h1 h2 h3
  subst h2
  match st, h3 with
  | [root], _ =>
    have e : root.kids = l := by simpa using h1
    subst e
    have := (read_inv s.length s [around []] root (Nat.le_refl _) (by intro t ht; simp only [List.mem_singleton] at ht; subst ht; rfl) hq hf hd).1
    rw [← this]
    simp [openW, around, Tree.kids, writeAllB]
/-- What Parse reads is right, and is written as it was. -/
theorem parse_inv {s : List UInt8} {t : Tree} (h : parseB s = (t, 0)) : checkB t = 0 ∧ writeB t = s := by
  unfold parseB at h
  split at h
  · rename_i t' hr
    split at h
    · rename_i hc
      obtain ⟨rfl, _⟩ := Prod.mk.inj h
      refine ⟨hc, ?_⟩
      have hp : formedB t' = true ∧ depthB t' ≤ 40 := by
        unfold checkB at hc
        split at hc
        · rename_i hf
          split at hc
          · cases hc
          · exact ⟨hf, by omega⟩
        · cases hc
      have := readL_inv hr (by intro k hk; simp only [List.mem_singleton] at hk; subst hk; exact hp.1) (by simpa [deepB] using hp.2)
      rw [← this]; simp [writeAllB]
    · rename_i hc
      exact absurd (Prod.mk.inj h).2 hc
  · have := (Prod.mk.inj h).2
    cases this
theorem parseB_zero {s : List UInt8} (h : (parseB s).2 ≠ 0) : (parseB s).1 = noTree := by
  unfold parseB at h ⊢
  split
  · rename_i t hr
    rw [hr] at h
    simp only at h
    split
    · rename_i hc; rw [if_pos hc] at h; exact absurd rfl h
    · rfl
  · rfl
end Go.Proofs.YtggoebbfgkebcaaDoor

namespace Go.Proofs.YtggoebbfgkebcaaDoor
open Go.RowKit Go.Sort Go.Maps

/-- u is what the reader keeps of t, at depth d. -/
structure Kept (d : Nat) (u t : Tree) : Prop where
  kind : u.kind = t.kind
  marks : u.marks = t.marks
  formed : formedB u = true → formedB t = true
  depth : formedB u = true → depthB u ≤ depthB t
  same : formedB u = true → d + depthB u ≤ 41 → u = t
theorem Kept.refl (d : Nat) (t : Tree) : Kept d t t := ⟨rfl, rfl, fun h => h, fun _ => Nat.le_refl _, fun _ _ => rfl⟩
def KeptAll (d : Nat) : List Tree → List Tree → Prop
  | [], [] => True
  | u :: us, t :: ts => Kept d u t ∧ KeptAll d us ts
  | _, _ => False
theorem keptAll_snoc {d : Nat} {u t : Tree} (h : Kept d u t) : ∀ {us ts : List Tree}, KeptAll d us ts → KeptAll d (us ++ [u]) (ts ++ [t])
  | [], [], _ => ⟨h, trivial⟩
  | _ :: _, _ :: _, hk => ⟨hk.1, keptAll_snoc h hk.2⟩
  | [], _ :: _, hk => hk.elim
  | _ :: _, [], hk => hk.elim
theorem keptAll_len {d : Nat} : ∀ {us ts : List Tree}, KeptAll d us ts → us.length = ts.length
  | [], [], _ => rfl
  | _ :: _, _ :: _, hk => by simp only [List.length_cons]; rw [keptAll_len hk.2]
  | [], _ :: _, hk => hk.elim
  | _ :: _, [], hk => hk.elim
theorem alikeB_kept {d e : Nat} {a b u t : Tree} (h : Kept d u t) (k : Kept e a b) : alikeB a u = alikeB b t := by
  unfold alikeB; rw [h.kind, h.marks, k.kind, k.marks]
def KeptO (d : Nat) : Option Tree → Option Tree → Prop
  | none, none => True
  | some u, some t => Kept d u t
  | _, _ => False
theorem row_kept {d : Nat} : ∀ {us ts : List Tree} {p q : Option Tree}, KeptO d p q → KeptAll d us ts → rowB p us = true → rowB q ts = true
  | [], [], _, q, _, _, _ => by simp [rowB]
  | u :: us, t :: ts, p, q, ho, hk, h => by
    simp only [rowB, Bool.and_eq_true, Bool.not_eq_true'] at h ⊢
    refine ⟨?_, hk.1.formed h.2.1, row_kept (d := d) (p := some u) (q := some t) hk.1 hk.2 h.2.2⟩
    have h1 := h.1
    match p, q, ho with
    | none, none, _ => rfl
    | some a, some b, ho => unfold alikeO at h1 ⊢; rw [← h1]; exact (alikeB_kept hk.1 ho).symm
  | [], _ :: _, _, _, _, hk, _ => hk.elim
  | _ :: _, [], _, _, _, hk, _ => hk.elim
theorem deep_kept {d : Nat} : ∀ {us ts : List Tree}, KeptAll d us ts → (∀ u ∈ us, formedB u = true) → deepB us ≤ deepB ts
  | [], [], _, _ => Nat.le_refl _
  | u :: us, t :: ts, hk, h => by
    have h1 := hk.1.depth (h u (by simp))
    have h2 := deep_kept hk.2 fun x hx => h x (by simp [hx])
    simp only [deepB]; omega
  | [], _ :: _, hk, _ => hk.elim
  | _ :: _, [], hk, _ => hk.elim
theorem same_kept {d : Nat} : ∀ {us ts : List Tree}, KeptAll d us ts → (∀ u ∈ us, formedB u = true) → d + deepB us ≤ 41 → us = ts
  | [], [], _, _, _ => rfl
  | u :: us, t :: ts, hk, h, hd => by
    simp only [deepB] at hd
    rw [hk.1.same (h u (by simp)) (by omega), same_kept hk.2 (fun x hx => h x (by simp [hx])) (by omega)]
  | [], _ :: _, hk, _, _ => hk.elim
  | _ :: _, [], hk, _, _ => hk.elim

/-- An open node, and what the reader keeps of it: all but its kids is alike. -/
structure Alike (u t : Tree) : Prop where
  kind : u.kind = t.kind
  text : u.text = t.text
  marks : u.marks = t.marks
  attrs : u.attrs = t.attrs
theorem formed_kept {d : Nat} {u t : Tree} (ha : Alike u t) (hk : KeptAll d u.kids t.kids) (h : formedB u = true) : formedB t = true := by
  obtain ⟨k, x, m, a, us⟩ := u
  obtain ⟨k', x', m', a', ts⟩ := t
  obtain ⟨rfl, rfl, rfl, rfl⟩ := ha
  simp only [Tree.kind, Tree.text, Tree.marks, Tree.attrs, Tree.kids] at hk h ⊢
  cases hx : isTxt k with
  | true =>
    obtain ⟨_, _, rfl⟩ := text_parts hx h
    match ts, hk with
    | [], _ => exact h
  | false =>
    rw [formedB, hx] at h ⊢
    simp only [Bool.false_eq_true, if_false, Bool.and_eq_true] at h ⊢
    exact ⟨h.1, row_kept (d := d) (p := none) (q := none) trivial hk h.2⟩
theorem check_two {t : Tree} : checkB t = 2 ↔ formedB t = false := by
  unfold checkB
  cases formedB t with
  | false => simp
  | true => simp only [if_true]; split <;> (try split) <;> simp
theorem bare_formed {t : Tree} (hk : isTxt t.kind = false) (h : formedB t = true) : formedB (bare t) = true := by
  obtain ⟨k, x, m, a, l⟩ := t
  simp only [Tree.kind] at hk
  show formedB (.mk k x m a []) = true
  rw [formedB, hk] at h ⊢
  simp only [Bool.false_eq_true, if_false, Bool.and_eq_true] at h ⊢
  exact ⟨h.1, rfl⟩
theorem kept_close {d : Nat} {u t : Tree} (ha : Alike u t) (hk : KeptAll (d + 1) u.kids t.kids) (hx : u.text = ⟨#[]⟩) (hc : (closedL d u).2 = false) : Kept d (closedL d u).1 t := by
  unfold closedL at hc ⊢
  by_cases hd : d ≤ 40
  · rw [if_pos hd]
    refine ⟨ha.kind, ha.marks, formed_kept ha hk, fun h => ?_, fun h hd => ?_⟩
    · obtain ⟨h1, h2⟩ := formed_node h hx
      have := deep_kept hk (row_all _ _ h2)
      have h3 : isTxt t.kind = false := by rw [← ha.kind]; exact h1
      obtain ⟨k, x, m, a, us⟩ := u
      obtain ⟨k', x', m', a', ts⟩ := t
      simp only [Tree.kind, Tree.kids] at h1 h3 this
      rw [depthB, depthB, h1, h3]
      simp only [Bool.false_eq_true, if_false]
      omega
    · obtain ⟨h1, h2⟩ := formed_node h hx
      have hs := same_kept hk (row_all _ _ h2)
      obtain ⟨k, x, m, a, us⟩ := u
      obtain ⟨k', x', m', a', ts⟩ := t
      obtain ⟨rfl, rfl, rfl, rfl⟩ := ha
      simp only [Tree.kind, Tree.text, Tree.marks, Tree.attrs, Tree.kids] at h1 hs hd ⊢
      rw [depthB, h1] at hd
      simp only [Bool.false_eq_true, if_false] at hd
      rw [hs (by omega)]
  · rw [if_neg hd] at hc ⊢
    have hf : formedB u = true := by
      cases h : formedB u with
      | true => rfl
      | false =>
        simp only at hc
        rw [check_two.2 h] at hc
        exact absurd hc (by decide)
    obtain ⟨h1, h2⟩ := formed_node hf hx
    have hft := formed_kept ha hk hf
    have h3 : isTxt t.kind = false := by rw [← ha.kind]; exact h1
    refine ⟨ha.kind, ha.marks, fun _ => hft, fun _ => ?_, fun _ hd' => ?_⟩
    · obtain ⟨k, x, m, a, us⟩ := u
      obtain ⟨k', x', m', a', ts⟩ := t
      simp only [Tree.kind] at h1 h3
      simp only [bare, Tree.kind]
      rw [depthB, depthB, h1, h3]
      simp only [Bool.false_eq_true, if_false, deepB]
      omega
    · exfalso
      obtain ⟨k, x, m, a, us⟩ := u
      simp only [Tree.kind] at h1
      simp only [bare, Tree.kind] at hd'
      rw [depthB, h1] at hd'
      simp only [Bool.false_eq_true, if_false, deepB] at hd'
      omega

/-- The open nodes as they are, and as the reader keeps them. -/
def Sim : List Tree → List Tree → Prop
  | [], [] => True
  | u :: us, t :: ts => Alike u t ∧ KeptAll (us.length + 1) u.kids t.kids ∧ Sim us ts
  | _, _ => False
theorem sim_kid {u t a b : Tree} {us ts : List Tree} (h : Sim (u :: us) (t :: ts)) (hk : Kept (us.length + 1) a b) : Sim (addKid u a :: us) (addKid t b :: ts) :=
  ⟨⟨h.1.kind, h.1.text, h.1.marks, h.1.attrs⟩, keptAll_snoc hk h.2.1, h.2.2⟩

theorem read_fwd : ∀ (n : Nat) (l : List UInt8) (st stU : List Tree) (root : Tree), l.length ≤ n → (∀ t ∈ st, t.text = ⟨#[]⟩) → Sim st stU → readN n l false st = ([root], false) →
    ∃ rootU, Sim [root] [rootU] ∧ ((∀ k ∈ root.kids, formedB k = true) → openW stU ++ l = writeAllB rootU.kids ∧ ∀ t ∈ st, ∀ k ∈ t.kids, formedB k = true)
  | n, [], st, stU, root, _, _, hs, h => by
    have e : st = [root] := by
      cases n with
      | zero => exact (Prod.mk.inj h).1
      | succ n => exact (Prod.mk.inj h).1
    subst e
    match stU, hs with
    | [rootU], hs =>
      refine ⟨rootU, hs, fun hf => ⟨by simp [openW], fun t ht => ?_⟩⟩
      simp only [List.mem_singleton] at ht
      subst ht; exact hf
    | _ :: _ :: _, hs => exact hs.2.2.elim
  | 0, c :: l, st, stU, root, hn, _, _, _ => by simp at hn
  | n + 1, c :: l, [], stU, root, _, _, _, h => by
    have := (Prod.mk.inj h).1
    cases this
  | n + 1, c :: l, top :: st, stU, root, hn, hx, hs, h => by
    rw [readN_step] at h
    have hlen := (round_size c l false top st).2
    have hx' : (roundL c l false top st).2.1 = false := by
      cases hq : (roundL c l false top st).2.1 with
      | false => rfl
      | true =>
        rw [hq] at h
        have := readN_wrong n (roundL c l false top st).1 (roundL c l false top st).2.2
        rw [h] at this; cases this
    rw [hx'] at h
    have hn' : (roundL c l false top st).1.length ≤ n := by simp only [List.length_cons] at hn; omega
    match stU, hs with
    | [], hs => exact hs.elim
    | topU :: stU, hs =>
    by_cases h34 : (c == 34) = true
    · have e : roundL c l false top st = ((textL (c :: l)).2.1, false || (textL (c :: l)).2.2, addKid top (textL (c :: l)).1 :: st) := by unfold roundL; rw [if_pos h34]
      rw [e] at h hx' hn'
      simp only [Bool.false_or] at hx'
      simp only at h hn'
      obtain ⟨rootU, i0, i1⟩ := read_fwd n _ _ (addKid topU (textL (c :: l)).1 :: stU) root hn' (by
        intro t ht
        rcases List.mem_cons.1 ht with rfl | ht
        · exact hx top (List.mem_cons_self ..)
        · exact hx t (List.mem_cons_of_mem _ ht)) (sim_kid hs (Kept.refl _ _)) h
      refine ⟨rootU, i0, fun hf => ?_⟩
      obtain ⟨i1, i2⟩ := i1 hf
      refine ⟨?_, ?_⟩
      · rw [openW_kid, write_txt (show isTxt (textL (c :: l)).1.kind = true from txt_is)] at i1
        rw [← i1]
        have := text_inv hx'
        conv => lhs; rw [this]
        simp
      · intro t ht
        rcases List.mem_cons.1 ht with e1 | ht
        · intro k hk
          rw [e1] at hk
          exact i2 _ (List.mem_cons_self ..) k (by show k ∈ top.kids ++ _; exact List.mem_append_left _ hk)
        · exact i2 t (List.mem_cons_of_mem _ ht)
    · by_cases h93 : (c == 93) = true
      · cases st with
        | nil =>
          have e : roundL c l false top [] = ([], true, [top]) := by unfold roundL; rw [if_neg h34, if_pos h93]
          rw [e] at hx'; cases hx'
        | cons up st =>
          have e : roundL c l false top (up :: st) = (if (closedL (st.length + 1) top).2 then [] else l, false || (closedL (st.length + 1) top).2, addKid up (closedL (st.length + 1) top).1 :: st) := by unfold roundL; rw [if_neg h34, if_pos h93]
          rw [e] at h hx' hn'
          simp only [Bool.false_or] at hx'
          rw [hx'] at h hn'
          simp only [Bool.false_eq_true, if_false] at h hn'
          match stU, hs with
          | [], hs => exact hs.2.2.elim
          | upU :: stU, hs =>
          have htx := hx top (List.mem_cons_self ..)
          have hkc : Kept (st.length + 1) (closedL (st.length + 1) top).1 topU := kept_close hs.1 (by have := hs.2.1; simpa using this) htx hx'
          obtain ⟨rootU, i0, i1⟩ := read_fwd n _ _ (addKid upU topU :: stU) root hn' (by
            intro t ht
            rcases List.mem_cons.1 ht with rfl | ht
            · exact hx up (by simp)
            · exact hx t (by simp [ht])) (sim_kid hs.2.2 hkc) h
          refine ⟨rootU, i0, fun hf => ?_⟩
          obtain ⟨i1, i2⟩ := i1 hf
          have hcf : formedB (closedL (st.length + 1) top).1 = true := i2 _ (List.mem_cons_self ..) _ (by show _ ∈ up.kids ++ _; simp)
          have hft := hkc.formed hcf
          have hkt : isTxt topU.kind = false := (formed_node hft (by rw [← hs.1.text]; exact htx)).1
          have hftop : formedB top = true := by
            cases hb : formedB top with
            | true => rfl
            | false =>
              exfalso
              have hcx := hx'
              unfold closedL at hcf hcx
              split at hcf
              · rw [hb] at hcf; cases hcf
              · rename_i hd
                rw [if_neg hd] at hcx
                simp only at hcx
                rw [check_two.2 hb] at hcx
                exact absurd hcx (by decide)
          refine ⟨?_, ?_⟩
          · rw [openW_kid, wnode_inv hkt] at i1
            rw [← i1]
            have e93 : c = 93 := by simpa using h93
            subst e93
            show (openW (upU :: stU) ++ (topU.kind.data.toList ++ (attrsW topU.attrs ++ 91 :: writeAllB topU.kids))) ++ 93 :: l = _
            simp
          · intro t ht
            rcases List.mem_cons.1 ht with e1 | ht
            · rw [e1]; exact row_all _ none (formed_node hftop htx).2
            · rcases List.mem_cons.1 ht with e1 | ht
              · intro k hk
                rw [e1] at hk
                exact i2 _ (List.mem_cons_self ..) k (by show k ∈ up.kids ++ _; exact List.mem_append_left _ hk)
              · exact i2 t (List.mem_cons_of_mem _ ht)
      · have e : roundL c l false top st = ((headL (c :: l)).2.1, false || (headL (c :: l)).2.2, (headL (c :: l)).1 :: top :: st) := by unfold roundL; rw [if_neg h34, if_neg h93]
        rw [e] at h hx' hn'
        simp only [Bool.false_or] at hx'
        simp only at h hn'
        obtain ⟨rootU, i0, i1⟩ := read_fwd n _ _ ((headL (c :: l)).1 :: topU :: stU) root hn' (by
          intro t ht
          rcases List.mem_cons.1 ht with rfl | ht
          · rfl
          · exact hx t ht) (show Sim ((headL (c :: l)).1 :: top :: st) ((headL (c :: l)).1 :: topU :: stU) from ⟨⟨rfl, rfl, rfl, rfl⟩, (show KeptAll _ [] [] from trivial), hs⟩) h
        refine ⟨rootU, i0, fun hf => ?_⟩
        obtain ⟨i1, i2⟩ := i1 hf
        refine ⟨?_, fun t ht => i2 t (List.mem_cons_of_mem _ ht)⟩
        rw [← i1]
        have := head_inv hx'
        show openW (topU :: stU) ++ (c :: l) = (openW (topU :: stU) ++ ((headL (c :: l)).1.kind.data.toList ++ (attrsW (headL (c :: l)).1.attrs ++ 91 :: writeAllB []))) ++ (headL (c :: l)).2.1
        conv => lhs; rw [this]
        simp [writeAllB]
/-- What was read without fault, and is formed as far as it was kept, is what is written of a row of formed nodes. -/
theorem readL_fwd {s : List UInt8} {l : List Tree} (h : readL s = (l, true)) (hf : ∀ k ∈ l, formedB k = true) : ∃ ts, KeptAll 1 l ts ∧ writeAllB ts = s := by
  unfold readL at h
  obtain ⟨h1, h2⟩ := Prod.mk.inj h
  simp only [Bool.and_eq_true, Bool.not_eq_true', beq_iff_eq] at h2
  rcases hq : readN s.length s false [around []] with ⟨st, x⟩
  rw [hq] at h1 h2
  obtain ⟨h2, h3⟩ := h2
  simp only at h1 h2 h3
  subst h2
  match st, h3 with
  | [root], _ =>
    have e : root.kids = l := by simpa using h1
    subst e
    obtain ⟨rootU, hs, hw⟩ := read_fwd s.length s [around []] [around []] root (Nat.le_refl _) (by intro t ht; simp only [List.mem_singleton] at ht; subst ht; rfl) ⟨⟨rfl, rfl, rfl, rfl⟩, trivial, trivial⟩ hq
    refine ⟨rootU.kids, hs.2.1, ?_⟩
    rw [← (hw hf).1]
    simp [openW, around, Tree.kids, writeAllB]

/-! ### what was written of formed nodes is read, however deep -/
/-- The kind and the marks of nodes, which are formed. -/
def Heads : List Tree → List Tree → Prop
  | [], [] => True
  | u :: us, t :: ts => (formedB u = true ∧ u.kind = t.kind ∧ u.marks = t.marks) ∧ Heads us ts
  | _, _ => False
theorem row_heads : ∀ {us ts : List Tree} {p q : Option Tree}, (∀ a b, p = some a → q = some b → a.kind = b.kind ∧ a.marks = b.marks) → (q = none → p = none) → Heads us ts → rowB q ts = true → rowB p us = true
  | [], [], _, q, _, _, _, _ => by simp [rowB]
  | u :: us, t :: ts, p, q, ho, hn, hk, h => by
    simp only [rowB, Bool.and_eq_true, Bool.not_eq_true'] at h ⊢
    refine ⟨?_, hk.1.1, row_heads (p := some u) (q := some t) (fun a b ha hb => by cases ha; cases hb; exact hk.1.2) (fun e => by cases e) hk.2 h.2.2⟩
    have h1 := h.1
    match p, q, ho, hn with
    | none, _, _, _ => rfl
    | some a, none, _, hn => cases hn rfl
    | some a, some b, ho, _ =>
      obtain ⟨e1, e2⟩ := ho a b rfl rfl
      simp only [alikeO, alikeB] at h1 ⊢
      rw [e1, e2, hk.1.2.1, hk.1.2.2]; exact h1
  | [], _ :: _, _, _, _, _, hk, _ => hk.elim
  | _ :: _, [], _, _, _, _, hk, _ => hk.elim
def BackU (t : Tree) : Prop := ∀ (r : List UInt8) (x : Bool) (top : Tree) (st : List Tree) (n : Nat), formedB t = true → Aft r → (writeB t ++ r).length ≤ n →
  ∃ m u, r.length ≤ m ∧ (formedB u = true ∧ u.kind = t.kind ∧ u.marks = t.marks) ∧ readN n (writeB t ++ r) x (top :: st) = readN m r x (addKid top u :: st)
theorem backU_all : ∀ (l : List Tree), (∀ t ∈ l, BackU t) → ∀ (r : List UInt8) (x : Bool) (top : Tree) (st : List Tree) (n : Nat), (∀ t ∈ l, formedB t = true) → Aft r → (writeAllB l ++ r).length ≤ n →
    ∃ m us, r.length ≤ m ∧ Heads us l ∧ readN n (writeAllB l ++ r) x (top :: st) = readN m r x (addKids top us :: st)
  | [], _, r, x, top, st, n, _, _, hn => ⟨n, [], by simpa [writeAllB] using hn, trivial, by rw [addKids_nil]; rfl⟩
  | t :: l, hb, r, x, top, st, n, hf, hr, hn => by
    have e : writeAllB (t :: l) ++ r = writeB t ++ (writeAllB l ++ r) := by rw [writeAllB, List.append_assoc]
    rw [e] at hn ⊢
    obtain ⟨m1, u, h1, hu, h2⟩ := hb t (by simp) (writeAllB l ++ r) x top st n (hf t (by simp)) (aft_all l r (fun y hy => hf y (by simp [hy])) hr) hn
    obtain ⟨m2, us, h3, hus, h4⟩ := backU_all l (fun y hy => hb y (by simp [hy])) r x (addKid top u) st m1 (fun y hy => hf y (by simp [hy])) hr h1
    exact ⟨m2, u :: us, h3, ⟨hu, hus⟩, by rw [h2, h4, addKids_cons]⟩
theorem backU_one : ∀ t, BackU t := by
  refine Tree.induct_one ?_
  intro k t m a l ih r x top st n hf hr hn
  cases hk : isTxt k with
  | true =>
    obtain ⟨hm, rfl, rfl⟩ := text_parts hk hf
    have hkt : k = TEXT := txt_eq hk (by unfold isTxt; rw [beq_iff_eq, Lib.toList_data]; rfl)
    have e : writeB (.mk k t m [] []) ++ r = quoteL t.data.toList ++ (marksW m ++ r) := by rw [writeB, if_pos hk, List.append_assoc]
    rw [e] at hn ⊢
    have hb := text_back t m r (marks_names hm) hr
    have e2 : quoteL t.data.toList ++ (marksW m ++ r) = 34 :: ((escL t.data.toList ++ [34]) ++ (marksW m ++ r)) := rfl
    rw [e2] at hn hb ⊢
    cases n with
    | zero => simp at hn
    | succ n =>
      refine ⟨n, .mk k t m [] [], ?_, ⟨hf, rfl, rfl⟩, ?_⟩
      · simp only [List.length_cons, List.length_append] at hn ⊢; omega
      · rw [readN_step]
        have : roundL 34 ((escL t.data.toList ++ [34]) ++ (marksW m ++ r)) x top st = (r, x, addKid top (.mk k t m [] []) :: st) := by
          unfold roundL
          rw [if_pos (by decide), hb, hkt, Bool.or_false]
        rw [this]
  | false =>
    obtain ⟨hnm, ht, rfl, ha, hrow⟩ := node_parts hk hf
    obtain rfl : t = ⟨#[]⟩ := bytes_of ht
    have e : writeB (.mk k ⟨#[]⟩ [] a l) ++ r = k.data.toList ++ (attrsW a ++ 91 :: (writeAllB l ++ 93 :: r)) := by rw [writeB, hk]; simp
    obtain ⟨c, q, hc, hcs⟩ : ∃ c q, k.data.toList = c :: q ∧ small c = true := by
      cases h : k.data.toList with
      | nil => exact absurd h (name_ne hnm)
      | cons c q => exact ⟨c, q, rfl, name_small hnm c (by rw [h]; simp)⟩
    have hb := head_back k a (writeAllB l ++ 93 :: r) hnm (attrs_names ha)
    have hlen : (writeAllB l ++ 93 :: r).length + 1 ≤ n := by
      rw [e, hc] at hn
      simp only [List.length_cons, List.length_append] at hn ⊢; omega
    rw [e, hc] at hn ⊢
    rw [hc] at hb
    have h34 : (c == 34) = false := by cases h : (c == 34) with
      | false => rfl
      | true => rw [beq_iff_eq.1 h] at hcs; revert hcs; decide
    have h93 : (c == 93) = false := by cases h : (c == 93) with
      | false => rfl
      | true => rw [beq_iff_eq.1 h] at hcs; revert hcs; decide
    cases n with
    | zero => simp at hlen
    | succ n =>
      rw [List.cons_append, readN_step]
      have h1 : roundL c (q ++ (attrsW a ++ 91 :: (writeAllB l ++ 93 :: r))) x top st = (writeAllB l ++ 93 :: r, x, .mk k ⟨#[]⟩ [] a [] :: top :: st) := by
        unfold roundL
        rw [h34, h93, ← List.cons_append, hb, Bool.or_false]; rfl
      rw [h1]
      obtain ⟨m1, us, g1, hus, g2⟩ := backU_all l ih (93 :: r) x (.mk k ⟨#[]⟩ [] a []) (top :: st) n (row_all l none hrow) (aft_93 r) (by omega)
      have e3 : addKids (.mk k ⟨#[]⟩ [] a []) us = .mk k ⟨#[]⟩ [] a us := rfl
      rw [e3] at g2
      have hfu : formedB (.mk k ⟨#[]⟩ [] a us) = true := by
        rw [formedB, hk] at hf ⊢
        simp only [Bool.false_eq_true, if_false, Bool.and_eq_true] at hf ⊢
        exact ⟨hf.1, row_heads (p := none) (q := none) (fun a b h => by cases h) (fun _ => rfl) hus hf.2⟩
      have hcl : (closedL (st.length + 1) (.mk k ⟨#[]⟩ [] a us)).2 = false ∧ formedB (closedL (st.length + 1) (.mk k ⟨#[]⟩ [] a us)).1 = true ∧ (closedL (st.length + 1) (.mk k ⟨#[]⟩ [] a us)).1.kind = k ∧ (closedL (st.length + 1) (.mk k ⟨#[]⟩ [] a us)).1.marks = [] := by
        unfold closedL
        split
        · exact ⟨rfl, hfu, rfl, rfl⟩
        · refine ⟨?_, bare_formed hk hfu, rfl, rfl⟩
          cases hc2 : (checkB (.mk k ⟨#[]⟩ [] a us) == 2) with
          | false => rfl
          | true => rw [check_two.1 (beq_iff_eq.1 hc2)] at hfu; cases hfu
      obtain ⟨c1, c2, c3, c4⟩ := hcl
      cases m1 with
      | zero => simp at g1
      | succ m1 =>
        refine ⟨m1, (closedL (st.length + 1) (.mk k ⟨#[]⟩ [] a us)).1, by simpa using g1, ⟨c2, c3, c4⟩, ?_⟩
        show readN n (writeAllB l ++ 93 :: r) x (.mk k ⟨#[]⟩ [] a [] :: top :: st) = _
        rw [g2, readN_step]
        have h2 : roundL 93 r x (.mk k ⟨#[]⟩ [] a us) (top :: st) = (r, x, addKid top (closedL (st.length + 1) (.mk k ⟨#[]⟩ [] a us)).1 :: st) := by
          unfold roundL
          rw [if_neg (by decide), if_pos (by decide)]
          simp only [c1, Bool.or_false]; rfl
        rw [h2]
theorem readU_all (l : List Tree) (hf : ∀ t ∈ l, formedB t = true) : ∃ us, Heads us l ∧ readL (writeAllB l) = (us, true) := by
  obtain ⟨m, us, _, hu, h⟩ := backU_all l (fun t _ => backU_one t) [] false (around []) [] (writeAllB l).length hf aft_nil (by simp)
  rw [List.append_nil, readN_nil] at h
  refine ⟨us, hu, ?_⟩
  unfold readL
  rw [h]; rfl

/-! ### the answers -/
theorem heads_formed : ∀ {us ts : List Tree}, Heads us ts → ∀ u ∈ us, formedB u = true
  | [], [], _, u, hu => by cases hu
  | u :: us, t :: ts, hk, x, hx => by
    rcases List.mem_cons.1 hx with rfl | hx
    · exact hk.1.1
    · exact heads_formed hk.2 x hx
  | [], _ :: _, hk, _, _ => hk.elim
  | _ :: _, [], hk, _, _ => hk.elim
theorem kept_formed {d : Nat} : ∀ {us ts : List Tree}, KeptAll d us ts → (∀ u ∈ us, formedB u = true) → ∀ t ∈ ts, formedB t = true
  | [], [], _, _, u, hu => by cases hu
  | u :: us, t :: ts, hk, h, x, hx => by
    rcases List.mem_cons.1 hx with rfl | hx
    · exact hk.1.formed (h u (by simp))
    · exact kept_formed hk.2 (fun y hy => h y (by simp [hy])) x hx
  | [], _ :: _, hk, _, _, _ => hk.elim
  | _ :: _, [], hk, _, _, _ => hk.elim
theorem rowW_inj {l l' : List Tree} (h : ∀ t ∈ l, formedB t = true) (h' : ∀ t ∈ l', formedB t = true) (e : writeAllB l = writeAllB l') : l = l' :=
  (writeAll_inj l l' [] [] h h' (by rw [e])).1
theorem check_deep {t : Tree} (h : formedB t = true) (hd : 40 < depthB t) : checkB t = 4 := by unfold checkB; rw [if_pos h, if_pos hd]
/-- A text that is written of a formed node. -/
theorem parse_formed {t : Tree} (hf : formedB t = true) : parseB (writeB t) = if checkB t = 0 then (t, 0) else (noTree, checkB t) := by
  obtain ⟨us, hu, hr⟩ := readU_all [t] (by simpa using hf)
  have ew : writeAllB [t] = writeB t := by simp [writeAllB]
  rw [ew] at hr
  match us, hu with
  | [u], hu =>
    have hfu := heads_formed hu
    obtain ⟨ts, hk, hw⟩ := readL_fwd hr hfu
    have := rowW_inj (l := ts) (l' := [t]) (kept_formed hk hfu) (by simpa using hf) (by rw [hw, ew])
    subst this
    unfold parseB
    rw [hr]
    simp only
    by_cases hd : depthB u ≤ 40
    · rw [hk.1.same (hfu u (by simp)) (by omega)]
    · have h1 := hk.1.depth (hfu u (by simp))
      rw [check_deep (hfu u (by simp)) (by omega), check_deep hf (by omega)]; rfl
/-- A text that is none. -/
theorem parse_no2 {s : List UInt8} (h : ∀ t, formedB t = true → writeB t ≠ s) : parseB s = (noTree, 2) := by
  unfold parseB
  split
  · rename_i u hr
    have hn : formedB u = false := by
      cases hf : formedB u with
      | false => rfl
      | true =>
        obtain ⟨ts, hk, hw⟩ := readL_fwd hr (by simpa using hf)
        match ts, hk with
        | [t], hk => exact absurd (by rw [← hw]; simp [writeAllB]) (h t (hk.1.formed hf))
    rw [check_two.2 hn]; rfl
  · rfl
theorem around_formed {l : List Tree} : formedB (around l) = rowB none l := by
  have hk : isTxt (⟨#[120]⟩ : ByteArray) = false := by decide +kernel
  have hh : headB (.mk ⟨#[120]⟩ ⟨#[]⟩ [] [] l) = true := by
    have : headB (.mk ⟨#[120]⟩ ⟨#[]⟩ [] [] []) = true := by decide +kernel
    exact this
  unfold around
  rw [formedB, hk, hh]; simp
theorem around_depth {l : List Tree} : depthB (around l) = deepB l + 1 := by
  have hk : isTxt (⟨#[120]⟩ : ByteArray) = false := by decide +kernel
  unfold around
  rw [depthB, hk]; simp
theorem parseAll_formed {l : List Tree} (hf : rowB none l = true) : parseAllB (writeAllB l) = if checkB (around l) = 0 then (l, 0) else ([], checkB (around l)) := by
  have hfl := row_all l none hf
  obtain ⟨us, hu, hr⟩ := readU_all l hfl
  have hfu := heads_formed hu
  obtain ⟨ts, hk, hw⟩ := readL_fwd hr hfu
  have := rowW_inj (l := ts) (l' := l) (kept_formed hk hfu) hfl hw
  subst this
  unfold parseAllB
  rw [hr]
  simp only
  have hfa : formedB (around us) = true := by rw [around_formed]; exact row_heads (p := none) (q := none) (fun a b h => by cases h) (fun _ => rfl) hu hf
  by_cases hd : depthB (around us) ≤ 40
  · rw [around_depth] at hd
    rw [same_kept hk hfu (by omega)]
  · have h1 := deep_kept hk hfu
    rw [around_depth] at hd
    rw [check_deep hfa (by rw [around_depth]; omega), check_deep (by rw [around_formed]; exact hf) (by rw [around_depth]; omega)]; rfl
theorem parseAll_none {s : List UInt8} (h : ∀ l, rowB none l = true → writeAllB l ≠ s) : parseAllB s = ([], 2) := by
  unfold parseAllB
  split
  · rename_i us hr
    have hn : formedB (around us) = false := by
      cases hf : formedB (around us) with
      | false => rfl
      | true =>
        rw [around_formed] at hf
        have hfu := row_all us none hf
        obtain ⟨ts, hk, hw⟩ := readL_fwd hr hfu
        exact absurd hw (h ts (row_kept (d := 1) (p := none) (q := none) trivial hk hf))
    rw [check_two.2 hn]; rfl
  · rfl
theorem around_write (l : List Tree) : writeB (around l) = 120 :: 91 :: (writeAllB l ++ [93]) := by
  have hk : isTxt (⟨#[120]⟩ : ByteArray) = false := by decide +kernel
  unfold around
  rw [writeB, hk]; simp [attrsW]
/-- A formed node that is written x[..] is that one. -/
theorem around_inv {t : Tree} {s : List UInt8} (hf : formedB t = true) (h : writeB t = 120 :: 91 :: (s ++ [93])) : ∃ l, t = around l ∧ writeAllB l = s := by
  obtain ⟨k, x, m, a, l⟩ := t
  cases hk : isTxt k with
  | true => rw [writeB, hk] at h; simp [quoteL] at h
  | false =>
    obtain ⟨hnm, ht, rfl, ha, hrow⟩ := node_parts hk hf
    obtain rfl : x = ⟨#[]⟩ := bytes_of ht
    have e : writeB (.mk k ⟨#[]⟩ [] a l) = k.data.toList ++ (attrsW a ++ 91 :: (writeAllB l ++ [93])) := by rw [writeB, hk]; simp
    rw [e] at h
    obtain ⟨y, q, hy, hys⟩ : ∃ y q, attrsW a ++ 91 :: (writeAllB l ++ [93]) = y :: q ∧ small y = false := by
      cases a with
      | nil => exact ⟨91, _, rfl, by decide⟩
      | cons p l => exact ⟨40, _, by rw [attrsW_cons (by simp)]; rfl, by decide⟩
    rw [hy] at h
    obtain ⟨e1, e2, e3⟩ := letters_inj k.data.toList [120] q (s ++ [93]) y 91 (name_small hnm) (by intro c hc; simp only [List.mem_singleton] at hc; subst hc; decide) hys (by decide) h
    obtain rfl : k = ⟨#[120]⟩ := bytes_of (by rw [e1])
    cases a with
    | cons p b =>
      rw [attrsW_cons (by simp)] at hy
      rw [e2] at hy
      exact absurd (List.cons.inj hy).1 (by decide)
    | nil =>
      have hq : writeAllB l ++ [93] = q := (List.cons.inj hy).2
      rw [e3] at hq
      exact ⟨l, rfl, (List.append_inj' hq rfl).1⟩
theorem parseAll_wrap (s : List UInt8) : parseAllB s = ((parseB (120 :: 91 :: (s ++ [93]))).1.kids, (parseB (120 :: 91 :: (s ++ [93]))).2) := by
  by_cases h : ∃ l, rowB none l = true ∧ writeAllB l = s
  · obtain ⟨l, hl, rfl⟩ := h
    rw [parseAll_formed hl, ← around_write, parse_formed (by rw [around_formed]; exact hl)]
    split <;> rfl
  · have hn : ∀ l, rowB none l = true → writeAllB l ≠ s := fun l hl e => h ⟨l, hl, e⟩
    rw [parseAll_none hn, parse_no2 (s := 120 :: 91 :: (s ++ [93])) fun t ht e => ?_]
    · rfl
    · obtain ⟨l, rfl, hw⟩ := around_inv ht e
      rw [around_formed] at ht
      exact hn l ht hw
end Go.Proofs.YtggoebbfgkebcaaDoor

namespace Go.Proofs.YtggoebbfgkebcaaDoor
open Go.RowKit Go.Sort Go.Maps

section
variable {w : World} {ops : Array Oper} {rest : List Oper} {o : Oper} {a : Act} {K : Act → World → Prop} {Q : Exit → Act → World → Prop} {E : Prop}
theorem step_letters {R : Nat} {S : ByteArray} {k : Nat} {x : Bool} (hgd : o.guard = none) (p : Operand) (ho : o.op = .call { callee := .value (.func 57), args := #[p], argTypes := #[43] })
    (hp : a.eval p = .pointer (some ⟨R, 0, none⟩)) (hR : RR w R S k x) (hs : S.size ≤ 10000000) (hk : k ≤ S.size)
    (h : ∀ j w', RR w' R S j x → OnlyR R w w' → left S j = (left S k).dropWhile small → k ≤ j → j ≤ S.size → ((left S k).takeWhile small).length + k = j → K (a.put o.dst (.string (tB ((left S k).takeWhile small)))) w') :
    if Region.wanted o (yielded ops a.tmps) = true then Oper.wp Tryd.prog o a w K Q else E := by
  have hwn : Region.wanted o (yielded ops a.tmps) = true := by simp [Region.wanted, hgd]
  rw [if_pos hwn]
  have hrun : (execOp a.eval o).run Tryd.prog w = .ok (.enter 57 #[.pointer (some ⟨R, 0, none⟩)]) w := by
    have hf : a.eval (.func 57) = .func (.func 57) #[] #[] := rfl
    obtain ⟨c, hc⟩ : ∃ c, Tryd.f57.body = some c := Option.isSome_iff_exists.1 (by kernel_rfl)
    have hne : ¬ Tryd.f57.name = "runtime.NumGoroutine" := of_decide_eq_false (by kernel_rfl)
    simp [execOp, ho, resolve, invoke, hp, hf, Deferred.ofValue, callFunc, hne, hc]
  unfold Oper.wp
  rw [hrun, Oper.upon_enter]
  refine (rr_letters R S k x w hR hs hk).mono fun e w'' hh => ?_
  obtain ⟨j, rfl, h1, h2, h3, h4, h5, h6⟩ := hh
  exact h j w'' h1 h2 h3 h4 h5 h6
theorem step_quoted {R : Nat} {S : ByteArray} {k : Nat} {x : Bool} (hgd : o.guard = none) (p : Operand) (ho : o.op = .call { callee := .value (.func 55), args := #[p], argTypes := #[43] })
    (hp : a.eval p = .pointer (some ⟨R, 0, none⟩)) (hR : RR w R S k x) (hs : S.size ≤ 10000000) (hk : k ≤ S.size)
    (h : ∀ s j y w', RR w' R S j y → OnlyR R w w' → QuoK S k x s j y → K (a.put o.dst (.string s)) w') :
    if Region.wanted o (yielded ops a.tmps) = true then Oper.wp Tryd.prog o a w K Q else E := by
  have hwn : Region.wanted o (yielded ops a.tmps) = true := by simp [Region.wanted, hgd]
  rw [if_pos hwn]
  have hrun : (execOp a.eval o).run Tryd.prog w = .ok (.enter 55 #[.pointer (some ⟨R, 0, none⟩)]) w := by
    have hf : a.eval (.func 55) = .func (.func 55) #[] #[] := rfl
    obtain ⟨c, hc⟩ : ∃ c, Tryd.f55.body = some c := Option.isSome_iff_exists.1 (by kernel_rfl)
    have hne : ¬ Tryd.f55.name = "runtime.NumGoroutine" := of_decide_eq_false (by kernel_rfl)
    simp [execOp, ho, resolve, invoke, hp, hf, Deferred.ofValue, callFunc, hne, hc]
  unfold Oper.wp
  rw [hrun, Oper.upon_enter]
  refine (rr_quoted R S k x w hR hs hk).mono fun e w'' hh => ?_
  obtain ⟨s, j, y, rfl, h1, h2, h3⟩ := hh
  exact h s j y w'' h1 h2 h3
end

/-- The variable of the node that is read, and the one of the answer, behind the caller's blocks. -/
structure AtN (w : World) (R : Nat) (S : ByteArray) (W : World) (i : Nat) (y : Bool) (v0 v1 v2 v3 v4 : Value) : Prop where
  rr : RR W R S i y
  nb : W.heap[w.heap.size + 1]? = some (.cells #[v0, v1, v2, v3, v4] 27)
  rb : W.heap[w.heap.size]? = some (.cells #[.string ⟨#[]⟩, .string ⟨#[]⟩, .slice none 0 0, .slice none 0 0, .slice none 0 0] 27)
  only : OnlyR R w W
  lt : R < w.heap.size
  size : w.heap.size + 2 ≤ W.heap.size
section
variable {w W W2 : World} {R : Nat} {S : ByteArray} {i j : Nat} {y z : Bool} {v0 v1 v2 v3 v4 : Value}
theorem AtN.step (h : AtN w R S W i y v0 v1 v2 v3 v4) (o : OnlyR R W W2) (h2 : RR W2 R S j z) : AtN w R S W2 j z v0 v1 v2 v3 v4 := by
  have hz := h.size
  have hl := h.lt
  exact ⟨h2, (o.block _ (by omega) (by omega)).trans h.nb, (o.block _ (by omega) (by omega)).trans h.rb, h.only.trans o, hl, Nat.le_trans hz o.size⟩
theorem AtN.below (h : AtN w R S W i y v0 v1 v2 v3 v4) (hb : Below W.heap.size W W2) : AtN w R S W2 i y v0 v1 v2 v3 v4 :=
  h.step (OnlyR.of_below R hb) (h.rr.below hb h.rr.lt)
theorem AtN.grown {b : Option Nat} (h : AtN w R S W i y v0 v1 v2 v3 v4) (g : W.grownBy W2 b) (hb : ∀ k, b = some k → w.heap.size + 2 ≤ k) : AtN w R S W2 i y v0 v1 v2 v3 v4 := by
  have hz := h.size
  have hl := h.lt
  have key : ∀ k, k < w.heap.size + 2 → W2.heap[k]? = W.heap[k]? := fun k hk => g.block k (by omega) fun e => by have := hb k e.symm; omega
  exact ⟨(key R (by omega)).trans h.rr, (key _ (by omega)).trans h.nb, (key _ (by omega)).trans h.rb, ⟨g.os.trans h.only.os, g.tape.trans h.only.tape, g.output.trans h.only.output, Nat.le_trans h.only.size g.size, fun k hk hn => (key k (by omega)).trans (h.only.block k hk hn)⟩, hl, Nat.le_trans hz g.size⟩
theorem AtN.set {u0 u1 u2 u3 u4 : Value} (h : AtN w R S W i y v0 v1 v2 v3 v4) (c : Nat) (v : Value) (hn : (W.setCell ⟨w.heap.size + 1, c, none⟩ v).heap[w.heap.size + 1]? = some (.cells #[u0, u1, u2, u3, u4] 27)) :
    AtN w R S (W.setCell ⟨w.heap.size + 1, c, none⟩ v) i y u0 u1 u2 u3 u4 := by
  have hz := h.size
  have hl := h.lt
  have key : ∀ k, k ≠ w.heap.size + 1 → (W.setCell ⟨w.heap.size + 1, c, none⟩ v).heap[k]? = W.heap[k]? := fun k hk => Below.heap_setCell _ _ _ _ hk
  exact ⟨(key R (by omega)).trans h.rr, hn, (key _ (by omega)).trans h.rb, ⟨h.only.os, h.only.tape, h.only.output, by simpa [World.setCell] using h.only.size, fun k hk hn' => (key k (by omega)).trans (h.only.block k hk hn')⟩, hl, by simpa [World.setCell] using hz⟩
theorem AtN.set0 (h : AtN w R S W i y v0 v1 v2 v3 v4) (v : Value) : AtN w R S (W.setCell ⟨w.heap.size + 1, 0, none⟩ v) i y v v1 v2 v3 v4 := h.set 0 v (heap_setCell_same W _ 0 _ _ v h.nb)
theorem AtN.set1 (h : AtN w R S W i y v0 v1 v2 v3 v4) (v : Value) : AtN w R S (W.setCell ⟨w.heap.size + 1, 1, none⟩ v) i y v0 v v2 v3 v4 := h.set 1 v (heap_setCell_same W _ 1 _ _ v h.nb)
theorem AtN.set2 (h : AtN w R S W i y v0 v1 v2 v3 v4) (v : Value) : AtN w R S (W.setCell ⟨w.heap.size + 1, 2, none⟩ v) i y v0 v1 v v3 v4 := h.set 2 v (heap_setCell_same W _ 2 _ _ v h.nb)
theorem AtN.set3 (h : AtN w R S W i y v0 v1 v2 v3 v4) (v : Value) : AtN w R S (W.setCell ⟨w.heap.size + 1, 3, none⟩ v) i y v0 v1 v2 v v4 := h.set 3 v (heap_setCell_same W _ 3 _ _ v h.nb)
theorem AtN.set4 (h : AtN w R S W i y v0 v1 v2 v3 v4) (v : Value) : AtN w R S (W.setCell ⟨w.heap.size + 1, 4, none⟩ v) i y v0 v1 v2 v3 v := h.set 4 v (heap_setCell_same W _ 4 _ _ v h.nb)
theorem AtN.cells (h : AtN w R S W i y v0 v1 v2 v3 v4) : W.cell? ⟨w.heap.size + 1, 0, none⟩ = some v0 ∧ W.cell? ⟨w.heap.size + 1, 1, none⟩ = some v1 ∧ W.cell? ⟨w.heap.size + 1, 2, none⟩ = some v2 ∧ W.cell? ⟨w.heap.size + 1, 3, none⟩ = some v3 ∧ W.cell? ⟨w.heap.size + 1, 4, none⟩ = some v4 := five_cells h.nb
theorem AtN.free (h : AtN w R S W i y v0 v1 v2 v3 v4) (c : Nat) : W.frozen? ⟨w.heap.size + 1, c, none⟩ = false := frozen_of_row W _ c _ _ h.nb
theorem AtN.freeR (h : AtN w R S W i y v0 v1 v2 v3 v4) (c : Nat) : W.frozen? ⟨w.heap.size, c, none⟩ = false := frozen_of_row W _ c _ _ h.rb
theorem ownsRow_set {base : Nat} {e : TypeId} {size : Nat} {v u : Value} {n N c : Nat} {xs : List Value} (h : W.ownsRow base e size v n xs) (hN : N < base) : (W.setCell ⟨N, c, none⟩ u).ownsRow base e size v n xs :=
  ownsRow_block h fun g hg => Below.heap_setCell _ _ _ _ (show g ≠ N by
    rcases h.2 with ⟨rfl, _⟩ | ⟨g', cap, cur, rfl, hb, _⟩
    · cases hg
    · have : g' = g := Option.some.inj hg
      omega)
end

/-- A row of nodes of the call's own, with what is in its nodes: all behind the block base, and the row's own block apart. -/
def NRow (w : World) (base : Nat) (v : Value) (l : List Tree) : Prop := Own w base (fun b => base ≤ b ∧ b < w.heap.size ∧ some b ≠ v.ownBlock) v l
theorem NRow.nil (w : World) (base : Nat) : NRow w base (.slice none 0 0) [] := ⟨[], World.ownsRow_nil _ _ _ _, rfl⟩
theorem NRow.only {w W : World} {R base : Nat} {v : Value} {l : List Tree} (h : NRow w base v l) (o : OnlyR R w W) (hR : R < base) : NRow W base v l := by
  obtain ⟨xs, ho, hc⟩ := h
  exact ⟨xs, ownsRow_only ho o hR, hc.keep (fun b hb => ⟨hb.1, Nat.lt_of_lt_of_le hb.2.1 o.size, hb.2.2⟩) fun b hb => o.block b hb.2.1 (by have := hb.1; omega)⟩
theorem NRow.kids {w : World} {base : Nat} {v : Value} {l : List Tree} (h : NRow w base v l) : Kids w (From base w.heap.size) v l :=
  Own.kids h (fun _ hb => ⟨hb.1, hb.2.1⟩) fun _ hg => Own.lt h _ hg
theorem NRow.form {w : World} {base : Nat} {v : Value} {l : List Tree} (h : NRow w base v l) : ∃ A c, v = .slice A l.length c := by
  obtain ⟨A, c, rfl, _⟩ := Own.form h
  exact ⟨A, c, rfl⟩
/-- What stands at the append of a node that was just read. -/
theorem NRow.push {w W : World} {R base : Nat} {v : Value} {l : List Tree} {t : Tree} {vm va vk : Value} (h : NRow w base v l) (o : OnlyR R w W) (hR : R < base) (hb : base ≤ w.heap.size)
    (hm : Strs W (From w.heap.size W.heap.size) vm t.marks) (ha : Pairs W (From w.heap.size W.heap.size) va t.attrs) (hk : Kids W (From w.heap.size W.heap.size) vk t.kids) :
    Own (W.alloc (.cells #[.string t.kind, .string t.text, vm, va, vk] 27)) base (fun b => base ≤ b ∧ b < W.heap.size ∧ some b ≠ v.ownBlock) v l ∧
    Src (W.alloc (.cells #[.string t.kind, .string t.text, vm, va, vk] 27)) (fun b => base ≤ b ∧ b < W.heap.size ∧ some b ≠ v.ownBlock) (.slice (some ⟨W.heap.size, 0, none⟩) 1 1) [t] ∧
    (∀ b, (base ≤ b ∧ b < W.heap.size ∧ some b ≠ v.ownBlock) → b < (W.alloc (.cells #[.string t.kind, .string t.text, vm, va, vk] 27)).heap.size ∧ some b ≠ v.ownBlock) ∧
    base ≤ (W.alloc (.cells #[.string t.kind, .string t.text, vm, va, vk] 27)).heap.size ∧
    (∀ (v' : Value) (w' : World), Own w' base (fun b => base ≤ b ∧ b < W.heap.size ∧ some b ≠ v.ownBlock) v' (l ++ [t]) → (W.alloc (.cells #[.string t.kind, .string t.text, vm, va, vk] 27)).grownBy w' v.ownBlock →
      (v'.ownBlock = v.ownBlock ∨ v'.ownBlock = some (W.alloc (.cells #[.string t.kind, .string t.text, vm, va, vk] 27)).heap.size) → NRow w' base v' (l ++ [t]) ∧ Below base W w') := by
  have hO := h.only o hR
  have hlt := Own.lt h
  have hBA : Below W.heap.size W (W.alloc (.cells #[.string t.kind, .string t.text, vm, va, vk] 27)) := (Below.refl _ _).alloc (Nat.le_refl _) _
  have hsz : (W.alloc (.cells #[.string t.kind, .string t.text, vm, va, vk] 27)).heap.size = W.heap.size + 1 := by simp
  have hF : ∀ b, From w.heap.size W.heap.size b → base ≤ b ∧ b < W.heap.size ∧ some b ≠ v.ownBlock := fun b hb' => ⟨Nat.le_trans hb hb'.1, hb'.2, fun e => by have := (hlt b e.symm).2; have := hb'.1; omega⟩
  have keep : ∀ b, From w.heap.size W.heap.size b → (W.alloc (.cells #[.string t.kind, .string t.text, vm, va, vk] 27)).heap[b]? = W.heap[b]? := fun b hb' => hBA.block b hb'.2
  refine ⟨Own.later hO hBA fun b hb' => hb'.2.1, ?_, fun b hb' => ⟨by omega, hb'.2.2⟩, by have := o.size; omega, fun v' w' h1 h2 h3 => ⟨?_, ?_⟩⟩
  · refine src_one (hm.keep hF keep) (ha.keep hF keep) (hk.keep hF keep) ?_ ?_ ?_ ?_ ?_ <;> exact fresh_cell W #[.string t.kind, .string t.text, vm, va, vk] _ _ _ rfl
  · refine Own.widen' h1 fun b hb' => ⟨hb'.1, Nat.lt_of_lt_of_le (by omega) h2.size, ?_⟩
    rcases h3 with h3 | h3
    · rw [h3]; exact hb'.2.2
    · rw [h3]; intro e; have e := Option.some.inj e; have := hb'.2.1; omega
  · have hB : Below base W (W.alloc (.cells #[.string t.kind, .string t.text, vm, va, vk] 27)) := hBA.mono (Nat.le_trans hb o.size)
    exact hB.grown h2 (by have := o.size; omega) fun k hk => (hlt k hk).1
where
  Own.widen' {w : World} {base : Nat} {S S' : Nat → Prop} {v : Value} {l : List Tree} (h : Own w base S v l) (hS : ∀ b, S b → S' b) : Own w base S' v l := by
    obtain ⟨xs, ho, hc⟩ := h
    exact ⟨xs, ho, hc.keep hS fun _ _ => rfl⟩
end Go.Proofs.YtggoebbfgkebcaaDoor

namespace Go.Proofs.YtggoebbfgkebcaaDoor
open Go.RowKit Go.Sort Go.Maps

/-- What node answers. -/
structure NodK (S : ByteArray) (k : Nat) (t : Tree) (j : Nat) (y : Bool) : Prop where
  le : j ≤ S.size
  more : y = true ∨ k < j
  ge : k ≤ j
  weigh : weigh t + 8 * k ≤ 8 * j + 2
  weigh1 : y = false → Go.Proofs.YtggoebbfgkebcaaDoor.weigh t + 8 * k ≤ 8 * j
  back : ∀ u r, formedB u = true → Aft r → left S k = writeB u ++ r → t = u ∧ left S j = r ∧ y = false
def NodPost (R : Nat) (S : ByteArray) (k : Nat) (w : World) (e : Ending) (w' : World) : Prop :=
  ∃ v t j y, e = .returned v ∧ Node w' (From w.heap.size w'.heap.size) v t ∧ RR w' R S j y ∧ OnlyR R w w' ∧ NodK S k t j y
/-- What may stand behind nodes. -/
def EndR (r : List UInt8) : Prop := r = [] ∨ ∃ q, r = 93 :: q
theorem EndR.aft {r : List UInt8} (h : EndR r) : Aft r := by
  rcases h with rfl | ⟨q, rfl⟩
  · exact aft_nil
  · exact aft_93 q
/-- What nodes answers. -/
structure NodsK (S : ByteArray) (k : Nat) (x : Bool) (ts : List Tree) (j : Nat) (y : Bool) : Prop where
  le : j ≤ S.size
  ge : k ≤ j
  bad : x = true → y = true ∧ ts = []
  weigh : weighAll ts + 8 * k ≤ 8 * j + 2
  back : ∀ us r, x = false → (∀ u ∈ us, formedB u = true) → EndR r → left S k = writeAllB us ++ r → ts = us ∧ left S j = r ∧ y = false
def NodsPost (R : Nat) (S : ByteArray) (k : Nat) (x : Bool) (w : World) (e : Ending) (w' : World) : Prop :=
  ∃ v ts j y, e = .returned v ∧ Kids w' (From w.heap.size w'.heap.size) v ts ∧ RR w' R S j y ∧ OnlyR R w w' ∧ NodsK S k x ts j y
def RNode (n : Nat) : Prop := ∀ (R : Nat) (S : ByteArray) (k : Nat) (w : World), RR w R S k false → S.size ≤ 124000 → k ≤ S.size → S.size < n + k → n ≤ 1000000 →
  Calls Tryd.prog 29 #[.pointer (some ⟨R, 0, none⟩), .int .i64 (n : Int)] w (NodPost R S k w)
def RNodes (n : Nat) : Prop := ∀ (R : Nat) (S : ByteArray) (k : Nat) (x : Bool) (w : World), RR w R S k x → S.size ≤ 124000 → k ≤ S.size → (x = false → S.size < n + k) → n ≤ 1000000 →
  Calls Tryd.prog 58 #[.pointer (some ⟨R, 0, none⟩), .int .i64 (n : Int)] w (NodsPost R S k x w)

theorem write_first {u : Tree} (h : formedB u = true) : ∃ c l, writeB u = c :: l ∧ c ≠ 93 := by
  obtain ⟨k, x, m, a, l⟩ := u
  cases hk : isTxt k with
  | true => exact ⟨34, _, by rw [writeB, if_pos hk]; rfl, by decide⟩
  | false =>
    obtain ⟨hnm, _, _, _, _⟩ := node_parts hk h
    cases hc : k.data.toList with
    | nil => exact absurd hc (name_ne hnm)
    | cons c q =>
      refine ⟨c, _, by rw [writeB, hk]; simp only [Bool.false_eq_true, if_false]; rw [hc]; rfl, fun e => ?_⟩
      have := name_small hnm c (by rw [hc]; simp)
      rw [e] at this; revert this; decide

/-- How far nodes have been read. -/
structure NodsR (S : ByteArray) (k : Nat) (x : Bool) (ts : List Tree) (i : Nat) (y : Bool) : Prop where
  ge : k ≤ i
  le : i ≤ S.size
  bad : x = true → y = true ∧ ts = []
  weigh : weighAll ts + 8 * k ≤ 8 * i + 2
  weigh1 : y = false → weighAll ts + 8 * k ≤ 8 * i
  back : ∀ us r, x = false → (∀ u ∈ us, formedB u = true) → EndR r → left S k = writeAllB us ++ r → y = false ∧ ∃ us2, us = ts ++ us2 ∧ left S i = writeAllB us2 ++ r
theorem NodsR.start {S : ByteArray} {k : Nat} {x : Bool} (hk : k ≤ S.size) : NodsR S k x [] k x :=
  ⟨Nat.le_refl _, hk, fun h => ⟨h, rfl⟩, by simp [weighAll], fun _ => by simp [weighAll], fun us r hx _ _ hl => ⟨hx, us, rfl, hl⟩⟩
/-- .. to the end. -/
theorem NodsR.stop {S : ByteArray} {k i : Nat} {x y : Bool} {ts : List Tree} (h : NodsR S k x ts i y) (hs : y = true ∨ S.size ≤ i ∨ isC S i 93 = true) : NodsK S k x ts i y := by
  refine ⟨h.le, h.ge, h.bad, h.weigh, fun us r hx hf hr hl => ?_⟩
  obtain ⟨hy, us2, he, h2⟩ := h.back us r hx hf hr hl
  have hnil : us2 = [] := by
    cases us2 with
    | nil => rfl
    | cons u us2 =>
      exfalso
      obtain ⟨c, l, hw, hc⟩ := write_first (hf u (by rw [he]; simp))
      rw [writeAllB, hw] at h2
      obtain ⟨hlt, _, _⟩ := left_cons (c := c) (l := l ++ writeAllB us2 ++ r) (by rw [h2]; simp)
      rcases hs with hs | hs | hs
      · rw [hy] at hs; cases hs
      · omega
      · rw [left_no (c := c) (l := l ++ writeAllB us2 ++ r) (by rw [h2]; simp) hc] at hs; cases hs
  subst hnil
  exact ⟨by rw [he]; simp, by rw [h2]; simp [writeAllB], hy⟩
/-- .. a node more. -/
theorem NodsR.next {S : ByteArray} {k i j : Nat} {x y : Bool} {ts : List Tree} {t : Tree} (h : NodsR S k x ts i false) (hi : i < S.size) (h93 : isC S i 93 = false) (hn : NodK S i t j y) : NodsR S k x (ts ++ [t]) j y := by
  have hw := h.weigh1 rfl
  have hap : weighAll (ts ++ [t]) = weighAll ts + Go.Proofs.YtggoebbfgkebcaaDoor.weigh t := by rw [weighAll_append]; simp [weighAll]
  refine ⟨Nat.le_trans h.ge hn.ge, hn.le, fun hx => ?_, ?_, fun hy => ?_, fun us r hx hf hr hl => ?_⟩
  · have := (h.bad hx).1; cases this
  · have := hn.weigh; omega
  · have := hn.weigh1 hy; omega
  · obtain ⟨_, us2, he, h2⟩ := h.back us r hx hf hr hl
    cases us2 with
    | nil =>
      exfalso
      rw [writeAllB, List.nil_append] at h2
      rcases hr with rfl | ⟨q, rfl⟩
      · rw [left_at hi] at h2; cases h2
      · rw [(left_cons h2).2.2] at h93; cases h93
    | cons u us3 =>
      rw [writeAllB, List.append_assoc] at h2
      have hfu : ∀ v ∈ us3, formedB v = true := fun v hv => hf v (by rw [he]; simp [hv])
      obtain ⟨e1, e2, e3⟩ := hn.back u (writeAllB us3 ++ r) (hf u (by rw [he]; simp)) (aft_all us3 r hfu hr.aft) h2
      exact ⟨e3, us3, by rw [he, e1]; simp, e2⟩

set_option maxHeartbeats 8000000 in
theorem rr_nodes (n : Nat) (ih : RNode n) : RNodes n := by
  intro R S k x w h hs hk hn hn6
  have IH := Lib.hid ih
  have HN := Lib.hid hn
  have hRw := h.lt
  have HR := Lib.hid h
  clear ih h hn
  go_enter Tryd.func58, Tryd.ntmps58
  go_wp2
  go_loopg [5] (S.size + 1) (fun g s5 wx => ∃ (v : Value) (ts : List Tree) (i : Nat) (y : Bool), v = s5 ∧ Hid (NRow wx w.heap.size v ts) ∧ Hid (RR wx R S i y) ∧ Hid (OnlyR R w wx) ∧ Hid (y = false → S.size - i + 1 ≤ g) ∧ Hid (NodsR S k x ts i y))
  case atStart => exact ⟨_, [], k, x, rfl, Lib.hid (NRow.nil _ _), HR, Lib.hid (OnlyR.refl R w), Lib.hid fun _ => by omega, Lib.hid (NodsR.start hk)⟩
  case round =>
    obtain ⟨v, ts, i, y, rfl, hro, hr, ho, hg, hq⟩ := hrel
    obtain ⟨A, cp, rfl⟩ := hro.out.form
    obtain ⟨c0, c1, c2⟩ := hr.out.three
    have hki := hq.out.ge
    have hil := hq.out.le
    cases y with
    | true =>
      have HQ := Lib.hid (hq.out.stop (.inl rfl))
      clear hq hg
      go_upto_region 2 with fail
      go_quiet (fail)
      go_wp2
      go_ret
      exact ⟨_, ts, i, true, rfl, hro.out.kids.keep (fun _ h => h) fun _ _ => rfl, hr.out, ⟨ho.out.os, ho.out.tape, ho.out.output, ho.out.size, ho.out.block⟩, HQ.out⟩
    | false =>
      by_cases hlt : i < S.size
      · have i1 : (i : Int) < (S.size : Int) := by omega
        have HC : Hid (∀ m, Calls Tryd.prog 54 #[.pointer (some ⟨R, 0, none⟩), .int .u8 93] (wr.drewN m) fun e w' => e = .returned (.bool (isC S i 93)) ∧ ∃ n, w' = (wr.drewN m).drewN n) := Lib.hid fun m => rr_isN R S i false 93 (wr.drewN m) hr.out hil
        cases h93 : isC S i 93 with
        | true =>
          have HQ := Lib.hid (hq.out.stop (.inr (.inr h93)))
          rw [h93] at HC
          clear hq hg h93
          go_upto_region 2 with fail
          go_quiet ((go_at_call 54; exact Calls.quiet_of (HC.out _)))
          go_wp2
          go_ret
          exact ⟨_, ts, i, false, rfl, hro.out.kids.keep (fun _ h => h) fun _ _ => rfl, hr.out, ⟨ho.out.os, ho.out.tape, ho.out.output, ho.out.size, ho.out.block⟩, HQ.out⟩
        | false =>
          rw [h93] at HC
          have H93 := Lib.hid h93
          clear h93
          go_upto_region 2 with fail
          go_quiet ((go_at_call 54; exact Calls.quiet_of (HC.out _)))
          have HR2 : Hid (RR (wr.drewN nq) R S i false) := Lib.hid hr.out
          have HO2 : Hid (OnlyR R w (wr.drewN nq)) := Lib.hid ⟨ho.out.os, ho.out.tape, ho.out.output, ho.out.size, ho.out.block⟩
          have HRO2 : Hid (NRow (wr.drewN nq) w.heap.size (.slice A ts.length cp) ts) := Lib.hid (hro.out.only (R := R) ⟨rfl, rfl, rfl, Nat.le_refl _, fun _ _ _ => rfl⟩ hRw)
          clear HC c0 c1 c2 hr ho hro
          generalize wr.drewN nq = w2 at *
          have hni : S.size < n + i := by
            have h1 : x = false := by
              cases hx : x with
              | false => rfl
              | true => have := (hq.out.bad hx).1; cases this
            have := HN.out h1
            omega
          go_wp2_with fail
          refine (IH.out R S i w2 HR2.out hs hil hni hn6).mono ?_
          rintro e w3 ⟨v3, t, j, y3, rfl, hnd, h3, o3, hk3⟩
          obtain ⟨vm, va, vk, rfl, hm, ha, hkk⟩ := hnd
          have HQ3 := Lib.hid (hq.out.next hlt H93.out hk3)
          have hwt : ts.length + 1 ≤ 1000000 := by
            have h1 := hq.out.weigh1 rfl
            have h2 := length_le_weigh ts
            omega
          have HG : Hid (if y3 = true then 0 < gk else S.size - j + 1 < gk) := Lib.hid (by
            have h1 := hg.out (by simp)
            rcases hk3.more with h2 | h2
            · rw [h2]; simp only [if_true]; omega
            · have := hk3.le
              split <;> omega)
          have hp := HRO2.out.push (t := t) o3 hRw HO2.out.size hm ha hkk
          obtain ⟨A1, n1, d1, rfl⟩ : ∃ A n d, vm = .slice A n d := by obtain ⟨A, c, rfl, _⟩ := hm.form; exact ⟨_, _, _, rfl⟩
          obtain ⟨A2, n2, d2, rfl⟩ : ∃ A n d, va = .slice A n d := by obtain ⟨A, c, rfl, _⟩ := ha.form; exact ⟨_, _, _, rfl⟩
          obtain ⟨A3, n3, d3, rfl⟩ : ∃ A n d, vk = .slice A n d := by obtain ⟨A, c, rfl, _⟩ := hkk.form; exact ⟨_, _, _, rfl⟩
          have P1 := Lib.hid hp.1
          have P2 := Lib.hid hp.2.1
          have P3 := Lib.hid hp.2.2.1
          have P4 := Lib.hid hp.2.2.2.1
          have P5 := Lib.hid hp.2.2.2.2
          have HR3 := Lib.hid h3
          have HO3 := Lib.hid (HO2.out.trans o3)
          have HW : Hid (ts.length + 1 ≤ 1000000) := Lib.hid hwt
          clear hp hm ha hkk h3 o3 hk3 hq hg HRO2 HR2 HO2 hwt
          go_wp2_with (at_builtin; refine wpList_append_nodes rfl (.tmp 28) (.tmp 32) rfl w.heap.size (fun b => w.heap.size ≤ b ∧ b < w3.heap.size ∧ some b ≠ (Value.slice A ts.length cp).ownBlock) (.slice A ts.length cp) _ ts [t] rfl rfl P1.out P2.out P3.out HW.out P4.out ?_; intro v6 w6 ho6 hg6 ha6; have HP6 := Lib.hid (P5.out v6 w6 ho6 hg6 ha6); clear ho6 hg6 ha6)
          go_wp2
          cases y3 with
          | true =>
            have hg0 : 0 < gk := by have := HG.out; simpa using this
            go_roundg 0
            case measure => omega
            case rel => exact ⟨_, ts ++ [t], j, true, rfl, Lib.hid HP6.out.1, Lib.hid (HR3.out.below HP6.out.2 hRw), Lib.hid (HO3.out.thenBelow HP6.out.2 (Nat.le_refl _)), Lib.hid (fun e => by cases e), HQ3⟩
          | false =>
            have hg0 : S.size - j + 1 < gk := by have := HG.out; simpa using this
            go_roundg (S.size - j + 1)
            case measure => omega
            case rel => exact ⟨_, ts ++ [t], j, false, rfl, Lib.hid HP6.out.1, Lib.hid (HR3.out.below HP6.out.2 hRw), Lib.hid (HO3.out.thenBelow HP6.out.2 (Nat.le_refl _)), Lib.hid fun _ => Nat.le_refl _, HQ3⟩
      · have HQ := Lib.hid (hq.out.stop (.inr (.inl (Nat.le_of_not_lt hlt))))
        have i1 : ¬ (i : Int) < (S.size : Int) := by omega
        have i2 : decide ((i : Int) < (S.size : Int)) = false := decide_eq_false i1
        clear hq hg
        go_upto_region 2 with fail
        go_quiet (fail)
        go_wp2
        go_ret
        exact ⟨_, ts, i, false, rfl, hro.out.kids.keep (fun _ h => h) fun _ _ => rfl, hr.out, ⟨ho.out.os, ho.out.tape, ho.out.output, ho.out.size, ho.out.block⟩, HQ.out⟩
end Go.Proofs.YtggoebbfgkebcaaDoor

namespace Go.Proofs.YtggoebbfgkebcaaDoor
open Go.RowKit Go.Sort Go.Maps

/-- What letters answers. -/
structure LetK (S : ByteArray) (k : Nat) (nm : ByteArray) (j : Nat) : Prop where
  is : nm = tB ((left S k).takeWhile small)
  rest : left S j = (left S k).dropWhile small
  le : j ≤ S.size
  size : nm.size + k = j
theorem LetK.of {S : ByteArray} {k j : Nat} (h1 : left S j = (left S k).dropWhile small) (h2 : j ≤ S.size) (h3 : ((left S k).takeWhile small).length + k = j) : LetK S k (tB ((left S k).takeWhile small)) j :=
  ⟨rfl, h1, h2, by rw [tB_size]; exact h3⟩
theorem LetK.back {S : ByteArray} {k j : Nat} {nm z : ByteArray} {x : UInt8} {q : List UInt8} (h : LetK S k nm j) (hz : ∀ c ∈ z.data.toList, small c = true) (hx : small x = false) (hl : left S k = z.data.toList ++ x :: q) : nm = z ∧ left S j = x :: q := by
  obtain ⟨h1, h2⟩ := letters_take z.data.toList q x hz hx
  refine ⟨?_, by rw [h.rest, hl, h2]⟩
  rw [h.is, hl, h1]
  exact (tB_of rfl).symm
theorem eat_yes {S : ByteArray} {k : Nat} {c : UInt8} (h : isC S k c = true) : eatK S k c = k + 1 := if_pos h
theorem eat_back {S : ByteArray} {k : Nat} {c : UInt8} {l : List UInt8} (h : left S k = c :: l) : isC S k c = true ∧ left S (eatK S k c) = l := by
  obtain ⟨_, h2, h3⟩ := left_cons h
  exact ⟨h3, by rw [eat_yes h3]; exact h2⟩
theorem firstC_is {S : ByteArray} {k : Nat} {c d : UInt8} {l : List UInt8} (h : left S k = c :: l) (hc : isC S k d = true) : c = d := by
  unfold isC at hc; rw [h] at hc; simpa using hc

/-- The marks of a text, as far as they have been read. -/
structure MarkR (S : ByteArray) (k : Nat) (s : ByteArray) (m : List ByteArray) (i : Nat) (y : Bool) : Prop where
  le : i ≤ S.size
  weigh : s.size + weighL m + k + 1 ≤ i
  back : ∀ (x : ByteArray) (mm : List ByteArray) (r : List UInt8), (∀ z ∈ mm, nameB z = true) → Aft r → left S k = quoteL x.data.toList ++ (marksW mm ++ r) → s = x ∧ y = false ∧ ∃ m2, mm = m ++ m2 ∧ left S i = tailC m2 ++ 62 :: r
theorem weighL_snoc (m : List ByteArray) (s : ByteArray) : weighL (m ++ [s]) = weighL m + (s.size + 1) := by simp [weighL]
theorem weighP_snoc (m : List (ByteArray × ByteArray)) (p : ByteArray × ByteArray) : weighP (m ++ [p]) = weighP m + (p.1.size + p.2.size + 1) := by simp [weighP]
theorem QuoK.txt {S : ByteArray} {k j : Nat} {s : ByteArray} {y : Bool} (h : QuoK S k false s j y) (x : ByteArray) (q : List UInt8) (hl : left S k = quoteL x.data.toList ++ q) : s = x ∧ left S j = q ∧ y = false := by
  obtain ⟨h1, h2, h3⟩ := h.back _ _ rfl hl
  exact ⟨h1.trans (tB_of rfl).symm, h2, h3⟩
theorem MarkR.start {S : ByteArray} {k j i : Nat} {s nm : ByteArray} {y : Bool} (hq : QuoK S k false s j y) (h34 : isC S k 34 = true) (h60 : isC S j 60 = true) (hl : LetK S (eatK S j 60) nm i) : MarkR S k s [nm] i (y || !isC S j 60) := by
  rw [eat_yes h60] at hl
  refine ⟨hl.le, ?_, fun x mm r hm hr he => ?_⟩
  · have h1 := hq.more h34
    have h2 := hl.size
    simp only [weighL, List.map_cons, List.map_nil, List.sum_cons, List.sum_nil]; omega
  · obtain ⟨h1, h2, h3⟩ := hq.txt x _ he
    cases mm with
    | nil =>
      exfalso
      rw [show marksW [] ++ r = r from rfl] at h2
      cases r with
      | nil => rw [isC, h2] at h60; cases h60
      | cons c r => exact hr c rfl (firstC_is h2 h60)
    | cons z l =>
      obtain ⟨a, q, e, ha⟩ := tailC_next l r
      have e2 : marksW (z :: l) ++ r = 60 :: (z.data.toList ++ a :: q) := by
        rw [marksW_cons (by simp), commaM_tail, ← e]; simp
      rw [e2] at h2
      obtain ⟨_, h4, _⟩ := left_cons h2
      obtain ⟨h5, h6⟩ := hl.back (name_small (hm z (by simp))) ha h4
      exact ⟨h1, by rw [h3, h60]; rfl, l, by rw [h5]; rfl, by rw [h6, e]⟩
theorem MarkR.next {S : ByteArray} {k j i : Nat} {s nm : ByteArray} {m : List ByteArray} {y : Bool} (h : MarkR S k s m j y) (h44 : isC S j 44 = true) (hl : LetK S (eatK S j 44) nm i) : MarkR S k s (m ++ [nm]) i (y || !isC S j 44) := by
  rw [eat_yes h44] at hl
  refine ⟨hl.le, ?_, fun x mm r hm hr he => ?_⟩
  · have h1 := h.weigh
    have h2 := hl.size
    rw [weighL_snoc]; omega
  · obtain ⟨h1, h3, m2, h4, h5⟩ := h.back x mm r hm hr he
    cases m2 with
    | nil => exact absurd (firstC_is (show left S j = 62 :: r from h5) h44) (by decide)
    | cons z l =>
      obtain ⟨a, q, e, ha⟩ := tailC_next l r
      have e2 : tailC (z :: l) ++ 62 :: r = 44 :: (z.data.toList ++ a :: q) := by rw [tailC, ← e]; simp
      rw [e2] at h5
      obtain ⟨_, h6, _⟩ := left_cons h5
      obtain ⟨h7, h8⟩ := hl.back (name_small (hm z (by rw [h4]; simp))) ha h6
      exact ⟨h1, by rw [h3, h44]; rfl, l, by rw [h4, h7]; simp, by rw [h8, e]⟩
theorem text_of {S : ByteArray} {k : Nat} {u : Tree} {r : List UInt8} (h34 : isC S k 34 = true) (hf : formedB u = true) (hl : left S k = writeB u ++ r) : ∃ x mm, u = .mk TEXT x mm [] [] ∧ (∀ z ∈ mm, nameB z = true) ∧ left S k = quoteL x.data.toList ++ (marksW mm ++ r) := by
  obtain ⟨kd, x, mm, a, l⟩ := u
  cases hk : isTxt kd with
  | true =>
    obtain ⟨hm, rfl, rfl⟩ := text_parts hk hf
    have hkt : kd = TEXT := txt_eq hk (by unfold isTxt; rw [beq_iff_eq, Lib.toList_data]; rfl)
    subst hkt
    exact ⟨x, mm, rfl, marks_names hm, by rw [hl, writeB, if_pos hk, List.append_assoc]⟩
  | false =>
    exfalso
    obtain ⟨hnm, _, _, _, _⟩ := node_parts hk hf
    obtain ⟨c, q, hc⟩ : ∃ c q, kd.data.toList = c :: q := by
      cases h : kd.data.toList with
      | nil => exact absurd h (name_ne hnm)
      | cons c q => exact ⟨c, q, rfl⟩
    have hs := name_small hnm c (by rw [hc]; simp)
    rw [writeB, hk] at hl
    simp only [Bool.false_eq_true, if_false] at hl
    rw [hc] at hl
    have := firstC_is (show left S k = c :: _ from hl) h34
    rw [this] at hs
    revert hs; decide
theorem weigh_text (s : ByteArray) (m : List ByteArray) : weigh (Tree.mk TEXT s m [] []) = s.size + weighL m + 6 := by
  simp only [weigh, weighP, weighAll, List.map_nil, List.sum_nil]
  rw [show TEXT.size = 4 from rfl]; omega
theorem NodK.text {S : ByteArray} {k j : Nat} {s : ByteArray} {y : Bool} (hq : QuoK S k false s j y) (h34 : isC S k 34 = true) (h60 : isC S j 60 = false) : NodK S k (Tree.mk TEXT s [] [] []) j y := by
  have h1 := hq.more h34
  have hw := weigh_text s []
  simp only [weighL, List.map_nil, List.sum_nil] at hw
  refine ⟨hq.le, .inr (by omega), hq.ge, by omega, fun _ => by omega, fun u r hf hr hl => ?_⟩
  obtain ⟨x, mm, rfl, hm, he⟩ := text_of h34 hf hl
  obtain ⟨h2, h3, h4⟩ := hq.txt x _ he
  cases mm with
  | nil => exact ⟨by rw [h2], h3, h4⟩
  | cons z l =>
    exfalso
    rw [marksW_cons (by simp)] at h3
    rw [(left_cons (c := 60) (l := commaM (z :: l) ++ [62] ++ r) (by rw [h3]; simp)).2.2] at h60
    cases h60
theorem NodK.marks {S : ByteArray} {k j : Nat} {s : ByteArray} {m : List ByteArray} {y : Bool} (h : MarkR S k s m j y) (h34 : isC S k 34 = true) (h44 : isC S j 44 = false) : NodK S k (Tree.mk TEXT s m [] []) (eatK S j 62) (y || !isC S j 62) := by
  have h1 := h.weigh
  have hw := weigh_text s m
  obtain ⟨e1, e2⟩ := eatK_le (c := 62) h.le
  refine ⟨e2, .inr (by omega), by omega, by omega, fun _ => by omega, fun u r hf hr hl => ?_⟩
  obtain ⟨x, mm, rfl, hm, he⟩ := text_of h34 hf hl
  obtain ⟨h2, h3, m2, h4, h5⟩ := h.back x mm r hm hr he
  cases m2 with
  | nil =>
    obtain ⟨h6, h7⟩ := eat_back (show left S j = 62 :: r from h5)
    exact ⟨by rw [h2, h4]; simp, h7, by rw [h3, h6]; rfl⟩
  | cons z l =>
    exfalso
    rw [(left_cons (c := 44) (l := z.data.toList ++ tailC l ++ 62 :: r) (by rw [h5]; simp [tailC])).2.2] at h44
    cases h44

/-- A node's attributes, each with its sign ahead. -/
def tailS (c : UInt8) : List (ByteArray × ByteArray) → List UInt8
  | [] => []
  | p :: l => c :: (attrW p ++ tailA l)
theorem tailS_32 : ∀ l, tailS 32 l = tailA l
  | [] => rfl
  | _ :: _ => rfl
/-- A node's head up to its bracket. -/
def HeadW (S : ByteArray) (k : Nat) (kx : ByteArray) (aa : List (ByteArray × ByteArray)) (r : List UInt8) : Prop :=
  nameB kx = true ∧ (∀ p ∈ aa, nameB p.1 = true) ∧ left S k = kx.data.toList ++ (attrsW aa ++ 91 :: r)
/-- The attributes, as far as they have been read. -/
structure AttrR (S : ByteArray) (k : Nat) (kd : ByteArray) (a : List (ByteArray × ByteArray)) (c : UInt8) (i : Nat) (y : Bool) : Prop where
  le : i ≤ S.size
  weigh : kd.size + weighP a + k ≤ i
  sign : c = 40 ∨ c = 32
  back : ∀ kx aa r, HeadW S k kx aa r → kd = kx ∧ y = false ∧ ∃ a2, aa = a ++ a2 ∧ left S i = tailS c a2 ++ 41 :: 91 :: r
structure HeadR (S : ByteArray) (k : Nat) (kd : ByteArray) (a : List (ByteArray × ByteArray)) (i : Nat) (y : Bool) : Prop where
  le : i ≤ S.size
  weigh : kd.size + weighP a + k ≤ i
  back : ∀ kx aa r, HeadW S k kx aa r → kd = kx ∧ a = aa ∧ y = false ∧ left S i = 91 :: r
theorem LetK.head {S : ByteArray} {k j : Nat} {kd kx : ByteArray} {aa : List (ByteArray × ByteArray)} {r : List UInt8} (hl : LetK S k kd j) (h : HeadW S k kx aa r) : kd = kx ∧ left S j = attrsW aa ++ 91 :: r := by
  obtain ⟨h1, h2, h3⟩ := h
  obtain ⟨x, q, e, hx⟩ : ∃ x q, attrsW aa ++ 91 :: r = x :: q ∧ small x = false := by
    cases aa with
    | nil => exact ⟨91, r, rfl, by decide⟩
    | cons p l => exact ⟨40, _, by rw [attrsW_cons (by simp)]; rfl, by decide⟩
  rw [e] at h3 ⊢
  exact hl.back (name_small h1) hx h3
theorem AttrR.start {S : ByteArray} {k j : Nat} {kd : ByteArray} (hl : LetK S k kd j) (h40 : isC S j 40 = true) : AttrR S k kd [] 40 j false := by
  refine ⟨hl.le, by have := hl.size; simp only [weighP, List.map_nil, List.sum_nil]; omega, .inl rfl, fun kx aa r h => ?_⟩
  obtain ⟨h1, h2⟩ := hl.head h
  cases aa with
  | nil => exact absurd (firstC_is (show left S j = 91 :: r from h2) h40) (by decide)
  | cons p l =>
    refine ⟨h1, rfl, p :: l, rfl, ?_⟩
    rw [h2, attrsW_cons (by simp), blankA_tail]; simp [tailS]
theorem AttrR.next {S : ByteArray} {k i i2 i4 : Nat} {kd nm s : ByteArray} {a : List (ByteArray × ByteArray)} {c : UInt8} {y4 : Bool} (h : AttrR S k kd a c i false) (hc : isC S i c = true) (hl : LetK S (eatK S i c) nm i2)
    (hq : QuoK S (eatK S i2 61) ((false || !isC S i c) || !isC S i2 61) s i4 y4) : AttrR S k kd (a ++ [(nm, s)]) 32 i4 y4 := by
  rw [eat_yes hc] at hl
  obtain ⟨e1, _⟩ := eatK_le (c := 61) hl.le
  refine ⟨hq.le, ?_, .inr rfl, fun kx aa r hw => ?_⟩
  · have h1 := h.weigh
    have h2 := hl.size
    have h3 := hq.size
    rw [weighP_snoc]; simp only; omega
  · obtain ⟨h1, _, a2, h4, h5⟩ := h.back kx aa r hw
    cases a2 with
    | nil =>
      have := firstC_is (show left S i = 41 :: 91 :: r from h5) hc
      rcases h.sign with e | e <;> rw [e] at this <;> exact absurd this (by decide)
    | cons p l =>
      have e2 : tailS c (p :: l) ++ 41 :: 91 :: r = c :: (p.1.data.toList ++ 61 :: (quoteL p.2.data.toList ++ (tailA l ++ 41 :: 91 :: r))) := by simp [tailS, attrW]
      rw [e2] at h5
      obtain ⟨_, h6, _⟩ := left_cons h5
      obtain ⟨h7, h8⟩ := hl.back (name_small (hw.2.1 p (by rw [h4]; simp))) (by decide) h6
      obtain ⟨h9, h10⟩ := eat_back h8
      rw [hc, h9] at hq
      obtain ⟨h11, h12, h13⟩ := QuoK.txt hq p.2 _ h10
      exact ⟨h1, h13, l, by rw [h4, h7, h11]; simp, by rw [h12, tailS_32]⟩
theorem AttrR.stop {S : ByteArray} {k i : Nat} {kd : ByteArray} {a : List (ByteArray × ByteArray)} {c : UInt8} {y : Bool} (h : AttrR S k kd a c i y) (hc : isC S i c = false ∨ y = true) : HeadR S k kd a (eatK S i 41) (y || !isC S i 41) := by
  obtain ⟨e1, e2⟩ := eatK_le (c := 41) h.le
  refine ⟨e2, by have := h.weigh; omega, fun kx aa r hw => ?_⟩
  obtain ⟨h1, h3, a2, h4, h5⟩ := h.back kx aa r hw
  cases a2 with
  | nil =>
    obtain ⟨h6, h7⟩ := eat_back (show left S i = 41 :: 91 :: r from h5)
    exact ⟨h1, by rw [h4]; simp, by rw [h3, h6]; rfl, h7⟩
  | cons p l =>
    exfalso
    rcases hc with hc | hc
    · rw [(left_cons (c := c) (l := attrW p ++ tailA l ++ 41 :: 91 :: r) (by rw [h5]; simp [tailS])).2.2] at hc; cases hc
    · rw [hc] at h3; cases h3
theorem HeadR.none {S : ByteArray} {k j : Nat} {kd : ByteArray} (hl : LetK S k kd j) (h40 : isC S j 40 = false) : HeadR S k kd [] j false := by
  refine ⟨hl.le, by have := hl.size; simp only [weighP, List.map_nil, List.sum_nil]; omega, fun kx aa r h => ?_⟩
  obtain ⟨h1, h2⟩ := hl.head h
  cases aa with
  | nil => exact ⟨h1, rfl, rfl, h2⟩
  | cons p l =>
    exfalso
    rw [attrsW_cons (by simp)] at h2
    rw [(left_cons (c := 40) (l := blankA (p :: l) ++ [41] ++ 91 :: r) (by rw [h2]; simp)).2.2] at h40
    cases h40
theorem NodK.node {S : ByteArray} {k i i2 : Nat} {kd : ByteArray} {a : List (ByteArray × ByteArray)} {ks : List Tree} {y y2 : Bool} (h34 : isC S k 34 = false) (h : HeadR S k kd a i y) (hn : NodsK S (eatK S i 91) (y || !isC S i 91) ks i2 y2) :
    NodK S k (Tree.mk kd ⟨#[]⟩ [] a ks) (eatK S i2 93) (y2 || !isC S i2 93) := by
  obtain ⟨e1, e2⟩ := eatK_le (c := 93) hn.le
  obtain ⟨e3, e4⟩ := eatK_le (c := 91) h.le
  have h1 := h.weigh
  have h2 := hn.ge
  have h3 := hn.weigh
  have hw : Go.Proofs.YtggoebbfgkebcaaDoor.weigh (Tree.mk kd ⟨#[]⟩ [] a ks) = kd.size + weighP a + weighAll ks + 2 := by
    simp only [Go.Proofs.YtggoebbfgkebcaaDoor.weigh, weighL, List.map_nil, List.sum_nil]
    rw [show (⟨#[]⟩ : ByteArray).size = 0 from rfl]; omega
  cases h91 : isC S i 91 with
  | true =>
    have e5 := eat_yes h91
    refine ⟨e2, .inr (by omega), by omega, by omega, fun _ => by omega, fun u r hf hr hl => ?_⟩
    obtain ⟨kx, x, m, aa, l⟩ := u
    cases hk : isTxt kx with
    | true =>
      exfalso
      rw [writeB, if_pos hk] at hl
      rw [(left_cons (c := 34) (l := escL x.data.toList ++ [34] ++ marksW m ++ r) (by rw [hl]; simp [quoteL])).2.2] at h34
      cases h34
    | false =>
      obtain ⟨hnm, ht, rfl, ha, hrow⟩ := node_parts hk hf
      obtain rfl : x = ⟨#[]⟩ := bytes_of ht
      have hl2 : left S k = kx.data.toList ++ (attrsW aa ++ 91 :: (writeAllB l ++ 93 :: r)) := by rw [hl, writeB, hk]; simp
      obtain ⟨h5, h6, h7, h8⟩ := h.back kx aa _ ⟨hnm, attrs_names ha, hl2⟩
      obtain ⟨h9, h10⟩ := eat_back h8
      rw [h7, h91] at hn
      obtain ⟨h11, h12, h13⟩ := hn.back l (93 :: r) rfl (row_all l none hrow) (.inr ⟨r, rfl⟩) h10
      obtain ⟨h14, h15⟩ := eat_back h12
      exact ⟨by rw [h5, h6, h11], h15, by rw [h13, h14]; rfl⟩
  | false =>
    rw [h91] at hn
    obtain ⟨h5, h6⟩ := hn.bad (by simp)
    subst h6
    have e5 : eatK S i 91 = i := if_neg (by rw [h91]; decide)
    simp only [weighAll] at hw h3
    refine ⟨e2, .inl (by rw [h5]; rfl), by omega, by omega, fun e => by (rw [h5] at e; cases e), fun u r hf hr hl => ?_⟩
    exfalso
    obtain ⟨kx, x, m, aa, l⟩ := u
    cases hk : isTxt kx with
    | true =>
      rw [writeB, if_pos hk] at hl
      rw [(left_cons (c := 34) (l := escL x.data.toList ++ [34] ++ marksW m ++ r) (by rw [hl]; simp [quoteL])).2.2] at h34
      cases h34
    | false =>
      obtain ⟨hnm, ht, rfl, ha, hrow⟩ := node_parts hk hf
      obtain rfl : x = ⟨#[]⟩ := bytes_of ht
      have hl2 : left S k = kx.data.toList ++ (attrsW aa ++ 91 :: (writeAllB l ++ 93 :: r)) := by rw [hl, writeB, hk]; simp
      obtain ⟨_, _, _, h8⟩ := h.back kx aa _ ⟨hnm, attrs_names ha, hl2⟩
      rw [(eat_back h8).1] at h91
      cases h91
end Go.Proofs.YtggoebbfgkebcaaDoor
