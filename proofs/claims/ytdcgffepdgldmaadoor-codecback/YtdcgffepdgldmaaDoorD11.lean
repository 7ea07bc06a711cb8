/-
  The reader's loop as a plain function; what was written is read back.
-/
import Derived.Test.YtdcgffepdgldmaaDoorD9
import Derived.Test.YtdcgffepdgldmaaDoorD10
namespace Go.Proofs.YtdcgffepdgldmaaDoor
open Go.RowKit Go.Sort Go.Maps

def addKid (t k : Tree) : Tree := .mk t.kind t.text t.marks t.attrs (t.kids ++ [k])
def addKids (t : Tree) (l : List Tree) : Tree := .mk t.kind t.text t.marks t.attrs (t.kids ++ l)
/-- One round: what is left, whether something was wrong, the open nodes (the innermost ahead). -/
def roundL (c : UInt8) (l : List UInt8) (x : Bool) (top : Tree) (st : List Tree) : List UInt8 × Bool × List Tree :=
  if c == 34 then ((textL (c :: l)).2.1, x || (textL (c :: l)).2.2, addKid top (textL (c :: l)).1 :: st)
  else if c == 93 then
    (match st with
     | [] => ([], true, [top])
     | up :: st' => (if (closedL (st'.length + 1) top).2 then [] else l, x || (closedL (st'.length + 1) top).2, addKid up (closedL (st'.length + 1) top).1 :: st'))
  else ((headL (c :: l)).2.1, x || (headL (c :: l)).2.2, (headL (c :: l)).1 :: top :: st)
/-- The loop, in at most so many rounds. -/
def readN : Nat → List UInt8 → Bool → List Tree → List Tree × Bool
  | 0, _, x, st => (st, x)
  | _ + 1, [], x, st => (st, x)
  | _ + 1, _ :: _, x, [] => ([], x)
  | n + 1, c :: l, x, top :: st => readN n (roundL c l x top st).1 (roundL c l x top st).2.1 (roundL c l x top st).2.2
theorem readN_step (n : Nat) (c : UInt8) (l : List UInt8) (x : Bool) (top : Tree) (st : List Tree) : readN (n + 1) (c :: l) x (top :: st) = readN n (roundL c l x top st).1 (roundL c l x top st).2.1 (roundL c l x top st).2.2 := rfl

theorem addKids_nil (t : Tree) : addKids t [] = t := by cases t; simp [addKids, Tree.kind, Tree.text, Tree.marks, Tree.attrs, Tree.kids]
theorem addKids_cons (t k : Tree) (l : List Tree) : addKids (addKid t k) l = addKids t (k :: l) := by simp [addKids, addKid, Tree.kind, Tree.text, Tree.marks, Tree.attrs, Tree.kids]

/-- What reading back one node says. -/
def Back (t : Tree) : Prop := ∀ (r : List UInt8) (x : Bool) (top : Tree) (st : List Tree) (n : Nat), formedB t = true → Aft r → st.length + depthB t ≤ 40 → (writeB t ++ r).length ≤ n →
  ∃ m, r.length ≤ m ∧ readN n (writeB t ++ r) x (top :: st) = readN m r x (addKid top t :: st)
theorem back_all : ∀ (l : List Tree), (∀ t ∈ l, Back t) → ∀ (r : List UInt8) (x : Bool) (top : Tree) (st : List Tree) (n : Nat), (∀ t ∈ l, formedB t = true) → Aft r → st.length + deepB l ≤ 40 → (writeAllB l ++ r).length ≤ n →
    ∃ m, r.length ≤ m ∧ readN n (writeAllB l ++ r) x (top :: st) = readN m r x (addKids top l :: st)
  | [], _, r, x, top, st, n, _, _, _, hn => ⟨n, by simpa [writeAllB] using hn, by rw [addKids_nil]; rfl⟩
  | t :: l, hb, r, x, top, st, n, hf, hr, hd, hn => by
    rw [deepB] at hd
    have e : writeAllB (t :: l) ++ r = writeB t ++ (writeAllB l ++ r) := by rw [writeAllB, List.append_assoc]
    rw [e] at hn ⊢
    obtain ⟨m1, h1, h2⟩ := hb t (by simp) (writeAllB l ++ r) x top st n (hf t (by simp)) (aft_all l r (fun y hy => hf y (by simp [hy])) hr) (by omega) hn
    obtain ⟨m2, h3, h4⟩ := back_all l (fun y hy => hb y (by simp [hy])) r x (addKid top t) st m1 (fun y hy => hf y (by simp [hy])) hr (by omega) h1
    exact ⟨m2, h3, by rw [h2, h4, addKids_cons]⟩
theorem back_one : ∀ t, Back t := by
  refine Tree.induct_one ?_
  intro k t m a l ih r x top st n hf hr hd hn
  cases hk : isTxt k with
  | true =>
    obtain ⟨hm, rfl, rfl⟩ := text_parts hk hf
    have hkt : k = TEXT := txt_eq hk (by unfold isTxt; rw [beq_iff_eq, Lib.toList_data]; rfl)
    have e : writeB (.mk k t m [] []) ++ r = quoteL t.data.toList ++ (marksW m ++ r) := by rw [writeB, if_pos hk, List.append_assoc]
    rw [e] at hn ⊢
    have hb := text_back t m r (marks_names hm) hr
    have e2 : quoteL t.data.toList ++ (marksW m ++ r) = 34 :: ((escL t.data.toList ++ [34]) ++ (marksW m ++ r)) := rfl
    rw [e2] at hn hb ⊢
    cases n with
    | zero => simp at hn
    | succ n =>
      refine ⟨n, ?_, ?_⟩
      · simp only [List.length_cons, List.length_append] at hn ⊢; omega
      · rw [readN_step]
        have : roundL 34 ((escL t.data.toList ++ [34]) ++ (marksW m ++ r)) x top st = (r, x, addKid top (.mk k t m [] []) :: st) := by
          unfold roundL
          rw [if_pos (by decide), hb, hkt, Bool.or_false]
        rw [this]
  | false =>
    obtain ⟨hnm, ht, rfl, ha, hrow⟩ := node_parts hk hf
    obtain rfl : t = ⟨#[]⟩ := bytes_of ht
    have hdd : st.length + (deepB l + 1) ≤ 40 := by rw [depthB, hk] at hd; simpa using hd
    have e : writeB (.mk k ⟨#[]⟩ [] a l) ++ r = k.data.toList ++ (attrsW a ++ 91 :: (writeAllB l ++ 93 :: r)) := by rw [writeB, hk]; simp
    obtain ⟨c, q, hc, hcs⟩ : ∃ c q, k.data.toList = c :: q ∧ small c = true := by
      cases h : k.data.toList with
      | nil => exact absurd h (name_ne hnm)
      | cons c q => exact ⟨c, q, rfl, name_small hnm c (by rw [h]; simp)⟩
    have hb := head_back k a (writeAllB l ++ 93 :: r) hnm (attrs_names ha)
    have hlen : (writeAllB l ++ 93 :: r).length + 1 ≤ n := by
      rw [e, hc] at hn
      simp only [List.length_cons, List.length_append] at hn ⊢; omega
    rw [e, hc] at hn ⊢
    rw [hc] at hb
    have h34 : (c == 34) = false := by cases h : (c == 34) with
      | false => rfl
      | true => rw [beq_iff_eq.1 h] at hcs; revert hcs; decide
    have h93 : (c == 93) = false := by cases h : (c == 93) with
      | false => rfl
      | true => rw [beq_iff_eq.1 h] at hcs; revert hcs; decide
    cases n with
    | zero => simp at hlen
    | succ n =>
      rw [List.cons_append, readN_step]
      have h1 : roundL c (q ++ (attrsW a ++ 91 :: (writeAllB l ++ 93 :: r))) x top st = (writeAllB l ++ 93 :: r, x, .mk k ⟨#[]⟩ [] a [] :: top :: st) := by
        unfold roundL
        rw [h34, h93, ← List.cons_append, hb, Bool.or_false]; rfl
      rw [h1]
      obtain ⟨m1, g1, g2⟩ := back_all l ih (93 :: r) x (.mk k ⟨#[]⟩ [] a []) (top :: st) n (row_all l none hrow) (aft_93 r) (by simp only [List.length_cons]; omega) (by omega)
      have e3 : addKids (.mk k ⟨#[]⟩ [] a []) l = .mk k ⟨#[]⟩ [] a l := rfl
      rw [e3] at g2
      cases m1 with
      | zero => simp at g1
      | succ m1 =>
        refine ⟨m1, by simpa using g1, ?_⟩
        show readN n (writeAllB l ++ 93 :: r) x (.mk k ⟨#[]⟩ [] a [] :: top :: st) = _
        rw [g2, readN_step]
        have hcl : closedL (st.length + 1) (.mk k ⟨#[]⟩ [] a l) = (.mk k ⟨#[]⟩ [] a l, false) := if_pos (by omega)
        have h2 : roundL 93 r x (.mk k ⟨#[]⟩ [] a l) (top :: st) = (r, x, addKid top (.mk k ⟨#[]⟩ [] a l) :: st) := by
          unfold roundL
          rw [if_neg (by decide), if_pos (by decide)]
          simp only [hcl, Bool.or_false]; rfl
        rw [h2]
end Go.Proofs.YtdcgffepdgldmaaDoor
