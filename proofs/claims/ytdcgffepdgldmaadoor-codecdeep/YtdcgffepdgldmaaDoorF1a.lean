/-
  Nodes in one another, as deep as may be and deeper: what they are written as, and what is read of that. Plain facts.
-/
import Derived.Test.YtdcgffepdgldmaaDoorD13
namespace Go.Proofs.YtdcgffepdgldmaaDoor
open Go.RowKit Go.Sort Go.Maps

def PP : ByteArray := ⟨#[112]⟩
def leafT (wrong : Bool) : Tree := if wrong then .mk ⟨#[80]⟩ ⟨#[120]⟩ [] [] [] else .mk TEXT ⟨#[120]⟩ [] [] []
def nestT (wrong : Bool) : Nat → Tree
  | 0 => leafT wrong
  | n + 1 => .mk PP ⟨#[]⟩ [] [] [nestT wrong n]
def opens : Nat → List UInt8
  | 0 => []
  | n + 1 => 112 :: 91 :: opens n
def leafS (wrong : Bool) : List UInt8 := if wrong then [80, 91, 93] else [34, 120, 34]
def deepS (wrong : Bool) (n : Nat) : List UInt8 := opens n ++ leafS wrong ++ List.replicate n 93

theorem pp_txt : isTxt PP = false := by decide +kernel
theorem pp_name : nameB PP = true := by decide +kernel
theorem opens_snoc : ∀ n, opens (n + 1) = opens n ++ [112, 91]
  | 0 => rfl
  | n + 1 => by
    show 112 :: 91 :: opens (n + 1) = 112 :: 91 :: opens n ++ [112, 91]
    rw [opens_snoc n]; rfl
theorem opens_len : ∀ n, (opens n).length = 2 * n
  | 0 => rfl
  | n + 1 => by rw [opens, List.length_cons, List.length_cons, opens_len n]; omega
theorem deepS_len (b : Bool) (n : Nat) : (deepS b n).length = 3 * n + 3 := by
  unfold deepS
  rw [List.length_append, List.length_append, opens_len, List.length_replicate]
  cases b <;> simp [leafS] <;> omega
theorem pk_formed (l : List Tree) : formedB (.mk PP ⟨#[]⟩ [] [] l) = rowB none l := by
  rw [formedB, pp_txt]
  simp [headB, Tree.kind, Tree.text, Tree.marks, Tree.attrs, pp_name, attrsB]
theorem p1_formed (t : Tree) : formedB (.mk PP ⟨#[]⟩ [] [] [t]) = formedB t := by
  rw [pk_formed]; simp [rowB, alikeO]
theorem nest_formed (b : Bool) : ∀ n, formedB (nestT b n) = !b
  | 0 => by cases b <;> decide +kernel
  | n + 1 => by rw [nestT, p1_formed, nest_formed b n]
theorem p1_depth (t : Tree) : depthB (.mk PP ⟨#[]⟩ [] [] [t]) = depthB t + 1 := by rw [depthB, pp_txt]; simp [deepB]
theorem nest_depth : ∀ n, depthB (nestT false n) = n
  | 0 => by decide +kernel
  | n + 1 => by rw [nestT, p1_depth, nest_depth n]
theorem p1_size (t : Tree) : sizeB (.mk PP ⟨#[]⟩ [] [] [t]) = 2 + sizeB t := by rw [sizeB, pp_txt]; simp [totalB]
theorem nest_size : ∀ n, sizeB (nestT false n) = 2 * n + 1
  | 0 => by decide +kernel
  | n + 1 => by rw [nestT, p1_size, nest_size n]; omega
theorem nest_weigh (b : Bool) : ∀ n, weigh (nestT b n) ≤ 3 * n + 10
  | 0 => by cases b <;> decide +kernel
  | n + 1 => by
    have := nest_weigh b n
    simp only [nestT, weigh, weighL, weighP, weighAll, List.map_nil, List.sum_nil]
    rw [show PP.size = 1 from rfl, show (⟨#[]⟩ : ByteArray).size = 0 from rfl]; omega
theorem nest_check_wrong (n : Nat) : checkB (nestT true n) = 2 := by unfold checkB; rw [nest_formed]; rfl
theorem nest_check_deep (n : Nat) (h : 40 < n) : checkB (nestT false n) = 4 := by
  unfold checkB; rw [nest_formed, if_pos (show (!false) = true from rfl), nest_depth, if_pos h]
theorem nest_check_ok (n : Nat) (h : n ≤ 40) : checkB (nestT false n) = 0 := by
  unfold checkB; rw [nest_formed, if_pos (show (!false) = true from rfl), nest_depth, if_neg (by omega), nest_size, if_neg (by omega)]
theorem nest_write : ∀ n, writeB (nestT false n) = deepS false n
  | 0 => by decide +kernel
  | n + 1 => by
    have e : writeB (nestT false (n + 1)) = PP.data.toList ++ (attrsW [] ++ 91 :: (writeAllB [nestT false n] ++ [93])) := by rw [nestT, writeB, pp_txt]; simp
    rw [e]
    have e2 : writeAllB [nestT false n] = writeB (nestT false n) := by simp [writeAllB]
    rw [e2, nest_write n]
    unfold deepS
    rw [opens, List.replicate_succ']
    simp [PP, attrsW]

/-- An open p. -/
def openP : Tree := .mk PP ⟨#[]⟩ [] [] []
theorem round_open (r : List UInt8) (x : Bool) (top : Tree) (st : List Tree) : roundL 112 (91 :: r) x top st = (r, x, openP :: top :: st) := by
  have h := head_back PP [] r pp_name (by intro p hp; cases hp)
  have e : PP.data.toList ++ (attrsW [] ++ 91 :: r) = 112 :: 91 :: r := by simp [PP, attrsW]
  rw [e] at h
  unfold roundL
  rw [if_neg (by decide), if_neg (by decide), h, Bool.or_false]
  rfl
theorem read_opens : ∀ (n : Nat) (r : List UInt8) (x : Bool) (top : Tree) (st : List Tree) (m : Nat), readN (n + m) (opens n ++ r) x (top :: st) = readN m r x ((List.replicate n openP ++ (top :: st)))
  | 0, r, x, top, st, m => by simp [opens]
  | n + 1, r, x, top, st, m => by
    have e : opens (n + 1) ++ r = 112 :: 91 :: (opens n ++ r) := rfl
    rw [e, show n + 1 + m = (n + m) + 1 by omega, readN_step, round_open]
    show readN (n + m) (opens n ++ r) x (openP :: (top :: st)) = _
    rw [read_opens n r x openP (top :: st) m, List.replicate_succ', List.append_assoc]
    rfl
theorem round_text (r : List UInt8) (hr : Aft r) (x : Bool) (top : Tree) (st : List Tree) : roundL 34 (120 :: 34 :: r) x top st = (r, x, addKid top (leafT false) :: st) := by
  have h := text_back ⟨#[120]⟩ [] r (by intro p hp; cases hp) hr
  have e : quoteL (⟨#[120]⟩ : ByteArray).data.toList ++ (marksW [] ++ r) = 34 :: 120 :: 34 :: r := by
    have e1 : quoteL (⟨#[120]⟩ : ByteArray).data.toList = [34, 120, 34] := by decide +kernel
    rw [e1]; simp [marksW]
  rw [e] at h
  unfold roundL
  rw [if_pos (by decide), h, Bool.or_false]
  rfl
/-- What closing makes of the node at depth d. -/
def cl (d : Nat) (t : Tree) : Tree := (closedL d t).1
theorem closed_formed (d : Nat) (t : Tree) (h : formedB t = true) : closedL d t = (cl d t, false) := by
  have h2 : (checkB t == 2) = false := by
    unfold checkB; rw [if_pos h]
    split
    · rfl
    · split <;> rfl
  unfold cl closedL
  split
  · rfl
  · rw [h2]
theorem round_close (r : List UInt8) (top up : Tree) (st : List Tree) (h : formedB top = true) : roundL 93 r false top (up :: st) = (r, false, addKid up (cl (st.length + 1) top) :: st) := by
  have hc := closed_formed (st.length + 1) top h
  unfold roundL
  rw [if_neg (by decide), if_pos (by decide)]
  simp only [hc]
  rfl
/-- The tree that is left of one at depth d + 1, once all is closed. -/
def shut : Nat → Tree → Tree
  | 0, t => cl 1 t
  | d + 1, t => shut d (addKid openP (cl (d + 2) t))
theorem kid_formed (d : Nat) (t : Tree) (h : formedB t = true) (hk : isTxt t.kind = false) : formedB (addKid openP (cl d t)) = true ∧ isTxt (addKid openP (cl d t)).kind = false := by
  refine ⟨?_, pp_txt⟩
  show formedB (.mk PP ⟨#[]⟩ [] [] [cl d t]) = true
  rw [p1_formed]
  unfold cl closedL
  split
  · exact h
  · obtain ⟨k, x, m, a, l⟩ := t
    simp only [Tree.kind] at hk
    rw [formedB, hk] at h
    simp only [Bool.false_eq_true, if_false, Bool.and_eq_true] at h
    show formedB (.mk k x m a []) = true
    rw [formedB, hk]
    simp only [Bool.false_eq_true, if_false, Bool.and_eq_true]
    exact ⟨h.1, by simp [rowB]⟩
theorem read_closes : ∀ (d : Nat) (t : Tree) (m : Nat), formedB t = true → isTxt t.kind = false → readN (d + 1 + m) (List.replicate (d + 1) 93) false (t :: (List.replicate d openP ++ [around []])) = readN m [] false [addKid (around []) (shut d t)]
  | 0, t, m, h, _ => by
    rw [show 0 + 1 + m = m + 1 by omega]
    show readN (m + 1) (93 :: []) false (t :: [around []]) = _
    rw [readN_step, round_close [] t (around []) [] h]
    rfl
  | d + 1, t, m, h, hk => by
    obtain ⟨h1, h2⟩ := kid_formed (d + 2) t h hk
    rw [show d + 1 + 1 + m = (d + 1 + m) + 1 by omega, List.replicate_succ]
    have e : (t :: (List.replicate (d + 1) openP ++ [around []])) = t :: openP :: (List.replicate d openP ++ [around []]) := rfl
    rw [e, readN_step, round_close _ t openP _ h]
    have e2 : (List.replicate d openP ++ [around []]).length + 1 = d + 2 := by simp
    rw [e2]
    exact read_closes d _ m h1 h2
theorem shut_depth : ∀ (d : Nat) (t : Tree), d < 40 → depthB (shut d t) = depthB t + d
  | 0, t, _ => by show depthB (closedL 1 t).1 = _; rw [show closedL 1 t = (t, false) from if_pos (by omega)]; rfl
  | d + 1, t, h => by
    rw [shut, shut_depth d _ (by omega)]
    have : cl (d + 2) t = t := by unfold cl; rw [show closedL (d + 2) t = (t, false) from if_pos (by omega)]
    rw [this]
    have : depthB (addKid openP t) = depthB t + 1 := p1_depth t
    omega
theorem shut_deep : ∀ (d : Nat) (t : Tree), 40 ≤ d → isTxt t.kind = false → depthB (shut d t) = 41
  | 0, _, h, _ => by omega
  | d + 1, t, h, hk => by
    rw [shut]
    have hb : cl (d + 2) t = bare t := by unfold cl; rw [show closedL (d + 2) t = (bare t, checkB t == 2) from if_neg (by omega)]
    have hd1 : depthB (addKid openP (bare t)) = 2 := by
      have h1 : depthB (addKid openP (bare t)) = depthB (bare t) + 1 := p1_depth (bare t)
      obtain ⟨k, x, m, a, l⟩ := t
      simp only [Tree.kind] at hk
      have h2 : depthB (bare (.mk k x m a l)) = 1 := by
        show depthB (.mk k x m a []) = 1
        rw [depthB, hk]; simp [deepB]
      omega
    by_cases h40 : d < 40
    · rw [hb, shut_depth d _ h40, hd1]; omega
    · exact shut_deep d _ (by omega) pp_txt
theorem shut_formed : ∀ (d : Nat) (t : Tree), formedB t = true → isTxt t.kind = false → formedB (shut d t) = true
  | 0, t, h, _ => by show formedB (closedL 1 t).1 = true; rw [show closedL 1 t = (t, false) from if_pos (by omega)]; exact h
  | d + 1, t, h, hk => by
    obtain ⟨h1, h2⟩ := kid_formed (d + 2) t h hk
    rw [shut]; exact shut_formed d _ h1 h2
theorem aft_close (n : Nat) : Aft (List.replicate n 93) := by
  intro c hc
  cases n with
  | zero => cases hc
  | succ n => rw [List.replicate_succ] at hc; injection hc with hc; rw [← hc]; decide

theorem read_deep (n : Nat) : readL (deepS false (n + 1)) = ([shut n (addKid openP (leafT false))], true) := by
  have hf : formedB (addKid openP (leafT false)) = true := by decide +kernel
  have hk : isTxt (addKid openP (leafT false)).kind = false := pp_txt
  have e1 : deepS false (n + 1) = opens (n + 1) ++ (34 :: 120 :: 34 :: List.replicate (n + 1) 93) := by
    unfold deepS; rw [List.append_assoc]; rfl
  have hlen : (deepS false (n + 1)).length = (n + 1) + ((n + 1 + (n + 3)) + 1) := by rw [deepS_len]; omega
  have key : readN (deepS false (n + 1)).length (deepS false (n + 1)) false [around []] = readN (n + 3) [] false [addKid (around []) (shut n (addKid openP (leafT false)))] := by
    rw [hlen, e1, read_opens (n + 1) _ false (around []) [] ((n + 1 + (n + 3)) + 1)]
    have e2 : List.replicate (n + 1) openP ++ [around []] = openP :: (List.replicate n openP ++ [around []]) := rfl
    rw [e2, readN_step, round_text _ (aft_close (n + 1))]
    exact read_closes n _ (n + 3) hf hk
  rw [readN_nil] at key
  unfold readL
  rw [key]; rfl
theorem parse_deep (n : Nat) (h : 40 ≤ n) : parseB (deepS false (n + 1)) = (noTree, 4) := by
  have hr := read_deep n
  have hf : formedB (addKid openP (leafT false)) = true := by decide +kernel
  have hk : isTxt (addKid openP (leafT false)).kind = false := pp_txt
  have hc : checkB (shut n (addKid openP (leafT false))) = 4 := by
    unfold checkB; rw [if_pos (shut_formed n _ hf hk), shut_deep n _ h hk, if_pos (by omega)]
  unfold parseB
  rw [hr]
  show (if checkB _ = 0 then _ else _) = _
  rw [hc]; rfl
theorem parse_flat (n : Nat) (h : n ≤ 40) : parseB (deepS false n) = (nestT false n, 0) := by
  rw [← nest_write n]; exact parse_back _ (nest_check_ok n h)
theorem parse_wrong (n : Nat) : parseB (deepS true n) = (noTree, 2) := by
  have e1 : deepS true n = opens n ++ (80 :: (91 :: 93 :: List.replicate n 93)) := by
    unfold deepS; rw [List.append_assoc]; rfl
  have hlen : (deepS true n).length = n + ((2 * n + 2) + 1) := by rw [deepS_len]; omega
  have hh : headL (80 :: (91 :: 93 :: List.replicate n 93)) = (.mk ⟨#[]⟩ ⟨#[]⟩ [] [] [], [], true) := by
    have h1 : small 80 = false := by decide
    unfold headL
    simp [List.takeWhile, List.dropWhile, h1, attrsL, Lib.hasPrefix, List.isPrefixOf, wantL]
  have key : ∃ st, readN (deepS true n).length (deepS true n) false [around []] = (st, true) := by
    rw [hlen, e1, read_opens n _ false (around []) [] ((2 * n + 2) + 1)]
    obtain ⟨top, st, hst⟩ : ∃ top st, List.replicate n openP ++ [around []] = top :: st := by
      cases n with
      | zero => exact ⟨_, _, rfl⟩
      | succ n => exact ⟨_, _, rfl⟩
    rw [hst, readN_step]
    have hr : roundL 80 (91 :: 93 :: List.replicate n 93) false top st = ([], true, .mk ⟨#[]⟩ ⟨#[]⟩ [] [] [] :: top :: st) := by
      unfold roundL
      rw [if_neg (by decide), if_neg (by decide), hh]; rfl
    rw [hr, readN_nil]
    exact ⟨_, rfl⟩
  obtain ⟨st, key⟩ := key
  have hf : (readL (deepS true n)).2 = false := by unfold readL; rw [key]; rfl
  unfold parseB
  rcases hq : readL (deepS true n) with ⟨l, b⟩
  rw [hq] at hf
  simp only at hf
  subst hf
  rcases l with _ | ⟨t, _ | _⟩ <;> rfl
end Go.Proofs.YtdcgffepdgldmaaDoor
