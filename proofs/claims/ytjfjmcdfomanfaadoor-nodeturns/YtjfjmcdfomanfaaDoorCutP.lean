/-
  Nodes parted into code points, and joined again; parts joined and joined again: plain facts.
-/
import Derived.Test.YtjfjmcdfomanfaaDoorRunes
import Derived.Test.YtjfjmcdfomanfaaDoorW9
namespace Go.Proofs.YtjfjmcdfomanfaaDoor
open Go.RowKit Go.Sort

/-! ### joined parts, joined -/
theorem isTxt_eq {k : ByteArray} (h : isTxt k = true) : k = TEXT := by
  unfold isTxt at h
  rw [beq_iff_eq, Lib.toList_data] at h
  exact ByteArray.ext (Array.ext' h)
theorem text_app_ne {a b : ByteArray} (h : b.toList.isEmpty = false) : (a ++ b).toList.isEmpty = false := by
  cases h2 : (a ++ b).toList.isEmpty with
  | false => rfl
  | true =>
    have h3 := empty_data.1 h2
    rw [ByteArray.data_append, Array.toList_append] at h3
    rw [empty_data.2 (List.append_eq_nil_iff.1 h3).2] at h
    cases h
theorem set_kind (x : Tree) (s : ByteArray) : (setText x s).kind = x.kind := rfl
theorem set_text (x : Tree) (s : ByteArray) : (setText x s).text = s := rfl
theorem set_marks (x : Tree) (s : ByteArray) : (setText x s).marks = x.marks := rfl
theorem set_set (x : Tree) (s t : ByteArray) : setText (setText x s) t = setText x t := rfl
theorem keepB_of {x : Tree} (h : ¬ (isTxt x.kind && x.text.toList.isEmpty) = true) : keepB x = true := by
  unfold keepB
  cases hb : (isTxt x.kind && x.text.toList.isEmpty) with
  | false => rfl
  | true => exact absurd hb h
theorem keepB_ne {x : Tree} (h : x.text.toList.isEmpty = false) : keepB x = true := by unfold keepB; rw [h, Bool.and_false]; rfl
theorem step_keeps (out : List Tree) (x : Tree) (h : ∀ z ∈ out, keepB z = true) : ∀ z ∈ joinStep out x, keepB z = true := by
  unfold joinStep
  intro z hz
  split at hz
  · exact h z hz
  · rename_i hx
    have hxk : keepB x = true := keepB_of hx
    split at hz
    · rename_i y hy
      split at hz
      · rename_i hj
        simp only [Bool.and_eq_true] at hj
        rcases List.mem_append.1 hz with hz | hz
        · exact h z (List.dropLast_subset _ hz)
        · simp only [List.mem_singleton] at hz
          subst hz
          have h1 := keepB_text hxk hj.1
          exact keepB_ne (by rw [set_text]; exact text_app_ne h1)
      · rcases List.mem_append.1 hz with hz | hz
        · exact h z hz
        · simp only [List.mem_singleton] at hz; subst hz; exact hxk
    · rcases List.mem_append.1 hz with hz | hz
      · exact h z hz
      · simp only [List.mem_singleton] at hz; subst hz; exact hxk
theorem fold_keeps : ∀ (l out : List Tree), (∀ z ∈ out, keepB z = true) → ∀ z ∈ l.foldl joinStep out, keepB z = true
  | [], _, h => h
  | x :: l, out, h => fold_keeps l _ (step_keeps out x h)
theorem joinB_keeps (l : List Tree) : ∀ z ∈ joinB l, keepB z = true := fold_keeps l [] (by simp)

theorem sameL_trans {a b c : List ByteArray} (h : sameL b c = true) : sameL a b = sameL a c := by rw [sameL_eq h]
theorem step_step (O : List Tree) (z x : Tree) (hz : keepB z = true) (hx : keepB x = true) (hkx : isTxt x.kind = true) (hj : joinsOn z x = true) :
    joinStep (joinStep O z) x = joinStep O (setText x (z.text ++ x.text)) := by
  have hj' := hj
  simp only [joinsOn, Bool.and_eq_true] at hj'
  obtain ⟨hkz, hm⟩ := hj'
  have ez := keepB_text hz hkz
  have ex := keepB_text hx hkx
  have es : (setText x (z.text ++ x.text)).text.toList.isEmpty = false := text_app_ne ex
  cases hO : O.getLast? with
  | none =>
    have : O = [] := List.getLast?_eq_none_iff.1 hO
    subst this
    rw [joinStep_first ez, joinStep_first es, joinStep_on (z := z) (by simp) hkx ex hj]; rfl
  | some y =>
    cases hy : joinsOn y z with
    | false =>
      have hy' : joinsOn y (setText x (z.text ++ x.text)) = false := by
        rw [← hy]; unfold joinsOn; rw [set_marks, sameL_trans hm]
      rw [joinStep_other hO ez hy, joinStep_other hO es hy', joinStep_on (z := z) (by simp) hkx ex hj]; simp
    | true =>
      have hy' : joinsOn y (setText x (z.text ++ x.text)) = true := by
        rw [← hy]; unfold joinsOn; rw [set_marks, sameL_trans hm]
      rw [joinStep_on hO hkz ez hy, joinStep_on (n := setText x (z.text ++ x.text)) hO hkx es hy', joinStep_on (z := setText z (y.text ++ z.text)) (by simp) hkx ex (by unfold joinsOn at hj ⊢; rw [set_kind, set_marks]; exact hj)]
      rw [set_text, set_set, set_text, ByteArray.append_assoc]; simp

theorem fold_join_snoc (J b : List Tree) (x : Tree) (ih : (joinB b).foldl joinStep J = b.foldl joinStep J) : (joinB (b ++ [x])).foldl joinStep J = (b ++ [x]).foldl joinStep J := by
  rw [joinB_snoc, List.foldl_append, ← ih]
  simp only [List.foldl_cons, List.foldl_nil]
  cases hx : keepB x with
  | false => rw [join_skip _ x hx, join_skip _ x hx]
  | true =>
    cases hk : isTxt x.kind with
    | false => rw [joinStep_plain hk, List.foldl_append]; rfl
    | true =>
      have ex := keepB_text hx hk
      cases hB : (joinB b).getLast? with
      | none =>
        have : joinB b = [] := List.getLast?_eq_none_iff.1 hB
        rw [this, joinStep_first ex]; rfl
      | some z =>
        cases hj : joinsOn z x with
        | false => rw [joinStep_other hB ex hj, List.foldl_append]; rfl
        | true =>
          have hz := joinB_keeps b z (List.mem_of_getLast? hB)
          have e := dropLast_getLast? hB
          rw [joinStep_on hB hk ex hj, List.foldl_append]
          conv => rhs; rw [e, List.foldl_append]
          simp only [List.foldl_cons, List.foldl_nil]
          exact (step_step _ z x hz hx hk hj).symm
theorem fold_join (J : List Tree) : ∀ (n : Nat) (b : List Tree), b.length = n → (joinB b).foldl joinStep J = b.foldl joinStep J
  | 0, b, h => by
    have : b = [] := List.eq_nil_of_length_eq_zero h
    subst this; rfl
  | n + 1, b, h => by
    have hne : b ≠ [] := fun e => by subst e; simp at h
    rw [← List.dropLast_concat_getLast hne]
    exact fold_join_snoc J _ _ (fold_join J n _ (by rw [List.length_dropLast]; omega))
theorem joinB_parts (a b : List Tree) : joinB (joinB a ++ joinB b) = joinB (a ++ b) := by
  have h1 := fold_join [] _ a rfl
  have h2 := fold_join (joinB a) _ b rfl
  unfold joinB at *
  rw [List.foldl_append, h1, h2, List.foldl_append]

/-! ### code points -/
theorem encZ_ne (r : Int) : encZ r ≠ [] := by
  rw [encZ_eq]
  unfold Utf8.encode
  dsimp only
  repeat' split
  all_goals simp
theorem encL_ne (r : Nat) : encL r ≠ [] := by rw [encL_eq]; exact encZ_ne _
theorem encL_le (r : Nat) : (encL r).length ≤ 4 := by
  rw [encL_eq, encZ_eq]
  have h := encode_size_le (r : Int)
  have h2 := Lib.size_eq (Utf8.encode (r : Int))
  omega
def pieceT (m : List ByteArray) (r : Nat) : Tree := .mk TEXT ⟨(encL r).toArray⟩ m [] []
def cutOne (x : Tree) : List Tree := if isTxt x.kind then (pts x.text.data.toList).map (pieceT x.marks) else [x]
def cutB (ks : List Tree) : List Tree := ks.flatMap cutOne
theorem cutB_snoc (ks : List Tree) (x : Tree) : cutB (ks ++ [x]) = cutB ks ++ cutOne x := by simp [cutB]
theorem isTxt_TEXT : isTxt TEXT = true := by decide +kernel
theorem piece_marks (m : List ByteArray) (r : Nat) : (pieceT m r).marks = m := rfl
theorem back_arr (a b : List UInt8) (t : ByteArray) (h : a ++ b = t.data.toList) : (⟨((⟨a.toArray⟩ : ByteArray).data.toList ++ b).toArray⟩ : ByteArray) = t := ByteArray.ext (Array.ext' (by simpa using h))
theorem piece_text (m : List ByteArray) (r : Nat) : (pieceT m r).text.toList.isEmpty = false := by
  cases h : (pieceT m r).text.toList.isEmpty with
  | false => rfl
  | true => exact absurd (empty_data.1 h) (by simpa [pieceT, Tree.text] using encL_ne r)
theorem cut_fold (J : List Tree) (m : List ByteArray) : ∀ (ps : List Nat) (t : ByteArray), (ps.map (pieceT m)).foldl joinStep (J ++ [.mk TEXT t m [] []]) = J ++ [.mk TEXT ⟨(t.data.toList ++ (ps.map encL).flatten).toArray⟩ m [] []]
  | [], t => by simp
  | r :: ps, t => by
    have hs : joinStep (J ++ [.mk TEXT t m [] []]) (pieceT m r) = J ++ [.mk TEXT (t ++ ⟨(encL r).toArray⟩) m [] []] := by
      have hon : joinsOn (.mk TEXT t m [] []) (pieceT m r) = true := by
        show (isTxt TEXT && sameL m m) = true
        rw [isTxt_TEXT, sameL_all rfl fun _ _ => by simp]; rfl
      have hst := joinStep_on (out := J ++ [Tree.mk TEXT t m [] []]) (n := pieceT m r) (z := Tree.mk TEXT t m [] []) (by simp) isTxt_TEXT (piece_text m r) hon
      rw [hst, List.dropLast_concat]
      rfl
    rw [List.map_cons, List.foldl_cons, hs, cut_fold J m ps]
    simp [ByteArray.data_append]

theorem text_form {x : Tree} (hk : isTxt x.kind = true) (hf : formedB x = true) : ∃ t m, x = .mk TEXT t m [] [] ∧ t.data.toList ≠ [] ∧ Lib.validD t.data.toList = true := by
  rw [formed_text hk] at hf
  obtain ⟨h1, h2, _, h4, h5⟩ := textB_parts hf
  obtain ⟨k, t, m, a, l⟩ := x
  simp only [Tree.kind, Tree.text, Tree.attrs, Tree.kids] at *
  exact ⟨t, m, by rw [isTxt_eq hk, List.eq_nil_of_length_eq_zero h4, List.eq_nil_of_length_eq_zero h5], h1, h2⟩
theorem cut_stays : ∀ (l out : List Tree), rowB out.getLast? l = true → (cutB l).foldl joinStep out = out ++ l
  | [], out, _ => by simp [cutB]
  | x :: l, out, h => by
    have h' := h
    simp only [rowB, Bool.and_eq_true, Bool.not_eq_true'] at h
    obtain ⟨ha, hf, hr⟩ := h
    have hc : cutB (x :: l) = cutOne x ++ cutB l := by simp [cutB]
    have hs : (cutOne x).foldl joinStep out = out ++ [x] := by
      cases hk : isTxt x.kind with
      | false => simp only [cutOne, hk, Bool.false_eq_true, if_false, List.foldl_cons, List.foldl_nil]; exact joinStep_plain hk
      | true =>
        obtain ⟨t, m, rfl, hne, hv⟩ := text_form hk hf
        have hb : backB t.data.toList = t.data.toList := back_valid _ _ (Nat.le_refl _) hv
        simp only [cutOne, hk, if_true, Tree.text, Tree.marks]
        unfold backB at hb
        rw [pts_step _ hne] at hb ⊢
        have h1 : joinStep out (pieceT m (Lib.decodeL t.data.toList).1) = out ++ [pieceT m (Lib.decodeL t.data.toList).1] := by
          cases hz : out.getLast? with
          | none =>
            have : out = [] := List.getLast?_eq_none_iff.1 hz
            subst this; exact joinStep_first (piece_text m _)
          | some z =>
            rw [hz] at ha
            simp only [alikeO, alikeB, hk, Bool.true_and] at ha
            have hj : joinsOn z (pieceT m (Lib.decodeL t.data.toList).1) = false := by unfold joinsOn; rw [piece_marks]; exact ha
            exact joinStep_other hz (piece_text m _) hj
        rw [List.map_cons, List.foldl_cons, h1]
        have h3 := cut_fold out m (pts (t.data.toList.drop (Lib.decodeL t.data.toList).2)) ⟨(encL (Lib.decodeL t.data.toList).1).toArray⟩
        have h4 : pieceT m (Lib.decodeL t.data.toList).1 = .mk TEXT ⟨(encL (Lib.decodeL t.data.toList).1).toArray⟩ m [] [] := by rw [pieceT]
        rw [h4, h3]
        rw [List.map_cons, List.flatten_cons] at hb
        rw [back_arr _ _ t hb]
    rw [hc, List.foldl_append, hs, cut_stays l _ (by simpa using hr), List.append_assoc]; rfl
theorem cutB_join (ks : List Tree) (h : rowB none ks = true) : joinB (cutB ks) = ks := by
  have := cut_stays ks [] (by simpa using h)
  simpa [joinB] using this

/-! ### how much -/
theorem pieces_weigh (m : List ByteArray) (ps : List Nat) : weighAll (ps.map (pieceT m)) ≤ ps.length * (weighL m + 10) := by
  induction ps with
  | nil => simp [weighAll]
  | cons r ps ih =>
    have h4 : TEXT.size = 4 := by decide +kernel
    have h5 := encL_le r
    have h6 : (⟨(encL r).toArray⟩ : ByteArray).size = (encL r).length := by simp [ByteArray.size]
    have h7 : weigh (pieceT m r) ≤ weighL m + 10 := by
      simp only [pieceT, weigh, weighP, weighAll, List.map_nil, List.sum_nil, h4, h6]; omega
    simp only [List.map_cons, weighAll, List.length_cons]
    rw [Nat.succ_mul]; omega
theorem pts_le (l : List UInt8) : (pts l).length ≤ l.length := by
  rw [pts_count]
  have := Lib.runeCount_le ⟨l.toArray⟩
  unfold Lib.runeCountL
  simpa [ByteArray.size] using this
theorem cutOne_weigh (x : Tree) : weighAll (cutOne x) ≤ weigh x * (weigh x + 10) := by
  unfold cutOne
  split
  · have h1 := pieces_weigh x.marks (pts x.text.data.toList)
    have h2 := pts_le x.text.data.toList
    have h3 := Lib.size_eq x.text
    have h4 : x.text.size ≤ weigh x := text_le_weigh x
    have h5 : weighL x.marks ≤ weigh x := by obtain ⟨k, t, m, a, l⟩ := x; simp only [weigh, Tree.marks]; omega
    exact Nat.le_trans h1 (Nat.mul_le_mul (by omega) (by omega))
  · simp only [weighAll, Nat.add_zero]
    have : weigh x * 1 ≤ weigh x * (weigh x + 10) := Nat.mul_le_mul_left _ (by omega)
    omega
theorem cutB_weigh (W : Nat) : ∀ ks : List Tree, weighAll ks ≤ W → weighAll (cutB ks) ≤ weighAll ks * (W + 10)
  | [], _ => by simp [cutB, weighAll]
  | x :: l, h => by
    have hc : cutB (x :: l) = cutOne x ++ cutB l := by simp [cutB]
    simp only [weighAll] at h ⊢
    have h1 := cutOne_weigh x
    have h2 := cutB_weigh W l (by omega)
    have h3 : weigh x * (weigh x + 10) ≤ weigh x * (W + 10) := Nat.mul_le_mul_left _ (by omega)
    rw [hc, weighAll_append, Nat.add_mul]; omega
theorem cutB_take (ks : List Tree) (i : Nat) (x : Tree) (h : ks.take (i + 1) = ks.take i ++ [x]) : cutB (ks.take (i + 1)) = cutB (ks.take i) ++ cutOne x := by rw [h, cutB_snoc]
theorem cutB_take_le (ks : List Tree) (i : Nat) : weighAll (cutB (ks.take i)) ≤ weighAll (cutB ks) := by
  have h : cutB ks = cutB (ks.take i) ++ cutB (ks.drop i) := by
    unfold cutB; rw [← List.flatMap_append, List.take_append_drop]
  rw [h, weighAll_append]; omega
end Go.Proofs.YtjfjmcdfomanfaaDoor
