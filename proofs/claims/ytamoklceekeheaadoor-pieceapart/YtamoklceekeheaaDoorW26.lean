/-
  What node.Join answers.
-/
import Derived.Test.YtamoklceekeheaaDoorW25
namespace Go.Proofs.YtamoklceekeheaaDoor
open Go.RowKit Go.Sort

theorem Own.widen {w : World} {base : Nat} {S S' : Nat → Prop} {v : Value} {l : List Tree} (h : Own w base S v l) (hS : ∀ b, S b → S' b) : Own w base S' v l := by
  obtain ⟨xs, ho, hc⟩ := h
  exact ⟨xs, ho, hc.keep hS fun _ _ => rfl⟩
theorem Own.block_ge {w : World} {base : Nat} {S : Nat → Prop} {v : Value} {l : List Tree} (h : Own w base S v l) : ∀ k, v.ownBlock = some k → base ≤ k ∧ k < w.heap.size := fun k hk => by
  obtain ⟨A, c, rfl, _, hA⟩ := h.form
  rcases hA with ⟨rfl, _⟩ | ⟨g, rfl, hg, hl⟩
  · cases hk
  · simp [Value.ownBlock] at hk; omega

theorem Kids.front {w : World} {S : Nat → Prop} {b o n c : Nat} {l : List Tree} (h : Kids w S (.slice (some ⟨b, o, none⟩) n c) l) {k : Nat} (hk : k ≤ l.length) : Kids w S (.slice (some ⟨b, o, none⟩) k c) (l.take k) := by
  obtain ⟨A, c', hv, hlc, hcm, h⟩ := h
  injection hv with hA _ hc
  subst hA; subst hc
  refine ⟨_, c, by rw [List.length_take, Nat.min_eq_left hk], by rw [List.length_take]; omega, hcm, ?_⟩
  rcases h with h | ⟨b', o', hA, hS, hr⟩
  · left; subst h; simp
  · injection hA with hA
    injection hA with h1 h2 _
    subst h1; subst h2
    refine .inr ⟨b, o, rfl, hS, rowAt_of _ b o fun i t hi => ?_⟩
    rw [List.getElem?_take] at hi
    split at hi
    · exact rowAt_get l b o hr i t hi
    · cases hi
theorem Kids.back {w : World} {S : Nat → Prop} {b o n c : Nat} {l : List Tree} (h : Kids w S (.slice (some ⟨b, o, none⟩) n c) l) {k : Nat} (hk : k ≤ l.length) : Kids w S (.slice (some ⟨b, o + k * 5, none⟩) (l.length - k) (c - k)) (l.drop k) := by
  obtain ⟨A, c', hv, hlc, hcm, h⟩ := h
  injection hv with hA _ hc
  subst hA; subst hc
  refine ⟨_, c - k, by rw [List.length_drop], by rw [List.length_drop]; omega, by omega, ?_⟩
  rcases h with h | ⟨b', o', hA, hS, hr⟩
  · left; subst h; simp
  · injection hA with hA
    injection hA with h1 h2 _
    subst h1; subst h2
    refine .inr ⟨b, o + k * 5, rfl, hS, rowAt_of _ b _ fun i t hi => ?_⟩
    rw [List.getElem?_drop] at hi
    have := rowAt_get l b o hr (k + i) t hi
    rw [show o + k * 5 + i * 5 = o + (k + i) * 5 by omega]
    exact this

def NJPost (w : World) (l : List Tree) (e : Ending) (w' : World) : Prop := ∃ v', e = .returned v' ∧ Kids w' (Under w'.heap.size) v' (joinB l) ∧ Below w.heap.size w w'

def NSPost (w : World) (S : Nat → Prop) (l : List Tree) (e : Ending) (w' : World) : Prop := ∃ v', e = .returned v' ∧ Kids w' (fun b => S b ∨ From w.heap.size w'.heap.size b) v' (joinB l) ∧ Below w.heap.size w w'
def sliceLen : Value → Nat | .slice _ n _ => n | _ => 0
/-- Blocks that S lets, or new ones, that are there. -/
def Wide (S : Nat → Prop) (n : Nat) (w : World) : Nat → Prop := fun b => (S b ∨ n ≤ b) ∧ b < w.heap.size
/-- What a round of Join holds. -/
def JoinInv (S0 : Nat → Prop) (n0 : Nat) (W1 : World) (kept : List Tree) (k : Nat) (vj vr : Value) (wr : World) : Prop :=
  (∃ S, Own wr W1.heap.size S vj ((kept.take k).foldl joinStep []) ∧ (∀ b, S b → b < wr.heap.size ∧ some b ≠ vj.ownBlock) ∧ ∀ b, S b → S0 b ∨ n0 ≤ b) ∧ Below W1.heap.size W1 wr ∧ Kids W1 (Wide S0 n0 W1) vr (kept.drop k) ∧
    ∀ z x, ((kept.take k).foldl joinStep []).getLast? = some z → (kept.drop k).head? = some x → alikeB z x = false

theorem join_push {W1 wr W2 w3 : World} {vj : Value} {J : List Tree} {x : Tree} {xm xa xk : Value} {S T : Nat → Prop} (ho : Own wr W1.heap.size S vj J) (hS : ∀ b, S b → b < wr.heap.size ∧ some b ≠ vj.ownBlock) (hT : ∀ b, T b → b < W1.heap.size) (hbr : Below W1.heap.size W1 wr)
    (hb2 : Below wr.heap.size wr W2) (hb3 : Below W2.heap.size W2 w3) (hm : Strs w3 (fun b => T b ∨ From W2.heap.size w3.heap.size b) xm x.marks) (ha : Pairs w3 (fun b => T b ∨ From W2.heap.size w3.heap.size b) xa x.attrs) (hk : Kids w3 (fun b => T b ∨ From W2.heap.size w3.heap.size b) xk x.kids) :
    ∃ S', (∀ b, S' b → S b ∨ T b ∨ W2.heap.size ≤ b) ∧ Own (w3.alloc (.cells #[.string x.kind, .string x.text, xm, xa, xk] 28)) W1.heap.size S' vj J ∧ Src (w3.alloc (.cells #[.string x.kind, .string x.text, xm, xa, xk] 28)) S' (.slice (some ⟨w3.heap.size, 0, none⟩) 1 1) [x] ∧
      (∀ b, S' b → b < (w3.alloc (.cells #[.string x.kind, .string x.text, xm, xa, xk] 28)).heap.size ∧ some b ≠ vj.ownBlock) ∧ W1.heap.size ≤ (w3.alloc (.cells #[.string x.kind, .string x.text, xm, xa, xk] 28)).heap.size ∧
      (∀ (v' : Value) (w' : World), (w3.alloc (.cells #[.string x.kind, .string x.text, xm, xa, xk] 28)).grownBy w' vj.ownBlock → (v'.ownBlock = vj.ownBlock ∨ v'.ownBlock = some (w3.alloc (.cells #[.string x.kind, .string x.text, xm, xa, xk] 28)).heap.size) →
        Below W1.heap.size W1 w' ∧ ∀ b, S' b → b < w'.heap.size ∧ some b ≠ v'.ownBlock) := by
  have hs1 := hbr.size
  have hs2 := hb2.size
  have hs3 := hb3.size
  have hb23 : Below wr.heap.size wr w3 := belowNext hb2 hb3
  obtain ⟨c0, c1, c2, c3, c4, hb4, _⟩ := box5 (w := w3) (Below.refl _ (w3.alloc (.cells #[.string x.kind, .string x.text, xm, xa, xk] 28)))
  have hz : (w3.alloc (.cells #[.string x.kind, .string x.text, xm, xa, xk] 28)).heap.size = w3.heap.size + 1 := by simp
  have hbB : Below wr.heap.size wr (w3.alloc (.cells #[.string x.kind, .string x.text, xm, xa, xk] 28)) := belowNext hb23 hb4
  have hge := ho.block_ge
  generalize w3.alloc (.cells #[.string x.kind, .string x.text, xm, xa, xk] 28) = W4 at *
  have kS : ∀ b, (T b ∨ From W2.heap.size w3.heap.size b) → b < w3.heap.size := fun b hb => by
    rcases hb with hb | hb
    · have := hT b hb; omega
    · exact hb.2
  have kO : ∀ b, (T b ∨ From W2.heap.size w3.heap.size b) → some b ≠ vj.ownBlock := fun b hb e => by
    have h1 := hge b e.symm
    rcases hb with hb | hb
    · have := hT b hb; omega
    · have := hb.1; omega
  refine ⟨fun b => S b ∨ (T b ∨ From W2.heap.size w3.heap.size b), fun b hb => hb.imp (fun h => h) (fun h => h.imp (fun h => h) (fun h => h.1)), (ho.later hbB (fun b hb => (hS b hb).1)).widen (fun b hb => .inl hb), src_one (hm.keep (fun b hb => .inr hb) fun b hb => hb4.block b (kS b hb)) (ha.keep (fun b hb => .inr hb) fun b hb => hb4.block b (kS b hb)) (hk.keep (fun b hb => .inr hb) fun b hb => hb4.block b (kS b hb)) c0 c1 c2 c3 c4, ?_, by omega, ?_⟩
  · rintro b (hb | hb)
    · exact ⟨by have := (hS b hb).1; omega, (hS b hb).2⟩
    · exact ⟨by have := kS b hb; omega, kO b hb⟩
  · intro v' w' hg hv
    have hsz := hg.size
    refine ⟨(hbr.trans (hbB.mono hs1)).grown hg (by omega) (fun k hk => (hge k hk).1), fun b hb => ?_⟩
    have hlt : b < W4.heap.size ∧ some b ≠ vj.ownBlock := by
      rcases hb with hb | hb
      · exact ⟨by have := (hS b hb).1; omega, (hS b hb).2⟩
      · exact ⟨by have := kS b hb; omega, kO b hb⟩
    refine ⟨by omega, ?_⟩
    rcases hv with hv | hv
    · rw [hv]; exact hlt.2
    · rw [hv]; intro e; have := Option.some.inj e; omega

theorem weighAll_filter (p : Tree → Bool) : ∀ l : List Tree, weighAll (l.filter p) ≤ weighAll l
  | [] => by simp
  | x :: l => by
    have := weighAll_filter p l
    rw [List.filter_cons]; split <;> simp only [weighAll] <;> omega
theorem weighAll_dropLe (l : List Tree) (k : Nat) : weighAll (l.drop k) ≤ weighAll l := by
  have := weighAll_append (l.take k) (l.drop k)
  rw [List.take_append_drop] at this; omega
theorem texts_run {r : List Tree} (hr0 : r ≠ []) (hk : ∀ x ∈ r, keepB x = true) : (r.take (runB r)).length ≠ 1 → textsB (r.take (runB r)) ≠ [] := by
  intro hl he
  rcases r with _ | ⟨x, r⟩
  · exact absurd rfl hr0
  · rcases r with _ | ⟨y, r⟩
    · simp [runB] at hl
    · rw [runB] at hl he
      cases ha : alikeB x y with
      | false => simp [ha] at hl
      | true =>
        simp only [alikeB, Bool.and_eq_true] at ha
        have h1 := keepB_text (hk x (by simp)) ha.1
        simp only [alikeB, ha, Bool.and_self, if_true, List.take_succ_cons] at he
        have h2 : textsB (x :: (y :: r).take (runB (y :: r))) = x.text.data.toList ++ textsB ((y :: r).take (runB (y :: r))) := by simp [textsB]
        rw [h2] at he
        have h3 := (List.append_eq_nil_iff.1 he).1
        rw [empty_data.2 h3] at h1
        cases h1

set_option maxHeartbeats 2000000 in
theorem joinS_any (v : Value) (l : List Tree) (S0 : Nat → Prop) (w : World) (h : Kids w S0 v l) (hS0 : ∀ b, S0 b → b < w.heap.size) (hw : weighAll l ≤ 1000000) :
    Calls Tryd.prog 23 #[v] w (NSPost w S0 l) := by
  obtain ⟨A, c, rfl, hlc⟩ := h.form
  have HL := Lib.hid h
  have HS0 := Lib.hid hS0
  have hwk := weighAll_filter keepB l
  have HFIN : Hid ((l.filter keepB).foldl joinStep [] = joinB l) := Lib.hid (join_filter l [])
  have HKP : Hid (∀ x ∈ l.filter keepB, keepB x = true) := Lib.hid (fun x hx => (List.mem_filter.1 hx).2)
  clear h hS0
  go_enter Tryd.func23, Tryd.ntmps23
  go_wp2_with fail
  refine (withoutEmpty_any _ l S0 w HL.out HS0.out hw).mono ?_
  rintro e W1 ⟨v1, rfl, hown1, hb1⟩
  have HK1 := Lib.hid (hown1.kids (S' := Wide S0 w.heap.size W1) (fun b hb => ⟨.inl hb, Nat.lt_of_lt_of_le (HS0.out b hb) hb1.size⟩) (fun g hg => ⟨.inr (hown1.block_ge g hg).1, (hown1.block_ge g hg).2⟩))
  obtain ⟨A1, c1, rfl, hc1, _⟩ := hown1.form
  have HB1 := Lib.hid hb1
  clear hown1 hb1
  generalize l.filter keepB = kept at *
  go_wp2
  go_loopw [3, 4] (fun vj vr wr => ∃ k : Nat, k ≤ kept.length ∧ JoinInv S0 w.heap.size W1 kept k vj vr wr) (fun _ vr _ => sliceLen vr)
  case atStart => exact ⟨0, by omega, ⟨fun _ => False, own_nil _ _ _, fun _ h => h.elim, fun _ h => h.elim⟩, Below.refl _ _, HK1.out, fun z x hz _ => by simp at hz⟩
  case round =>
    obtain ⟨k, hk, ⟨S, hown, hS, hSS⟩, hbr, hkr, hbd⟩ := hrel
    have hdl : (kept.drop k).length = kept.length - k := List.length_drop
    have hwd := weighAll_dropLe kept k
    have hll := length_le_weigh (kept.drop k)
    by_cases hlt : k < kept.length
    · obtain ⟨Ar, cr, rfl, hcr⟩ := hkr.form
      obtain ⟨b, o, rfl, hub, hrow⟩ := hkr.get (k := 0) (by omega)
      have hne : kept.drop k ≠ [] := fun e => by rw [e] at hdl; simp at hdl; omega
      have hrl := runB_le (kept.drop k) hne
      have hrp := runB_pos (kept.drop k)
      have HRUN := Lib.hid (join_run ((kept.take k).foldl joinStep []) (kept.drop k) hne (fun x hx => HKP.out x (List.mem_of_mem_drop hx)) hbd)
      have HTX := Lib.hid (texts_run (r := kept.drop k) hne (fun x hx => HKP.out x (List.mem_of_mem_drop hx)))
      have HNE := Lib.hid hne
      have HKR := Lib.hid hkr
      have HDR : Hid (∀ n, (kept.drop k).drop n = kept.drop (k + n)) := Lib.hid (fun n => List.drop_drop)
      have HTK : Hid (∀ n, kept.take (k + n) = kept.take k ++ (kept.drop k).take n) := Lib.hid (fun n => List.take_add)
      have HOW := Lib.hid (And.intro hown (And.intro hS hSS))
      obtain ⟨Aj, cj, rfl, hjc, _⟩ := hown.form
      generalize hJ : (kept.take k).foldl joinStep [] = J at *
      generalize hR : kept.drop k = R at *
      have HJ := Lib.hid hJ
      have hd1 : R.length ≤ kept.length - k := by omega
      have hd2 : kept.length - k ≤ R.length := by omega
      clear hJ hR hne hkr hrow hown hS hSS hbd hdl
      have hp0 : decide (0 < R.length) = true := by simp; omega
      go_wp2_with fail
      refine (runLength_any _ R wr (HKR.out.keep (fun b hb => Nat.lt_of_lt_of_le hb.2 hbr.size) (fun b hb => hbr.block b hb.2)) HNE.out (by omega)).mono ?_
      rintro e W2 ⟨rfl, hb2⟩
      go_wp2_with fail
      refine (asOne_any _ (R.take (runB R)) (Wide S0 w.heap.size W1) W2 ((HKR.out.keep (S' := Wide S0 w.heap.size W1) (fun _ h => h) (fun b hb => (hb2.block b (Nat.lt_of_lt_of_le hb.2 hbr.size)).trans (hbr.block b hb.2))).front hrl) (fun b hb => Nat.lt_of_lt_of_le hb.2 (Nat.le_trans hbr.size hb2.size)) (fun e => by have h := congrArg List.length e; rw [List.length_take, List.length_nil] at h; omega) HTX.out (by have := weighAll_take R (runB R); omega)).mono ?_
      rintro e w3 ⟨v3, rfl, hn3, hb3⟩
      obtain ⟨HR1, HR2⟩ : Hid ((R.take (runB R)).foldl joinStep J = J ++ [asOneB (R.take (runB R))]) ∧ Hid (∀ x, (R.drop (runB R)).head? = some x → alikeB (asOneB (R.take (runB R))) x = false) := ⟨Lib.hid HRUN.out.1, Lib.hid HRUN.out.2⟩
      generalize asOneB (R.take (runB R)) = x at *
      generalize hrun : runB R = run at *
      obtain ⟨xm, xa, xk, rfl, hxm, hxa, hxk⟩ := hn3
      obtain ⟨S', hSS', HP⟩ := join_push HOW.out.1 HOW.out.2.1 (fun b hb => hb.2) hbr hb2 hb3 hxm hxa hxk
      have HSN : Hid (∀ b, S' b → S0 b ∨ w.heap.size ≤ b) := Lib.hid (fun b hb => by
        rcases hSS' b hb with h | h | h
        · exact HOW.out.2.2 b h
        · exact h.1
        · exact .inr (Nat.le_trans HB1.out.size (Nat.le_trans hbr.size (Nat.le_trans hb2.size h))))
      clear hSS'
      have HP := Lib.hid HP
      obtain ⟨A4, c4, rfl, _⟩ := hxm.form
      obtain ⟨A5, c5, rfl, _⟩ := hxa.form
      obtain ⟨A6, c6, rfl, _⟩ := hxk.form
      have hJl : J.length + 1 ≤ 1000000 := by
        have h1 := joinFold_weigh (kept.take k) []
        have h2 := length_le_weigh ((kept.take k).foldl joinStep [])
        have h3 := weighAll_append (kept.take k) (kept.drop k)
        rw [List.take_append_drop] at h3
        have h4 := HJ.out
        rw [h4] at h2
        rw [h4] at h1
        simp only [weighAll] at h1
        omega
      clear hxm hxa hxk hrun HRUN HTX
      by_cases hrc : run = cr
      · subst hrc
        go_wp2_with (at_builtin; refine wpList_append_nodes rfl (.tmp 13) (.tmp 18) rfl W1.heap.size S' _ _ J [x] rfl rfl HP.out.1 HP.out.2.1 HP.out.2.2.1 (by simp only [List.length_cons, List.length_nil]; omega) HP.out.2.2.2.1 ?_; intro v' w4 hown' hg hat; have hB4 := HP.out.2.2.2.2 v' w4 hg hat; clear hg hat)
        have hfold : (kept.take (k + run)).foldl joinStep [] = J ++ [x] := by rw [HTK.out, List.foldl_append, HJ.out, HR1.out]
        refine ⟨⟨k + run, by omega, ⟨S', by rw [hfold]; exact hown', hB4.2, HSN.out⟩, hB4.1, ?_, fun z x' hz hx' => ?_⟩, by simp [sliceLen]; omega⟩
        · rw [← HDR.out]
          rw [List.drop_of_length_le (by omega)]; exact kids_empty _
        · rw [hfold] at hz
          simp at hz
          rw [← HDR.out] at hx'
          rw [← hz]; exact HR2.out x' hx'
      · have hrc' : run < cr := by omega
        go_wp2_with (at_builtin; refine wpList_append_nodes rfl (.tmp 13) (.tmp 18) rfl W1.heap.size S' _ _ J [x] rfl rfl HP.out.1 HP.out.2.1 HP.out.2.2.1 (by simp only [List.length_cons, List.length_nil]; omega) HP.out.2.2.2.1 ?_; intro v' w4 hown' hg hat; have hB4 := HP.out.2.2.2.2 v' w4 hg hat; clear hg hat)
        have hfold : (kept.take (k + run)).foldl joinStep [] = J ++ [x] := by rw [HTK.out, List.foldl_append, HJ.out, HR1.out]
        refine ⟨⟨k + run, by omega, ⟨S', by rw [hfold]; exact hown', hB4.2, HSN.out⟩, hB4.1, ?_, fun z x' hz hx' => ?_⟩, by simp [sliceLen]; omega⟩
        · rw [← HDR.out]
          exact HKR.out.back hrl
        · rw [hfold] at hz
          simp at hz
          rw [← HDR.out] at hx'
          rw [← hz]; exact HR2.out x' hx'
    · have hkk : k = kept.length := by omega
      subst hkk
      have hr0 : kept.drop kept.length = [] := List.drop_length
      rw [hr0] at hkr hdl
      obtain ⟨Ar, cr, rfl, hcr⟩ := hkr.form
      have HKJ := Lib.hid (hown.kids (S' := fun b => S0 b ∨ From w.heap.size wr.heap.size b) (fun b hb => (hSS b hb).imp (fun h => h) (fun h => ⟨h, (hS b hb).1⟩)) (fun g hg => .inr ⟨Nat.le_trans HB1.out.size (hown.block_ge g hg).1, (hown.block_ge g hg).2⟩))
      obtain ⟨Aj, cj, rfl, hjc, _⟩ := hown.form
      have HBR := Lib.hid hbr
      clear hkr hdl hown hS hSS hbd hr0
      go_wp2
      go_ret
      refine ⟨_, rfl, ?_, belowNext HB1.out HBR.out⟩
      have h := HKJ.out
      rw [List.take_length, HFIN.out] at h
      rw [List.take_length, HFIN.out]
      exact h

theorem join_any (v : Value) (l : List Tree) (w : World) (h : Kids w (Under w.heap.size) v l) (hw : weighAll l ≤ 1000000) :
    Calls Tryd.prog 23 #[v] w (NJPost w l) :=
  (joinS_any v l (Under w.heap.size) w h (fun _ h => h) hw).mono fun _ _ ⟨v', he, hk, hb⟩ => ⟨v', he, hk.keep (fun _ h => h.elim (fun h => Nat.lt_of_lt_of_le h hb.size) (fun h => h.2)) (fun _ _ => rfl), hb⟩
end Go.Proofs.YtamoklceekeheaaDoor
