/-
  The document's written: what it answers.
  What the document's Same and Back answer.
  The chapter's example (at the head of the statements of chapter 3).
  What the statements' own made and doc answer: the walk.
  What doc answers.
  How much made gives; rows of nodes appended, in a region that draws its order; one cell set.
  What two rows begin and end with alike: plain facts; TokenEnds walked.
  TokenLens.
-/
import Derived.Test.YtggoebbfgkebcaaGreatDoorMF
import Derived.Test.YtggoebbfgkebcaaGreatDoorMG
import Derived.Test.YtggoebbfgkebcaaGreatDoorMI
import Derived.Test.YtggoebbfgkebcaaGreatDoorMB
import Derived.Test.YtggoebbfgkebcaaGreatDoorMA
import Derived.Test.YtggoebbfgkebcaaGreatDoorMC
namespace Go.Proofs.YtggoebbfgkebcaaGreatDoor
open Go.RowKit Go.Sort Go.Maps

/-- How much there is to write. -/
def tokV (l : List Tok) : Nat := (l.map fun t => 2 * t.text.size + t.head.size + 3).sum
theorem tokV_cons (t : Tok) (l : List Tok) : tokV (t :: l) = 2 * t.text.size + t.head.size + 3 + tokV l := by unfold tokV; rw [List.map_cons, List.sum_cons]
theorem tokV_app (a b : List Tok) : tokV (a ++ b) = tokV a + tokV b := by unfold tokV; rw [List.map_append, List.sum_append]
theorem says_tokV : ∀ l : List Tok, 2 * (saysL l).length + 3 * l.length ≤ tokV l
  | [] => by simp [saysL, tokV]
  | t :: l => by
    have h1 := says_tokV l
    have h3 : (saysL (t :: l)) = t.text.data.toList ++ saysL l := by unfold saysL; simp
    have h4 := Lib.size_eq t.text
    rw [h3, List.length_append, List.length_cons, tokV_cons]; omega
theorem says_headV : ∀ (p : List Tok) (h : ByteArray), p ≠ [] → (∀ x ∈ p, x.head = h) → 2 * (saysL p).length + 2 + h.size ≤ tokV p
  | [], h, hne, _ => absurd rfl hne
  | t :: p, h, _, hh => by
    have h1 := says_tokV p
    have h2 := hh t (by simp)
    have h3 : (saysL (t :: p)) = t.text.data.toList ++ saysL p := by unfold saysL; simp
    have h4 := Lib.size_eq t.text
    rw [h3, List.length_append, tokV_cons, ← h2]; omega
theorem rwr_len : ∀ (n : Nat) (l : List Tok), l.length ≤ n → (rwr l).length ≤ tokV l
  | _, [], _ => by simp [rwr_nil]
  | 0, t :: l, h => by simp at h
  | n + 1, t :: l, hn => by
    have hp := partN_pos t l
    simp only [List.length_cons] at hn
    by_cases hk : t.kind = 116
    · rw [rwr_sign hk]
      have h1 := rwr_len n ((t :: l).drop (partN (t :: l))) (by simp only [List.length_drop, List.length_cons]; omega)
      have h2 := says_headV ((t :: l).take (partN (t :: l))) t.head (by
        intro e
        have := congrArg List.length e
        rw [List.length_take, List.length_cons, List.length_nil] at this
        omega) fun x hx => (part_like t l hk x hx).2
      have h3 := quoteL_le (saysL ((t :: l).take (partN (t :: l))))
      have h4 := tokV_app ((t :: l).take (partN (t :: l))) ((t :: l).drop (partN (t :: l)))
      rw [List.take_append_drop] at h4
      have h5 := Lib.size_eq t.head
      rw [List.length_append, List.length_append]; omega
    · rw [rwr_other hk, List.length_append, tokV_cons]
      have h1 := rwr_len n l (by omega)
      have h5 := Lib.size_eq t.head
      have : (if t.kind = 111 then t.head.data.toList ++ [91] else if t.kind = 99 then [93] else []).length ≤ t.head.size + 1 := by
        split
        · rw [List.length_append, h5]; simp
        · split <;> simp
      omega
theorem tokV_drop (l : List Tok) (k : Nat) : tokV (l.drop k) ≤ tokV l := by
  have := tokV_app (l.take k) (l.drop k)
  rw [List.take_append_drop] at this; omega
theorem says_cutV (l : List Tok) (k n : Nat) : 2 * (saysL ((l.drop k).take n)).length ≤ tokV l := by
  have h1 := says_tokV ((l.drop k).take n)
  have h2 := tokV_app ((l.drop k).take n) ((l.drop k).drop n)
  rw [List.take_append_drop] at h2
  have h3 := tokV_drop l k
  omega
theorem says_snocV (l : List Tok) (x : Tok) : saysL (l ++ [x]) = saysL l ++ x.text.data.toList := by unfold saysL; simp

/-- Where the outer loop stands. -/
def OutAt (l : List Tok) (k : Nat) (st : ByteArray) : Prop := st.data.toList ++ rwr (l.drop k) = rwr l
/-- Where the inner one does: from k on, at j. -/
structure GrAt (l : List Tok) (k j : Nat) (x : Tok) (tt : ByteArray) : Prop where
  ge : k ≤ j
  says : tt.data.toList = saysL ((l.drop k).take (j - k))
  at_ : ∃ y, l[j]? = some y ∧ y.kind = 116 ∧ y.head = x.head
  part : partN (l.drop k) = (j - k) + partN (l.drop j)
theorem drop_headV {l : List Tok} {k : Nat} {x : Tok} (h : l[k]? = some x) : l.drop k = x :: l.drop (k + 1) := by
  obtain ⟨hlt, he⟩ := List.getElem?_eq_some_iff.1 h
  rw [List.drop_eq_getElem_cons hlt, he]
theorem GrAt.start {l : List Tok} {k : Nat} {x : Tok} (hx : l[k]? = some x) (hk : x.kind = 116) : GrAt l k k x ⟨#[]⟩ :=
  ⟨Nat.le_refl _, by simp [saysL], ⟨x, hx, hk, rfl⟩, by simp⟩
theorem GrAt.says1 {l : List Tok} {k j : Nat} {x y : Tok} {tt : ByteArray} (h : GrAt l k j x tt) (hy : l[j]? = some y) : (tt ++ y.text).data.toList = saysL ((l.drop k).take (j + 1 - k)) := by
  rw [wapp, h.says, show j + 1 - k = (j - k) + 1 by have := h.ge; omega, List.take_add_one, List.getElem?_drop, show k + (j - k) = j by have := h.ge; omega, hy]
  exact (says_snocV _ _).symm
theorem GrAt.next {l : List Tok} {k j : Nat} {x y z : Tok} {tt : ByteArray} (h : GrAt l k j x tt) (hy : l[j]? = some y) (hz : l[j + 1]? = some z) (hk : z.kind = 116) (hh : z.head = y.head) : GrAt l k (j + 1) x (tt ++ y.text) := by
  obtain ⟨y', h1, h2, h3⟩ := h.at_
  obtain rfl : y' = y := Option.some.inj (h1.symm.trans hy)
  refine ⟨by have := h.ge; omega, h.says1 hy, ⟨z, hz, hk, hh.trans h3⟩, ?_⟩
  have hl : likeT y' z = true := by unfold likeT; simp [h2, hk, hh]
  rw [h.part, partN_step hy hz, if_pos hl]
  have := h.ge; omega
theorem GrAt.stop {l : List Tok} {k j : Nat} {x y : Tok} {tt : ByteArray} (h : GrAt l k j x tt) (hx : l[k]? = some x) (hxk : x.kind = 116) (hy : l[j]? = some y) (he : j + 1 = l.length ∨ ∃ z, l[j + 1]? = some z ∧ ¬ (z.kind = 116 ∧ z.head = y.head)) :
    rwr (l.drop k) = quoteL (tt ++ y.text).data.toList ++ (y.head.data.toList ++ rwr (l.drop (j + 1))) := by
  obtain ⟨y', h1, h2, h3⟩ := h.at_
  obtain rfl : y' = y := Option.some.inj (h1.symm.trans hy)
  have hp1 : partN (l.drop j) = 1 := by
    rcases he with he | ⟨z, hz, hn⟩
    · exact partN_last he
    · rw [partN_step hy hz, if_neg]
      unfold likeT
      simp only [Bool.and_eq_true, decide_eq_true_eq]
      rintro ⟨_, h5, h6⟩
      exact hn ⟨h5, h6.symm⟩
  have hp : partN (l.drop k) = j + 1 - k := by rw [h.part, hp1]; have := h.ge; omega
  rw [h.says1 hy]
  have e := drop_headV hx
  have hge := h.ge
  rw [e] at hp ⊢
  rw [rwr_sign hxk, hp, h3]
  congr 3
  rw [← e, List.drop_drop]; congr 1; omega

set_option maxHeartbeats 8000000 in
set_option maxRecDepth 100000 in
theorem rwritten_any (v : Value) (l : List Tok) (w : World) (h : Toks w (Under w.heap.size) v l) (hl : l.length ≤ 9000) (hs : tokV l ≤ 121000) :
    Calls Tryz.prog 19 #[v] w fun e w' => e = .returned (.string (tB (rwr l))) ∧ Below w.heap.size w w' := by
  obtain ⟨A, c, rfl, _⟩ := h.form
  have HL := Lib.hid h
  have hrl := rwr_len _ l (Nat.le_refl _)
  clear h
  go_enter Tryz.func19, Tryz.ntmps19
  go_wp2
  go_loopg [3, 4] l.length (fun g s3 s4 wx => ∃ (st : ByteArray) (k : Nat), s3 = .string st ∧ s4 = .int .i64 (k : Int) ∧ k + g = l.length ∧ Hid (OutAt l k st) ∧ Hid (Below w.heap.size w wx))
  case atStart => exact ⟨_, 0, rfl, rfl, by omega, Lib.hid (by unfold OutAt; simp), Lib.hid (Below.refl _ _)⟩
  case round =>
    obtain ⟨st, k, rfl, rfl, hkg, hst, hb⟩ := hrel
    have hsz : st.size ≤ 121000 := by
      have h1 := congrArg List.length hst.out
      rw [List.length_append, ← Lib.size_eq] at h1
      omega
    by_cases hlt : k < l.length
    · have hx : l[k]? = some l[k] := List.getElem?_eq_getElem hlt
      generalize l[k] = x at *
      obtain ⟨b, o, rfl, hub, r0, r1, r2⟩ := HL.out.get hx
      have HX := Lib.hid hx
      have hxs : 2 * x.text.size + x.head.size + 3 ≤ 121000 := by
        have h1 := tokV_drop l k
        rw [drop_headV hx, tokV_cons] at h1; omega
      have q0 := cell_kept r0 hb.out
      have q1 := cell_kept r1 hb.out
      have q2 := cell_kept r2 hb.out
      clear r0 r1 r2 hx
      by_cases h1 : x.kind = 111
      · rw [h1] at q0
        have HW : Hid (OutAt l (k + 1) (st ++ x.head ++ ⟨#[91]⟩)) := Lib.hid (by
          have := hst.out
          unfold OutAt at this ⊢
          rw [drop_headV HX.out, rwr_other (by rw [h1]; decide), if_pos h1] at this
          rw [← this, wapp, wapp]; simp)
        have o1 : ¬ 9223372036854775807 < st.size + x.head.size := by omega
        have o2 : ¬ 9223372036854775807 < st.size + x.head.size + 1 := by omega
        clear h1
        go_wp2
        go_roundg (l.length - (k + 1))
        case measure => omega
        case rel => exact ⟨_, k + 1, rfl, by go_num, by omega, HW, hb⟩
      · by_cases h2 : x.kind = 99
        · rw [h2] at q0
          have HW : Hid (OutAt l (k + 1) (st ++ ⟨#[93]⟩)) := Lib.hid (by
            have := hst.out
            unfold OutAt at this ⊢
            rw [drop_headV HX.out, rwr_other (by rw [h2]; decide), if_neg (by rw [h2]; decide), if_pos h2] at this
            rw [← this, wapp]; simp)
          have o1 : ¬ 9223372036854775807 < st.size + 1 := by omega
          clear h1 h2
          go_wp2
          go_roundg (l.length - (k + 1))
          case measure => omega
          case rel => exact ⟨_, k + 1, rfl, by go_num, by omega, HW, hb⟩
        · have e1 : ((x.kind : Int) == 111) = false := by rw [beq_eq_false_iff_ne]; omega
          have e2 : ((x.kind : Int) == 99) = false := by rw [beq_eq_false_iff_ne]; omega
          have p1 : ¬ (x.kind : Int) = 111 := by omega
          have p2 : ¬ (x.kind : Int) = 99 := by omega
          by_cases h3 : x.kind = 116
          · have e3 : ((x.kind : Int) != 116) = false := by rw [h3]; decide
            have HK := Lib.hid h3
            rw [h3] at q0
            have HGS := Lib.hid (GrAt.start HX.out h3)
            have hxk := h3
            clear h1 h2 h3
            generalize hG : gk = G at *
            generalize wr = wo at *
            go_wp2_with fail
            go_loopg [4, 5] (l.length - k) (fun g s4 s5 wx => ∃ (j : Nat) (tt : ByteArray), s4 = .int .i64 (j : Int) ∧ s5 = .string tt ∧ j + g = l.length ∧ Hid (GrAt l k j x tt) ∧ Hid (Below wo.heap.size wo wx))
            case atStart => exact ⟨k, _, rfl, rfl, by omega, HGS, Lib.hid (Below.refl _ _)⟩
            case round =>
              obtain ⟨j, tt, rfl, rfl, hjg, hgr, hbj⟩ := hrel
              have HBR : Hid (Below w.heap.size w wr) := Lib.hid (hb.out.trans (hbj.out.mono hb.out.size))
              obtain ⟨y, hy, hyk, hyh⟩ := hgr.out.at_
              have hkj := hgr.out.ge
              have hjl : j < l.length := (List.getElem?_eq_some_iff.1 hy).1
              obtain ⟨b', o', eA, _, u0, u1, u2⟩ := HL.out.get hy
              obtain ⟨rfl, rfl⟩ : b = b' ∧ o = o' := by simpa using eA
              have HS2 : Hid (w.cell? ⟨b, o + j * 3 + 2, none⟩ = some (.string y.head)) := Lib.hid u2
              have s0 := cell_kept u0 HBR.out
              have s1 := cell_kept u1 HBR.out
              have s2 := cell_kept u2 HBR.out
              rw [hyk] at s0
              have hys : 2 * y.text.size + y.head.size + 3 ≤ 121000 := by
                have h1 := tokV_drop l j
                rw [drop_headV hy, tokV_cons] at h1; omega
              have htz : tt.size ≤ 121000 := by
                have h1 := says_cutV l k (j - k)
                rw [← hgr.out.says, ← Lib.size_eq] at h1; omega
              have htq : (tt ++ y.text).size ≤ 121000 := by
                have h1 := says_cutV l k (j + 1 - k)
                rw [← hgr.out.says1 hy, ← Lib.size_eq] at h1; omega
              have HNX : Hid (∀ z, l[j + 1]? = some z → z.kind = 116 → z.head = y.head → GrAt l k (j + 1) x (tt ++ y.text)) := Lib.hid fun z hz h1 h2 => hgr.out.next hy hz h1 h2
              have HSP : Hid (j + 1 = l.length ∨ (∃ z, l[j + 1]? = some z ∧ ¬ (z.kind = 116 ∧ z.head = y.head)) → rwr (l.drop k) = quoteL (tt ++ y.text).data.toList ++ (y.head.data.toList ++ rwr (l.drop (j + 1)))) := Lib.hid fun he => hgr.out.stop HX.out HK.out hy he
              have HY := Lib.hid hy
              have o3 : ¬ 9223372036854775807 < tt.size + y.text.size := by omega
              have i1 : (j : Int) < (l.length : Int) := by omega
              have HBJX := Lib.hid hbj.out
              clear u0 u1 u2 eA hy hyh hyk hgr hxk hbj
              go_upto_region 13 with fail
              generalize tt ++ y.text = tq at *
              by_cases hend : j + 1 = l.length
              · have HSTOP := Lib.hid (HSP.out (.inl hend))
                have g1 : ((j : Int) + 1 == (l.length : Int)) = true := by rw [beq_iff_eq]; omega
                have g2 : (j : Int) + 1 = (l.length : Int) := by omega
                go_quiet (fail)
                have HBQ : Hid (Below w.heap.size w (wr.drewN nq)) := Lib.hid ⟨HBR.out.os, HBR.out.tape, HBR.out.output, HBR.out.size, HBR.out.block⟩
                generalize wr.drewN nq = wq at *
                go_upto_region 15 with fail
                clear s0 s1 s2 q0 q1 q2
                have t2 := cell_kept HS2.out HBQ.out
                have k2 := cell_regrown t2
                have HQ := Lib.hid (regrown_any (w := wq) fun W _ => rquote_val tq W (by omega))
                have hqz : (tB (quoteL tq.data.toList)).size ≤ 300000 := by rw [tB_size]; have := quoteL_le tq.data.toList; have := Lib.size_eq tq; omega
                have HW : Hid (OutAt l (j + 1) (st ++ tB (quoteL tq.data.toList) ++ y.head)) := Lib.hid (by
                  have h8 := hst.out
                  unfold OutAt at h8 ⊢
                  rw [HSTOP.out] at h8
                  rw [← h8, wapp, wapp, tB_data]; simp)
                change Hid (∀ (d : Nat) (os : Array Obj), Calls _ _ _ _ fun e w'' => e = .returned (.string (tB (quoteL tq.data.toList))) ∧ _) at HQ
                generalize tB (quoteL tq.data.toList) = sq at *
                have o4 : ¬ 9223372036854775807 < st.size + sq.size := by omega
                have o5 : ¬ 9223372036854775807 < st.size + sq.size + y.head.size := by omega
                refine wp_region_quiet_below (by kernel_rfl) (by kernel_rfl) ?_
                repeat (first | go_big_quiet_step (first | exact HQ.out _ _) | quiet_step (first | exact HQ.out _ _))
                refine wpQuiet_nil ?_
                intro _ hw'
                obtain ⟨⟨dq, osq⟩, hw''⟩ := hw'
                subst hw''
                have HBN := Lib.hid (belowNext HBQ.out (below_regrown wq dq osq))
                clear k2 t2
                generalize grow (redrawn wq dq) osq = wn at *
                go_wp2
                go_roundg (l.length - (j + 1))
                case measure => omega
                case rel => exact ⟨_, j + 1, rfl, by go_num, by omega, HW, HBN⟩
              · have hz : l[j + 1]? = some l[j + 1] := List.getElem?_eq_getElem (by omega)
                generalize l[j + 1] = z at *
                obtain ⟨b', o', eA, _, u0, u1, u2⟩ := HL.out.get hz
                obtain ⟨rfl, rfl⟩ : b = b' ∧ o = o' := by simpa using eA
                have z0 := cell_kept u0 HBR.out
                have z2 := cell_kept u2 HBR.out
                have HZ := Lib.hid hz
                have g1 : ((j : Int) + 1 == (l.length : Int)) = false := by rw [beq_eq_false_iff_ne]; omega
                have g2 : ¬ (j : Int) + 1 = (l.length : Int) := by omega
                have g5 : (j : Int) + 1 < (l.length : Int) := by omega
                clear u0 u1 u2 eA hz
                by_cases hzk : z.kind = 116
                · rw [hzk] at z0
                  by_cases hzh : z.head = y.head
                  · have HN := Lib.hid (HNX.out z HZ.out hzk hzh)
                    rw [hzh] at z2
                    have g6 : (y.head.toList != y.head.toList) = false := by simp
                    go_quiet (fail)
                    have HBQ : Hid (Below w.heap.size w (wr.drewN nq)) := Lib.hid ⟨HBR.out.os, HBR.out.tape, HBR.out.output, HBR.out.size, HBR.out.block⟩
                    have HBJ : Hid (Below wo.heap.size wo (wr.drewN nq)) := Lib.hid ⟨HBJX.out.os, HBJX.out.tape, HBJX.out.output, HBJX.out.size, HBJX.out.block⟩
                    generalize wr.drewN nq = wq at *
                    go_wp2
                    go_roundg (l.length - (j + 1))
                    case measure => omega
                    case rel => exact ⟨j + 1, _, by go_num, rfl, by omega, HN, Lib.hid (HBJ.out)⟩
                  · have HSTOP := Lib.hid (HSP.out (.inr ⟨z, HZ.out, fun h => hzh h.2⟩))
                    have g6 : (z.head.toList != y.head.toList) = true := by
                      rw [bne_iff_ne]; intro e; exact hzh ((bytes_iff _ _).1 (by rw [e]; simp))
                    have g7 : ¬ z.head.toList = y.head.toList := by rw [bne_iff_ne] at g6; exact g6
                    have g8 : (z.head.toList == y.head.toList) = false := by rw [beq_eq_false_iff_ne]; exact g7
                    clear hzh
                    go_quiet (fail)
                    have HBQ : Hid (Below w.heap.size w (wr.drewN nq)) := Lib.hid ⟨HBR.out.os, HBR.out.tape, HBR.out.output, HBR.out.size, HBR.out.block⟩
                    generalize wr.drewN nq = wq at *
                    go_upto_region 15 with fail
                    clear s0 s1 s2 q0 q1 q2 z0 z2
                    have t2 := cell_kept HS2.out HBQ.out
                    have k2 := cell_regrown t2
                    have HQ := Lib.hid (regrown_any (w := wq) fun W _ => rquote_val tq W (by omega))
                    have hqz : (tB (quoteL tq.data.toList)).size ≤ 300000 := by rw [tB_size]; have := quoteL_le tq.data.toList; have := Lib.size_eq tq; omega
                    have HW : Hid (OutAt l (j + 1) (st ++ tB (quoteL tq.data.toList) ++ y.head)) := Lib.hid (by
                      have h8 := hst.out
                      unfold OutAt at h8 ⊢
                      rw [HSTOP.out] at h8
                      rw [← h8, wapp, wapp, tB_data]; simp)
                    change Hid (∀ (d : Nat) (os : Array Obj), Calls _ _ _ _ fun e w'' => e = .returned (.string (tB (quoteL tq.data.toList))) ∧ _) at HQ
                    generalize tB (quoteL tq.data.toList) = sq at *
                    have o4 : ¬ 9223372036854775807 < st.size + sq.size := by omega
                    have o5 : ¬ 9223372036854775807 < st.size + sq.size + y.head.size := by omega
                    refine wp_region_quiet_below (by kernel_rfl) (by kernel_rfl) ?_
                    repeat (first | go_big_quiet_step (first | exact HQ.out _ _) | quiet_step (first | exact HQ.out _ _))
                    refine wpQuiet_nil ?_
                    intro _ hw'
                    obtain ⟨⟨dq, osq⟩, hw''⟩ := hw'
                    subst hw''
                    have HBN := Lib.hid (belowNext HBQ.out (below_regrown wq dq osq))
                    clear k2 t2
                    generalize grow (redrawn wq dq) osq = wn at *
                    go_wp2
                    go_roundg (l.length - (j + 1))
                    case measure => omega
                    case rel => exact ⟨_, j + 1, rfl, by go_num, by omega, HW, HBN⟩
                · have HSTOP := Lib.hid (HSP.out (.inr ⟨z, HZ.out, fun h => hzk h.1⟩))
                  have g6 : ((z.kind : Int) != 116) = true := by rw [bne_iff_ne]; omega
                  have g7 : ¬ (z.kind : Int) = 116 := by omega
                  clear hzk
                  go_quiet (fail)
                  have HBQ : Hid (Below w.heap.size w (wr.drewN nq)) := Lib.hid ⟨HBR.out.os, HBR.out.tape, HBR.out.output, HBR.out.size, HBR.out.block⟩
                  generalize wr.drewN nq = wq at *
                  go_upto_region 15 with fail
                  clear s0 s1 s2 q0 q1 q2 z0 z2
                  have t2 := cell_kept HS2.out HBQ.out
                  have k2 := cell_regrown t2
                  have HQ := Lib.hid (regrown_any (w := wq) fun W _ => rquote_val tq W (by omega))
                  have hqz : (tB (quoteL tq.data.toList)).size ≤ 300000 := by rw [tB_size]; have := quoteL_le tq.data.toList; have := Lib.size_eq tq; omega
                  have HW : Hid (OutAt l (j + 1) (st ++ tB (quoteL tq.data.toList) ++ y.head)) := Lib.hid (by
                    have h8 := hst.out
                    unfold OutAt at h8 ⊢
                    rw [HSTOP.out] at h8
                    rw [← h8, wapp, wapp, tB_data]; simp)
                  change Hid (∀ (d : Nat) (os : Array Obj), Calls _ _ _ _ fun e w'' => e = .returned (.string (tB (quoteL tq.data.toList))) ∧ _) at HQ
                  generalize tB (quoteL tq.data.toList) = sq at *
                  have o4 : ¬ 9223372036854775807 < st.size + sq.size := by omega
                  have o5 : ¬ 9223372036854775807 < st.size + sq.size + y.head.size := by omega
                  refine wp_region_quiet_below (by kernel_rfl) (by kernel_rfl) ?_
                  repeat (first | go_big_quiet_step (first | exact HQ.out _ _) | quiet_step (first | exact HQ.out _ _))
                  refine wpQuiet_nil ?_
                  intro _ hw'
                  obtain ⟨⟨dq, osq⟩, hw''⟩ := hw'
                  subst hw''
                  have HBN := Lib.hid (belowNext HBQ.out (below_regrown wq dq osq))
                  clear k2 t2
                  generalize grow (redrawn wq dq) osq = wn at *
                  go_wp2
                  go_roundg (l.length - (j + 1))
                  case measure => omega
                  case rel => exact ⟨_, j + 1, rfl, by go_num, by omega, HW, HBN⟩
          · have e3 : ((x.kind : Int) != 116) = true := by rw [bne_iff_ne]; omega
            have p3 : ¬ (x.kind : Int) = 116 := by omega
            have HW : Hid (OutAt l (k + 1) st) := Lib.hid (by
              have := hst.out
              unfold OutAt at this ⊢
              rw [drop_headV HX.out, rwr_other h3, if_neg h1, if_neg h2] at this
              exact this)
            clear h1 h2 h3
            go_wp2
            go_roundg (l.length - (k + 1))
            case measure => omega
            case rel => exact ⟨_, k + 1, rfl, by go_num, by omega, HW, hb⟩
    · have HE : Hid (st = tB (rwr l)) := Lib.hid (tB_of (by
        have := hst.out
        unfold OutAt at this
        rw [List.drop_of_length_le (by omega), rwr_nil, List.append_nil] at this
        exact this))
      have hlt' : ¬ (k : Int) < (l.length : Int) := by omega
      go_wp2
      go_ret
      exact ⟨by rw [← HE.out]; rfl, hb.out⟩
end Go.Proofs.YtggoebbfgkebcaaGreatDoor

namespace Go.Proofs.YtggoebbfgkebcaaGreatDoor
open Go.RowKit Go.Sort Go.Maps

set_option maxHeartbeats 4000000 in
set_option maxRecDepth 100000 in
theorem rsame_any (va vb : Value) (a b : List Tok) (w : World) (ha : Toks w (Under w.heap.size) va a) (hb : Toks w (Under w.heap.size) vb b) (hla : a.length ≤ 100000000) (hlb : b.length ≤ 100000000) :
    Calls Tryz.prog 10 #[va, vb] w fun e w' => e = .returned (.int .i64 (sameN a b)) ∧ Below w.heap.size w w' := by
  obtain ⟨A1, c1, rfl, _⟩ := ha.form
  obtain ⟨A2, c2, rfl, _⟩ := hb.form
  have HA := Lib.hid ha
  have HB := Lib.hid hb
  clear ha hb
  go_enter Tryz.func10, Tryz.ntmps10
  go_wp2
  go_loopw [5] (fun i wr => ∃ k : Nat, k ≤ a.length ∧ k ≤ b.length ∧ i = .int .i64 k ∧ Hid (sameN a b = k + sameN (a.drop k) (b.drop k)) ∧ Below w.heap.size w wr) (fun i _ => a.length - (intOf i).toNat)
  case atStart => exact ⟨0, by omega, by omega, rfl, Lib.hid (by simp), Below.refl _ _⟩
  case round =>
    obtain ⟨k, hka, hkb, rfl, hsn, hbr⟩ := hrel
    by_cases hlt : k < a.length ∧ k < b.length
    · obtain ⟨hlt1, hlt2⟩ := hlt
      have hax : a[k]? = some a[k] := List.getElem?_eq_getElem hlt1
      have hby : b[k]? = some b[k] := List.getElem?_eq_getElem hlt2
      have HST : Hid (sameN (a.drop k) (b.drop k) = if a[k] = b[k] then sameN (a.drop (k + 1)) (b.drop (k + 1)) + 1 else 0) := Lib.hid (by rw [List.drop_eq_getElem_cons hlt1, List.drop_eq_getElem_cons hlt2, sameN])
      generalize a[k] = x at *
      generalize b[k] = y at *
      obtain ⟨g1, o1, rfl, hu1, x0, x1, x2⟩ := HA.out.get hax
      obtain ⟨g2, o2, rfl, hu2, y0, y1, y2⟩ := HB.out.get hby
      have k0 := cell_kept x0 hbr
      have k1 := cell_kept x1 hbr
      have k2 := cell_kept x2 hbr
      have m0 := cell_kept y0 hbr
      have m1 := cell_kept y1 hbr
      have m2 := cell_kept y2 hbr
      have g3 : (k : Int) < (a.length : Int) := by omega
      have g5 : (k : Int) < (b.length : Int) := by omega
      have g4 : (k : Int) < (a.length : Int) ∧ (k : Int) < (b.length : Int) := by omega
      clear x0 x1 x2 y0 y1 y2 hax hby
      have HEQ := Lib.hid (tok_eq x y)
      cases q0 : ((x.kind : Int) == (y.kind : Int)) with
      | false =>
        have HNE : Hid (x ≠ y) := Lib.hid (fun e => by have := (HEQ.out.1 e).1; rw [q0] at this; cases this)
        go_wp2
        go_quiet (fail)
        go_wp2
        go_ret
        exact ⟨ret_num (by rw [hsn.out, HST.out, if_neg HNE.out]; omega), drawn_on hbr _⟩
      | true =>
        cases q1 : (x.text.toList == y.text.toList) with
        | false =>
          have HNE : Hid (x ≠ y) := Lib.hid (fun e => by have := (HEQ.out.1 e).2.1; rw [q1] at this; cases this)
          go_wp2
          go_quiet (fail)
          go_wp2
          go_ret
          exact ⟨ret_num (by rw [hsn.out, HST.out, if_neg HNE.out]; omega), drawn_on hbr _⟩
        | true =>
          cases q2 : (x.head.toList == y.head.toList) with
          | false =>
            have HNE : Hid (x ≠ y) := Lib.hid (fun e => by have := (HEQ.out.1 e).2.2; rw [q2] at this; cases this)
            go_wp2
            go_quiet (fail)
            go_wp2
            go_ret
            exact ⟨ret_num (by rw [hsn.out, HST.out, if_neg HNE.out]; omega), drawn_on hbr _⟩
          | true =>
            have HYE : Hid (x = y) := Lib.hid (HEQ.out.2 ⟨q0, q1, q2⟩)
            go_wp2
            go_quiet (fail)
            go_wp2
            exact ⟨⟨k + 1, by omega, by omega, by go_num, Lib.hid (by rw [hsn.out, HST.out, if_pos HYE.out]; omega), drawn_on hbr _⟩, by simp [intOf]; omega⟩
    · have HZ : Hid (sameN (a.drop k) (b.drop k) = 0) := Lib.hid (sameN_end (by omega))
      by_cases hlt1 : k < a.length
      · have g3 : (k : Int) < (a.length : Int) := by omega
        have g5 : ¬ (k : Int) < (b.length : Int) := by omega
        have g6 : decide ((k : Int) < (b.length : Int)) = false := decide_eq_false g5
        have g7 : decide (k < b.length) = false := decide_eq_false (by omega)
        go_wp2
        go_quiet (fail)
        go_wp2
        go_ret
        exact ⟨ret_num (by rw [hsn.out, HZ.out]; omega), drawn_on hbr _⟩
      · have g5 : ¬ (k : Int) < (a.length : Int) := by omega
        have g6 : decide ((k : Int) < (a.length : Int)) = false := decide_eq_false g5
        have g7 : decide (k < a.length) = false := decide_eq_false (by omega)
        go_wp2
        go_quiet (fail)
        go_wp2
        go_ret
        exact ⟨ret_num (by rw [hsn.out, HZ.out]; omega), drawn_on hbr _⟩
set_option maxHeartbeats 4000000 in
set_option maxRecDepth 100000 in
theorem rback_any (va vb : Value) (a b : List Tok) (w : World) (ha : Toks w (Under w.heap.size) va a) (hb : Toks w (Under w.heap.size) vb b) (hla : a.length ≤ 100000000) (hlb : b.length ≤ 100000000) :
    Calls Tryz.prog 12 #[va, vb] w fun e w' => e = .returned (.int .i64 (backN a b)) ∧ Below w.heap.size w w' := by
  obtain ⟨A1, c1, rfl, _⟩ := ha.form
  obtain ⟨A2, c2, rfl, _⟩ := hb.form
  have HA := Lib.hid ha
  have HB := Lib.hid hb
  clear ha hb
  go_enter Tryz.func12, Tryz.ntmps12
  go_wp2_with fail
  refine (rsame_any _ _ a b w HA.out HB.out hla hlb).mono ?_
  rintro e w0 ⟨rfl, hb0⟩
  obtain ⟨hs1, hs2⟩ := sameN_le a b
  obtain ⟨n, hn⟩ : ∃ n : Nat, min (a.length : Int) (b.length : Int) - (sameN a b : Int) = (n : Int) := ⟨min a.length b.length - sameN a b, by omega⟩
  have HBN : Hid (backN a b = min (sameN a.reverse b.reverse) n) := Lib.hid (by unfold backN; congr 1; omega)
  have hn1 : n ≤ a.length := by omega
  have hn2 : n ≤ b.length := by omega
  have HB0 := Lib.hid hb0
  have hw1 : -9223372036854775808 ≤ min (a.length : Int) (b.length : Int) - (sameN a b : Int) ∧ min (a.length : Int) (b.length : Int) - (sameN a b : Int) ≤ 9223372036854775807 := by omega
  clear hb0
  go_wp2
  clear hn hs1 hs2 hw1
  go_loopw [6] (fun i wr => ∃ k : Nat, k ≤ n ∧ i = .int .i64 k ∧ Hid (sameN a.reverse b.reverse = k + sameN (a.reverse.drop k) (b.reverse.drop k)) ∧ Below w.heap.size w wr) (fun i _ => n - (intOf i).toNat)
  case atStart => exact ⟨0, by omega, rfl, Lib.hid (by simp), HB0.out⟩
  case round =>
    obtain ⟨k, hkn, rfl, hsn, hbr⟩ := hrel
    by_cases hlt : k < n
    · have hlt1 : k < a.length := by omega
      have hlt2 : k < b.length := by omega
      have hra : k < a.reverse.length := by rw [List.length_reverse]; exact hlt1
      have hrb : k < b.reverse.length := by rw [List.length_reverse]; exact hlt2
      have hax : a[a.length - 1 - k]? = some a.reverse[k] := by rw [get_rev hlt1]; exact List.getElem?_eq_getElem hra
      have hby : b[b.length - 1 - k]? = some b.reverse[k] := by rw [get_rev hlt2]; exact List.getElem?_eq_getElem hrb
      have HST : Hid (sameN (a.reverse.drop k) (b.reverse.drop k) = if a.reverse[k] = b.reverse[k] then sameN (a.reverse.drop (k + 1)) (b.reverse.drop (k + 1)) + 1 else 0) := Lib.hid (by rw [List.drop_eq_getElem_cons hra, List.drop_eq_getElem_cons hrb, sameN])
      generalize a.reverse[k] = x at *
      generalize b.reverse[k] = y at *
      obtain ⟨g1, o1, rfl, hu1, x0, x1, x2⟩ := HA.out.get hax
      obtain ⟨g2, o2, rfl, hu2, y0, y1, y2⟩ := HB.out.get hby
      have k0 := cell_kept x0 hbr
      have k1 := cell_kept x1 hbr
      have k2 := cell_kept x2 hbr
      have m0 := cell_kept y0 hbr
      have m1 := cell_kept y1 hbr
      have m2 := cell_kept y2 hbr
      obtain ⟨ia, hia⟩ : ∃ ia : Nat, a.length - 1 - k = ia := ⟨_, rfl⟩
      obtain ⟨ib, hib⟩ : ∃ ib : Nat, b.length - 1 - k = ib := ⟨_, rfl⟩
      rw [hia] at k0 k1 k2
      rw [hib] at m0 m1 m2
      have ja : (a.length : Int) - 1 - (k : Int) = (ia : Int) := by omega
      have jb : (b.length : Int) - 1 - (k : Int) = (ib : Int) := by omega
      have la : ia < a.length := by omega
      have lb : ib < b.length := by omega
      have g3 : decide ((k : Int) < (n : Int)) = true := by simp; omega
      clear x0 x1 x2 y0 y1 y2 hax hby hra hrb hia hib
      have HEQ := Lib.hid (tok_eq x y)
      cases q0 : ((x.kind : Int) == (y.kind : Int)) with
      | false =>
        have HNE : Hid (x ≠ y) := Lib.hid (fun e => by have := (HEQ.out.1 e).1; rw [q0] at this; cases this)
        go_wp2
        go_quiet (fail)
        go_wp2
        go_ret
        exact ⟨ret_num (by rw [HBN.out, hsn.out, HST.out, if_neg HNE.out]; omega), drawn_on hbr _⟩
      | true =>
        cases q1 : (x.text.toList == y.text.toList) with
        | false =>
          have HNE : Hid (x ≠ y) := Lib.hid (fun e => by have := (HEQ.out.1 e).2.1; rw [q1] at this; cases this)
          go_wp2
          go_quiet (fail)
          go_wp2
          go_ret
          exact ⟨ret_num (by rw [HBN.out, hsn.out, HST.out, if_neg HNE.out]; omega), drawn_on hbr _⟩
        | true =>
          cases q2 : (x.head.toList == y.head.toList) with
          | false =>
            have HNE : Hid (x ≠ y) := Lib.hid (fun e => by have := (HEQ.out.1 e).2.2; rw [q2] at this; cases this)
            go_wp2
            go_quiet (fail)
            go_wp2
            go_ret
            exact ⟨ret_num (by rw [HBN.out, hsn.out, HST.out, if_neg HNE.out]; omega), drawn_on hbr _⟩
          | true =>
            have HYE : Hid (x = y) := Lib.hid (HEQ.out.2 ⟨q0, q1, q2⟩)
            go_wp2
            go_quiet (fail)
            go_wp2
            exact ⟨⟨k + 1, by omega, by go_num, Lib.hid (by rw [hsn.out, HST.out, if_pos HYE.out]; omega), drawn_on hbr _⟩, by simp [intOf]; omega⟩
    · have g3 : decide ((k : Int) < (n : Int)) = false := by simp; omega
      obtain rfl : k = n := by omega
      go_wp2_with fail
      refine wp_region_quiet_below (by kernel_rfl) (by kernel_rfl) ?_
      repeat (first | go_big_quiet_step (fail) | quiet_step (fail))
      refine wpQuiet_nil ?_
      intro _ hw'
      obtain ⟨⟨dq, osq⟩, hw''⟩ := hw'
      subst hw''
      have HQ := Lib.hid (below_regrown wr dq osq)
      go_wp2
      go_ret
      exact ⟨ret_num (by rw [HBN.out, hsn.out]; omega), belowNext hbr HQ.out⟩

theorem sameN_self : ∀ a : List Tok, sameN a a = a.length
  | [] => rfl
  | x :: a => by rw [sameN, if_pos rfl, sameN_self a]; rfl
theorem sameN_all : ∀ {a b : List Tok}, a.length = b.length → sameN a b = a.length → a = b
  | [], [], _, _ => rfl
  | [], _ :: _, h, _ => by simp at h
  | _ :: _, [], h, _ => by simp at h
  | x :: a, y :: b, h, hs => by
    rw [sameN] at hs
    split at hs
    · rename_i e
      have := sameN_all (a := a) (b := b) (by simpa using h) (by simpa using hs)
      rw [e, this]
    · simp at hs
set_option maxHeartbeats 1000000 in
theorem rrow_same (va vb : Value) (a b : List Tok) (w : World) (ha : Toks w (Under w.heap.size) va a) (hb : Toks w (Under w.heap.size) vb b) (hla : a.length ≤ 100000000) (hlb : b.length ≤ 100000000) :
    Calls Tryz.prog 23 #[va, vb] w fun e w' => e = .returned (.bool (decide (a = b))) ∧ Below w.heap.size w w' := by
  obtain ⟨A1, c1, rfl, _⟩ := ha.form
  obtain ⟨A2, c2, rfl, _⟩ := hb.form
  have HA := Lib.hid ha
  have HB := Lib.hid hb
  clear ha hb
  go_enter Tryz.func23, Tryz.ntmps23
  by_cases hl : a.length = b.length
  · have hl' : ((a.length : Int) == (b.length : Int)) = true := by simp [hl]
    have HEQ : Hid (((sameN a b : Int) == (a.length : Int)) = decide (a = b)) := Lib.hid (by
      rw [Bool.eq_iff_iff, beq_iff_eq, decide_eq_true_eq]
      exact ⟨fun h => sameN_all hl (by omega), fun h => by rw [h, sameN_self]⟩)
    have HL := Lib.hid hl
    clear hl
    go_wp2_with fail
    refine (rsame_any _ _ a b w HA.out HB.out hla hlb).mono ?_
    rintro e w0 ⟨rfl, hb0⟩
    have HB0 := Lib.hid hb0
    clear hb0
    go_wp2
    go_ret
    exact ⟨ret_bool HEQ.out, HB0.out⟩
  · have hl' : ((a.length : Int) == (b.length : Int)) = false := by rw [beq_eq_false_iff_ne]; omega
    have HNE : Hid (decide (a = b) = false) := Lib.hid (by rw [decide_eq_false_iff_not]; rintro rfl; exact hl rfl)
    have hl2 : ¬ (a.length : Int) = (b.length : Int) := by omega
    clear hl
    go_wp2
    go_ret
    exact ⟨ret_bool HNE.out.symm, Below.refl _ _⟩
end Go.Proofs.YtggoebbfgkebcaaGreatDoor

namespace Go.Proofs.YtggoebbfgkebcaaGreatDoor
open Go.RowKit Go.Sort Go.Maps

def hi3 : Tree := .mk ⟨#[116, 101, 120, 116]⟩ ⟨#[104, 105]⟩ [] [] []
def para3 : Tree := .mk ⟨#[112, 97, 114, 97]⟩ ⟨#[]⟩ [] [] [hi3]
theorem para3_weigh : weighAll [para3] ≤ 1000000 := by decide +kernel
theorem para3_toks : toksB [para3] = [⟨111, ⟨#[]⟩, ⟨#[112, 97, 114, 97]⟩⟩, ⟨116, ⟨#[104]⟩, ⟨#[]⟩⟩, ⟨116, ⟨#[105]⟩, ⟨#[]⟩⟩, ⟨99, ⟨#[]⟩, ⟨#[]⟩⟩] := by decide +kernel

set_option maxHeartbeats 2000000 in
set_option maxRecDepth 100000 in
theorem shown3_any (w : World) : Calls Tryz.prog 4 #[] w fun e w' => e = .returned (.bool true) ∧ Below w.heap.size w w' := by
  generalize hW : (w.alloc (.cells #[.string ⟨#[116, 101, 120, 116]⟩, .string ⟨#[104, 105]⟩, .slice none 0 0, .slice none 0 0, .slice none 0 0] 41)).alloc
    (.cells #[.string ⟨#[112, 97, 114, 97]⟩, .string ⟨#[]⟩, .slice none 0 0, .slice none 0 0, .slice (some ⟨w.heap.size, 0, none⟩) 1 1] 41) = W
  have HB : Hid (Below w.heap.size w W) := Lib.hid (by subst hW; exact ((Below.refl _ _).alloc (Nat.le_refl _) _).alloc (by simp) _)
  have hz : W.heap.size = w.heap.size + 2 := by subst hW; simp
  have k1 : Kids W (Under W.heap.size) (.slice (some ⟨w.heap.size, 0, none⟩) 1 1) [hi3] := by
    rw [hz]; subst hW
    exact kids_row1 (by simp [go_sem, hi3, Tree.kind]) (by simp [go_sem, hi3, Tree.text]) (by simp [go_sem]) (by simp [go_sem]) (by simp [go_sem]) strs_none pairs_none kids_none (by unfold Under; omega)
  have k2 : Kids W (Under W.heap.size) (.slice (some ⟨w.heap.size + 1, 0, none⟩) 1 1) [para3] := by
    rw [hz] at k1 ⊢; subst hW
    exact kids_row1 (by simp [go_sem, para3, Tree.kind]) (by simp [go_sem, para3, Tree.text]) (by simp [go_sem]) (by simp [go_sem]) (by simp [go_sem]) strs_none pairs_none k1 (by unfold Under; omega)
  have HW := Lib.hid hW
  have HK := Lib.hid k2
  clear hW k1 k2 hz
  go_enter Tryz.func4, Tryz.ntmps4
  go_wp2_with fail
  rw [HW.out]
  refine (of_any _ [para3] W HK.out para3_weigh).mono ?_
  rintro e w1 ⟨v1, rfl, ht1, hb1⟩
  have HB1 := Lib.hid (belowNext HB.out hb1)
  rw [para3_toks] at ht1
  have hk1 := ht1.toks
  obtain ⟨A1, c1, rfl, _⟩ := hk1.form
  obtain ⟨b, o, rfl, _, x0, x1, x2⟩ := hk1.get (i := 0) rfl
  obtain ⟨b', o', he, _, y0, y1, y2⟩ := hk1.get (i := 1) rfl
  injection he with he; injection he with he1 he2; subst he1; subst he2
  obtain ⟨b', o', he, _, z0, z1, z2⟩ := hk1.get (i := 3) rfl
  injection he with he; injection he with he1 he2; subst he1; subst he2
  clear hb1 ht1 hk1
  simp only [Nat.zero_mul, Nat.one_mul, Nat.add_zero, Nat.reduceMul] at x0 x1 x2 y0 y1 y2 z0 z1 z2
  go_wp2
  go_ret
  exact ⟨rfl, HB1.out⟩
end Go.Proofs.YtggoebbfgkebcaaGreatDoor

namespace Go.Proofs.YtggoebbfgkebcaaGreatDoor
open Go.RowKit Go.Sort

/-- The blocks that are there from a number on, but for the row's own. -/
def Live (base : Nat) (w : World) (v : Value) : Nat → Prop := fun b => base ≤ b ∧ b < w.heap.size ∧ some b ≠ v.ownBlock
def MadePost (w : World) (l : List Tree) (e : Ending) (w' : World) : Prop := ∃ v', e = .returned v' ∧ Kids w' (From w.heap.size w'.heap.size) v' l ∧ Below w.heap.size w w'
def MadeRel (w : World) (out : List Tree) (v : Value) (wr : World) : Prop := Own wr w.heap.size (Live w.heap.size wr v) v out ∧ Below w.heap.size w wr

theorem Cels.form {w : World} {S : Nat → Prop} {v : Value} {l : List Cel} (h : Cels w S v l) : ∃ A c, v = .slice A l.length c ∧ l.length ≤ c ∧ c ≤ maxLen := by
  obtain ⟨A, c, rfl, hc, hm, _⟩ := h; exact ⟨A, c, rfl, hc, hm⟩

theorem Own.mono {w : World} {base : Nat} {S S' : Nat → Prop} {v : Value} {l : List Tree} (h : Own w base S v l) (hS : ∀ b, S b → S' b) : Own w base S' v l := by
  obtain ⟨xs, ho, hc⟩ := h
  exact ⟨xs, ho, hc.keep hS fun _ _ => rfl⟩
theorem Own.base_le {w : World} {base : Nat} {S : Nat → Prop} {v : Value} {l : List Tree} (h : Own w base S v l) : ∀ k, v.ownBlock = some k → base ≤ k ∧ k < w.heap.size := fun k hk => by
  obtain ⟨A, c, rfl, _, hA⟩ := h.form
  rcases hA with ⟨rfl, _⟩ | ⟨g, rfl, hg, hl⟩
  · cases hk
  · simp [Value.ownBlock] at hk; omega
/-- A row and its nodes, while blocks are laid behind them. -/
theorem Own.live {wr W : World} {base : Nat} {v : Value} {l : List Tree} (h : Own wr base (Live base wr v) v l) (hb : Below wr.heap.size wr W) : Own W base (Live base W v) v l :=
  (h.later hb (fun _ hb' => hb'.2.1)).mono fun _ hb' => ⟨hb'.1, Nat.lt_of_lt_of_le hb'.2.1 hb.size, hb'.2.2⟩

theorem made_push {w W : World} {v : Value} {out : List Tree} {n : Tree} {vm va vk : Value} {kd tx : ByteArray} {g : Nat} (hkd : n.kind = kd) (htx : n.text = tx) (hg : W.heap.size = g) (hO : Own W w.heap.size (Live w.heap.size W v) v out) (hBw : Below w.heap.size w W)
    (hm : Strs W (Live w.heap.size W v) vm n.marks) (ha : Pairs W (Live w.heap.size W v) va n.attrs) (hk : Kids W (Live w.heap.size W v) vk n.kids) :
    Own (W.alloc (.cells #[.string kd, .string tx, vm, va, vk] 41)) w.heap.size (Live w.heap.size W v) v out ∧
    Src (W.alloc (.cells #[.string kd, .string tx, vm, va, vk] 41)) (Live w.heap.size W v) (.slice (some ⟨g, 0, none⟩) 1 1) [n] ∧
    (∀ b, Live w.heap.size W v b → b < (W.alloc (.cells #[.string kd, .string tx, vm, va, vk] 41)).heap.size ∧ some b ≠ v.ownBlock) ∧
    w.heap.size ≤ (W.alloc (.cells #[.string kd, .string tx, vm, va, vk] 41)).heap.size ∧
    (∀ (v' : Value) (w' : World), Own w' w.heap.size (Live w.heap.size W v) v' (out ++ [n]) → (W.alloc (.cells #[.string kd, .string tx, vm, va, vk] 41)).grownBy w' v.ownBlock →
      (v'.ownBlock = v.ownBlock ∨ v'.ownBlock = some (W.alloc (.cells #[.string kd, .string tx, vm, va, vk] 41)).heap.size) → MadeRel w (out ++ [n]) v' w') := by
  subst hkd htx hg
  obtain ⟨c0, c1, c2, c3, c4, hb, hz⟩ := box5 (w := W) (Below.refl _ (W.alloc (.cells #[.string n.kind, .string n.text, vm, va, vk] 41)))
  have hB := belowNext hBw hb
  have keep : ∀ b, Live w.heap.size W v b → (W.alloc (.cells #[.string n.kind, .string n.text, vm, va, vk] 41)).heap[b]? = W.heap[b]? := fun b hb' => hb.block b hb'.2.1
  refine ⟨hO.later hb (fun _ h => h.2.1), src_one (hm.keep (fun _ h => h) keep) (ha.keep (fun _ h => h) keep) (hk.keep (fun _ h => h) keep) c0 c1 c2 c3 c4, fun b h => ⟨Nat.lt_trans h.2.1 (by omega), h.2.2⟩, hB.size, fun v' w' h1 h2 h3 => ?_⟩
  refine ⟨h1.mono fun b hb' => ⟨hb'.1, Nat.lt_of_lt_of_le (Nat.lt_trans hb'.2.1 (by omega)) h2.size, ?_⟩, hB.grown h2 hB.size (fun k hk => (hO.base_le k hk).1)⟩
  rcases h3 with h3 | h3
  · rw [h3]; exact hb'.2.2
  · rw [h3]; intro e; have e := Option.some.inj e; have := hb'.2.1; omega

theorem madeStep_last {out : List Tree} {c : Cel} {a : List (ByteArray × ByteArray)} (h : pickN c.op 8 = 7) (ha : attrsOf c = a) : madeStep out c = out ++ [.mk (kindOf c) ByteArray.empty [] a []] := by
  unfold madeStep; rw [if_neg (by omega), if_neg (by omega), ha]

theorem tdiv3 {n : Int} (h0 : -9223372036854775808 ≤ n) (h1 : n ≤ 9223372036854775807) : -9223372036854775808 ≤ n.tdiv 3 ∧ n.tdiv 3 ≤ 9223372036854775807 := by
  have h := Int.tdiv_mul_add_tmod n 3
  rcases Int.le_total 0 n with hn | hn
  · rw [Int.tdiv_eq_ediv_of_nonneg hn]; omega
  · have : n.tdiv 3 = -((-n) / 3) := by rw [← Int.tdiv_eq_ediv_of_nonneg (by omega : 0 ≤ -n), Int.neg_tdiv, Int.neg_neg]
    rw [this]; omega

def attrText (c : Cel) : ByteArray := textsL.getD (pickN (c.b.tdiv 3) 5).toNat ByteArray.empty
theorem attrsOf_one {c : Cel} (h : pickN c.b 3 = 1) : attrsOf c = [(ALIGN, attrText c)] := by unfold attrsOf; rw [if_pos h]; rfl
theorem attrsOf_none {c : Cel} (h : ¬ pickN c.b 3 = 1) : attrsOf c = [] := by unfold attrsOf; rw [if_neg h]
theorem marksOf_one {c : Cel} (h : pickN c.b 3 = 1) : marksOf c = [BB] := by unfold marksOf; rw [if_pos h]
theorem marksOf_two {c : Cel} (h : pickN c.b 3 = 2) : marksOf c = [BB, II] := by unfold marksOf; rw [if_neg (by omega), if_pos h]
theorem marksOf_none {c : Cel} (h : pickN c.b 3 = 0) : marksOf c = [] := by unfold marksOf; rw [if_neg (by omega), if_neg (by omega)]
theorem madeStep_text {out : List Tree} {c : Cel} {m : List ByteArray} (h : pickN c.op 8 ≤ 3) (hm : marksOf c = m) : madeStep out c = out ++ [.mk TEXT (textOf c) m [] []] := by
  unfold madeStep; rw [if_pos h, hm]
theorem strs_one {w : World} {S : Nat → Prop} {g : Nat} {s : ByteArray} (h : w.cell? ⟨g, 0, none⟩ = some (.string s)) (hS : S g) : Strs w S (.slice (some ⟨g, 0, none⟩) 1 1) [s] :=
  ⟨_, 1, rfl, Nat.le_refl _, by unfold maxLen; omega, .inr ⟨g, 0, rfl, hS, fun i s' hi => by
    match i, hi with
    | 0, hi => simp at hi; subst hi; exact h
    | i + 1, hi => simp at hi⟩⟩
theorem strs_two {w : World} {S : Nat → Prop} {g : Nat} {s t : ByteArray} (h : w.cell? ⟨g, 0, none⟩ = some (.string s)) (h' : w.cell? ⟨g, 1, none⟩ = some (.string t)) (hS : S g) : Strs w S (.slice (some ⟨g, 0, none⟩) 2 2) [s, t] :=
  ⟨_, 2, rfl, Nat.le_refl _, by unfold maxLen; omega, .inr ⟨g, 0, rfl, hS, fun i s' hi => by
    match i, hi with
    | 0, hi => simp at hi; subst hi; exact h
    | 1, hi => simp at hi; subst hi; exact h'
    | i + 2, hi => simp at hi⟩⟩
theorem pairs_one {w : World} {S : Nat → Prop} {g : Nat} {p : ByteArray × ByteArray} {s t : ByteArray} (h : w.cell? ⟨g, 0, none⟩ = some (.string s)) (h' : w.cell? ⟨g, 1, none⟩ = some (.string t)) (hs : p.1 = s) (ht : p.2 = t) (hS : S g) : Pairs w S (.slice (some ⟨g, 0, none⟩) 1 1) [p] :=
  ⟨_, 1, rfl, Nat.le_refl _, by unfold maxLen; omega, .inr ⟨g, 0, rfl, hS, fun i s' hi => by
    match i, hi with
    | 0, hi => simp at hi; subst hi hs ht; exact ⟨h, h'⟩
    | i + 1, hi => simp at hi⟩⟩

theorem many_of (c : Cel) (n : Nat) : ∃ m : Nat, Hid (pickN (c.b.tdiv 3) (min (n : Int) 6 + 1) = (m : Int)) ∧ m ≤ n ∧ manyOf c n = m := by
  have h0 := pickN_lo (c.b.tdiv 3) (min (n : Int) 6 + 1) (by omega)
  have h1 := pickN_hi (c.b.tdiv 3) (min (n : Int) 6 + 1) (by omega)
  refine ⟨(pickN (c.b.tdiv 3) (min (n : Int) 6 + 1)).toNat, Lib.hid (by omega), by omega, ?_⟩
  unfold manyOf
  rw [show (((min n 6 : Nat) : Int) + 1) = min (n : Int) 6 + 1 by omega]
theorem madeStep_kids {out : List Tree} {c : Cel} {p : Nat} {a : List (ByteArray × ByteArray)} (h4 : 4 ≤ pickN c.op 8) (h6 : pickN c.op 8 ≤ 6) (hp : p + manyOf c out.length = out.length) (ha : attrsOf c = a) :
    madeStep out c = out.take p ++ [.mk (kindOf c) ByteArray.empty [] a (joinB (out.drop p))] := by
  unfold madeStep
  rw [if_neg (by omega), if_pos h6, ha, show out.length - manyOf c out.length = p by omega]
/-- A node's variable, whole. -/
def NodeBox (W : World) (g : Nat) (v0 v1 v2 v3 v4 : Value) : Prop := W.cell? ⟨g, 0, none⟩ = some v0 ∧ W.cell? ⟨g, 1, none⟩ = some v1 ∧ W.cell? ⟨g, 2, none⟩ = some v2 ∧ W.cell? ⟨g, 3, none⟩ = some v3 ∧ W.cell? ⟨g, 4, none⟩ = some v4 ∧ W.frozen? ⟨g, 4, none⟩ = false
theorem nb_new {W : World} {g : Nat} {v0 v1 v2 v3 v4 : Value} {T : TypeId} (hg : W.heap.size = g) : NodeBox (W.alloc (.cells #[v0, v1, v2, v3, v4] T)) g v0 v1 v2 v3 v4 := by
  obtain ⟨c0, c1, c2, c3, c4⟩ := boxAt (v0 := v0) (v1 := v1) (v2 := v2) (v3 := v3) (v4 := v4) (T := T) hg
  exact ⟨c0, c1, c2, c3, c4, by simp only [World.frozen?, heap_new' W _ hg]; simp⟩
theorem NodeBox.kept {W W' : World} {g : Nat} {v0 v1 v2 v3 v4 : Value} (h : NodeBox W g v0 v1 v2 v3 v4) (hb : Below W.heap.size W W') : NodeBox W' g v0 v1 v2 v3 v4 := by
  obtain ⟨c0, c1, c2, c3, c4, hf⟩ := h
  exact ⟨cell_kept c0 hb, cell_kept c1 hb, cell_kept c2 hb, cell_kept c3 hb, cell_kept c4 hb, (hb.frozen (p := ⟨g, 4, none⟩) (cell_lt c4)).trans hf⟩
theorem NodeBox.alloc {W : World} {g : Nat} {v0 v1 v2 v3 v4 : Value} (h : NodeBox W g v0 v1 v2 v3 v4) (o : Obj) : NodeBox (W.alloc o) g v0 v1 v2 v3 v4 := h.kept ((Below.refl _ _).alloc (Nat.le_refl _) _)

theorem weighAll_drop (l : List Tree) (i : Nat) : weighAll (l.drop i) ≤ weighAll l := by
  have h := weighAll_append (l.take i) (l.drop i)
  rw [List.take_append_drop] at h; omega
theorem Cells.drop {w : World} {S : Nat → Prop} : ∀ {l : List Tree} {xs : List Value} (k : Nat), Cells w S l xs → Cells w S (l.drop k) (xs.drop (k * 5))
  | [], _, k, h => by simp only [Cells] at h; subst h; simp [Cells]
  | _ :: _, _, 0, h => by simpa using h
  | t :: l, _, k + 1, ⟨vm, va, vk, ys, e, hm, ha, hk, h⟩ => by
    subst e
    rw [show (k + 1) * 5 = k * 5 + 5 by omega]
    exact Cells.drop k h
theorem Kids.drop {w : World} {S : Nat → Prop} {A : Option Addr} {n co : Nat} {l : List Tree} (h : Kids w S (.slice A n co) l) (k : Nat) (hk : k ≤ l.length) : Kids w S (.slice (A.map (fun a => a.add (k * 5))) (l.length - k) (co - k)) (l.drop k) := by
  obtain ⟨A', c', hv, hc, hm, h⟩ := h
  injection hv with h1 h2 h3
  subst h1 h3
  refine ⟨_, co - k, by rw [List.length_drop], by rw [List.length_drop]; omega, by omega, ?_⟩
  rcases h with rfl | ⟨b, o, rfl, hb, hr⟩
  · exact .inl (by simp)
  · refine .inr ⟨b, o + k * 5, by simp [add_cell], hb, ?_⟩
    obtain ⟨xs, hxs, hx⟩ := hr.cells
    refine rowAt_cells (hxs.drop k) fun j u hj => ?_
    rw [List.getElem?_drop] at hj
    rw [Nat.add_assoc]; exact hx _ u hj
theorem kids_end {w : World} {S : Nat → Prop} {A : Option Addr} {l : List Tree} {k : Nat} (hk : l.length ≤ k) : Kids w S (.slice A 0 0) (l.drop k) := by
  rw [List.drop_eq_nil_of_le hk]
  exact ⟨A, 0, rfl, Nat.le_refl _, by unfold maxLen; omega, .inl rfl⟩
/-- A row's beginning, while other blocks are laid and turned. -/
theorem src_take {wr W : World} {base : Nat} {A : Option Addr} {co p : Nat} {v : Value} {out : List Tree} (h : Own wr base (Live base wr v) (.slice A out.length co) out) (hW : Below wr.heap.size wr W) (hp : p ≤ out.length) : Src W (From base wr.heap.size) (.slice A p co) (out.take p) := by
  have h' : Own wr base (From base wr.heap.size) (.slice A out.length co) out := h.mono fun _ hb => ⟨hb.1, hb.2.1⟩
  obtain ⟨A', c', hv, _, hA⟩ := h'.form
  injection hv with h1 _ h3
  subst h1 h3
  rcases hA with ⟨rfl, rfl⟩ | ⟨g, rfl, _, _⟩
  · have : p = 0 := by simpa using hp
    subst this
    exact ⟨none, co, [], rfl, rfl, .inl rfl⟩
  · exact (h'.later hW (fun _ hb => hb.2)).pre p hp
/-- All blocks from a number on, below another, but one. -/
def ButF (m n p : Nat) : Nat → Prop := fun b => m ≤ b ∧ b < n ∧ b ≠ p
/-- What stands behind a node's kids: the row that is left, the node's parts. -/
theorem kids_push {w0 wr W w1 w2 : World} {nb : Nat} {v1 v2 va : Value} {L J : List Tree} {a : List (ByteArray × ByteArray)} {ob : Obj} (hnb : wr.heap.size ≤ nb) (hnbW : nb < W.heap.size) (hW : Below wr.heap.size wr W) (hb1 : Below W.heap.size W w1)
    (hbr : Below w0.heap.size w0 wr) (hown1 : Own w1 W.heap.size (From w0.heap.size wr.heap.size) v1 J) (hPA : Pairs W (ButF w0.heap.size W.heap.size nb) va a) (hown2 : Own w2 w0.heap.size (From w0.heap.size wr.heap.size) v2 L)
    (hg : ((w1.setCell ⟨nb, 4, none⟩ v1).alloc ob).grownBy w2 (some w1.heap.size)) (hat : ∀ k, v2.ownBlock = some k → w1.heap.size ≤ k) :
    Own w2 w0.heap.size (Live w0.heap.size w2 v2) v2 L ∧ Below w0.heap.size w0 w2 ∧ Pairs w2 (Live w0.heap.size w2 v2) va a ∧ Kids w2 (Live w0.heap.size w2 v2) v1 J ∧ (∀ o v, w1.cell? ⟨nb, o, none⟩ = some v → o ≠ 4 → w2.cell? ⟨nb, o, none⟩ = some v) ∧
      (∀ v, w1.cell? ⟨nb, 4, none⟩ = some v → w2.cell? ⟨nb, 4, none⟩ = some v1) := by
  have hz1 := hb1.size
  have hzW := hW.size
  have hz2 : w1.heap.size ≤ w2.heap.size := by have := hg.size; simp [World.setCell] at this; omega
  have hs : (w1.setCell ⟨nb, 4, none⟩ v1).heap.size = w1.heap.size := by simp [World.setCell]
  have blk : ∀ b, b < w1.heap.size → b ≠ nb → w2.heap[b]? = w1.heap[b]? := fun b hb hn => by
    rw [hg.block b (by simp [World.setCell]; omega) (fun e => by have := Option.some.inj e; omega), Below.heap_alloc _ _ _ (by rw [hs]; exact hb), Below.heap_setCell _ _ _ _ hn]
  have lv : ∀ b, w0.heap.size ≤ b → b < w1.heap.size → Live w0.heap.size w2 v2 b := fun b h0 hb => ⟨h0, by omega, fun e => by have := hat b e.symm; omega⟩
  have hBw1 : Below wr.heap.size wr w1 := belowNext hW hb1
  refine ⟨hown2.mono fun b hb => lv b hb.1 (by have := hb.2; omega), ?_, ?_, ?_, ?_, ?_⟩
  · have hB1 : Below w0.heap.size w0 w1 := belowNext hbr hBw1
    have hB2 : Below w0.heap.size w0 ((w1.setCell ⟨nb, 4, none⟩ v1).alloc ob) := (hB1.setCell (p := ⟨nb, 4, none⟩) (by have := hbr.size; show w0.heap.size ≤ nb; omega) v1).alloc (by rw [hs]; exact hB1.size) ob
    exact hB2.grown hg hB2.size (fun k hk => by have := Option.some.inj hk; have := hB1.size; omega)
  · exact hPA.keep (fun b hb => lv b hb.1 (by have := hb.2.1; omega)) fun b hb => (blk b (by have := hb.2.1; omega) hb.2.2).trans (hb1.block b hb.2.1)
  · refine (hown1.kids (S' := ButF w0.heap.size w1.heap.size nb) (fun b hb => ⟨hb.1, by have := hb.2; omega, by have := hb.2; omega⟩) (fun g hgg => ?_)).keep (fun b hb => lv b hb.1 hb.2.1) fun b hb => blk b hb.2.1 hb.2.2
    have := hown1.base_le g hgg
    have := hbr.size
    exact ⟨by omega, by omega, by omega⟩
  · intro o v hc ho
    have hlt := cell_lt hc
    have e1 : w2.heap[nb]? = ((w1.setCell ⟨nb, 4, none⟩ v1).alloc ob).heap[nb]? := hg.block nb (by simp [World.setCell]; omega) (fun e => by have := Option.some.inj e; omega)
    rw [World.cell?_of_block (a := ⟨nb, o, none⟩) e1, World.cell?_alloc_lt _ _ _ (by rw [hs]; exact hlt), World.cell?_setCell_other _ _ _ _ (fun e => ho (by injection e with _ h _; exact h.symm))]
    exact hc
  · intro v hc
    have hlt := cell_lt hc
    have e1 : w2.heap[nb]? = ((w1.setCell ⟨nb, 4, none⟩ v1).alloc ob).heap[nb]? := hg.block nb (by simp [World.setCell]; omega) (fun e => by have := Option.some.inj e; omega)
    rw [World.cell?_of_block (a := ⟨nb, 4, none⟩) e1, World.cell?_alloc_lt _ _ _ (by rw [hs]; exact hlt)]
    exact cell_set hc _

theorem kids_arm {w0 wr W w1 w2 : World} {nb : Nat} {v1 v2 va : Value} {L J : List Tree} {a : List (ByteArray × ByteArray)} {ob : Obj} {k t m0 : Value} (hnb : wr.heap.size ≤ nb) (hnbW : nb < W.heap.size) (hW : Below wr.heap.size wr W) (hb1 : Below W.heap.size W w1)
    (hbr : Below w0.heap.size w0 wr) (hown1 : Own w1 W.heap.size (From w0.heap.size wr.heap.size) v1 J) (hPA : Pairs W (ButF w0.heap.size W.heap.size nb) va a) (hN1 : NodeBox w1 nb k t m0 va (.slice none 0 0)) (hown2 : Own w2 w0.heap.size (From w0.heap.size wr.heap.size) v2 ([] ++ L))
    (hg : ((w1.setCell ⟨nb, 4, none⟩ v1).alloc ob).grownBy w2 (Value.slice (some ⟨w1.heap.size, 0, none⟩) 0 0).ownBlock)
    (hat : v2.ownBlock = (Value.slice (some ⟨w1.heap.size, 0, none⟩) 0 0).ownBlock ∨ v2.ownBlock = some ((w1.setCell ⟨nb, 4, none⟩ v1).alloc ob).heap.size) :
    (Own w2 w0.heap.size (Live w0.heap.size w2 v2) v2 L ∧ Below w0.heap.size w0 w2 ∧ Pairs w2 (Live w0.heap.size w2 v2) va a ∧ Kids w2 (Live w0.heap.size w2 v2) v1 J) ∧
      w2.cell? ⟨nb, 0, none⟩ = some k ∧ w2.cell? ⟨nb, 1, none⟩ = some t ∧ w2.cell? ⟨nb, 2, none⟩ = some m0 ∧ w2.cell? ⟨nb, 3, none⟩ = some va ∧ w2.cell? ⟨nb, 4, none⟩ = some v1 := by
  obtain ⟨h1, h2, h3, h4, h5, h6⟩ := kids_push hnb hnbW hW hb1 hbr hown1 hPA (by simpa using hown2) hg (fun k hk => by
    rcases hat with h | h
    · rw [h] at hk; simp [Value.ownBlock] at hk; omega
    · rw [h] at hk; simp [World.setCell] at hk; omega)
  exact ⟨⟨h1, h2, h3, h4⟩, h5 0 _ hN1.1 (by omega), h5 1 _ hN1.2.1 (by omega), h5 2 _ hN1.2.2.1 (by omega), h5 3 _ hN1.2.2.2.1 (by omega), h6 _ hN1.2.2.2.2.1⟩

theorem madeB_end {l : List Cel} {k : Nat} (hk : k ≤ l.length) (h19 : k ≤ 19) (h : ¬ (k < l.length ∧ k < 19)) : madeB l = joinB (madeTo l k) := by
  unfold madeB
  by_cases h1 : k = 19
  · rw [h1]
  · have : l.length ≤ k := by omega
    have e : madeTo l 19 = madeTo l k := by unfold madeTo; rw [List.take_of_length_le this, List.take_of_length_le (by omega)]
    rw [e]

theorem texts_cell {w : World} {g n : Nat} (h0 : w.cell? ⟨g, 0, none⟩ = some (.string ⟨#[97]⟩)) (h1 : w.cell? ⟨g, 1, none⟩ = some (.string ⟨#[98, 99]⟩)) (h2 : w.cell? ⟨g, 2, none⟩ = some (.string ⟨#[195, 169]⟩))
    (h3 : w.cell? ⟨g, 3, none⟩ = some (.string ⟨#[120, 32, 121]⟩)) (h4 : w.cell? ⟨g, 4, none⟩ = some (.string ⟨#[230, 151, 165, 230, 156, 172]⟩)) (hn : n < 5) : w.cell? ⟨g, n, none⟩ = some (.string (textsL.getD n ByteArray.empty)) := by
  match n, hn with
  | 0, _ => exact h0
  | 1, _ => exact h1
  | 2, _ => exact h2
  | 3, _ => exact h3
  | 4, _ => exact h4
theorem kinds_cell {w : World} {g n : Nat} (h0 : w.cell? ⟨g, 0, none⟩ = some (.string ⟨#[112, 97, 114, 97]⟩)) (h1 : w.cell? ⟨g, 1, none⟩ = some (.string ⟨#[105, 116, 101, 109]⟩)) (h2 : w.cell? ⟨g, 2, none⟩ = some (.string ⟨#[108, 105, 115, 116]⟩))
    (h3 : w.cell? ⟨g, 3, none⟩ = some (.string ⟨#[110, 111, 116, 101]⟩)) (hn : n < 4) : w.cell? ⟨g, n, none⟩ = some (.string (kindsL.getD n ByteArray.empty)) := by
  match n, hn with
  | 0, _ => exact h0
  | 1, _ => exact h1
  | 2, _ => exact h2
  | 3, _ => exact h3

/-- The two tables that made lays first. -/
def Tables (w : World) (g : Nat) : Prop := (∀ n, n < 5 → w.cell? ⟨g, n, none⟩ = some (.string (textsL.getD n ByteArray.empty))) ∧ (∀ n, n < 4 → w.cell? ⟨g + 1, n, none⟩ = some (.string (kindsL.getD n ByteArray.empty)))
theorem Tables.below {w w' : World} {g : Nat} (h : Tables w g) (hb : Below w.heap.size w w') : Tables w' g := ⟨fun n hn => cell_kept (h.1 n hn) hb, fun n hn => cell_kept (h.2 n hn) hb⟩

end Go.Proofs.YtggoebbfgkebcaaGreatDoor

namespace Go.Proofs.YtggoebbfgkebcaaGreatDoor
open Go.RowKit Go.Sort

def DOC : ByteArray := ⟨#[100, 111, 99]⟩
def docB (l : List Cel) : Tree := .mk DOC ByteArray.empty [] [] (madeB l)
def DocPost (w : World) (l : List Cel) (e : Ending) (w' : World) : Prop :=
  ∃ A c, e = .returned (.agg #[.string ⟨#[100, 111, 99]⟩, .string ⟨#[]⟩, .slice none 0 0, .slice none 0 0, .slice A (madeB l).length c]) ∧ Kids w' (From w.heap.size w'.heap.size) (.slice A (madeB l).length c) (madeB l) ∧ Below w.heap.size w w'

theorem Cels.below {w w' : World} {B : Nat} {v : Value} {l : List Cel} (h : Cels w (Under B) v l) (hb : Below B w w') : Cels w' (Under B) v l := by
  obtain ⟨A, c, rfl, h1, h2, h3, h4⟩ := h
  refine ⟨A, c, rfl, h1, h2, ?_, h4⟩
  rcases h3 with h3 | ⟨b, o, rfl, hS, h3⟩
  · exact .inl h3
  · refine .inr ⟨b, o, rfl, hS, fun i x hi => ?_⟩
    obtain ⟨a0, a1, a2⟩ := h3 i x hi
    exact ⟨(hb.cell (p := ⟨b, o + i * 3, none⟩) hS).trans a0, (hb.cell (p := ⟨b, o + i * 3 + 1, none⟩) hS).trans a1, (hb.cell (p := ⟨b, o + i * 3 + 2, none⟩) hS).trans a2⟩
theorem Cels.more {w : World} {B B' : Nat} {v : Value} {l : List Cel} (h : Cels w (Under B) v l) (hB : B ≤ B') : Cels w (Under B') v l := by
  obtain ⟨A, c, rfl, h1, h2, h3, h4⟩ := h
  refine ⟨A, c, rfl, h1, h2, ?_, h4⟩
  rcases h3 with h3 | ⟨b, o, rfl, hS, h3⟩
  · exact .inl h3
  · exact .inr ⟨b, o, rfl, Nat.lt_of_lt_of_le hS hB, h3⟩

theorem set5 {w : World} {g : Nat} {v0 v1 v2 v3 v4 u0 u1 u2 u3 u4 : Value} (c0 : w.cell? ⟨g, 0, none⟩ = some u0) (c1 : w.cell? ⟨g, 1, none⟩ = some u1) (c2 : w.cell? ⟨g, 2, none⟩ = some u2) (c3 : w.cell? ⟨g, 3, none⟩ = some u3) (c4 : w.cell? ⟨g, 4, none⟩ = some u4) :
    (((((w.setCell ⟨g, 0, none⟩ v0).setCell ⟨g, 1, none⟩ v1).setCell ⟨g, 2, none⟩ v2).setCell ⟨g, 3, none⟩ v3).setCell ⟨g, 4, none⟩ v4).cell? ⟨g, 0, none⟩ = some v0 ∧
    (((((w.setCell ⟨g, 0, none⟩ v0).setCell ⟨g, 1, none⟩ v1).setCell ⟨g, 2, none⟩ v2).setCell ⟨g, 3, none⟩ v3).setCell ⟨g, 4, none⟩ v4).cell? ⟨g, 1, none⟩ = some v1 ∧
    (((((w.setCell ⟨g, 0, none⟩ v0).setCell ⟨g, 1, none⟩ v1).setCell ⟨g, 2, none⟩ v2).setCell ⟨g, 3, none⟩ v3).setCell ⟨g, 4, none⟩ v4).cell? ⟨g, 2, none⟩ = some v2 ∧
    (((((w.setCell ⟨g, 0, none⟩ v0).setCell ⟨g, 1, none⟩ v1).setCell ⟨g, 2, none⟩ v2).setCell ⟨g, 3, none⟩ v3).setCell ⟨g, 4, none⟩ v4).cell? ⟨g, 3, none⟩ = some v3 ∧
    (((((w.setCell ⟨g, 0, none⟩ v0).setCell ⟨g, 1, none⟩ v1).setCell ⟨g, 2, none⟩ v2).setCell ⟨g, 3, none⟩ v3).setCell ⟨g, 4, none⟩ v4).cell? ⟨g, 4, none⟩ = some v4 ∧
    (∀ b, b ≠ g → (((((w.setCell ⟨g, 0, none⟩ v0).setCell ⟨g, 1, none⟩ v1).setCell ⟨g, 2, none⟩ v2).setCell ⟨g, 3, none⟩ v3).setCell ⟨g, 4, none⟩ v4).heap[b]? = w.heap[b]?) ∧
    (((((w.setCell ⟨g, 0, none⟩ v0).setCell ⟨g, 1, none⟩ v1).setCell ⟨g, 2, none⟩ v2).setCell ⟨g, 3, none⟩ v3).setCell ⟨g, 4, none⟩ v4).heap.size = w.heap.size := by
  have far : ∀ (W : World) (i j : Nat) (u : Value), i ≠ j → (W.setCell ⟨g, i, none⟩ u).cell? ⟨g, j, none⟩ = W.cell? ⟨g, j, none⟩ := fun W i j u h => World.cell?_setCell_other W _ _ _ (fun e => h (by have := congrArg Addr.off e; simpa [eq_comm] using this))
  have a0 := cell_set c0 v0
  have a1 := cell_set (w := w.setCell ⟨g, 0, none⟩ v0) ((far _ 0 1 _ (by omega)).trans c1) v1
  have a2 := cell_set (w := (w.setCell ⟨g, 0, none⟩ v0).setCell ⟨g, 1, none⟩ v1) ((far _ 1 2 _ (by omega)).trans ((far _ 0 2 _ (by omega)).trans c2)) v2
  have a3 := cell_set (w := ((w.setCell ⟨g, 0, none⟩ v0).setCell ⟨g, 1, none⟩ v1).setCell ⟨g, 2, none⟩ v2) ((far _ 2 3 _ (by omega)).trans ((far _ 1 3 _ (by omega)).trans ((far _ 0 3 _ (by omega)).trans c3))) v3
  have a4 := cell_set (w := (((w.setCell ⟨g, 0, none⟩ v0).setCell ⟨g, 1, none⟩ v1).setCell ⟨g, 2, none⟩ v2).setCell ⟨g, 3, none⟩ v3) ((far _ 3 4 _ (by omega)).trans ((far _ 2 4 _ (by omega)).trans ((far _ 1 4 _ (by omega)).trans ((far _ 0 4 _ (by omega)).trans c4)))) v4
  refine ⟨?_, ?_, ?_, ?_, a4, fun b hb => ?_, by simp [World.setCell]⟩
  · rw [far _ 4 0 _ (by omega), far _ 3 0 _ (by omega), far _ 2 0 _ (by omega), far _ 1 0 _ (by omega)]; exact a0
  · rw [far _ 4 1 _ (by omega), far _ 3 1 _ (by omega), far _ 2 1 _ (by omega)]; exact a1
  · rw [far _ 4 2 _ (by omega), far _ 3 2 _ (by omega)]; exact a2
  · rw [far _ 4 3 _ (by omega)]; exact a3
  · rw [Below.heap_setCell _ _ _ _ hb, Below.heap_setCell _ _ _ _ hb, Below.heap_setCell _ _ _ _ hb, Below.heap_setCell _ _ _ _ hb, Below.heap_setCell _ _ _ _ hb]

end Go.Proofs.YtggoebbfgkebcaaGreatDoor

namespace Go.Proofs.YtggoebbfgkebcaaGreatDoor
open Go.RowKit Go.Sort

theorem madeB_weigh (l : List Cel) : weighAll (madeB l) ≤ 760 := by
  have h1 := joinB_weigh (madeTo l 19)
  have h2 := madeTo_weigh l 19
  unfold madeB; omega

theorem pairs_two {w : World} {S : Nat → Prop} {g : Nat} {s t u v : ByteArray} (h0 : w.cell? ⟨g, 0, none⟩ = some (.string s)) (h1 : w.cell? ⟨g, 1, none⟩ = some (.string t)) (h2 : w.cell? ⟨g, 2, none⟩ = some (.string u)) (h3 : w.cell? ⟨g, 3, none⟩ = some (.string v)) (hS : S g) :
    Pairs w S (.slice (some ⟨g, 0, none⟩) 2 2) [(s, t), (u, v)] :=
  ⟨_, 2, rfl, Nat.le_refl _, by unfold maxLen; omega, .inr ⟨g, 0, rfl, hS, fun i p hi => by
    match i, hi with
    | 0, hi => simp at hi; subst hi; exact ⟨h0, h1⟩
    | 1, hi => simp at hi; subst hi; exact ⟨h2, h3⟩
    | i + 2, hi => simp at hi⟩⟩
theorem kids_block {w : World} {S : Nat → Prop} {g n : Nat} {arr : Array Value} {T : TypeId} {l : List Tree} (hh : w.heap[g]? = some (.cells arr T)) (hc : Cells w S l arr.toList) (hn : l.length = n) (hS : S g) (hm : n ≤ 1000000 := by decide) : Kids w S (.slice (some ⟨g, 0, none⟩) n n) l := by
  subst hn
  refine ⟨_, l.length, rfl, Nat.le_refl _, by unfold maxLen; omega, .inr ⟨g, 0, rfl, hS, rowAt_cells hc fun j u hj => ?_⟩⟩
  simp only [World.cell?, hh]
  simpa using hj

section
variable {ops : Array Oper} {o : Oper} {a : Act} {K : Act → World → Prop} {Q : Exit → Act → World → Prop} {E : Prop}
/-- append([]Node, l...) -/
theorem step_app1 {B : Nat} {W3 W : World} (hBB : B ≤ W3.heap.size) {e : Nat} {x : Value} {L : List Tree} (hgd : o.guard = none) (s xo : Operand) (ho : o.op = .call { callee := .builtin .append, args := #[s, xo], argTypes := #[26, 26] })
    (hv : a.eval s = .slice (some ⟨e, 0, none⟩) 0 0) (hx : a.eval xo = x) (hE : W.heap[e]? = some (.cells #[] 41)) (he : W3.heap.size ≤ e) (hB : Below W3.heap.size W3 W) (hK : Kids W3 (Under B) x L) (hlen : L.length ≤ 1000000)
    (h : ∀ v' w', Own w' W3.heap.size (Under B) v' L → Below W3.heap.size W3 w' → (∀ g, g < W.heap.size → g ≠ e → w'.heap[g]? = W.heap[g]?) → K (a.put o.dst v') w') :
    if Region.wanted o (yielded ops a.tmps) = true then Oper.wp Tryz.prog o a W K Q else E := by
  refine step_append_nodes hgd s xo ho W3.heap.size (Under B) _ _ [] L hv hx (own_empty hE he) (hK.below (hB.mono hBB)).src (fun b hb => ⟨Nat.lt_of_lt_of_le hb (Nat.le_trans hBB hB.size), fun h => ?_⟩) (by simpa using hlen) hB.size ?_
  · simp [Value.ownBlock] at h; unfold Under at hb; omega
  · intro v' w' h1 h2 _
    have h2' : W.grownBy w' (some e) := h2
    exact h v' w' (by simpa using h1) (hB.grown h2' hB.size (fun k hk => by injection hk with hk; omega)) fun g hg hn => h2'.block g hg (fun h => hn (Option.some.inj h))
/-- append(.., a, b) -/
theorem step_app2 {B : Nat} {W3 W : World} (hBB : B ≤ W3.heap.size) {v x : Value} {L L2 : List Tree} (hgd : o.guard = none) (s xo : Operand) (ho : o.op = .call { callee := .builtin .append, args := #[s, xo], argTypes := #[26, 26] })
    (hv : a.eval s = v) (hx : a.eval xo = x) (hO : Own W W3.heap.size (Under B) v L) (hB : Below W3.heap.size W3 W) (hsrc : Src W (Under B) x L2) (hlen : L.length + L2.length ≤ 1000000)
    (h : ∀ v' w', Own w' W3.heap.size (Under B) v' (L ++ L2) → Below W3.heap.size W3 w' → K (a.put o.dst v') w') :
    if Region.wanted o (yielded ops a.tmps) = true then Oper.wp Tryz.prog o a W K Q else E := by
  refine step_append_nodes hgd s xo ho W3.heap.size (Under B) _ _ L L2 hv hx hO hsrc (fun b hb => ⟨Nat.lt_of_lt_of_le hb (Nat.le_trans hBB hB.size), fun h => ?_⟩) hlen hB.size ?_
  · have := (hO.base_le b h.symm).1; unfold Under at hb; omega
  · intro v' w' h1 h2 _
    exact h v' w' h1 (hB.grown h2 hB.size (fun k hk => (hO.base_le k hk).1))
end
theorem set_one {w : World} {g o : Nat} {u v : Value} (c : w.cell? ⟨g, o, none⟩ = some u) :
    (∀ b j, b ≠ g → (w.setCell ⟨g, o, none⟩ v).cell? ⟨b, j, none⟩ = w.cell? ⟨b, j, none⟩) ∧ (w.setCell ⟨g, o, none⟩ v).cell? ⟨g, o, none⟩ = some v ∧ (∀ j, j ≠ o → (w.setCell ⟨g, o, none⟩ v).cell? ⟨g, j, none⟩ = w.cell? ⟨g, j, none⟩) ∧
      (∀ b, b ≠ g → (w.setCell ⟨g, o, none⟩ v).heap[b]? = w.heap[b]?) ∧ (w.setCell ⟨g, o, none⟩ v).heap.size = w.heap.size ∧ (w.setCell ⟨g, o, none⟩ v).os = w.os ∧ (w.setCell ⟨g, o, none⟩ v).tape = w.tape ∧ (w.setCell ⟨g, o, none⟩ v).output = w.output :=
  ⟨fun b j h => World.cell?_setCell_other w _ _ _ (fun e => h (congrArg Addr.block e).symm), cell_set c v, fun j h => World.cell?_setCell_other w _ _ _ (fun e => h (congrArg Addr.off e).symm), fun b h => Below.heap_setCell _ _ _ _ h, by simp [World.setCell], rfl, rfl, rfl⟩
end Go.Proofs.YtggoebbfgkebcaaGreatDoor

namespace Go.Proofs.YtggoebbfgkebcaaGreatDoor
open Go.RowKit Go.Sort Go.Maps

theorem same_at : ∀ (a b : List Tok) (i : Nat), i < sameN a b → a[i]? = b[i]?
  | [], b, i, h => by cases b <;> simp [sameN] at h
  | a :: x, [], i, h => by simp [sameN] at h
  | a :: x, b :: y, i, h => by
    rw [sameN] at h
    split at h
    · rename_i he
      cases i with
      | zero => simp [he]
      | succ i => simpa using same_at x y i (by omega)
    · omega
theorem same_stop : ∀ (a b : List Tok), sameN a b < a.length → sameN a b < b.length → a[sameN a b]? ≠ b[sameN a b]?
  | [], b, h, _ => by simp at h
  | a :: x, [], _, h => by simp at h
  | a :: x, b :: y, h, h' => by
    by_cases he : a = b
    · have e : sameN (a :: x) (b :: y) = sameN x y + 1 := by rw [sameN, if_pos he]
      rw [e] at h h' ⊢
      simp only [List.length_cons, Nat.add_lt_add_iff_right] at h h'
      simpa using same_stop x y h h'
    · have e : sameN (a :: x) (b :: y) = 0 := by rw [sameN, if_neg he]
      rw [e]
      simpa using he
theorem back_sum (a b : List Tok) : sameN a b + backN a b ≤ a.length ∧ sameN a b + backN a b ≤ b.length := by
  have := sameN_le a b; unfold backN; omega
theorem back_at (a b : List Tok) (i : Nat) (h : i < backN a b) : a[a.length - 1 - i]? = b[b.length - 1 - i]? := by
  have h1 := back_sum a b
  have h2 : backN a b ≤ sameN a.reverse b.reverse := Nat.min_le_left _ _
  rw [get_rev (by omega), get_rev (by omega)]
  exact same_at _ _ i (by omega)
theorem back_stop (a b : List Tok) (h : sameN a b + backN a b < min a.length b.length) : a[a.length - 1 - backN a b]? ≠ b[b.length - 1 - backN a b]? := by
  have he : backN a b = sameN a.reverse b.reverse := by unfold backN at h ⊢; omega
  rw [get_rev (by omega), get_rev (by omega), he]
  have h1 := sameN_le a b
  exact same_stop _ _ (by rw [List.length_reverse, ← he]; omega) (by rw [List.length_reverse, ← he]; omega)

theorem tok_ne {x y : Tok} (h : x ≠ y) : ((x.kind : Int) == (y.kind : Int)) = false ∨ (((x.kind : Int) == (y.kind : Int)) = true ∧ (x.text.toList == y.text.toList) = false) ∨ (((x.kind : Int) == (y.kind : Int)) = true ∧ (x.text.toList == y.text.toList) = true ∧ (x.head.toList == y.head.toList) = false) := by
  have := tok_eq x y
  cases q0 : ((x.kind : Int) == (y.kind : Int)) with
  | false => exact .inl rfl
  | true =>
    cases q1 : (x.text.toList == y.text.toList) with
    | false => exact .inr (.inl ⟨rfl, rfl⟩)
    | true =>
      cases q2 : (x.head.toList == y.head.toList) with
      | false => exact .inr (.inr ⟨rfl, rfl, rfl⟩)
      | true => exact absurd (this.2 ⟨q0, q1, q2⟩) h
theorem toks_len_made (l : List Cel) : (toksB (madeB l)).length ≤ 760 := by
  rw [toksB_len]; exact Nat.le_trans (total_le_weigh _) (madeB_weigh l)

end Go.Proofs.YtggoebbfgkebcaaGreatDoor

namespace Go.Proofs.YtggoebbfgkebcaaGreatDoor
open Go.RowKit Go.Sort Go.Maps
theorem rtok_info : (Tryz.prog.info? 65).map (fun i => (i.zero, i.size, i.bytes)) = some (some (.agg #[.int .u8 0, .string ⟨#[]⟩, .string ⟨#[]⟩]), 3, 40) := by kernel_rfl
theorem toks_of_own {w : World} {base : Nat} {e : TypeId} {v : Value} {l : List Tok} (h : w.ownsRow base e 3 v l.length (l.flatMap tokCells)) : Toks w (From base w.heap.size) v l := by
  rcases h.2 with ⟨rfl, hm⟩ | ⟨g, cap, cur, rfl, hb, hg, hnc, hcap, hsz, htk⟩
  · exact ⟨none, 0, by rw [hm], by omega, by unfold maxLen; omega, .inl (List.eq_nil_of_length_eq_zero hm)⟩
  · refine ⟨_, cap, rfl, hnc, hcap, .inr ⟨g, 0, rfl, ⟨hb, (Array.getElem?_eq_some_iff.1 hg).1⟩, fun i t hi => ?_⟩⟩
    have hlt : i < l.length := (List.getElem?_eq_some_iff.1 hi).1
    have each : ∀ j u, j < 3 → (tokCells t)[j]? = some u → w.cell? ⟨g, 0 + i * 3 + j, none⟩ = some u := fun j u hj hu => by
      have e := flat3 l i j t hi hj
      rw [hu, ← htk, List.getElem?_take, if_pos (by omega)] at e
      rw [Nat.zero_add]
      simpa [World.cell?, hg] using e
    exact ⟨by simpa using each 0 _ (by omega) rfl, each 1 _ (by omega) rfl, each 2 _ (by omega) rfl⟩

set_option maxHeartbeats 4000000 in
set_option maxRecDepth 100000 in
theorem as_any (va : Value) (a : List Tok) (w : World) (ha : Toks w (Under w.heap.size) va a) (hla : a.length ≤ 1000000) :
    Calls Tryz.prog 7 #[va] w fun e w' => ∃ v, e = .returned v ∧ Toks w' (From w.heap.size w'.heap.size) v a ∧ Below w.heap.size w w' := by
  obtain ⟨A1, c1, rfl, _⟩ := ha.form
  have HA := Lib.hid ha
  clear ha
  go_enter Tryz.func7, Tryz.ntmps7
  go_wp2
  go_loopw [3, 4] (fun v i wr => ∃ k : Nat, k ≤ a.length ∧ i = .int .i64 k ∧ wr.ownsRow w.heap.size 65 3 v k ((a.take k).flatMap tokCells) ∧ Below w.heap.size w wr) (fun _ i _ => a.length - (intOf i).toNat)
  case atStart => exact ⟨0, by omega, rfl, ⟨rfl, .inl ⟨rfl, rfl⟩⟩, Below.refl _ _⟩
  case round =>
    obtain ⟨k, hk, rfl, hown, hbr⟩ := hrel
    have hws := hbr.size
    by_cases hlt : k < a.length
    · have hax : a[k]? = some a[k] := List.getElem?_eq_getElem hlt
      have HTK : Hid (a.take (k + 1) = a.take k ++ [a[k]]) := Lib.hid (List.take_succ_eq_append_getElem hlt)
      generalize a[k] = x at *
      obtain ⟨g1, o1, rfl, hu1, x0, x1, x2⟩ := HA.out.get hax
      have k0 := cell_kept x0 hbr
      have k1 := cell_kept x1 hbr
      have k2 := cell_kept x2 hbr
      have HOWN := Lib.hid hown
      obtain ⟨B3, m3, d3, rfl⟩ := ownsRow_form hown
      clear x0 x1 x2 hax hown
      have hlen : (a.take k).length = k := by rw [List.length_take]; omega
      have HBA : Hid (Below wr.heap.size wr (wr.alloc (.cells #[.int .u8 (x.kind : Int), .string x.text, .string x.head] 65)).drew) := Lib.hid (((Below.refl _ _).alloc (Nat.le_refl _) _).drew)
      have HOW2 : Hid ((wr.alloc (.cells #[.int .u8 (x.kind : Int), .string x.text, .string x.head] 65)).drew.ownsRow w.heap.size 65 3 (.slice B3 m3 d3) k ((a.take k).flatMap tokCells)) := Lib.hid (ownsRow_keep HOWN.out fun g hg => HBA.out.block _ (HOWN.out.lt g hg).2)
      have HF : Hid (∀ j u, (tokCells x)[j]? = some u → (wr.alloc (.cells #[.int .u8 (x.kind : Int), .string x.text, .string x.head] 65)).drew.cell? ⟨wr.heap.size, j, none⟩ = some u) := Lib.hid (fun j u hj => fresh_cell wr _ _ j u (by simpa [tokCells] using hj))
      have hbz : w.heap.size ≤ (wr.alloc (.cells #[.int .u8 (x.kind : Int), .string x.text, .string x.head] 65)).drew.heap.size := Nat.le_trans hws HBA.out.size
      have hk8 : k + 1 ≤ 100000000 := by omega
      have HBZ := Lib.hid hbz
      clear hbz hlen
      go_wp2
      go_region_law (refine step_append_gen Tryz.underlying31 rtok_info rfl (by decide) (by decide) rfl (.tmp 11) (.tmp 28) rfl w.heap.size (.slice B3 m3 d3) k _ wr.heap.size 1 (tokCells x) rfl rfl HOW2.out rfl HF.out (tok_one _) hk8 HBZ.out ?_; intro v6 w6 hown6 hg6; obtain ⟨B6, m6, d6, rfl⟩ := ownsRow_form hown6; have HOW6 := Lib.hid hown6; have HB6 := Lib.hid (hbr.trans ((HBA.out.mono hws).trans ((Below.refl _ _).grown hg6 HBZ.out fun k hk => (HOW2.out.lt k hk).1))); clear hown6 hg6)
      all_goals
        go_wp2
        exact ⟨⟨k + 1, by omega, by go_num, by rw [HTK.out, List.flatMap_append]; simpa using HOW6.out, HB6.out⟩, by simp [intOf]; omega⟩
    · go_wp2
      go_ret
      obtain rfl : k = a.length := by omega
      refine ⟨_, rfl, ?_, hbr⟩
      rw [List.take_length] at hown
      exact toks_of_own hown
theorem take_ne {a b : List Tok} {k : Nat} {x y : Tok} (hx : a[k]? = some x) (hy : b[k]? = some y) (h : x ≠ y) : decide (a = b) = false := by
  rw [decide_eq_false_iff_not]; rintro rfl; exact h (Option.some.inj (hx.symm.trans hy))

end Go.Proofs.YtggoebbfgkebcaaGreatDoor
