/-
  The reader's quoted: what it answers, whatever stands there.
-/
import Derived.Test.YtdcgffepdgldmaaDoorD3
namespace Go.Proofs.YtdcgffepdgldmaaDoor
open Go.RowKit Go.Sort

/-- What stands up to the closing quote, and what is left behind it. -/
def unq : List UInt8 → Option (List UInt8 × List UInt8)
  | [] => none
  | c :: r => if c == 34 then some ([], r) else if c == 92 then (match r with | d :: r' => if d == 34 || d == 92 then (unq r').map (fun p => (d :: p.1, p.2)) else none | [] => none) else (unq r).map (fun p => (c :: p.1, p.2))
/-- .. with the opening quote. -/
def qL (l : List UInt8) : Option (List UInt8 × List UInt8) := unq (wantL [34] l)

theorem qs_contains (c : UInt8) : QS.data.toList.contains c = (c == 34 || c == 92) := by
  show ([34, 92] : List UInt8).contains c = _
  simp only [List.contains, List.elem]
  cases (c == 34) <;> cases (c == 92) <;> rfl
theorem unq_q (r : List UInt8) : unq (34 :: r) = some ([], r) := by rw [unq.eq_def]; rfl
theorem unq_s1 : unq [92] = none := by rw [unq.eq_def]; rfl
theorem unq_s (d : UInt8) (r : List UInt8) : unq (92 :: d :: r) = if d == 34 || d == 92 then (unq r).map (fun p => (d :: p.1, p.2)) else none := by rw [unq.eq_def]; rfl

theorem unq_index : ∀ l : List UInt8, (Lib.indexAny l QS.data.toList = -1 ∧ unq l = none) ∨
    ∃ e : Nat, Lib.indexAny l QS.data.toList = (e : Int) ∧ e < l.length ∧ (∃ c r, l.drop e = c :: r ∧ (c = 34 ∨ c = 92)) ∧ unq l = (unq (l.drop e)).map (fun p => (l.take e ++ p.1, p.2))
  | [] => .inl ⟨rfl, rfl⟩
  | b :: l => by
    by_cases hc : (b == 34 || b == 92) = true
    · refine .inr ⟨0, ?_, by simp, ⟨b, l, rfl, by simpa using hc⟩, ?_⟩
      · rw [Lib.indexAny, qs_contains, if_pos hc]; rfl
      · simp
    · have h1 : (b == 34) = false := by cases h : (b == 34) <;> simp_all
      have h2 : (b == 92) = false := by cases h : (b == 92) <;> simp_all
      have hu : unq (b :: l) = (unq l).map (fun p => (b :: p.1, p.2)) := by rw [unq.eq_def]; simp only [h1, h2]; rfl
      rcases unq_index l with ⟨e1, e2⟩ | ⟨e, e1, e2, e3, e4⟩
      · refine .inl ⟨?_, by rw [hu, e2]; rfl⟩
        rw [Lib.indexAny, qs_contains, if_neg hc, e1]; decide
      · refine .inr ⟨e + 1, ?_, Nat.succ_lt_succ e2, e3, ?_⟩
        · rw [Lib.indexAny, qs_contains, if_neg hc, e1, if_neg (by rw [beq_iff_eq]; omega)]; rfl
        · rw [hu, e4, List.drop_succ_cons, List.take_succ_cons, Option.map_map]; rfl

theorem OnlyR.thenBelow {R B : Nat} {a b c : World} (h : OnlyR R a b) (k : Below B b c) (hB : a.heap.size ≤ B) : OnlyR R a c :=
  ⟨k.os.trans h.os, k.tape.trans h.tape, k.output.trans h.output, Nat.le_trans h.size k.size, fun i hi hn => (k.block i (Nat.lt_of_lt_of_le hi hB)).trans (h.block i hi hn)⟩
theorem Rd.under {w w' : World} {R B : Nat} {l : List UInt8} {x : Bool} (h : Rd w R l x) (hb : Below B w w') (hR : R < B) : Rd w' R l x := (hb.block R hR).trans h
theorem builAt_only {T e : TypeId} {w w' : World} {R B b : Nat} {p : Value} {bs : List Value} (h : Lib.BuilderAtF T e B b p bs w) (o : OnlyR R w w') (hR : R < B) : Lib.BuilderAtF T e B b p bs w' := by
  obtain ⟨hB, v, hb, hown, hne⟩ := h
  have keep : ∀ k c, w.heap[k]? = some c → B ≤ k → w'.heap[k]? = some c := fun k c hk hB => (o.block k (Array.getElem?_eq_some_iff.1 hk).1 (by omega)).trans hk
  refine ⟨hB, v, keep _ _ hb hB, ⟨hown.1, ?_⟩, hne⟩
  rcases hown.2 with hn | ⟨g, cap, cur, fz, hv, hbg, hg, rest⟩
  · exact .inl hn
  · exact .inr ⟨g, cap, cur, fz, hv, hbg, keep _ _ hg hbg, rest⟩
theorem Buil.only {w w' : World} {R B b : Nat} {acc : List UInt8} (h : Buil w B b acc) (o : OnlyR R w w') (hR : R < B) : Buil w' B b acc :=
  h.elim (fun x => .inl (builAt_only x o hR)) (fun x => .inr (builAt_only x o hR))

/-- Where the loop stands: what is read, what is left. -/
def QAt (l0 : List UInt8) (x : Bool) (acc l : List UInt8) (x' : Bool) : Prop :=
  (∀ s r, unq l = some (s, r) → unq l0 = some (acc ++ s, r) ∧ x' = x) ∧ (unq l = none → unq l0 = none)
theorem qAt_end {l0 acc l r : List UInt8} {x0 x' : Bool} {k : Nat} (h : QAt l0 x0 acc l x') (hd : l.drop k = 34 :: r) (hu : unq l = (unq (l.drop k)).map (fun p => (l.take k ++ p.1, p.2))) : unq l0 = some (acc ++ l.take k, r) ∧ x' = x0 := by
  rw [hd, unq_q] at hu
  have := h.1 _ _ hu
  simpa using this
theorem qAt_bad {l0 acc l : List UInt8} {x0 x' : Bool} {k : Nat} (h : QAt l0 x0 acc l x') (hd : unq (l.drop k) = none) (hu : unq l = (unq (l.drop k)).map (fun p => (l.take k ++ p.1, p.2))) (acc2 : List UInt8) : QAt l0 x0 acc2 [] true := by
  rw [hd] at hu
  have h2 := h.2 hu
  exact ⟨fun s r e => absurd e (by simp [unq]), fun _ => h2⟩
theorem qAt_step {l0 acc l r : List UInt8} {x0 x' : Bool} {k : Nat} {d : UInt8} (h : QAt l0 x0 acc l x') (hd : l.drop k = 92 :: d :: r) (hu : unq l = (unq (l.drop k)).map (fun p => (l.take k ++ p.1, p.2))) (hdd : (d == 34 || d == 92) = true) : QAt l0 x0 (acc ++ l.take k ++ [d]) r x' := by
  rw [hd, unq_s, if_pos hdd] at hu
  refine ⟨fun s r' e => ?_, fun e => ?_⟩
  · rw [e] at hu
    have := h.1 _ _ hu
    simpa using this
  · rw [e] at hu
    exact h.2 hu
theorem pre_1 (a : UInt8) (r : List UInt8) : Lib.hasPrefix (a :: r) [34] = (34 == a) := by simp [Lib.hasPrefix, List.isPrefixOf]
theorem pre_2 (b d : UInt8) (r : List UInt8) : Lib.hasPrefix (92 :: d :: r) [92, b] = (b == d) := by simp [Lib.hasPrefix, List.isPrefixOf]
theorem pre_yes {b : UInt8} {r : List UInt8} (h : Lib.hasPrefix (92 :: r) [92, b] = true) : ∃ r', r = b :: r' := by
  cases r with
  | nil => simp [Lib.hasPrefix, List.isPrefixOf] at h
  | cons d r => rw [pre_2] at h; exact ⟨r, by rw [beq_iff_eq.1 h]⟩
theorem pre_none {r : List UInt8} (h1 : Lib.hasPrefix (92 :: r) [92, 34] = false) (h2 : Lib.hasPrefix (92 :: r) [92, 92] = false) : unq (92 :: r) = none := by
  cases r with
  | nil => exact unq_s1
  | cons d r =>
    rw [pre_2] at h1 h2
    rw [unq_s, if_neg]
    simp only [Bool.or_eq_true, beq_iff_eq, not_or]
    exact ⟨fun e => (beq_eq_false_iff_ne.1 h1) e.symm, fun e => (beq_eq_false_iff_ne.1 h2) e.symm⟩
theorem trim_no {l p : List UInt8} (h : Lib.hasPrefix l p = false) : Lib.trimPrefix l p = l := by rw [Lib.trimPrefix, h]; rfl
theorem trim_yes {l p : List UInt8} (h : Lib.hasPrefix l p = true) : Lib.trimPrefix l p = l.drop p.length := by rw [Lib.trimPrefix, h]; rfl
/-- How it ends. -/
def QPost (R : Nat) (w : World) (q : Option (List UInt8 × List UInt8)) (x : Bool) (e : Ending) (w' : World) : Prop :=
  (match q with | some (s, r) => e = .returned (.string ⟨s.toArray⟩) ∧ Rd w' R r x | none => e = .returned (.string ⟨#[]⟩) ∧ Rd w' R [] true) ∧ OnlyR R w w'

theorem wantL_le (p l : List UInt8) : (wantL p l).length ≤ l.length := by
  unfold wantL; split
  · rw [List.length_drop]; omega
  · simp

set_option maxHeartbeats 4000000 in
set_option maxRecDepth 100000 in
theorem rd_quoted (R : Nat) (lq : List UInt8) (x : Bool) (w : World) (h : Rd w R lq x) (hl : lq.length ≤ 10000000) :
    Calls Tryd.prog 97 #[.pointer (some ⟨R, 0, none⟩)] w (QPost R w (qL lq) (x || !Lib.hasPrefix lq [34])) := by
  go_enter Tryd.func97, Tryd.ntmps97
  go_wp2_with fail
  refine (rd_want R lq x ⟨#[34]⟩ w h).mono ?_
  rintro e w1 ⟨rfl, h1, o1⟩
  have hRw := h.lt
  have hl1 : (wantL [34] lq).length ≤ 10000000 := Nat.le_trans (wantL_le _ _) hl
  have HQ : Hid (qL lq = unq (wantL [34] lq)) := Lib.hid rfl
  change Rd w1 R (wantL [34] lq) (x || !Lib.hasPrefix lq [34]) at h1
  generalize wantL [34] lq = l0 at *
  generalize (x || !Lib.hasPrefix lq [34]) = x0 at *
  have hw1 := o1.size
  have H1 := Lib.hid h1
  have O1 := Lib.hid o1
  clear h h1 o1 hl
  have hbn := buil_new w1
  have hbb : Below w1.heap.size w1 (w1.alloc (.cells #[.pointer none, .slice none 0 0] 84)) := (Below.refl _ _).alloc (Nat.le_refl _) _
  have HBN := Lib.hid hbn
  have HBB := Lib.hid hbb
  clear hbn hbb
  go_wp2
  go_loopg [4] l0.length (fun g _ wx => ∃ (acc l : List UInt8) (x' : Bool), l.length ≤ g ∧ acc.length + l.length ≤ 10000000 ∧ Rd wx R l x' ∧ Buil wx w1.heap.size w1.heap.size acc ∧ OnlyR R w wx ∧ w1.heap.size < wx.heap.size ∧ QAt l0 x0 acc l x')
  case atStart =>
    refine ⟨[], l0, x0, Nat.le_refl _, by simp; omega, H1.out.below HBB.out, HBN.out, O1.out.thenBelow HBB.out hw1, by simp, fun s r e => ⟨e, rfl⟩, fun e => e⟩
  case round =>
    obtain ⟨acc, l, x', hg, hal, hr, hb, ho, hz, hq⟩ := hrel
    have c0 := hr.rest
    have HR := Lib.hid hr
    have HB := Lib.hid hb
    have HO := Lib.hid ho
    have HQA := Lib.hid hq
    clear hr hb ho hq
    obtain ⟨S, hS⟩ : ∃ S : ByteArray, S = ⟨l.toArray⟩ := ⟨_, rfl⟩
    have hd : S.data.toList = l := by rw [hS]
    have hsz : S.size = l.length := by rw [Lib.size_eq, hd]
    rw [← hS] at c0
    have HS := Lib.hid hS
    have HD := Lib.hid hd
    have HSZ := Lib.hid hsz
    have hs8 : S.size ≤ 10000000 := by omega
    clear hS hd hsz
    go_wp2_with fail
    refine (indexAny_is S wr (by omega)).mono ?_
    rintro e w2 ⟨rfl, hb2⟩
    have HR2 := Lib.hid (HR.out.below hb2)
    have HO2 := Lib.hid (HO.out.thenBelow (hb2.mono (Nat.le_refl _)) HO.out.size)
    have HB2 := Lib.hid (HB.out.only (OnlyR.of_below R hb2) (Nat.lt_of_lt_of_le hRw hw1))
    have hz2 := hb2.size
    have c2 := HR2.out.rest
    rw [← HS.out] at c2
    have f2 := HR2.out.free 0
    clear hb2
    rcases unq_index l with ⟨e1, e2⟩ | ⟨k, e1, e2, ⟨c, r, e3, e5⟩, e4⟩
    · rw [HD.out, e1]
      go_wp2_with fail
      refine (rd_fail R _ _ w2 HR2.out).mono ?_
      rintro e w3 ⟨rfl, h3, o3⟩
      have H3 := Lib.hid h3
      have O3 := Lib.hid o3
      have HN := Lib.hid (HQ.out.trans (HQA.out.2 e2))
      clear h3 o3 e1 e2
      go_wp2
      go_ret
      refine ⟨?_, HO2.out.trans O3.out⟩
      rw [HN.out]
      exact ⟨rfl, H3.out⟩
    · rw [HD.out, e1]
      have hk : k < S.size := by rw [HSZ.out]; exact e2
      have HE3 := Lib.hid e3
      have HE4 := Lib.hid e4
      have HE5 := Lib.hid e5
      clear e1 e2 e3 e4 e5
      have hRB : R < w1.heap.size := Nat.lt_of_lt_of_le hRw hw1
      have htk : (S.extract 0 k).data.toList = l.take k := by rw [ext_take, HD.out]
      have htz : (S.extract 0 k).size ≤ k := by rw [Lib.size_eq, htk, List.length_take]; omega
      go_wp2_with fail
      refine (write_any w1.heap.size w1.heap.size acc (S.extract 0 k) w2 HB2.out (by omega) (by omega)).mono ?_
      rintro e w3 ⟨rfl, hb3, hB3, _⟩
      rw [htk] at hb3
      have hr3 := HR2.out.under hB3 hRB
      have hz3 := hB3.size
      have c3 := hr3.rest
      rw [← HS.out] at c3
      have f3 := hr3.free 0
      have HO3 := Lib.hid (HO2.out.thenBelow hB3 hw1)
      have h4 := hr3.set0 (l.drop k)
      have hex : S.extract k S.size = ⟨(l.drop k).toArray⟩ := by rw [ext_drop, HD.out]
      have h4z : (w3.setCell ⟨R, 0, none⟩ (.string ⟨(l.drop k).toArray⟩)).heap.size = w3.heap.size := by simp [World.setCell]
      have ho4 := OnlyR.set R 0 w3 (.string ⟨(l.drop k).toArray⟩)
      have HO4 := Lib.hid (HO3.out.trans ho4)
      have HB4 := Lib.hid (hb3.only ho4 hRB)
      rw [HE3.out] at h4 hex h4z HO4 HB4
      have HR4 := Lib.hid h4
      have hlen : r.length + 1 + k = l.length := by have := congrArg List.length HE3.out; rw [List.length_drop, List.length_cons] at this; have := HSZ.out; omega
      have halen : (acc ++ l.take k).length = acc.length + k := by rw [List.length_append, List.length_take]; omega
      clear hr3 hb3 hB3 h4 ho4 htk htz c2 f2 c0
      go_wp2_with fail
      generalize w3.setCell ⟨R, 0, none⟩ (.string ⟨(c :: r).toArray⟩) = w4 at *
      clear c3 f3 hex
      refine (rd_take R (c :: r) x' ⟨#[34]⟩ w4 HR4.out).mono ?_
      rintro e w5 ⟨rfl, h5, o5⟩
      have hz5 := o5.size
      have HB5 := Lib.hid (HB4.out.only o5 hRB)
      have HO5 := Lib.hid (HO4.out.trans o5)
      have HR5 := Lib.hid h5
      clear h5 o5
      rcases HE5.out with rfl | rfl
      · have hp : Lib.hasPrefix (34 :: r) (⟨#[34]⟩ : ByteArray).data.toList = true := pre_1 34 r
        obtain ⟨hu, rfl⟩ := qAt_end HQA.out HE3.out HE4.out
        have HU := Lib.hid (HQ.out.trans hu)
        have hr5 := HR5.out
        rw [trim_yes hp] at hr5
        have HR6 := Lib.hid hr5
        clear hu hr5
        rw [hp]
        go_wp2_with fail
        refine (string_any w1.heap.size w1.heap.size _ w5 HB5.out (by omega)).mono ?_
        rintro e w6 ⟨rfl, _, hB6, _⟩
        have HR7 := Lib.hid (HR6.out.under hB6 hRB)
        have HO7 := Lib.hid (HO5.out.thenBelow hB6 hw1)
        clear hB6
        go_wp2
        go_ret
        refine ⟨?_, HO7.out⟩
        rw [HU.out]
        exact ⟨rfl, HR7.out⟩
      · have hp : Lib.hasPrefix (92 :: r) (⟨#[34]⟩ : ByteArray).data.toList = false := pre_1 92 r
        have hr5 := HR5.out
        rw [trim_no hp] at hr5
        have HR6 := Lib.hid hr5
        clear hr5 HR5
        rw [hp]
        go_wp2_with fail
        refine (rd_take R (92 :: r) x' ⟨#[92, 34]⟩ w5 HR6.out).mono ?_
        rintro e w6 ⟨rfl, h6, o6⟩
        have hz6 := o6.size
        have HB6 := Lib.hid (HB5.out.only o6 hRB)
        have HO6 := Lib.hid (HO5.out.trans o6)
        have HR7 := Lib.hid h6
        clear h6 o6
        by_cases h1 : Lib.hasPrefix (92 :: r) (⟨#[92, 34]⟩ : ByteArray).data.toList = true
        · have hp2 := h1
          obtain ⟨r2, rfl⟩ := pre_yes h1
          have hr7 := HR7.out
          rw [trim_yes hp2] at hr7
          have HR8 := Lib.hid hr7
          have HQ2 := Lib.hid (qAt_step HQA.out HE3.out HE4.out (by decide))
          rw [List.length_cons] at hlen
          clear hr7 HR7
          rw [hp2]
          go_wp2_with fail
          refine (byteN_any w1.heap.size w1.heap.size _ 34 34 w6 (by decide) HB6.out (by omega) (by omega)).mono ?_
          rintro e w7 ⟨rfl, hb7, hB7, _⟩
          have HB7 := Lib.hid hb7
          have HR9 := Lib.hid (HR8.out.under hB7 hRB)
          have HO7 := Lib.hid (HO6.out.thenBelow hB7 hw1)
          have hz7 := hB7.size
          clear hb7 hB7
          go_wp2
          go_roundg r2.length
          case measure => omega
          case rel => exact ⟨_, r2, x', Nat.le_refl _, by rw [List.length_append, halen, List.length_singleton]; omega, HR9.out, HB7.out, HO7.out, by omega, HQ2.out⟩
        · have h1f : Lib.hasPrefix (92 :: r) (⟨#[92, 34]⟩ : ByteArray).data.toList = false := Bool.eq_false_iff.2 h1
          have hr7 := HR7.out
          rw [trim_no h1f] at hr7
          have HR8a := Lib.hid hr7
          clear hr7 HR7 h1
          rw [h1f]
          go_wp2_with fail
          refine (rd_take R (92 :: r) x' ⟨#[92, 92]⟩ w6 HR8a.out).mono ?_
          rintro e w7 ⟨rfl, h7, o7⟩
          have hz7a := o7.size
          have HB7a := Lib.hid (HB6.out.only o7 hRB)
          have HO7a := Lib.hid (HO6.out.trans o7)
          have HR8b := Lib.hid h7
          clear h7 o7 HR8a
          by_cases h2 : Lib.hasPrefix (92 :: r) (⟨#[92, 92]⟩ : ByteArray).data.toList = true
          · have hp2 := h2
            obtain ⟨r2, rfl⟩ := pre_yes h2
            have hr7 := HR8b.out
            rw [trim_yes hp2] at hr7
            have HR8 := Lib.hid hr7
            have HQ2 := Lib.hid (qAt_step HQA.out HE3.out HE4.out (by decide))
            rw [List.length_cons] at hlen
            clear hr7 HR8b
            rw [hp2]
            go_wp2_with fail
            refine (byteN_any w1.heap.size w1.heap.size _ 92 92 w7 (by decide) HB7a.out (by omega) (by omega)).mono ?_
            rintro e w8 ⟨rfl, hb7, hB7, _⟩
            have HB7 := Lib.hid hb7
            have HR9 := Lib.hid (HR8.out.under hB7 hRB)
            have HO7 := Lib.hid (HO7a.out.thenBelow hB7 hw1)
            have hz7 := hB7.size
            clear hb7 hB7
            go_wp2
            go_roundg r2.length
            case measure => omega
            case rel => exact ⟨_, r2, x', Nat.le_refl _, by rw [List.length_append, halen, List.length_singleton]; omega, HR9.out, HB7.out, HO7.out, by omega, HQ2.out⟩
          · have h2f : Lib.hasPrefix (92 :: r) (⟨#[92, 92]⟩ : ByteArray).data.toList = false := Bool.eq_false_iff.2 h2
            have hn : unq (l.drop k) = none := by rw [HE3.out]; exact pre_none h1f h2f
            have HQ2 := Lib.hid (qAt_bad HQA.out hn HE4.out (acc ++ l.take k))
            clear h2 hn
            rw [h2f]
            go_wp2_with fail
            refine (rd_fail R _ _ w7 HR8b.out).mono ?_
            rintro e w8 ⟨rfl, h8, o8⟩
            have HR9 := Lib.hid h8
            have HO8 := Lib.hid (HO7a.out.trans o8)
            have HB8 := Lib.hid (HB7a.out.only o8 hRB)
            have hz8 := o8.size
            clear h8 o8
            go_wp2
            go_roundg 0
            case measure => omega
            case rel => exact ⟨_, [], true, Nat.le_refl _, by rw [halen, List.length_nil]; omega, HR9.out, HB8.out, HO8.out, by omega, HQ2.out⟩
end Go.Proofs.YtdcgffepdgldmaaDoor
