/-
  The reader's quoted: what it answers, whatever stands there.
  append of one thing to a row of the call's own; the reader's marks.
  The reader's attr and attrs.
  The reader's attrs.
  The kind of texts; slices of nothing.
  The reader's text and head.
  The reader's closed: a node that is too deep is judged on the spot.
  What was written is read back: the parts of a node.
  The reader's loop as a plain function; what was written is read back.
  Parse as a plain function; Parse of what Print wrote.
-/
import Derived.Test.YtggoebbfgkebcaaDoorME
import Derived.Test.YtggoebbfgkebcaaDoorMB
import Derived.Test.YtggoebbfgkebcaaDoorTree
namespace Go.Proofs.YtggoebbfgkebcaaDoor
open Go.RowKit Go.Sort

/-- What stands up to the closing quote, and what is left behind it. -/
def unq : List UInt8 → Option (List UInt8 × List UInt8)
  | [] => none
  | c :: r => if c == 34 then some ([], r) else if c == 92 then (match r with | d :: r' => if d == 34 || d == 92 then (unq r').map (fun p => (d :: p.1, p.2)) else none | [] => none) else (unq r).map (fun p => (c :: p.1, p.2))
/-- .. with the opening quote. -/
def qL (l : List UInt8) : Option (List UInt8 × List UInt8) := unq (wantL [34] l)

theorem qs_contains (c : UInt8) : QS.data.toList.contains c = (c == 34 || c == 92) := by
  show ([34, 92] : List UInt8).contains c = _
  simp only [List.contains, List.elem]
  cases (c == 34) <;> cases (c == 92) <;> rfl
theorem unq_q (r : List UInt8) : unq (34 :: r) = some ([], r) := by rw [unq.eq_def]; rfl
theorem unq_s1 : unq [92] = none := by rw [unq.eq_def]; rfl
theorem unq_s (d : UInt8) (r : List UInt8) : unq (92 :: d :: r) = if d == 34 || d == 92 then (unq r).map (fun p => (d :: p.1, p.2)) else none := by rw [unq.eq_def]; rfl

theorem unq_index : ∀ l : List UInt8, (Lib.indexAny l QS.data.toList = -1 ∧ unq l = none) ∨
    ∃ e : Nat, Lib.indexAny l QS.data.toList = (e : Int) ∧ e < l.length ∧ (∃ c r, l.drop e = c :: r ∧ (c = 34 ∨ c = 92)) ∧ unq l = (unq (l.drop e)).map (fun p => (l.take e ++ p.1, p.2))
  | [] => .inl ⟨rfl, rfl⟩
  | b :: l => by
    by_cases hc : (b == 34 || b == 92) = true
    · refine .inr ⟨0, ?_, by simp, ⟨b, l, rfl, by simpa using hc⟩, ?_⟩
      · rw [Lib.indexAny, qs_contains, if_pos hc]; rfl
      · simp
    · have h1 : (b == 34) = false := by cases h : (b == 34) <;> simp_all
      have h2 : (b == 92) = false := by cases h : (b == 92) <;> simp_all
      have hu : unq (b :: l) = (unq l).map (fun p => (b :: p.1, p.2)) := by rw [unq.eq_def]; simp only [h1, h2]; rfl
      rcases unq_index l with ⟨e1, e2⟩ | ⟨e, e1, e2, e3, e4⟩
      · refine .inl ⟨?_, by rw [hu, e2]; rfl⟩
        rw [Lib.indexAny, qs_contains, if_neg hc, e1]; decide
      · refine .inr ⟨e + 1, ?_, Nat.succ_lt_succ e2, e3, ?_⟩
        · rw [Lib.indexAny, qs_contains, if_neg hc, e1, if_neg (by rw [beq_iff_eq]; omega)]; rfl
        · rw [hu, e4, List.drop_succ_cons, List.take_succ_cons, Option.map_map]; rfl

theorem OnlyR.thenBelow {R B : Nat} {a b c : World} (h : OnlyR R a b) (k : Below B b c) (hB : a.heap.size ≤ B) : OnlyR R a c :=
  ⟨k.os.trans h.os, k.tape.trans h.tape, k.output.trans h.output, Nat.le_trans h.size k.size, fun i hi hn => (k.block i (Nat.lt_of_lt_of_le hi hB)).trans (h.block i hi hn)⟩
theorem Rd.under {w w' : World} {R B : Nat} {l : List UInt8} {x : Bool} (h : Rd w R l x) (hb : Below B w w') (hR : R < B) : Rd w' R l x := (hb.block R hR).trans h
theorem builAt_only {T e : TypeId} {w w' : World} {R B b : Nat} {p : Value} {bs : List Value} (h : Lib.BuilderAtF T e B b p bs w) (o : OnlyR R w w') (hR : R < B) : Lib.BuilderAtF T e B b p bs w' := by
  obtain ⟨hB, v, hb, hown, hne⟩ := h
  have keep : ∀ k c, w.heap[k]? = some c → B ≤ k → w'.heap[k]? = some c := fun k c hk hB => (o.block k (Array.getElem?_eq_some_iff.1 hk).1 (by omega)).trans hk
  refine ⟨hB, v, keep _ _ hb hB, ⟨hown.1, ?_⟩, hne⟩
  rcases hown.2 with hn | ⟨g, cap, cur, fz, hv, hbg, hg, rest⟩
  · exact .inl hn
  · exact .inr ⟨g, cap, cur, fz, hv, hbg, keep _ _ hg hbg, rest⟩
theorem Buil.only {w w' : World} {R B b : Nat} {acc : List UInt8} (h : Buil w B b acc) (o : OnlyR R w w') (hR : R < B) : Buil w' B b acc :=
  h.elim (fun x => .inl (builAt_only x o hR)) (fun x => .inr (builAt_only x o hR))

/-- Where the loop stands: what is read, what is left. -/
def QAt (l0 : List UInt8) (x : Bool) (acc l : List UInt8) (x' : Bool) : Prop :=
  (∀ s r, unq l = some (s, r) → unq l0 = some (acc ++ s, r) ∧ x' = x) ∧ (unq l = none → unq l0 = none)
theorem qAt_end {l0 acc l r : List UInt8} {x0 x' : Bool} {k : Nat} (h : QAt l0 x0 acc l x') (hd : l.drop k = 34 :: r) (hu : unq l = (unq (l.drop k)).map (fun p => (l.take k ++ p.1, p.2))) : unq l0 = some (acc ++ l.take k, r) ∧ x' = x0 := by
  rw [hd, unq_q] at hu
  have := h.1 _ _ hu
  simpa using this
theorem qAt_bad {l0 acc l : List UInt8} {x0 x' : Bool} {k : Nat} (h : QAt l0 x0 acc l x') (hd : unq (l.drop k) = none) (hu : unq l = (unq (l.drop k)).map (fun p => (l.take k ++ p.1, p.2))) (acc2 : List UInt8) : QAt l0 x0 acc2 [] true := by
  rw [hd] at hu
  have h2 := h.2 hu
  exact ⟨fun s r e => absurd e (by simp [unq]), fun _ => h2⟩
theorem qAt_step {l0 acc l r : List UInt8} {x0 x' : Bool} {k : Nat} {d : UInt8} (h : QAt l0 x0 acc l x') (hd : l.drop k = 92 :: d :: r) (hu : unq l = (unq (l.drop k)).map (fun p => (l.take k ++ p.1, p.2))) (hdd : (d == 34 || d == 92) = true) : QAt l0 x0 (acc ++ l.take k ++ [d]) r x' := by
  rw [hd, unq_s, if_pos hdd] at hu
  refine ⟨fun s r' e => ?_, fun e => ?_⟩
  · rw [e] at hu
    have := h.1 _ _ hu
    simpa using this
  · rw [e] at hu
    exact h.2 hu
theorem pre_1 (a : UInt8) (r : List UInt8) : Lib.hasPrefix (a :: r) [34] = (34 == a) := by simp [Lib.hasPrefix, List.isPrefixOf]
theorem pre_2 (b d : UInt8) (r : List UInt8) : Lib.hasPrefix (92 :: d :: r) [92, b] = (b == d) := by simp [Lib.hasPrefix, List.isPrefixOf]
theorem pre_yes {b : UInt8} {r : List UInt8} (h : Lib.hasPrefix (92 :: r) [92, b] = true) : ∃ r', r = b :: r' := by
  cases r with
  | nil => simp [Lib.hasPrefix, List.isPrefixOf] at h
  | cons d r => rw [pre_2] at h; exact ⟨r, by rw [beq_iff_eq.1 h]⟩
theorem pre_none {r : List UInt8} (h1 : Lib.hasPrefix (92 :: r) [92, 34] = false) (h2 : Lib.hasPrefix (92 :: r) [92, 92] = false) : unq (92 :: r) = none := by
  cases r with
  | nil => exact unq_s1
  | cons d r =>
    rw [pre_2] at h1 h2
    rw [unq_s, if_neg]
    simp only [Bool.or_eq_true, beq_iff_eq, not_or]
    exact ⟨fun e => (beq_eq_false_iff_ne.1 h1) e.symm, fun e => (beq_eq_false_iff_ne.1 h2) e.symm⟩
theorem trim_no {l p : List UInt8} (h : Lib.hasPrefix l p = false) : Lib.trimPrefix l p = l := by rw [Lib.trimPrefix, h]; rfl
theorem trim_yes {l p : List UInt8} (h : Lib.hasPrefix l p = true) : Lib.trimPrefix l p = l.drop p.length := by rw [Lib.trimPrefix, h]; rfl
/-- How it ends. -/
def QPost (R : Nat) (w : World) (q : Option (List UInt8 × List UInt8)) (x : Bool) (e : Ending) (w' : World) : Prop :=
  (match q with | some (s, r) => e = .returned (.string ⟨s.toArray⟩) ∧ Rd w' R r x | none => e = .returned (.string ⟨#[]⟩) ∧ Rd w' R [] true) ∧ OnlyR R w w'

theorem wantL_le (p l : List UInt8) : (wantL p l).length ≤ l.length := by
  unfold wantL; split
  · rw [List.length_drop]; omega
  · simp

set_option maxHeartbeats 4000000 in
set_option maxRecDepth 100000 in
theorem rd_quoted (R : Nat) (lq : List UInt8) (x : Bool) (w : World) (h : Rd w R lq x) (hl : lq.length ≤ 10000000) :
    Calls Tryd.prog 41 #[.pointer (some ⟨R, 0, none⟩)] w (QPost R w (qL lq) (x || !Lib.hasPrefix lq [34])) := by
  go_enter Tryd.func41, Tryd.ntmps41
  go_wp2_with fail
  refine (rd_want R lq x ⟨#[34]⟩ w h).mono ?_
  rintro e w1 ⟨rfl, h1, o1⟩
  have hRw := h.lt
  have hl1 : (wantL [34] lq).length ≤ 10000000 := Nat.le_trans (wantL_le _ _) hl
  have HQ : Hid (qL lq = unq (wantL [34] lq)) := Lib.hid rfl
  change Rd w1 R (wantL [34] lq) (x || !Lib.hasPrefix lq [34]) at h1
  generalize wantL [34] lq = l0 at *
  generalize (x || !Lib.hasPrefix lq [34]) = x0 at *
  have hw1 := o1.size
  have H1 := Lib.hid h1
  have O1 := Lib.hid o1
  clear h h1 o1 hl
  have hbn := buil_new w1
  have hbb : Below w1.heap.size w1 (w1.alloc (.cells #[.pointer none, .slice none 0 0] 62)) := (Below.refl _ _).alloc (Nat.le_refl _) _
  have HBN := Lib.hid hbn
  have HBB := Lib.hid hbb
  clear hbn hbb
  go_wp2
  go_loopg [4] l0.length (fun g _ wx => ∃ (acc l : List UInt8) (x' : Bool), l.length ≤ g ∧ acc.length + l.length ≤ 10000000 ∧ Rd wx R l x' ∧ Buil wx w1.heap.size w1.heap.size acc ∧ OnlyR R w wx ∧ w1.heap.size < wx.heap.size ∧ QAt l0 x0 acc l x')
  case atStart =>
    refine ⟨[], l0, x0, Nat.le_refl _, by simp; omega, H1.out.below HBB.out, HBN.out, O1.out.thenBelow HBB.out hw1, by simp, fun s r e => ⟨e, rfl⟩, fun e => e⟩
  case round =>
    obtain ⟨acc, l, x', hg, hal, hr, hb, ho, hz, hq⟩ := hrel
    have c0 := hr.rest
    have HR := Lib.hid hr
    have HB := Lib.hid hb
    have HO := Lib.hid ho
    have HQA := Lib.hid hq
    clear hr hb ho hq
    obtain ⟨S, hS⟩ : ∃ S : ByteArray, S = ⟨l.toArray⟩ := ⟨_, rfl⟩
    have hd : S.data.toList = l := by rw [hS]
    have hsz : S.size = l.length := by rw [Lib.size_eq, hd]
    rw [← hS] at c0
    have HS := Lib.hid hS
    have HD := Lib.hid hd
    have HSZ := Lib.hid hsz
    have hs8 : S.size ≤ 10000000 := by omega
    clear hS hd hsz
    go_wp2_with fail
    refine (indexAny_is S wr (by omega)).mono ?_
    rintro e w2 ⟨rfl, hb2⟩
    have HR2 := Lib.hid (HR.out.below hb2)
    have HO2 := Lib.hid (HO.out.thenBelow (hb2.mono (Nat.le_refl _)) HO.out.size)
    have HB2 := Lib.hid (HB.out.only (OnlyR.of_below R hb2) (Nat.lt_of_lt_of_le hRw hw1))
    have hz2 := hb2.size
    have c2 := HR2.out.rest
    rw [← HS.out] at c2
    have f2 := HR2.out.free 0
    clear hb2
    rcases unq_index l with ⟨e1, e2⟩ | ⟨k, e1, e2, ⟨c, r, e3, e5⟩, e4⟩
    · rw [HD.out, e1]
      go_wp2_with fail
      refine (rd_fail R _ _ w2 HR2.out).mono ?_
      rintro e w3 ⟨rfl, h3, o3⟩
      have H3 := Lib.hid h3
      have O3 := Lib.hid o3
      have HN := Lib.hid (HQ.out.trans (HQA.out.2 e2))
      clear h3 o3 e1 e2
      go_wp2
      go_ret
      refine ⟨?_, HO2.out.trans O3.out⟩
      rw [HN.out]
      exact ⟨rfl, H3.out⟩
    · rw [HD.out, e1]
      have hk : k < S.size := by rw [HSZ.out]; exact e2
      have HE3 := Lib.hid e3
      have HE4 := Lib.hid e4
      have HE5 := Lib.hid e5
      clear e1 e2 e3 e4 e5
      have hRB : R < w1.heap.size := Nat.lt_of_lt_of_le hRw hw1
      have htk : (S.extract 0 k).data.toList = l.take k := by rw [ext_take, HD.out]
      have htz : (S.extract 0 k).size ≤ k := by rw [Lib.size_eq, htk, List.length_take]; omega
      go_wp2_with fail
      refine (write_any w1.heap.size w1.heap.size acc (S.extract 0 k) w2 HB2.out (by omega) (by omega)).mono ?_
      rintro e w3 ⟨rfl, hb3, hB3, _⟩
      rw [htk] at hb3
      have hr3 := HR2.out.under hB3 hRB
      have hz3 := hB3.size
      have c3 := hr3.rest
      rw [← HS.out] at c3
      have f3 := hr3.free 0
      have HO3 := Lib.hid (HO2.out.thenBelow hB3 hw1)
      have h4 := hr3.set0 (l.drop k)
      have hex : S.extract k S.size = ⟨(l.drop k).toArray⟩ := by rw [ext_drop, HD.out]
      have h4z : (w3.setCell ⟨R, 0, none⟩ (.string ⟨(l.drop k).toArray⟩)).heap.size = w3.heap.size := by simp [World.setCell]
      have ho4 := OnlyR.set R 0 w3 (.string ⟨(l.drop k).toArray⟩)
      have HO4 := Lib.hid (HO3.out.trans ho4)
      have HB4 := Lib.hid (hb3.only ho4 hRB)
      rw [HE3.out] at h4 hex h4z HO4 HB4
      have HR4 := Lib.hid h4
      have hlen : r.length + 1 + k = l.length := by have := congrArg List.length HE3.out; rw [List.length_drop, List.length_cons] at this; have := HSZ.out; omega
      have halen : (acc ++ l.take k).length = acc.length + k := by rw [List.length_append, List.length_take]; omega
      clear hr3 hb3 hB3 h4 ho4 htk htz c2 f2 c0
      go_wp2_with fail
      generalize w3.setCell ⟨R, 0, none⟩ (.string ⟨(c :: r).toArray⟩) = w4 at *
      clear c3 f3 hex
      refine (rd_take R (c :: r) x' ⟨#[34]⟩ w4 HR4.out).mono ?_
      rintro e w5 ⟨rfl, h5, o5⟩
      have hz5 := o5.size
      have HB5 := Lib.hid (HB4.out.only o5 hRB)
      have HO5 := Lib.hid (HO4.out.trans o5)
      have HR5 := Lib.hid h5
      clear h5 o5
      rcases HE5.out with rfl | rfl
      · have hp : Lib.hasPrefix (34 :: r) (⟨#[34]⟩ : ByteArray).data.toList = true := pre_1 34 r
        obtain ⟨hu, rfl⟩ := qAt_end HQA.out HE3.out HE4.out
        have HU := Lib.hid (HQ.out.trans hu)
        have hr5 := HR5.out
        rw [trim_yes hp] at hr5
        have HR6 := Lib.hid hr5
        clear hu hr5
        rw [hp]
        go_wp2_with fail
        refine (string_any w1.heap.size w1.heap.size _ w5 HB5.out (by omega)).mono ?_
        rintro e w6 ⟨rfl, _, hB6, _⟩
        have HR7 := Lib.hid (HR6.out.under hB6 hRB)
        have HO7 := Lib.hid (HO5.out.thenBelow hB6 hw1)
        clear hB6
        go_wp2
        go_ret
        refine ⟨?_, HO7.out⟩
        rw [HU.out]
        exact ⟨rfl, HR7.out⟩
      · have hp : Lib.hasPrefix (92 :: r) (⟨#[34]⟩ : ByteArray).data.toList = false := pre_1 92 r
        have hr5 := HR5.out
        rw [trim_no hp] at hr5
        have HR6 := Lib.hid hr5
        clear hr5 HR5
        rw [hp]
        go_wp2_with fail
        refine (rd_take R (92 :: r) x' ⟨#[92, 34]⟩ w5 HR6.out).mono ?_
        rintro e w6 ⟨rfl, h6, o6⟩
        have hz6 := o6.size
        have HB6 := Lib.hid (HB5.out.only o6 hRB)
        have HO6 := Lib.hid (HO5.out.trans o6)
        have HR7 := Lib.hid h6
        clear h6 o6
        by_cases h1 : Lib.hasPrefix (92 :: r) (⟨#[92, 34]⟩ : ByteArray).data.toList = true
        · have hp2 := h1
          obtain ⟨r2, rfl⟩ := pre_yes h1
          have hr7 := HR7.out
          rw [trim_yes hp2] at hr7
          have HR8 := Lib.hid hr7
          have HQ2 := Lib.hid (qAt_step HQA.out HE3.out HE4.out (by decide))
          rw [List.length_cons] at hlen
          clear hr7 HR7
          rw [hp2]
          go_wp2_with fail
          refine (byteN_any w1.heap.size w1.heap.size _ 34 34 w6 (by decide) HB6.out (by omega) (by omega)).mono ?_
          rintro e w7 ⟨rfl, hb7, hB7, _⟩
          have HB7 := Lib.hid hb7
          have HR9 := Lib.hid (HR8.out.under hB7 hRB)
          have HO7 := Lib.hid (HO6.out.thenBelow hB7 hw1)
          have hz7 := hB7.size
          clear hb7 hB7
          go_wp2
          go_roundg r2.length
          case measure => omega
          case rel => exact ⟨_, r2, x', Nat.le_refl _, by rw [List.length_append, halen, List.length_singleton]; omega, HR9.out, HB7.out, HO7.out, by omega, HQ2.out⟩
        · have h1f : Lib.hasPrefix (92 :: r) (⟨#[92, 34]⟩ : ByteArray).data.toList = false := Bool.eq_false_iff.2 h1
          have hr7 := HR7.out
          rw [trim_no h1f] at hr7
          have HR8a := Lib.hid hr7
          clear hr7 HR7 h1
          rw [h1f]
          go_wp2_with fail
          refine (rd_take R (92 :: r) x' ⟨#[92, 92]⟩ w6 HR8a.out).mono ?_
          rintro e w7 ⟨rfl, h7, o7⟩
          have hz7a := o7.size
          have HB7a := Lib.hid (HB6.out.only o7 hRB)
          have HO7a := Lib.hid (HO6.out.trans o7)
          have HR8b := Lib.hid h7
          clear h7 o7 HR8a
          by_cases h2 : Lib.hasPrefix (92 :: r) (⟨#[92, 92]⟩ : ByteArray).data.toList = true
          · have hp2 := h2
            obtain ⟨r2, rfl⟩ := pre_yes h2
            have hr7 := HR8b.out
            rw [trim_yes hp2] at hr7
            have HR8 := Lib.hid hr7
            have HQ2 := Lib.hid (qAt_step HQA.out HE3.out HE4.out (by decide))
            rw [List.length_cons] at hlen
            clear hr7 HR8b
            rw [hp2]
            go_wp2_with fail
            refine (byteN_any w1.heap.size w1.heap.size _ 92 92 w7 (by decide) HB7a.out (by omega) (by omega)).mono ?_
            rintro e w8 ⟨rfl, hb7, hB7, _⟩
            have HB7 := Lib.hid hb7
            have HR9 := Lib.hid (HR8.out.under hB7 hRB)
            have HO7 := Lib.hid (HO7a.out.thenBelow hB7 hw1)
            have hz7 := hB7.size
            clear hb7 hB7
            go_wp2
            go_roundg r2.length
            case measure => omega
            case rel => exact ⟨_, r2, x', Nat.le_refl _, by rw [List.length_append, halen, List.length_singleton]; omega, HR9.out, HB7.out, HO7.out, by omega, HQ2.out⟩
          · have h2f : Lib.hasPrefix (92 :: r) (⟨#[92, 92]⟩ : ByteArray).data.toList = false := Bool.eq_false_iff.2 h2
            have hn : unq (l.drop k) = none := by rw [HE3.out]; exact pre_none h1f h2f
            have HQ2 := Lib.hid (qAt_bad HQA.out hn HE4.out (acc ++ l.take k))
            clear h2 hn
            rw [h2f]
            go_wp2_with fail
            refine (rd_fail R _ _ w7 HR8b.out).mono ?_
            rintro e w8 ⟨rfl, h8, o8⟩
            have HR9 := Lib.hid h8
            have HO8 := Lib.hid (HO7a.out.trans o8)
            have HB8 := Lib.hid (HB7a.out.only o8 hRB)
            have hz8 := o8.size
            clear h8 o8
            go_wp2
            go_roundg 0
            case measure => omega
            case rel => exact ⟨_, [], true, Nat.le_refl _, by rw [halen, List.length_nil]; omega, HR9.out, HB8.out, HO8.out, by omega, HQ2.out⟩
end Go.Proofs.YtggoebbfgkebcaaDoor

namespace Go.Proofs.YtggoebbfgkebcaaDoor
open Go.RowKit Go.Sort Go.Maps

theorem ownsRow_only {w w' : World} {R base : Nat} {e : TypeId} {size : Nat} {v : Value} {n : Nat} {xs : List Value} (h : w.ownsRow base e size v n xs) (o : OnlyR R w w') (hR : R < base) : w'.ownsRow base e size v n xs := by
  refine ⟨h.1, ?_⟩
  rcases h.2 with hn | ⟨g, cap, cur, hv, hb, hg, rest⟩
  · exact .inl hn
  · exact .inr ⟨g, cap, cur, hv, hb, (o.block g (Array.getElem?_eq_some_iff.1 hg).1 (by omega)).trans hg, rest⟩

theorem drops_le (l : List UInt8) : (l.dropWhile small).length ≤ l.length := (List.dropWhile_sublist small).length_le
/-- The names behind the first, each with its comma ahead; and what is left. -/
def restNames (l : List UInt8) : List ByteArray × List UInt8 :=
  match l with
  | [] => ([], [])
  | c :: r => if c == 44 then (⟨(r.takeWhile small).toArray⟩ :: (restNames (r.dropWhile small)).1, (restNames (r.dropWhile small)).2) else ([], c :: r)
termination_by l.length
decreasing_by all_goals (have := drops_le r; simp only [List.length_cons]; omega)

theorem restNames_yes {l : List UInt8} (h : Lib.hasPrefix l [44] = true) : restNames l = (⟨((l.drop 1).takeWhile small).toArray⟩ :: (restNames ((l.drop 1).dropWhile small)).1, (restNames ((l.drop 1).dropWhile small)).2) := by
  cases l with
  | nil => simp [Lib.hasPrefix, List.isPrefixOf] at h
  | cons c r =>
    have hc : (c == 44) = true := by simp [Lib.hasPrefix, List.isPrefixOf] at h; simp [h]
    rw [restNames.eq_def]; simp only [hc, if_true]; rfl
theorem restNames_no {l : List UInt8} (h : Lib.hasPrefix l [44] = false) : restNames l = ([], l) := by
  cases l with
  | nil => rw [restNames.eq_def]
  | cons c r =>
    have hc : (c == 44) = false := by simp [Lib.hasPrefix, List.isPrefixOf] at h; simp; exact fun e => h e.symm
    rw [restNames.eq_def]; simp only [hc]; rfl

/-- Marks: what they are, what is left, whether they stand right. -/
def marksL (l : List UInt8) : List ByteArray × List UInt8 × Bool :=
  if Lib.hasPrefix l [60] then
    (⟨((l.drop 1).takeWhile small).toArray⟩ :: (restNames ((l.drop 1).dropWhile small)).1, wantL [62] (restNames ((l.drop 1).dropWhile small)).2, Lib.hasPrefix (restNames ((l.drop 1).dropWhile small)).2 [62])
  else ([], l, true)

/-- A row of strings of the call's own. -/
def SRow (w : World) (base : Nat) (v : Value) (m : List ByteArray) : Prop := w.ownsRow base 9 1 v m.length (m.map .string)
theorem SRow.strs {w : World} {base : Nat} {v : Value} {m : List ByteArray} (h : SRow w base v m) : Strs w (From base w.heap.size) v m := by
  rcases h.2 with ⟨rfl, hm⟩ | ⟨g, cap, cur, rfl, hb, hg, hnc, hcap, hsz, htk⟩
  · exact ⟨none, 0, by rw [hm], by omega, by unfold maxLen; omega, .inl (List.eq_nil_of_length_eq_zero hm)⟩
  · refine ⟨_, cap, rfl, hnc, hcap, .inr ⟨g, 0, rfl, ⟨hb, (Array.getElem?_eq_some_iff.1 hg).1⟩, fun i s hi => ?_⟩⟩
    have hlt : i < m.length := (List.getElem?_eq_some_iff.1 hi).1
    have e : (m.map Value.string)[i]? = some (.string s) := by rw [List.getElem?_map, hi]; rfl
    rw [← htk, List.getElem?_take, if_pos (by omega)] at e
    rw [Nat.zero_add]
    simpa [World.cell?, hg] using e

set_option maxHeartbeats 4000000 in
set_option maxRecDepth 100000 in
theorem rd_marks (R : Nat) (lq : List UInt8) (x : Bool) (w : World) (h : Rd w R lq x) (hl : lq.length ≤ 10000000) :
    Calls Tryd.prog 42 #[.pointer (some ⟨R, 0, none⟩)] w fun e w' =>
      ∃ v, e = .returned v ∧ SRow w' w.heap.size v (marksL lq).1 ∧ Rd w' R (marksL lq).2.1 (x || !(marksL lq).2.2) ∧ OnlyR R w w' := by
  have hRw := h.lt
  go_enter Tryd.func42, Tryd.ntmps42
  go_wp2_with fail
  refine (rd_take R lq x ⟨#[60]⟩ w h).mono ?_
  rintro e w1 ⟨rfl, h1, o1⟩
  have H1 := Lib.hid h1
  have O1 := Lib.hid o1
  have hw1 := o1.size
  clear h h1 o1
  by_cases hp : Lib.hasPrefix lq (⟨#[60]⟩ : ByteArray).data.toList = true
  · have h1 := H1.out
    rw [trim_yes hp] at h1
    have HM : Hid (marksL lq = (⟨((lq.drop 1).takeWhile small).toArray⟩ :: (restNames ((lq.drop 1).dropWhile small)).1, wantL [62] (restNames ((lq.drop 1).dropWhile small)).2, Lib.hasPrefix (restNames ((lq.drop 1).dropWhile small)).2 [62])) := Lib.hid (by unfold marksL; exact if_pos hp)
    change Rd w1 R (lq.drop 1) x at h1
    have hl1 : (lq.drop 1).length ≤ 10000000 := by rw [List.length_drop]; omega
    rw [hp]
    generalize lq.drop 1 = l1 at *
    have H2 := Lib.hid h1
    clear h1 H1 hp
    go_wp2_with fail
    refine (rd_name R l1 x w1 H2.out (by omega)).mono ?_
    rintro e w2 ⟨rfl, h3, o3⟩
    have hw2 := o3.size
    have O3 := Lib.hid (O1.out.trans o3)
    have H3 := Lib.hid h3
    clear h3 o3
    obtain ⟨n1, hn1⟩ : ∃ n1 : ByteArray, n1 = ⟨(l1.takeWhile small).toArray⟩ := ⟨_, rfl⟩
    have hl2 : (l1.dropWhile small).length ≤ 10000000 := Nat.le_trans (drops_le l1) hl1
    have hm := HM.out
    rw [← hn1] at hm ⊢
    have HM2 := Lib.hid hm
    clear hm HM hn1 hl1
    generalize l1.dropWhile small = l2 at *
    have hon : SRow (w2.alloc (.cells #[.string n1] 9)) w.heap.size (.slice (some ⟨w2.heap.size, 0, none⟩) 1 1) [n1] := World.ownsRow_lit w2 #[.string n1] 1 (by omega) (by unfold maxLen; omega) rfl
    have HON := Lib.hid hon
    have hbl : Below w2.heap.size w2 (w2.alloc (.cells #[.string n1] 9)) := (Below.refl _ _).alloc (Nat.le_refl _) _
    have HBL := Lib.hid hbl
    clear hon hbl
    go_wp2
    go_loopg [3] l2.length (fun g s3 wx => ∃ (m : List ByteArray) (l' : List UInt8), l'.length ≤ g ∧ m.length + l'.length ≤ 10000001 ∧ SRow wx w.heap.size s3 m ∧ Rd wx R l' x ∧ OnlyR R w wx ∧ m ++ (restNames l').1 = n1 :: (restNames l2).1 ∧ (restNames l').2 = (restNames l2).2)
    case atStart =>
      exact ⟨[n1], l2, Nat.le_refl _, by simp; omega, HON.out, H3.out.below HBL.out, O3.out.thenBelow HBL.out (by omega), rfl, rfl⟩
    case round =>
      obtain ⟨m, l', hg, hml, hs, hr, ho, hq1, hq2⟩ := hrel
      have HS := Lib.hid hs
      have HR := Lib.hid hr
      have HO := Lib.hid ho
      have HQ1 := Lib.hid hq1
      have HQ2 := Lib.hid hq2
      have hz := ho.size
      clear hs hr ho hq1 hq2
      go_wp2_with fail
      refine (rd_take R l' x ⟨#[44]⟩ wr HR.out).mono ?_
      rintro e w3 ⟨rfl, h3, o3⟩
      have hz3 := o3.size
      have HO3 := Lib.hid (HO.out.trans o3)
      have HS3 := Lib.hid (ownsRow_only HS.out o3 hRw)
      have HR3 := Lib.hid h3
      clear h3 o3
      by_cases hc : Lib.hasPrefix l' (⟨#[44]⟩ : ByteArray).data.toList = true
      · have h3 := HR3.out
        rw [trim_yes hc] at h3
        change Rd w3 R (l'.drop 1) x at h3
        have HY := Lib.hid (restNames_yes hc)
        have hne : 1 ≤ l'.length := by
          cases l' with
          | nil => simp [Lib.hasPrefix, List.isPrefixOf] at hc
          | cons _ _ => simp
        have hl4 : (l'.drop 1).length + 1 = l'.length := by rw [List.length_drop]; omega
        rw [hc]
        generalize l'.drop 1 = l4 at *
        have HR4 := Lib.hid h3
        clear h3 HR3 hc
        go_wp2_with fail
        refine (rd_name R l4 x w3 HR4.out (by omega)).mono ?_
        rintro e w4 ⟨rfl, h5, o5⟩
        have hz5 := o5.size
        have HO5 := Lib.hid (HO3.out.trans o5)
        have hs5 := ownsRow_only HS3.out o5 hRw
        have hl5 := drops_le l4
        obtain ⟨n5, hn5⟩ : ∃ n5 : ByteArray, n5 = ⟨(l4.takeWhile small).toArray⟩ := ⟨_, rfl⟩
        have hy := HY.out
        rw [← hn5] at hy ⊢
        generalize l4.dropWhile small = l5 at *
        have HY5 := Lib.hid hy
        have HS5 : Hid ((w4.alloc (.cells #[.string n5] 9)).ownsRow w.heap.size 9 1 u3 m.length (m.map .string)) := Lib.hid (World.ownsRow.alloc hs5 _)
        have HB5 : Hid (Below w4.heap.size w4 (w4.alloc (.cells #[.string n5] 9))) := Lib.hid ((Below.refl _ _).alloc (Nat.le_refl _) _)
        have HC5 : Hid (∀ j u, [Value.string n5][j]? = some u → (w4.alloc (.cells #[.string n5] 9)).cell? ⟨w4.heap.size, j, none⟩ = some u) := Lib.hid fun j u hj => fresh_cell w4 #[.string n5] _ j u (by simpa using hj)
        have HR5 := Lib.hid (h5.below HB5.out)
        have hz6 := HB5.out.size
        have HLT := hs5.lt
        have HL5 : Hid (∀ k, Value.ownBlock u3 = some k → w.heap.size ≤ k) := Lib.hid fun k hk => (HLT k hk).1
        clear h5 o5 hs5 hy hn5 HY HLT
        go_wp2_with (at_builtin; refine wpList_append_gen Tryd.underlying23 str_info rfl (by decide) (by decide) rfl (.tmp 12) (.tmp 15) rfl w.heap.size u3 m.length _ w4.heap.size 1 [.string n5] rfl rfl HS5.out rfl HC5.out (by intro u hu; simp only [List.mem_singleton] at hu; subst hu; rfl) (by omega) (by omega) ?_; intro v' w6 hown' hg')
        have hsr : SRow w6 w.heap.size v' (m ++ [n5]) := by unfold SRow; rw [List.length_append, List.map_append]; exact hown'
        have HSR := Lib.hid hsr
        have hbw : Below w.heap.size (w4.alloc (.cells #[.string n5] 9)) w6 := (Below.refl _ _).grown hg' (by omega) HL5.out
        have HR6 := Lib.hid (HR5.out.under hbw hRw)
        have HO6 := Lib.hid ((HO5.out.thenBelow HB5.out (by omega)).thenBelow hbw (Nat.le_refl _))
        clear hsr hown' hg' hbw
        go_wp2
        go_roundg l5.length
        case measure => omega
        case rel =>
          refine ⟨m ++ [n5], l5, Nat.le_refl _, by rw [List.length_append, List.length_singleton]; omega, HSR.out, HR6.out, HO6.out, ?_, ?_⟩
          · rw [← HQ1.out, HY5.out, List.append_assoc]; rfl
          · rw [← HQ2.out, HY5.out]
      · have hcf : Lib.hasPrefix l' (⟨#[44]⟩ : ByteArray).data.toList = false := Bool.eq_false_iff.2 hc
        have h3 := HR3.out
        rw [trim_no hcf] at h3
        have e1 := HQ1.out
        have e2 := HQ2.out
        rw [restNames_no hcf] at e1 e2
        have HE1 := Lib.hid ((List.append_nil m).symm.trans e1)
        have HE2 : Hid (l' = (restNames l2).2) := Lib.hid e2
        have HR4 := Lib.hid h3
        clear h3 HR3 e1 e2 hc
        rw [hcf]
        go_wp2_with fail
        refine (rd_want R l' x ⟨#[62]⟩ w3 HR4.out).mono ?_
        rintro e w4 ⟨rfl, h4, o4⟩
        have HO4 := Lib.hid (HO3.out.trans o4)
        have HS4 := Lib.hid (ownsRow_only HS3.out o4 hRw)
        have HR5 := Lib.hid h4
        clear h4 o4
        go_wp2
        go_ret
        refine ⟨_, rfl, ?_, ?_, HO4.out⟩
        · rw [HM2.out]; show SRow w4 w.heap.size _ (n1 :: _); rw [← HE1.out]; exact HS4.out
        · rw [HM2.out]; show Rd w4 R (wantL [62] (restNames l2).2) (x || !Lib.hasPrefix (restNames l2).2 [62]); rw [← HE2.out]; exact HR5.out
  · have hpf : Lib.hasPrefix lq (⟨#[60]⟩ : ByteArray).data.toList = false := Bool.eq_false_iff.2 hp
    have HM : Hid (marksL lq = ([], lq, true)) := Lib.hid (by unfold marksL; exact if_neg hp)
    have h1 := H1.out
    rw [trim_no hpf] at h1
    have H2 := Lib.hid h1
    clear h1 H1 hp
    rw [hpf]
    go_wp2
    go_ret
    refine ⟨_, rfl, ?_, ?_, O1.out⟩
    · rw [HM.out]; exact World.ownsRow_nil _ _ _ _
    · rw [HM.out]; simpa using H2.out
end Go.Proofs.YtggoebbfgkebcaaDoor

namespace Go.Proofs.YtggoebbfgkebcaaDoor
open Go.RowKit Go.Sort Go.Maps

theorem qL_pre {l : List UInt8} {p : List UInt8 × List UInt8} (h : qL l = some p) : Lib.hasPrefix l [34] = true := by
  cases hp : Lib.hasPrefix l [34] with
  | true => rfl
  | false => unfold qL wantL at h; rw [hp] at h; simp [unq] at h
theorem qL_want {l q : List UInt8} {p : List UInt8 × List UInt8} (h : qL (wantL q l) = some p) : Lib.hasPrefix l q = true := by
  cases hp : Lib.hasPrefix l q with
  | true => rfl
  | false =>
    have e : wantL q l = [] := by unfold wantL; rw [hp]; rfl
    rw [e] at h
    have := qL_pre h
    simp [Lib.hasPrefix, List.isPrefixOf] at this

/-- What is quoted, and what is left (none: it stands wrong). -/
def quoL (l : List UInt8) : ByteArray × Option (List UInt8) := match qL l with | some (s, r) => (⟨s.toArray⟩, some r) | none => (⟨#[]⟩, none)
theorem rd_quoted2 (R : Nat) (l : List UInt8) (x : Bool) (w : World) (h : Rd w R l x) (hl : l.length ≤ 10000000) :
    Calls Tryd.prog 41 #[.pointer (some ⟨R, 0, none⟩)] w fun e w' => e = .returned (.string (quoL l).1) ∧ Rd w' R ((quoL l).2.getD []) (x || (quoL l).2.isNone) ∧ OnlyR R w w' := by
  refine (rd_quoted R l x w h hl).mono ?_
  rintro e w' ⟨h1, h2⟩
  cases hq : qL l with
  | none =>
    rw [hq] at h1
    have : quoL l = (⟨#[]⟩, none) := by unfold quoL; rw [hq]
    rw [this]
    exact ⟨h1.1, by simpa using h1.2, h2⟩
  | some p =>
    obtain ⟨s, r⟩ := p
    have hp := qL_pre hq
    rw [hq, hp] at h1
    have : quoL l = (⟨s.toArray⟩, some r) := by unfold quoL; rw [hq]
    rw [this]
    exact ⟨h1.1, by simpa using h1.2, h2⟩

/-- An attribute, and what is left (none: it stands wrong). -/
def attrL (l : List UInt8) : (ByteArray × ByteArray) × Option (List UInt8) :=
  ((⟨(l.takeWhile small).toArray⟩, (quoL (wantL [61] (l.dropWhile small))).1), (quoL (wantL [61] (l.dropWhile small))).2)
theorem quo_wrong (l q : List UInt8) (x : Bool) : ((x || !Lib.hasPrefix l q) || (quoL (wantL q l)).2.isNone) = (x || (quoL (wantL q l)).2.isNone) := by
  cases hp : Lib.hasPrefix l q with
  | true => simp
  | false =>
    have : (quoL (wantL q l)).2.isNone = true := by
      cases hq : qL (wantL q l) with
      | none => unfold quoL; rw [hq]; rfl
      | some p => rw [qL_want hq] at hp; cases hp
    rw [this]; simp

set_option maxHeartbeats 2000000 in
theorem rd_attr (R : Nat) (l : List UInt8) (x : Bool) (w : World) (h : Rd w R l x) (hl : l.length ≤ 10000000) :
    Calls Tryd.prog 67 #[.pointer (some ⟨R, 0, none⟩)] w fun e w' =>
      e = .returned (.agg #[.string (attrL l).1.1, .string (attrL l).1.2]) ∧ Rd w' R ((attrL l).2.getD []) (x || (attrL l).2.isNone) ∧ OnlyR R w w' := by
  have hRw := h.lt
  have hb1 : Below w.heap.size w (w.alloc (.cells #[.string ⟨#[]⟩, .string ⟨#[]⟩] 37)) := (Below.refl _ _).alloc (Nat.le_refl _) _
  have H1 := Lib.hid (h.below hb1)
  have O1 := Lib.hid (OnlyR.of_below R hb1)
  have hz1 : w.heap.size < (w.alloc (.cells #[.string ⟨#[]⟩, .string ⟨#[]⟩] 37)).heap.size := by simp
  have HC : Hid ((w.alloc (.cells #[.string ⟨#[]⟩, .string ⟨#[]⟩] 37)).heap[w.heap.size]? = some (.cells #[.string ⟨#[]⟩, .string ⟨#[]⟩] 37)) := Lib.hid (heap_alloc_new w _)
  clear h hb1
  go_enter Tryd.func67, Tryd.ntmps67
  go_wp2_with fail
  generalize w.alloc (.cells #[.string ⟨#[]⟩, .string ⟨#[]⟩] 37) = w1 at *
  refine (rd_name R l x w1 H1.out (by omega)).mono ?_
  rintro e w2 ⟨rfl, h2, o2⟩
  have hl2 := drops_le l
  have H2 := Lib.hid h2
  have O2 := Lib.hid (O1.out.trans o2)
  have HC2 := Lib.hid ((o2.block _ hz1 (by omega)).trans HC.out)
  have hz2 := o2.size
  clear h2 o2
  go_wp2_with fail
  refine (rd_want R _ x ⟨#[61]⟩ w2 H2.out).mono ?_
  rintro e w3 ⟨rfl, h3, o3⟩
  change Rd w3 R (wantL [61] (l.dropWhile small)) (x || !Lib.hasPrefix (l.dropWhile small) [61]) at h3
  have hl3 := wantL_le [61] (l.dropWhile small)
  have H3 := Lib.hid h3
  have O3 := Lib.hid (O2.out.trans o3)
  have HC3 := Lib.hid ((o3.block _ (by omega) (by omega)).trans HC2.out)
  have hz3 := o3.size
  clear h3 o3
  go_wp2_with fail
  refine (rd_quoted2 R _ _ w3 H3.out (by omega)).mono ?_
  rintro e w4 ⟨rfl, h4, o4⟩
  rw [quo_wrong] at h4
  have H4 := Lib.hid h4
  have O4 := Lib.hid (O3.out.trans o4)
  have hc4 := (o4.block _ (by omega) (by omega)).trans HC3.out
  have hz4 := o4.size
  have c0 : w4.cell? ⟨w.heap.size, 0, none⟩ = some (.string ⟨#[]⟩) := by simp [World.cell?, hc4]
  have c1 : w4.cell? ⟨w.heap.size, 1, none⟩ = some (.string ⟨#[]⟩) := by simp [World.cell?, hc4]
  have f0 : w4.frozen? ⟨w.heap.size, 0, none⟩ = false := frozen_of_row w4 _ 0 _ _ hc4
  have f1 : w4.frozen? ⟨w.heap.size, 1, none⟩ = false := frozen_of_row w4 _ 1 _ _ hc4
  have HC4 := Lib.hid hc4
  clear h4 o4 hc4
  go_wp2
  have q := heap_setCell_same _ _ 1 _ _ (.string (quoL (wantL [61] (l.dropWhile small))).1) (heap_setCell_same w4 _ 0 _ _ (.string ⟨(l.takeWhile small).toArray⟩) HC4.out)
  have hb : Below w.heap.size w4 ((w4.setCell ⟨w.heap.size, 0, none⟩ (.string ⟨(l.takeWhile small).toArray⟩)).setCell ⟨w.heap.size, 1, none⟩ (.string (quoL (wantL [61] (l.dropWhile small))).1)) := ((Below.refl _ _).setCell (p := ⟨w.heap.size, 0, none⟩) (Nat.le_refl _) _).setCell (p := ⟨w.heap.size, 1, none⟩) (Nat.le_refl _) _
  generalize (w4.setCell ⟨w.heap.size, 0, none⟩ (.string ⟨(l.takeWhile small).toArray⟩)).setCell ⟨w.heap.size, 1, none⟩ (.string (quoL (wantL [61] (l.dropWhile small))).1) = W at *
  have q0 : W.cell? ⟨w.heap.size, 0, none⟩ = some (.string ⟨(l.takeWhile small).toArray⟩) := by simp [World.cell?, q]
  have q1 : W.cell? ⟨w.heap.size, 1, none⟩ = some (.string (quoL (wantL [61] (l.dropWhile small))).1) := by simp [World.cell?, q]
  refine bodyPost_ret (v := .agg #[.string (attrL l).1.1, .string (attrL l).1.2]) (by simp [results, Tryd.results67, go_sem, q0, q1, attrL]) rfl ⟨rfl, H4.out.under hb hRw, O4.out.thenBelow hb (Nat.le_refl _)⟩

theorem unq_len : ∀ (n : Nat) (l s r : List UInt8), l.length ≤ n → unq l = some (s, r) → s.length + r.length < l.length
  | n, [], s, r, _, h => by simp [unq] at h
  | 0, _ :: _, _, _, hn, _ => by simp at hn
  | n + 1, c :: l, s, r, hn, h => by
    have hn' : l.length ≤ n := by simpa using hn
    rw [unq.eq_def] at h
    simp only at h
    split at h
    · injection h with h; injection h with h1 h2; subst h1; subst h2; simp
    · split at h
      · cases l with
        | nil => simp at h
        | cons d l' =>
          simp only at h
          split at h
          · cases hu : unq l' with
            | none => rw [hu] at h; simp at h
            | some p =>
              obtain ⟨s', r'⟩ := p
              rw [hu] at h
              simp at h
              have := unq_len n l' s' r' (by simp at hn'; omega) hu
              obtain ⟨h1, h2⟩ := h
              subst h1; subst h2
              simp; omega
          · simp at h
      · cases hu : unq l with
        | none => rw [hu] at h; simp at h
        | some p =>
          obtain ⟨s', r'⟩ := p
          rw [hu] at h
          simp at h
          have := unq_len n l s' r' hn' hu
          obtain ⟨h1, h2⟩ := h
          subst h1; subst h2
          simp; omega
theorem quo_le (l : List UInt8) : ((quoL l).2.getD []).length ≤ l.length := by
  cases hq : qL l with
  | none => unfold quoL; rw [hq]; simp
  | some p =>
    obtain ⟨s, r⟩ := p
    have h1 := unq_len _ _ s r (Nat.le_refl _) hq
    have h2 := wantL_le [34] l
    unfold quoL; rw [hq]
    show r.length ≤ _
    omega
theorem attr_le (l : List UInt8) : ((attrL l).2.getD []).length ≤ l.length :=
  Nat.le_trans (quo_le _) (Nat.le_trans (wantL_le _ _) (drops_le l))

/-- The attributes behind the first, each with its blank ahead; what is left; whether one stands wrong. -/
def restAttrs (l : List UInt8) : List (ByteArray × ByteArray) × List UInt8 × Bool :=
  if _h : Lib.hasPrefix l [32] = true then
    ((attrL (l.drop 1)).1 :: (restAttrs ((attrL (l.drop 1)).2.getD [])).1, (restAttrs ((attrL (l.drop 1)).2.getD [])).2.1, (attrL (l.drop 1)).2.isNone || (restAttrs ((attrL (l.drop 1)).2.getD [])).2.2)
  else ([], l, false)
termination_by l.length
decreasing_by
  all_goals
    have h1 := attr_le (l.drop 1)
    have h2 : 1 ≤ l.length := by
      cases l with
      | nil => simp [Lib.hasPrefix, List.isPrefixOf] at _h
      | cons _ _ => simp
    rw [List.length_drop] at h1
    omega
theorem restAttrs_yes {l : List UInt8} (h : Lib.hasPrefix l [32] = true) : restAttrs l = ((attrL (l.drop 1)).1 :: (restAttrs ((attrL (l.drop 1)).2.getD [])).1, (restAttrs ((attrL (l.drop 1)).2.getD [])).2.1, (attrL (l.drop 1)).2.isNone || (restAttrs ((attrL (l.drop 1)).2.getD [])).2.2) := by
  rw [restAttrs.eq_def]; exact dif_pos h
theorem restAttrs_no {l : List UInt8} (h : Lib.hasPrefix l [32] = false) : restAttrs l = ([], l, false) := by
  rw [restAttrs.eq_def]; exact dif_neg (by rw [h]; decide)
/-- Attributes: what they are, what is left, whether something stands wrong. -/
def attrsL (l : List UInt8) : List (ByteArray × ByteArray) × List UInt8 × Bool :=
  if Lib.hasPrefix l [40] then
    ((attrL (l.drop 1)).1 :: (restAttrs ((attrL (l.drop 1)).2.getD [])).1, wantL [41] (restAttrs ((attrL (l.drop 1)).2.getD [])).2.1,
      ((attrL (l.drop 1)).2.isNone || (restAttrs ((attrL (l.drop 1)).2.getD [])).2.2) || !Lib.hasPrefix (restAttrs ((attrL (l.drop 1)).2.getD [])).2.1 [41])
  else ([], l, false)

/-- A row of attributes of the call's own. -/
def flatA (m : List (ByteArray × ByteArray)) : List Value := m.flatMap fun p => [.string p.1, .string p.2]
theorem flatA_append (a b : List (ByteArray × ByteArray)) : flatA (a ++ b) = flatA a ++ flatA b := List.flatMap_append
theorem flatA_get : ∀ (m : List (ByteArray × ByteArray)) (i : Nat) (p : ByteArray × ByteArray), m[i]? = some p → (flatA m)[i * 2]? = some (.string p.1) ∧ (flatA m)[i * 2 + 1]? = some (.string p.2)
  | [], i, p, h => by simp at h
  | q :: m, 0, p, h => by simp at h; subst h; exact ⟨rfl, rfl⟩
  | q :: m, i + 1, p, h => by
    have := flatA_get m i p (by simpa using h)
    rw [show (i + 1) * 2 = i * 2 + 2 by omega]
    exact this
def PRow (w : World) (base : Nat) (v : Value) (m : List (ByteArray × ByteArray)) : Prop := w.ownsRow base 37 2 v m.length (flatA m)
theorem PRow.pairs {w : World} {base : Nat} {v : Value} {m : List (ByteArray × ByteArray)} (h : PRow w base v m) : Pairs w (From base w.heap.size) v m := by
  rcases h.2 with ⟨rfl, hm⟩ | ⟨g, cap, cur, rfl, hb, hg, hnc, hcap, hsz, htk⟩
  · exact ⟨none, 0, by rw [hm], by omega, by unfold maxLen; omega, .inl (List.eq_nil_of_length_eq_zero hm)⟩
  · refine ⟨_, cap, rfl, hnc, hcap, .inr ⟨g, 0, rfl, ⟨hb, (Array.getElem?_eq_some_iff.1 hg).1⟩, fun i p hi => ?_⟩⟩
    have hlt : i < m.length := (List.getElem?_eq_some_iff.1 hi).1
    obtain ⟨e1, e2⟩ := flatA_get m i p hi
    rw [← htk, List.getElem?_take, if_pos (by omega)] at e1 e2
    rw [Nat.zero_add]
    exact ⟨by simpa [World.cell?, hg] using e1, by simpa [World.cell?, hg] using e2⟩
end Go.Proofs.YtggoebbfgkebcaaDoor

namespace Go.Proofs.YtggoebbfgkebcaaDoor
open Go.RowKit Go.Sort Go.Maps

set_option maxHeartbeats 4000000 in
set_option maxRecDepth 100000 in
theorem rd_attrs (R : Nat) (lq : List UInt8) (x : Bool) (w : World) (h : Rd w R lq x) (hl : lq.length ≤ 10000000) :
    Calls Tryd.prog 45 #[.pointer (some ⟨R, 0, none⟩)] w fun e w' =>
      ∃ v, e = .returned v ∧ PRow w' w.heap.size v (attrsL lq).1 ∧ Rd w' R (attrsL lq).2.1 (x || (attrsL lq).2.2) ∧ OnlyR R w w' := by
  have hRw := h.lt
  go_enter Tryd.func45, Tryd.ntmps45
  go_wp2_with fail
  refine (rd_take R lq x ⟨#[40]⟩ w h).mono ?_
  rintro e w1 ⟨rfl, h1, o1⟩
  have H1 := Lib.hid h1
  have O1 := Lib.hid o1
  have hw1 := o1.size
  clear h h1 o1
  by_cases hp : Lib.hasPrefix lq (⟨#[40]⟩ : ByteArray).data.toList = true
  · have h1 := H1.out
    rw [trim_yes hp] at h1
    have HM : Hid (attrsL lq = ((attrL (lq.drop 1)).1 :: (restAttrs ((attrL (lq.drop 1)).2.getD [])).1, wantL [41] (restAttrs ((attrL (lq.drop 1)).2.getD [])).2.1,
      ((attrL (lq.drop 1)).2.isNone || (restAttrs ((attrL (lq.drop 1)).2.getD [])).2.2) || !Lib.hasPrefix (restAttrs ((attrL (lq.drop 1)).2.getD [])).2.1 [41])) := Lib.hid (by unfold attrsL; exact if_pos hp)
    change Rd w1 R (lq.drop 1) x at h1
    have hl1 : (lq.drop 1).length ≤ 10000000 := by rw [List.length_drop]; omega
    rw [hp]
    generalize lq.drop 1 = l1 at *
    have H2 := Lib.hid h1
    clear h1 H1 hp
    go_wp2_with fail
    refine (rd_attr R l1 x w1 H2.out (by omega)).mono ?_
    rintro e w2 ⟨rfl, h3, o3⟩
    have hw2 := o3.size
    have O3 := Lib.hid (O1.out.trans o3)
    have H3 := Lib.hid h3
    clear h3 o3
    have hl2 : ((attrL l1).2.getD []).length ≤ 10000000 := Nat.le_trans (attr_le l1) hl1
    have HM2 := Lib.hid HM.out
    clear HM hl1
    generalize (attrL l1).1 = n1 at *
    generalize (attrL l1).2.getD [] = l2 at *
    generalize (attrL l1).2.isNone = x1 at *
    have hon : PRow (w2.alloc (.cells #[.string n1.1, .string n1.2] 37)) w.heap.size (.slice (some ⟨w2.heap.size, 0, none⟩) 1 1) [n1] := World.ownsRow_lit w2 #[.string n1.1, .string n1.2] 1 (by omega) (by unfold maxLen; omega) rfl
    have HON := Lib.hid hon
    have hbl : Below w2.heap.size w2 (w2.alloc (.cells #[.string n1.1, .string n1.2] 37)) := (Below.refl _ _).alloc (Nat.le_refl _) _
    have HBL := Lib.hid hbl
    clear hon hbl
    go_wp2
    go_loopg [3] l2.length (fun g s3 wx => ∃ (m : List (ByteArray × ByteArray)) (l' : List UInt8) (x' : Bool), l'.length ≤ g ∧ m.length + l'.length ≤ 10000001 ∧ PRow wx w.heap.size s3 m ∧ Rd wx R l' x' ∧ OnlyR R w wx ∧ m ++ (restAttrs l').1 = n1 :: (restAttrs l2).1 ∧ (restAttrs l').2.1 = (restAttrs l2).2.1 ∧ (x' || (restAttrs l').2.2) = ((x || x1) || (restAttrs l2).2.2))
    case atStart =>
      exact ⟨[n1], l2, x || x1, Nat.le_refl _, by simp; omega, HON.out, H3.out.below HBL.out, O3.out.thenBelow HBL.out (by omega), rfl, rfl, rfl⟩
    case round =>
      obtain ⟨m, l', x', hg, hml, hs, hr, ho, hq1, hq2, hq3⟩ := hrel
      have HS := Lib.hid hs
      have HR := Lib.hid hr
      have HO := Lib.hid ho
      have HQ1 := Lib.hid hq1
      have HQ2 := Lib.hid hq2
      have HQ3 := Lib.hid hq3
      have hz := ho.size
      clear hs hr ho hq1 hq2 hq3
      go_wp2_with fail
      refine (rd_take R l' x' ⟨#[32]⟩ wr HR.out).mono ?_
      rintro e w3 ⟨rfl, h3, o3⟩
      have hz3 := o3.size
      have HO3 := Lib.hid (HO.out.trans o3)
      have HS3 := Lib.hid (ownsRow_only HS.out o3 hRw)
      have HR3 := Lib.hid h3
      clear h3 o3
      by_cases hc : Lib.hasPrefix l' (⟨#[32]⟩ : ByteArray).data.toList = true
      · have h3 := HR3.out
        rw [trim_yes hc] at h3
        change Rd w3 R (l'.drop 1) x' at h3
        have HY := Lib.hid (restAttrs_yes hc)
        have hne : 1 ≤ l'.length := by
          cases l' with
          | nil => simp [Lib.hasPrefix, List.isPrefixOf] at hc
          | cons _ _ => simp
        have hl4 : (l'.drop 1).length + 1 = l'.length := by rw [List.length_drop]; omega
        rw [hc]
        generalize l'.drop 1 = l4 at *
        have HR4 := Lib.hid h3
        clear h3 HR3 hc
        go_wp2_with fail
        refine (rd_attr R l4 x' w3 HR4.out (by omega)).mono ?_
        rintro e w4 ⟨rfl, h5, o5⟩
        have hz5 := o5.size
        have HO5 := Lib.hid (HO3.out.trans o5)
        have hs5 := ownsRow_only HS3.out o5 hRw
        have hl5 := attr_le l4
        have hy := HY.out
        generalize (attrL l4).1 = n5 at *
        generalize (attrL l4).2.getD [] = l5 at *
        generalize (attrL l4).2.isNone = x5 at *
        have HY5 := Lib.hid hy
        have HS5 : Hid ((w4.alloc (.cells #[.string n5.1, .string n5.2] 37)).ownsRow w.heap.size 37 2 u3 m.length (flatA m)) := Lib.hid (World.ownsRow.alloc hs5 _)
        have HB5 : Hid (Below w4.heap.size w4 (w4.alloc (.cells #[.string n5.1, .string n5.2] 37))) := Lib.hid ((Below.refl _ _).alloc (Nat.le_refl _) _)
        have HC5 : Hid (∀ j u, [Value.string n5.1, Value.string n5.2][j]? = some u → (w4.alloc (.cells #[.string n5.1, .string n5.2] 37)).cell? ⟨w4.heap.size, j, none⟩ = some u) := Lib.hid fun j u hj => fresh_cell w4 #[.string n5.1, .string n5.2] _ j u (by simpa using hj)
        have HR5 := Lib.hid (h5.below HB5.out)
        have hz6 := HB5.out.size
        have HLT := hs5.lt
        have HL5 : Hid (∀ k, Value.ownBlock u3 = some k → w.heap.size ≤ k) := Lib.hid fun k hk => (HLT k hk).1
        clear h5 o5 hs5 hy HY HLT
        go_wp2_with (at_builtin; refine wpList_append_gen Tryd.underlying24 pair_info rfl (by decide) (by decide) rfl (.tmp 12) (.tmp 15) rfl w.heap.size u3 m.length _ w4.heap.size 1 [.string n5.1, .string n5.2] rfl rfl HS5.out rfl HC5.out (by intro u hu; simp only [List.mem_cons, List.not_mem_nil, or_false] at hu; rcases hu with rfl | rfl <;> rfl) (by omega) (by omega) ?_; intro v' w6 hown' hg')
        have hsr : PRow w6 w.heap.size v' (m ++ [n5]) := by unfold PRow; rw [List.length_append, flatA_append]; exact hown'
        have HSR := Lib.hid hsr
        have hbw : Below w.heap.size (w4.alloc (.cells #[.string n5.1, .string n5.2] 37)) w6 := (Below.refl _ _).grown hg' (by omega) HL5.out
        have HR6 := Lib.hid (HR5.out.under hbw hRw)
        have HO6 := Lib.hid ((HO5.out.thenBelow HB5.out (by omega)).thenBelow hbw (Nat.le_refl _))
        clear hsr hown' hg' hbw
        go_wp2
        go_roundg l5.length
        case measure => omega
        case rel =>
          refine ⟨m ++ [n5], l5, x' || x5, Nat.le_refl _, by rw [List.length_append, List.length_singleton]; omega, HSR.out, HR6.out, HO6.out, ?_, ?_, ?_⟩
          · rw [← HQ1.out, HY5.out, List.append_assoc]; rfl
          · rw [← HQ2.out, HY5.out]
          · rw [← HQ3.out, HY5.out, Bool.or_assoc]
      · have hcf : Lib.hasPrefix l' (⟨#[32]⟩ : ByteArray).data.toList = false := Bool.eq_false_iff.2 hc
        have h3 := HR3.out
        rw [trim_no hcf] at h3
        have e1 := HQ1.out
        have e2 := HQ2.out
        have e3 := HQ3.out
        rw [restAttrs_no hcf] at e1 e2 e3
        have HE1 := Lib.hid ((List.append_nil m).symm.trans e1)
        have HE2 : Hid (l' = (restAttrs l2).2.1) := Lib.hid e2
        have HE3 : Hid (x' = ((x || x1) || (restAttrs l2).2.2)) := Lib.hid ((Bool.or_false x').symm.trans e3)
        have HR4 := Lib.hid h3
        clear h3 HR3 e1 e2 e3 hc
        rw [hcf]
        go_wp2_with fail
        refine (rd_want R l' x' ⟨#[41]⟩ w3 HR4.out).mono ?_
        rintro e w4 ⟨rfl, h4, o4⟩
        have HO4 := Lib.hid (HO3.out.trans o4)
        have HS4 := Lib.hid (ownsRow_only HS3.out o4 hRw)
        have HR5 := Lib.hid h4
        clear h4 o4
        go_wp2
        go_ret
        refine ⟨_, rfl, ?_, ?_, HO4.out⟩
        · rw [HM2.out]; show PRow w4 w.heap.size _ (n1 :: _); rw [← HE1.out]; exact HS4.out
        · rw [HM2.out]
          show Rd w4 R (wantL [41] (restAttrs l2).2.1) (x || ((x1 || (restAttrs l2).2.2) || !Lib.hasPrefix (restAttrs l2).2.1 [41]))
          have := HR5.out
          rw [HE3.out, HE2.out] at this
          rw [← Bool.or_assoc, ← Bool.or_assoc]
          exact this
  · have hpf : Lib.hasPrefix lq (⟨#[40]⟩ : ByteArray).data.toList = false := Bool.eq_false_iff.2 hp
    have HM : Hid (attrsL lq = ([], lq, false)) := Lib.hid (by unfold attrsL; exact if_neg hp)
    have h1 := H1.out
    rw [trim_no hpf] at h1
    have H2 := Lib.hid h1
    clear h1 H1 hp
    rw [hpf]
    go_wp2
    go_ret
    refine ⟨_, rfl, ?_, ?_, O1.out⟩
    · rw [HM.out]; exact World.ownsRow_nil _ _ _ _
    · rw [HM.out]; simpa using H2.out
end Go.Proofs.YtggoebbfgkebcaaDoor

namespace Go.Proofs.YtggoebbfgkebcaaDoor
open Go.RowKit

def TEXT : ByteArray := ⟨#[116, 101, 120, 116]⟩
theorem strs_nil {w : World} {S : Nat → Prop} : Strs w S (.slice none 0 0) [] := ⟨none, 0, rfl, Nat.le_refl _, by unfold maxLen; omega, .inl rfl⟩
theorem pairs_nil {w : World} {S : Nat → Prop} : Pairs w S (.slice none 0 0) [] := ⟨none, 0, rfl, Nat.le_refl _, by unfold maxLen; omega, .inl rfl⟩
theorem kids_nil {w : World} {S : Nat → Prop} : Kids w S (.slice none 0 0) [] := ⟨none, 0, rfl, Nat.le_refl _, by unfold maxLen; omega, .inl rfl⟩
end Go.Proofs.YtggoebbfgkebcaaDoor

namespace Go.Proofs.YtggoebbfgkebcaaDoor
open Go.RowKit Go.Sort Go.Maps

def put5 (w : World) (g : Nat) (v0 v1 v2 v3 v4 : Value) : World := ((((w.setCell ⟨g, 0, none⟩ v0).setCell ⟨g, 1, none⟩ v1).setCell ⟨g, 2, none⟩ v2).setCell ⟨g, 3, none⟩ v3).setCell ⟨g, 4, none⟩ v4
theorem put5_at {w : World} {g : Nat} {u0 u1 u2 u3 u4 : Value} {T : TypeId} (h : w.heap[g]? = some (.cells #[u0, u1, u2, u3, u4] T)) (v0 v1 v2 v3 v4 : Value) : (put5 w g v0 v1 v2 v3 v4).heap[g]? = some (.cells #[v0, v1, v2, v3, v4] T) :=
  heap_setCell_same _ g 4 _ T v4 (heap_setCell_same _ g 3 _ T v3 (heap_setCell_same _ g 2 _ T v2 (heap_setCell_same _ g 1 _ T v1 (heap_setCell_same w g 0 _ T v0 h))))
theorem put5_only (w : World) (g : Nat) (v0 v1 v2 v3 v4 : Value) : OnlyR g w (put5 w g v0 v1 v2 v3 v4) :=
  ((((OnlyR.set g 0 w v0).trans (OnlyR.set g 1 _ v1)).trans (OnlyR.set g 2 _ v2)).trans (OnlyR.set g 3 _ v3)).trans (OnlyR.set g 4 _ v4)
theorem put5_size (w : World) (g : Nat) (v0 v1 v2 v3 v4 : Value) : (put5 w g v0 v1 v2 v3 v4).heap.size = w.heap.size := by simp [put5, World.setCell]
/-- A text as it is read: what it is, what is left, whether something stands wrong. -/
def textL (l : List UInt8) : Tree × List UInt8 × Bool :=
  (.mk TEXT (quoL l).1 (marksL ((quoL l).2.getD [])).1 [] [], (marksL ((quoL l).2.getD [])).2.1, (quoL l).2.isNone || !(marksL ((quoL l).2.getD [])).2.2)
/-- A head as it is read. -/
def headL (l : List UInt8) : Tree × List UInt8 × Bool :=
  (.mk ⟨(l.takeWhile small).toArray⟩ ⟨#[]⟩ [] (attrsL (l.dropWhile small)).1 [], wantL [91] (attrsL (l.dropWhile small)).2.1, (attrsL (l.dropWhile small)).2.2 || !Lib.hasPrefix (attrsL (l.dropWhile small)).2.1 [91])

set_option maxHeartbeats 2000000 in
theorem rd_text (R : Nat) (l : List UInt8) (x : Bool) (w : World) (h : Rd w R l x) (hl : l.length ≤ 10000000) :
    Calls Tryd.prog 21 #[.pointer (some ⟨R, 0, none⟩)] w fun e w' =>
      ∃ v, e = .returned v ∧ Node w' (From w.heap.size w'.heap.size) v (textL l).1 ∧ Rd w' R (textL l).2.1 (x || (textL l).2.2) ∧ OnlyR R w w' := by
  have hRw := h.lt
  have hb1 : Below w.heap.size w (w.alloc (.cells #[.string ⟨#[]⟩, .string ⟨#[]⟩, .slice none 0 0, .slice none 0 0, .slice none 0 0] 27)) := (Below.refl _ _).alloc (Nat.le_refl _) _
  have H1 := Lib.hid (h.below hb1)
  have O1 := Lib.hid (OnlyR.of_below R hb1)
  have hz1 : w.heap.size < (w.alloc (.cells #[.string ⟨#[]⟩, .string ⟨#[]⟩, .slice none 0 0, .slice none 0 0, .slice none 0 0] 27)).heap.size := by simp
  have HC : Hid ((w.alloc (.cells #[.string ⟨#[]⟩, .string ⟨#[]⟩, .slice none 0 0, .slice none 0 0, .slice none 0 0] 27)).heap[w.heap.size]? = some (.cells #[.string ⟨#[]⟩, .string ⟨#[]⟩, .slice none 0 0, .slice none 0 0, .slice none 0 0] 27)) := Lib.hid (heap_alloc_new w _)
  clear h hb1
  go_enter Tryd.func21, Tryd.ntmps21
  go_wp2_with fail
  generalize w.alloc (.cells #[.string ⟨#[]⟩, .string ⟨#[]⟩, .slice none 0 0, .slice none 0 0, .slice none 0 0] 27) = w1 at *
  refine (rd_quoted2 R l x w1 H1.out (by omega)).mono ?_
  rintro e w2 ⟨rfl, h2, o2⟩
  have hl2 := quo_le l
  have H2 := Lib.hid h2
  have O2 := Lib.hid (O1.out.trans o2)
  have HC2 := Lib.hid ((o2.block _ hz1 (by omega)).trans HC.out)
  have hz2 := o2.size
  clear h2 o2
  go_wp2_with fail
  refine (rd_marks R _ _ w2 H2.out (by omega)).mono ?_
  rintro e w3 ⟨v3, rfl, hs3, h3, o3⟩
  have ht : textL l = (.mk TEXT (quoL l).1 (marksL ((quoL l).2.getD [])).1 [] [], (marksL ((quoL l).2.getD [])).2.1, (quoL l).2.isNone || !(marksL ((quoL l).2.getD [])).2.2) := rfl
  have HT := Lib.hid ht
  clear ht
  have hst := hs3.strs
  obtain ⟨A, c, rfl, _⟩ := hst.form
  have HST := Lib.hid hst
  rw [Bool.or_assoc] at h3
  have H3 := Lib.hid h3
  have O3 := Lib.hid (O2.out.trans o3)
  have hc3 := (o3.block _ (by omega) (by omega)).trans HC2.out
  have HC3 := Lib.hid hc3
  have hz3 := o3.size
  obtain ⟨c0, c1, c2, c3, c4⟩ := five_cells hc3
  have f0 := frozen_of_row w3 _ 0 _ _ hc3
  have f1 := frozen_of_row w3 _ 1 _ _ hc3
  have f2 := frozen_of_row w3 _ 2 _ _ hc3
  have f3 := frozen_of_row w3 _ 3 _ _ hc3
  have f4 := frozen_of_row w3 _ 4 _ _ hc3
  clear hs3 hst h3 o3 hc3
  go_wp2
  have q := put5_at HC3.out (.string TEXT) (.string (quoL l).1) (.slice A (marksL ((quoL l).2.getD [])).1.length c) (.slice none 0 0) (.slice none 0 0)
  have o4 := put5_only w3 w.heap.size (.string TEXT) (.string (quoL l).1) (.slice A (marksL ((quoL l).2.getD [])).1.length c) (.slice none 0 0) (.slice none 0 0)
  change bodyPost _ _ _ _ _ (put5 w3 w.heap.size (.string TEXT) (.string (quoL l).1) (.slice A (marksL ((quoL l).2.getD [])).1.length c) (.slice none 0 0) (.slice none 0 0))
  generalize put5 w3 w.heap.size (.string TEXT) (.string (quoL l).1) (.slice A (marksL ((quoL l).2.getD [])).1.length c) (.slice none 0 0) (.slice none 0 0) = W at *
  have hb4 : Below w.heap.size w3 W := o4.below (Nat.le_refl _) (by omega)
  have hz4 := o4.size
  obtain ⟨q0, q1, q2, q3, q4⟩ := five_cells q
  refine bodyPost_ret (v := .agg #[.string TEXT, .string (quoL l).1, .slice A (marksL ((quoL l).2.getD [])).1.length c, .slice none 0 0, .slice none 0 0]) (by simp [results, Tryd.results21, go_sem, q0, q1, q2, q3, q4]) rfl ⟨_, rfl, ?_, ?_, O3.out.thenBelow hb4 (Nat.le_refl _)⟩
  · rw [HT.out]
    refine ⟨_, _, _, rfl, HST.out.keep (fun b hb => ⟨by have := hb.1; omega, by have := hb.2; omega⟩) (fun b hb => o4.block b hb.2 (by have := hb.1; omega)), pairs_nil, kids_nil⟩
  · rw [HT.out]; exact H3.out.under hb4 hRw

set_option maxHeartbeats 2000000 in
theorem rd_head (R : Nat) (l : List UInt8) (x : Bool) (w : World) (h : Rd w R l x) (hl : l.length ≤ 10000000) :
    Calls Tryd.prog 23 #[.pointer (some ⟨R, 0, none⟩)] w fun e w' =>
      ∃ va, e = .returned (.agg #[.string (headL l).1.kind, .string (headL l).1.text, .slice none 0 0, va, .slice none 0 0]) ∧ Pairs w' (From w.heap.size w'.heap.size) va (headL l).1.attrs ∧ Rd w' R (headL l).2.1 (x || (headL l).2.2) ∧ OnlyR R w w' := by
  have hRw := h.lt
  have hb1 : Below w.heap.size w (w.alloc (.cells #[.string ⟨#[]⟩, .string ⟨#[]⟩, .slice none 0 0, .slice none 0 0, .slice none 0 0] 27)) := (Below.refl _ _).alloc (Nat.le_refl _) _
  have H1 := Lib.hid (h.below hb1)
  have O1 := Lib.hid (OnlyR.of_below R hb1)
  have hz1 : w.heap.size < (w.alloc (.cells #[.string ⟨#[]⟩, .string ⟨#[]⟩, .slice none 0 0, .slice none 0 0, .slice none 0 0] 27)).heap.size := by simp
  have HC : Hid ((w.alloc (.cells #[.string ⟨#[]⟩, .string ⟨#[]⟩, .slice none 0 0, .slice none 0 0, .slice none 0 0] 27)).heap[w.heap.size]? = some (.cells #[.string ⟨#[]⟩, .string ⟨#[]⟩, .slice none 0 0, .slice none 0 0, .slice none 0 0] 27)) := Lib.hid (heap_alloc_new w _)
  clear h hb1
  go_enter Tryd.func23, Tryd.ntmps23
  go_wp2_with fail
  generalize w.alloc (.cells #[.string ⟨#[]⟩, .string ⟨#[]⟩, .slice none 0 0, .slice none 0 0, .slice none 0 0] 27) = w1 at *
  refine (rd_name R l x w1 H1.out (by omega)).mono ?_
  rintro e w2 ⟨rfl, h2, o2⟩
  have hl2 := drops_le l
  have H2 := Lib.hid h2
  have O2 := Lib.hid (O1.out.trans o2)
  have HC2 := Lib.hid ((o2.block _ hz1 (by omega)).trans HC.out)
  have hz2 := o2.size
  clear h2 o2
  go_wp2_with fail
  refine (rd_attrs R _ _ w2 H2.out (by omega)).mono ?_
  rintro e w3 ⟨v3, rfl, hs3, h3, o3⟩
  have ht : headL l = (.mk ⟨(l.takeWhile small).toArray⟩ ⟨#[]⟩ [] (attrsL (l.dropWhile small)).1 [], wantL [91] (attrsL (l.dropWhile small)).2.1, (attrsL (l.dropWhile small)).2.2 || !Lib.hasPrefix (attrsL (l.dropWhile small)).2.1 [91]) := rfl
  have HT := Lib.hid ht
  clear ht
  have hst := hs3.pairs
  obtain ⟨A, c, rfl, _⟩ := hst.form
  have HST := Lib.hid hst
  have H3 := Lib.hid h3
  have O3 := Lib.hid (O2.out.trans o3)
  have HC3 := Lib.hid ((o3.block _ (by omega) (by omega)).trans HC2.out)
  have hz3 := o3.size
  clear hs3 hst h3 o3
  generalize hk : (⟨(l.takeWhile small).toArray⟩ : ByteArray) = kk at *
  generalize hva : Value.slice A (attrsL (l.dropWhile small)).1.length c = va at *
  have hb4 : Below w3.heap.size w3 (w3.alloc (.cells #[.string kk, .string ⟨#[]⟩, .slice none 0 0, va, .slice none 0 0] 27)) := (Below.refl _ _).alloc (Nat.le_refl _) _
  have H4 := Lib.hid (H3.out.below hb4)
  have O4 := Lib.hid (O3.out.thenBelow hb4 (by omega))
  have HC4 := Lib.hid ((hb4.block _ (by omega)).trans HC3.out)
  have HN4 : Hid ((w3.alloc (.cells #[.string kk, .string ⟨#[]⟩, .slice none 0 0, va, .slice none 0 0] 27)).heap[w3.heap.size]? = some (.cells #[.string kk, .string ⟨#[]⟩, .slice none 0 0, va, .slice none 0 0] 27)) := Lib.hid (heap_alloc_new w3 _)
  have hz4 : w3.heap.size < (w3.alloc (.cells #[.string kk, .string ⟨#[]⟩, .slice none 0 0, va, .slice none 0 0] 27)).heap.size := by simp
  have HS4 := Lib.hid (HST.out.keep (S' := From (w.heap.size + 1) w3.heap.size) (fun b hb => ⟨by have := hb.1; omega, hb.2⟩) (fun b hb => hb4.block b hb.2))
  clear hb4
  subst hva
  go_wp2_with fail
  generalize hva : Value.slice A (attrsL (l.dropWhile small)).1.length c = va at *
  generalize w3.alloc (.cells #[.string kk, .string ⟨#[]⟩, .slice none 0 0, va, .slice none 0 0] 27) = w4 at *
  refine (rd_want R _ _ ⟨#[91]⟩ w4 H4.out).mono ?_
  rintro e w5 ⟨rfl, h5, o5⟩
  change Rd w5 R (wantL [91] (attrsL (l.dropWhile small)).2.1) (x || (attrsL (l.dropWhile small)).2.2 || !Lib.hasPrefix (attrsL (l.dropWhile small)).2.1 [91]) at h5
  rw [Bool.or_assoc] at h5
  have H5 := Lib.hid h5
  have O5 := Lib.hid (O4.out.trans o5)
  have hc5 := (o5.block _ (by omega) (by omega)).trans HC4.out
  have hn5 := (o5.block _ hz4 (by omega)).trans HN4.out
  have HS5 := Lib.hid (HS4.out.keep (S' := From (w.heap.size + 1) w3.heap.size) (fun b hb => hb) (fun b hb => o5.block b (by have := hb.2; omega) (by have := hb.1; omega)))
  have hz5 := o5.size
  have HC5 := Lib.hid hc5
  obtain ⟨c0, c1, c2, c3, c4⟩ := five_cells hc5
  obtain ⟨n0, n1, n2, n3, n4⟩ := five_cells hn5
  have f0 := frozen_of_row w5 _ 0 _ _ hc5
  have f1 := frozen_of_row w5 _ 1 _ _ hc5
  have f2 := frozen_of_row w5 _ 2 _ _ hc5
  have f3 := frozen_of_row w5 _ 3 _ _ hc5
  have f4 := frozen_of_row w5 _ 4 _ _ hc5
  clear h5 o5 hc5 hn5
  subst hva
  go_wp2
  have q := put5_at HC5.out (.string kk) (.string ⟨#[]⟩) (.slice none 0 0) (.slice A (attrsL (l.dropWhile small)).1.length c) (.slice none 0 0)
  have o6 := put5_only w5 w.heap.size (.string kk) (.string ⟨#[]⟩) (.slice none 0 0) (.slice A (attrsL (l.dropWhile small)).1.length c) (.slice none 0 0)
  change bodyPost _ _ _ _ _ (put5 w5 w.heap.size (.string kk) (.string ⟨#[]⟩) (.slice none 0 0) (.slice A (attrsL (l.dropWhile small)).1.length c) (.slice none 0 0))
  generalize put5 w5 w.heap.size (.string kk) (.string ⟨#[]⟩) (.slice none 0 0) (.slice A (attrsL (l.dropWhile small)).1.length c) (.slice none 0 0) = W at *
  have hb6 : Below w.heap.size w5 W := o6.below (Nat.le_refl _) (by omega)
  have hz6 := o6.size
  obtain ⟨q0, q1, q2, q3, q4⟩ := five_cells q
  refine bodyPost_ret (v := .agg #[.string kk, .string ⟨#[]⟩, .slice none 0 0, .slice A (attrsL (l.dropWhile small)).1.length c, .slice none 0 0]) (by simp [results, Tryd.results23, go_sem, q0, q1, q2, q3, q4]) rfl ⟨.slice A (attrsL (l.dropWhile small)).1.length c, by rw [HT.out, ← hk]; rfl, ?_, ?_, O5.out.thenBelow hb6 (Nat.le_refl _)⟩
  · rw [HT.out]
    exact HS5.out.keep (fun b hb => ⟨by have := hb.1; omega, by have := hb.2; omega⟩) (fun b hb => o6.block b (by have := hb.2; omega) (by have := hb.1; omega))
  · rw [HT.out]; exact H5.out.under hb6 hRw
end Go.Proofs.YtggoebbfgkebcaaDoor

namespace Go.Proofs.YtggoebbfgkebcaaDoor
open Go.RowKit Go.Sort Go.Maps

/-- A node without its kids. -/
def bare (t : Tree) : Tree := .mk t.kind t.text t.marks t.attrs []
/-- What closed makes of a node: the node, and whether it stands wrong. -/
def closedL (d : Nat) (t : Tree) : Tree × Bool := if d ≤ 40 then (t, false) else (bare t, checkB t == 2)

def ClPost (R : Nat) (S : Nat → Prop) (l : List UInt8) (x : Bool) (w : World) (q : Tree × Bool) (e : Ending) (w' : World) : Prop :=
  ∃ v', e = .returned v' ∧ Node w' S v' q.1 ∧ Rd w' R (if q.2 then [] else l) (x || q.2) ∧ OnlyR R w w'
theorem two_new (w : World) (a b : Obj) : ((w.alloc a).alloc b).heap[w.heap.size]? = some a ∧ ((w.alloc a).alloc b).heap[w.heap.size + 1]? = some b := by
  constructor
  · rw [Below.heap_alloc _ _ _ (by simp)]; exact heap_alloc_new w a
  · have := heap_alloc_new (w.alloc a) b
    rwa [show (w.alloc a).heap.size = w.heap.size + 1 by simp] at this

set_option maxHeartbeats 4000000 in
theorem rd_closed (R : Nat) (l : List UInt8) (x : Bool) (v : Value) (t : Tree) (S : Nat → Prop) (d : Nat) (w : World) (h : Rd w R l x) (hn : Node w S v t) (hS : ∀ b, S b → b < w.heap.size ∧ b ≠ R) (hd : d ≤ 100000000) (hw : weigh t ≤ 1000000) (hT : Tabs w) :
    Calls Tryd.prog 25 #[.pointer (some ⟨R, 0, none⟩), v, .int .i64 (d : Int)] w (ClPost R S l x w (closedL d t)) := by
  have hRw := h.lt
  have HN := Lib.hid hn
  have HS := Lib.hid hS
  obtain ⟨vm, va, vk, rfl, hm, ha, hk⟩ := hn
  obtain ⟨A1, c1, rfl, _⟩ := hm.form
  obtain ⟨A2, c2, rfl, _⟩ := ha.form
  obtain ⟨A3, c3, rfl, _⟩ := hk.form
  have HM := Lib.hid hm
  have HA := Lib.hid ha
  have HK := Lib.hid hk
  clear hm ha hk hS
  have hb0 : Below w.heap.size w ((w.alloc (.cells #[.string t.kind, .string t.text, .slice A1 t.marks.length c1, .slice A2 t.attrs.length c2, .slice A3 t.kids.length c3] 27)).alloc (.cells #[.string ⟨#[]⟩, .string ⟨#[]⟩, .slice none 0 0, .slice none 0 0, .slice none 0 0] 27)) := ((Below.refl _ _).alloc (Nat.le_refl _) _).alloc (by simp) _
  obtain ⟨hx0, hx1⟩ := two_new w (.cells #[.string t.kind, .string t.text, .slice A1 t.marks.length c1, .slice A2 t.attrs.length c2, .slice A3 t.kids.length c3] 27) (.cells #[.string ⟨#[]⟩, .string ⟨#[]⟩, .slice none 0 0, .slice none 0 0, .slice none 0 0] 27)
  have hz0 : ((w.alloc (.cells #[.string t.kind, .string t.text, .slice A1 t.marks.length c1, .slice A2 t.attrs.length c2, .slice A3 t.kids.length c3] 27)).alloc (.cells #[.string ⟨#[]⟩, .string ⟨#[]⟩, .slice none 0 0, .slice none 0 0, .slice none 0 0] 27)).heap.size = w.heap.size + 2 := by simp
  have HB0 := Lib.hid hb0
  have HX0 := Lib.hid hx0
  have HX1 := Lib.hid hx1
  have HR0 := Lib.hid (h.below hb0)
  have HRW := Lib.hid h
  clear hb0 hx0 hx1 h
  by_cases hd4 : d ≤ 40
  · have HC : Hid (closedL d t = (t, false)) := Lib.hid (if_pos hd4)
    obtain ⟨a0, a1, a2, a3, a4⟩ := five_cells HX0.out
    obtain ⟨b0, b1, b2, b3, b4⟩ := five_cells HX1.out
    have f0 := frozen_of_row _ _ 0 _ _ HX1.out
    have f1 := frozen_of_row _ _ 1 _ _ HX1.out
    have f2 := frozen_of_row _ _ 2 _ _ HX1.out
    have f3 := frozen_of_row _ _ 3 _ _ HX1.out
    have f4 := frozen_of_row _ _ 4 _ _ HX1.out
    go_enter Tryd.func25, Tryd.ntmps25
    go_wp2
    have hb1 : Below w.heap.size w ((w.alloc (.cells #[.string t.kind, .string t.text, .slice A1 t.marks.length c1, .slice A2 t.attrs.length c2, .slice A3 t.kids.length c3] 27)).alloc (.cells #[.string t.kind, .string t.text, .slice A1 t.marks.length c1, .slice A2 t.attrs.length c2, .slice A3 t.kids.length c3] 27)) := ((Below.refl _ _).alloc (Nat.le_refl _) _).alloc (by simp) _
    obtain ⟨_, hq⟩ := two_new w (.cells #[.string t.kind, .string t.text, .slice A1 t.marks.length c1, .slice A2 t.attrs.length c2, .slice A3 t.kids.length c3] 27) (.cells #[.string t.kind, .string t.text, .slice A1 t.marks.length c1, .slice A2 t.attrs.length c2, .slice A3 t.kids.length c3] 27)
    generalize (w.alloc (.cells #[.string t.kind, .string t.text, .slice A1 t.marks.length c1, .slice A2 t.attrs.length c2, .slice A3 t.kids.length c3] 27)).alloc (.cells #[.string t.kind, .string t.text, .slice A1 t.marks.length c1, .slice A2 t.attrs.length c2, .slice A3 t.kids.length c3] 27) = W at *
    obtain ⟨q0, q1, q2, q3, q4⟩ := five_cells hq
    refine bodyPost_ret (v := .agg #[.string t.kind, .string t.text, .slice A1 t.marks.length c1, .slice A2 t.attrs.length c2, .slice A3 t.kids.length c3]) (by simp [results, Tryd.results25, go_sem, q0, q1, q2, q3, q4]) rfl ⟨_, rfl, ?_, ?_, OnlyR.of_below R hb1⟩
    · rw [HC.out]; exact HN.out.keep (fun _ h => h) fun b hb => hb1.block b (HS.out b hb).1
    · rw [HC.out]; simpa using HRW.out.below hb1
  · have HC : Hid (closedL d t = (bare t, checkB t == 2)) := Lib.hid (if_neg hd4)
    obtain ⟨a0, a1, a2, a3, a4⟩ := five_cells HX0.out
    have HNU := Lib.hid (HN.out.keep (S' := Under (w.heap.size + 2)) (fun b hb => by have := (HS.out b hb).1; show b < _; omega) fun b hb => HB0.out.block b (HS.out b hb).1)
    have HT0 := Lib.hid (hT.below HB0.out)
    go_enter Tryd.func25, Tryd.ntmps25
    go_wp2_with fail
    generalize (w.alloc (.cells #[.string t.kind, .string t.text, .slice A1 t.marks.length c1, .slice A2 t.attrs.length c2, .slice A3 t.kids.length c3] 27)).alloc (.cells #[.string ⟨#[]⟩, .string ⟨#[]⟩, .slice none 0 0, .slice none 0 0, .slice none 0 0] 27) = w2 at *
    refine (check_any _ t w2 (by rw [hz0]; exact HNU.out) hw HT0.out).mono ?_
    rintro e w3 ⟨rfl, hb3⟩
    have HR3 := Lib.hid (HR0.out.below hb3)
    have HX03 := Lib.hid ((hb3.block _ (by omega)).trans HX0.out)
    have HX13 := Lib.hid ((hb3.block _ (by omega)).trans HX1.out)
    have HO3 := Lib.hid (OnlyR.of_below R (HB0.out.trans (hb3.mono (by omega))))
    have hz3 := hb3.size
    clear hb3 a0 a1 a2 a3 a4
    by_cases hc : checkB t = 2
    · have HCK := Lib.hid hc
      rw [hc]
      clear hc
      go_wp2_with fail
      refine (rd_fail R _ _ w3 HR3.out).mono ?_
      rintro e w4 ⟨rfl, h4, o4⟩
      have HR4 := Lib.hid h4
      have HX04 := Lib.hid ((o4.block _ (by omega) (by omega)).trans HX03.out)
      have HX14 := Lib.hid ((o4.block _ (by omega) (by omega)).trans HX13.out)
      have HO4 := Lib.hid (HO3.out.trans o4)
      have hz4 := o4.size
      clear h4 o4
      have g4 := frozen_of_row w4 _ 4 _ _ HX04.out
      obtain ⟨_, _, _, _, g5⟩ := five_cells HX04.out
      have x5 := heap_setCell_same w4 _ 4 _ _ (.slice none 0 0) HX04.out
      have y5 : (w4.setCell ⟨w.heap.size, 4, none⟩ (.slice none 0 0)).heap[w.heap.size + 1]? = _ := (Below.heap_setCell w4 ⟨w.heap.size, 4, none⟩ (.slice none 0 0) (w.heap.size + 1) (by show w.heap.size + 1 ≠ w.heap.size; omega)).trans HX14.out
      have o5 := OnlyR.set w.heap.size 4 w4 (.slice none 0 0)
      obtain ⟨a0, a1, a2, a3, a4⟩ := five_cells x5
      obtain ⟨b0, b1, b2, b3, b4⟩ := five_cells y5
      have f0 := frozen_of_row _ _ 0 _ _ y5
      have f1 := frozen_of_row _ _ 1 _ _ y5
      have f2 := frozen_of_row _ _ 2 _ _ y5
      have f3 := frozen_of_row _ _ 3 _ _ y5
      have f4 := frozen_of_row _ _ 4 _ _ y5
      have HY5 := Lib.hid y5
      have HO5 := Lib.hid o5
      clear x5 y5 o5
      go_wp2
      have hq := put5_at HY5.out (.string t.kind) (.string t.text) (.slice A1 t.marks.length c1) (.slice A2 t.attrs.length c2) (.slice none 0 0)
      have o6 := put5_only (w4.setCell ⟨w.heap.size, 4, none⟩ (.slice none 0 0)) (w.heap.size + 1) (.string t.kind) (.string t.text) (.slice A1 t.marks.length c1) (.slice A2 t.attrs.length c2) (.slice none 0 0)
      change bodyPost _ _ _ _ _ (put5 (w4.setCell ⟨w.heap.size, 4, none⟩ (.slice none 0 0)) (w.heap.size + 1) (.string t.kind) (.string t.text) (.slice A1 t.marks.length c1) (.slice A2 t.attrs.length c2) (.slice none 0 0))
      have hb6 : Below w.heap.size w4 (put5 (w4.setCell ⟨w.heap.size, 4, none⟩ (.slice none 0 0)) (w.heap.size + 1) (.string t.kind) (.string t.text) (.slice A1 t.marks.length c1) (.slice A2 t.attrs.length c2) (.slice none 0 0)) := (HO5.out.below (Nat.le_refl _) (by omega)).trans (o6.below (by omega) (by have := HO5.out.size; omega))
      generalize put5 (w4.setCell ⟨w.heap.size, 4, none⟩ (.slice none 0 0)) (w.heap.size + 1) (.string t.kind) (.string t.text) (.slice A1 t.marks.length c1) (.slice A2 t.attrs.length c2) (.slice none 0 0) = W at *
      obtain ⟨q0, q1, q2, q3, q4⟩ := five_cells hq
      have kept : ∀ b, S b → W.heap[b]? = w.heap[b]? := fun b hb => (hb6.block b (HS.out b hb).1).trans (HO4.out.block b (HS.out b hb).1 (HS.out b hb).2)
      refine bodyPost_ret (v := .agg #[.string t.kind, .string t.text, .slice A1 t.marks.length c1, .slice A2 t.attrs.length c2, .slice none 0 0]) (by simp [results, Tryd.results25, go_sem, q0, q1, q2, q3, q4]) rfl ⟨_, rfl, ?_, ?_, HO4.out.thenBelow hb6 (Nat.le_refl _)⟩
      · rw [HC.out]; exact ⟨_, _, _, rfl, HM.out.keep (fun _ h => h) kept, HA.out.keep (fun _ h => h) kept, kids_nil⟩
      · rw [HC.out]; simpa [HCK.out] using HR4.out.under hb6 hRw
    · have HCK := Lib.hid hc
      have hcb : (checkB t == 2) = false := beq_eq_false_iff_ne.2 hc
      clear hc
      have g4 := frozen_of_row w3 _ 4 _ _ HX03.out
      obtain ⟨_, _, _, _, g5⟩ := five_cells HX03.out
      have x5 := heap_setCell_same w3 _ 4 _ _ (.slice none 0 0) HX03.out
      have y5 : (w3.setCell ⟨w.heap.size, 4, none⟩ (.slice none 0 0)).heap[w.heap.size + 1]? = _ := (Below.heap_setCell w3 ⟨w.heap.size, 4, none⟩ (.slice none 0 0) (w.heap.size + 1) (by show w.heap.size + 1 ≠ w.heap.size; omega)).trans HX13.out
      have o5 := OnlyR.set w.heap.size 4 w3 (.slice none 0 0)
      obtain ⟨a0, a1, a2, a3, a4⟩ := five_cells x5
      obtain ⟨b0, b1, b2, b3, b4⟩ := five_cells y5
      have f0 := frozen_of_row _ _ 0 _ _ y5
      have f1 := frozen_of_row _ _ 1 _ _ y5
      have f2 := frozen_of_row _ _ 2 _ _ y5
      have f3 := frozen_of_row _ _ 3 _ _ y5
      have f4 := frozen_of_row _ _ 4 _ _ y5
      have HY5 := Lib.hid y5
      have HO5 := Lib.hid o5
      clear x5 y5 o5
      go_wp2
      have hq := put5_at HY5.out (.string t.kind) (.string t.text) (.slice A1 t.marks.length c1) (.slice A2 t.attrs.length c2) (.slice none 0 0)
      have o6 := put5_only (w3.setCell ⟨w.heap.size, 4, none⟩ (.slice none 0 0)) (w.heap.size + 1) (.string t.kind) (.string t.text) (.slice A1 t.marks.length c1) (.slice A2 t.attrs.length c2) (.slice none 0 0)
      change bodyPost _ _ _ _ _ (put5 (w3.setCell ⟨w.heap.size, 4, none⟩ (.slice none 0 0)) (w.heap.size + 1) (.string t.kind) (.string t.text) (.slice A1 t.marks.length c1) (.slice A2 t.attrs.length c2) (.slice none 0 0))
      have hb6 : Below w.heap.size w3 (put5 (w3.setCell ⟨w.heap.size, 4, none⟩ (.slice none 0 0)) (w.heap.size + 1) (.string t.kind) (.string t.text) (.slice A1 t.marks.length c1) (.slice A2 t.attrs.length c2) (.slice none 0 0)) := (HO5.out.below (Nat.le_refl _) (by omega)).trans (o6.below (by omega) (by have := HO5.out.size; omega))
      generalize put5 (w3.setCell ⟨w.heap.size, 4, none⟩ (.slice none 0 0)) (w.heap.size + 1) (.string t.kind) (.string t.text) (.slice A1 t.marks.length c1) (.slice A2 t.attrs.length c2) (.slice none 0 0) = W at *
      obtain ⟨q0, q1, q2, q3, q4⟩ := five_cells hq
      have kept : ∀ b, S b → W.heap[b]? = w.heap[b]? := fun b hb => (hb6.block b (HS.out b hb).1).trans (HO3.out.block b (HS.out b hb).1 (HS.out b hb).2)
      refine bodyPost_ret (v := .agg #[.string t.kind, .string t.text, .slice A1 t.marks.length c1, .slice A2 t.attrs.length c2, .slice none 0 0]) (by simp [results, Tryd.results25, go_sem, q0, q1, q2, q3, q4]) rfl ⟨_, rfl, ?_, ?_, HO3.out.thenBelow hb6 (Nat.le_refl _)⟩
      · rw [HC.out]; exact ⟨_, _, _, rfl, HM.out.keep (fun _ h => h) kept, HA.out.keep (fun _ h => h) kept, kids_nil⟩
      · rw [HC.out]; rw [show (checkB t == 2) = false from beq_eq_false_iff_ne.2 HCK.out]; simpa using HR3.out.under hb6 hRw
end Go.Proofs.YtggoebbfgkebcaaDoor

namespace Go.Proofs.YtggoebbfgkebcaaDoor
open Go.RowKit Go.Sort Go.Maps

theorem unq_plain {c : UInt8} (r : List UInt8) (h1 : (c == 34) = false) (h2 : (c == 92) = false) : unq (c :: r) = (unq r).map (fun p => (c :: p.1, p.2)) := by
  rw [unq.eq_def]; simp only [h1, h2]; rfl
theorem unq_esc : ∀ l r : List UInt8, unq (escL l ++ 34 :: r) = some (l, r)
  | [], r => unq_q r
  | c :: l, r => by
    have ih := unq_esc l r
    by_cases hc : (c == 34 || c == 92) = true
    · have e : escL (c :: l) = 92 :: c :: escL l := by rw [escL]; exact if_pos hc
      rw [e, List.cons_append, List.cons_append, unq_s, if_pos hc, ih]; rfl
    · have e : escL (c :: l) = c :: escL l := by rw [escL]; exact if_neg hc
      have h1 : (c == 34) = false := by cases h : (c == 34) <;> simp_all
      have h2 : (c == 92) = false := by cases h : (c == 92) <;> simp_all
      rw [e, List.cons_append, unq_plain _ h1 h2, ih]; rfl
theorem want_one (a : UInt8) (r : List UInt8) : wantL [a] (a :: r) = r := by simp [wantL, Lib.hasPrefix, List.isPrefixOf]
theorem pre_is (a b : UInt8) (r : List UInt8) : Lib.hasPrefix (b :: r) [a] = (a == b) := by simp [Lib.hasPrefix, List.isPrefixOf]
theorem quo_quote (s : ByteArray) (r : List UInt8) : quoL (quoteL s.data.toList ++ r) = (s, some r) := by
  have h : qL (quoteL s.data.toList ++ r) = some (s.data.toList, r) := by
    unfold qL quoteL
    rw [List.cons_append, want_one, List.append_assoc]
    exact unq_esc _ _
  unfold quoL; rw [h]

theorem letters_take : ∀ (a r : List UInt8) (x : UInt8), (∀ c ∈ a, small c = true) → small x = false → (a ++ x :: r).takeWhile small = a ∧ (a ++ x :: r).dropWhile small = x :: r
  | [], r, x, _, hx => by simp [hx]
  | c :: a, r, x, ha, hx => by
    obtain ⟨h1, h2⟩ := letters_take a r x (fun c hc => ha c (by simp [hc])) hx
    have hc := ha c (by simp)
    rw [List.cons_append, List.takeWhile_cons_of_pos hc, List.dropWhile_cons_of_pos hc, h1, h2]
    exact ⟨rfl, rfl⟩

def tailC : List ByteArray → List UInt8
  | [] => []
  | s :: l => 44 :: (s.data.toList ++ tailC l)
theorem commaM_tail : ∀ (s : ByteArray) (l : List ByteArray), commaM (s :: l) = s.data.toList ++ tailC l
  | s, [] => by simp [commaM, tailC]
  | s, t :: l => by rw [commaM, commaM_tail t l]; rfl; simp
theorem tailC_next (l : List ByteArray) (r : List UInt8) : ∃ x q, tailC l ++ 62 :: r = x :: q ∧ small x = false := by
  cases l with
  | nil => exact ⟨62, r, rfl, by decide⟩
  | cons s l => exact ⟨44, _, rfl, by decide⟩
theorem restNames_back : ∀ (l : List ByteArray) (r : List UInt8), (∀ s ∈ l, nameB s = true) → restNames (tailC l ++ 62 :: r) = (l, 62 :: r)
  | [], r, _ => restNames_no (by rw [tailC, List.nil_append, pre_is]; rfl)
  | s :: l, r, h => by
    obtain ⟨x, q, e, hx⟩ := tailC_next l r
    have e2 : tailC (s :: l) ++ 62 :: r = 44 :: (s.data.toList ++ x :: q) := by rw [tailC, List.cons_append, List.append_assoc, e]
    have ih := restNames_back l r (fun s hs => h s (by simp [hs]))
    obtain ⟨t1, t2⟩ := letters_take s.data.toList q x (name_small (h s (by simp))) hx
    rw [e2, restNames_yes (by rw [pre_is]; rfl)]
    rw [List.drop_one, List.tail_cons, t1, t2, ← e, ih]
theorem marks_back (m : List ByteArray) (r : List UInt8) (hm : ∀ s ∈ m, nameB s = true) (hr : Aft r) : marksL (marksW m ++ r) = (m, r, true) := by
  cases m with
  | nil =>
    have : Lib.hasPrefix r [60] = false := by
      cases r with
      | nil => rfl
      | cons c r => rw [pre_is]; exact beq_eq_false_iff_ne.2 fun e => hr c rfl e.symm
    unfold marksL; exact if_neg (by show ¬ Lib.hasPrefix r [60] = true; rw [this]; decide)
  | cons s l =>
    obtain ⟨x, q, e, hx⟩ := tailC_next l r
    have e2 : marksW (s :: l) ++ r = 60 :: (s.data.toList ++ x :: q) := by
      rw [marksW_cons (by simp), commaM_tail, ← e]; simp
    have hb := restNames_back l r (fun s hs => hm s (by simp [hs]))
    obtain ⟨t1, t2⟩ := letters_take s.data.toList q x (name_small (hm s (by simp))) hx
    rw [e2]; unfold marksL
    rw [if_pos (by rw [pre_is]; rfl)]
    rw [List.drop_one, List.tail_cons, t1, t2, ← e, hb]
    show (s :: l, wantL [62] (62 :: r), Lib.hasPrefix (62 :: r) [62]) = _
    rw [want_one, pre_is]; rfl

theorem attr_back (p : ByteArray × ByteArray) (r : List UInt8) (h : nameB p.1 = true) : attrL (attrW p ++ r) = (p, some r) := by
  have e : attrW p ++ r = p.1.data.toList ++ 61 :: (quoteL p.2.data.toList ++ r) := by unfold attrW; simp
  obtain ⟨t1, t2⟩ := letters_take p.1.data.toList (quoteL p.2.data.toList ++ r) 61 (name_small h) (by decide)
  rw [e]; unfold attrL
  rw [t1, t2, want_one, quo_quote]
def tailA : List (ByteArray × ByteArray) → List UInt8
  | [] => []
  | p :: l => 32 :: (attrW p ++ tailA l)
theorem blankA_tail : ∀ (p : ByteArray × ByteArray) (l : List (ByteArray × ByteArray)), blankA (p :: l) = attrW p ++ tailA l
  | p, [] => by simp [blankA, tailA]
  | p, q :: l => by rw [blankA, blankA_tail q l]; rfl; simp
theorem restAttrs_back : ∀ (l : List (ByteArray × ByteArray)) (r : List UInt8), (∀ p ∈ l, nameB p.1 = true) → restAttrs (tailA l ++ 41 :: r) = (l, 41 :: r, false)
  | [], r, _ => restAttrs_no (by rw [tailA, List.nil_append, pre_is]; rfl)
  | p :: l, r, h => by
    have ih := restAttrs_back l r (fun p hp => h p (by simp [hp]))
    have e : tailA (p :: l) ++ 41 :: r = 32 :: (attrW p ++ (tailA l ++ 41 :: r)) := by rw [tailA]; simp
    have hb := attr_back p (tailA l ++ 41 :: r) (h p (by simp))
    rw [e, restAttrs_yes (by rw [pre_is]; rfl), List.drop_one, List.tail_cons, hb]
    show (p :: (restAttrs (tailA l ++ 41 :: r)).1, (restAttrs (tailA l ++ 41 :: r)).2.1, false || (restAttrs (tailA l ++ 41 :: r)).2.2) = _
    rw [ih]; rfl
theorem attrs_back (m : List (ByteArray × ByteArray)) (r : List UInt8) (hm : ∀ p ∈ m, nameB p.1 = true) : attrsL (attrsW m ++ 91 :: r) = (m, 91 :: r, false) := by
  cases m with
  | nil => unfold attrsL; exact if_neg (by show ¬ Lib.hasPrefix (91 :: r) [40] = true; rw [pre_is]; decide)
  | cons p l =>
    have hb := attr_back p (tailA l ++ 41 :: (91 :: r)) (hm p (by simp))
    have hr := restAttrs_back l (91 :: r) (fun p hp => hm p (by simp [hp]))
    have e : attrsW (p :: l) ++ 91 :: r = 40 :: (attrW p ++ (tailA l ++ 41 :: (91 :: r))) := by rw [attrsW_cons (by simp), blankA_tail]; simp
    rw [e]; unfold attrsL
    rw [if_pos (by rw [pre_is]; rfl), List.drop_one, List.tail_cons, hb]
    show (p :: (restAttrs (tailA l ++ 41 :: (91 :: r))).1, wantL [41] (restAttrs (tailA l ++ 41 :: (91 :: r))).2.1, (false || (restAttrs (tailA l ++ 41 :: (91 :: r))).2.2) || !Lib.hasPrefix (restAttrs (tailA l ++ 41 :: (91 :: r))).2.1 [41]) = _
    rw [hr]
    show (p :: l, wantL [41] (41 :: (91 :: r)), (false || false) || !Lib.hasPrefix (41 :: (91 :: r)) [41]) = _
    rw [want_one, pre_is]; rfl

/-- A text that was written is read back. -/
theorem text_back (t : ByteArray) (m : List ByteArray) (r : List UInt8) (hm : ∀ s ∈ m, nameB s = true) (hr : Aft r) : textL (quoteL t.data.toList ++ (marksW m ++ r)) = (.mk TEXT t m [] [], r, false) := by
  unfold textL
  rw [quo_quote]
  show (Tree.mk TEXT t (marksL (marksW m ++ r)).1 [] [], (marksL (marksW m ++ r)).2.1, false || !(marksL (marksW m ++ r)).2.2) = _
  rw [marks_back m r hm hr]; rfl
/-- .. a head. -/
theorem head_back (k : ByteArray) (a : List (ByteArray × ByteArray)) (r : List UInt8) (hk : nameB k = true) (ha : ∀ p ∈ a, nameB p.1 = true) : headL (k.data.toList ++ (attrsW a ++ 91 :: r)) = (.mk k ⟨#[]⟩ [] a [], r, false) := by
  obtain ⟨x, q, e, hx⟩ : ∃ x q, attrsW a ++ 91 :: r = x :: q ∧ small x = false := by
    cases a with
    | nil => exact ⟨91, r, rfl, by decide⟩
    | cons p l => exact ⟨40, _, by rw [attrsW_cons (by simp)]; rfl, by decide⟩
  obtain ⟨t1, t2⟩ := letters_take k.data.toList q x (name_small hk) hx
  unfold headL
  rw [e, t1, t2, ← e, attrs_back a r ha]
  show (Tree.mk k ⟨#[]⟩ [] a [], wantL [91] (91 :: r), false || !Lib.hasPrefix (91 :: r) [91]) = _
  rw [want_one, pre_is]; rfl
end Go.Proofs.YtggoebbfgkebcaaDoor

namespace Go.Proofs.YtggoebbfgkebcaaDoor
open Go.RowKit Go.Sort Go.Maps

def addKid (t k : Tree) : Tree := .mk t.kind t.text t.marks t.attrs (t.kids ++ [k])
def addKids (t : Tree) (l : List Tree) : Tree := .mk t.kind t.text t.marks t.attrs (t.kids ++ l)
/-- One round: what is left, whether something was wrong, the open nodes (the innermost ahead). -/
def roundL (c : UInt8) (l : List UInt8) (x : Bool) (top : Tree) (st : List Tree) : List UInt8 × Bool × List Tree :=
  if c == 34 then ((textL (c :: l)).2.1, x || (textL (c :: l)).2.2, addKid top (textL (c :: l)).1 :: st)
  else if c == 93 then
    (match st with
     | [] => ([], true, [top])
     | up :: st' => (if (closedL (st'.length + 1) top).2 then [] else l, x || (closedL (st'.length + 1) top).2, addKid up (closedL (st'.length + 1) top).1 :: st'))
  else ((headL (c :: l)).2.1, x || (headL (c :: l)).2.2, (headL (c :: l)).1 :: top :: st)
/-- The loop, in at most so many rounds. -/
def readN : Nat → List UInt8 → Bool → List Tree → List Tree × Bool
  | 0, _, x, st => (st, x)
  | _ + 1, [], x, st => (st, x)
  | _ + 1, _ :: _, x, [] => ([], x)
  | n + 1, c :: l, x, top :: st => readN n (roundL c l x top st).1 (roundL c l x top st).2.1 (roundL c l x top st).2.2
theorem readN_step (n : Nat) (c : UInt8) (l : List UInt8) (x : Bool) (top : Tree) (st : List Tree) : readN (n + 1) (c :: l) x (top :: st) = readN n (roundL c l x top st).1 (roundL c l x top st).2.1 (roundL c l x top st).2.2 := rfl

theorem addKids_nil (t : Tree) : addKids t [] = t := by cases t; simp [addKids, Tree.kind, Tree.text, Tree.marks, Tree.attrs, Tree.kids]
theorem addKids_cons (t k : Tree) (l : List Tree) : addKids (addKid t k) l = addKids t (k :: l) := by simp [addKids, addKid, Tree.kind, Tree.text, Tree.marks, Tree.attrs, Tree.kids]

/-- What reading back one node says. -/
def Back (t : Tree) : Prop := ∀ (r : List UInt8) (x : Bool) (top : Tree) (st : List Tree) (n : Nat), formedB t = true → Aft r → st.length + depthB t ≤ 40 → (writeB t ++ r).length ≤ n →
  ∃ m, r.length ≤ m ∧ readN n (writeB t ++ r) x (top :: st) = readN m r x (addKid top t :: st)
theorem back_all : ∀ (l : List Tree), (∀ t ∈ l, Back t) → ∀ (r : List UInt8) (x : Bool) (top : Tree) (st : List Tree) (n : Nat), (∀ t ∈ l, formedB t = true) → Aft r → st.length + deepB l ≤ 40 → (writeAllB l ++ r).length ≤ n →
    ∃ m, r.length ≤ m ∧ readN n (writeAllB l ++ r) x (top :: st) = readN m r x (addKids top l :: st)
  | [], _, r, x, top, st, n, _, _, _, hn => ⟨n, by simpa [writeAllB] using hn, by rw [addKids_nil]; rfl⟩
  | t :: l, hb, r, x, top, st, n, hf, hr, hd, hn => by
    rw [deepB] at hd
    have e : writeAllB (t :: l) ++ r = writeB t ++ (writeAllB l ++ r) := by rw [writeAllB, List.append_assoc]
    rw [e] at hn ⊢
    obtain ⟨m1, h1, h2⟩ := hb t (by simp) (writeAllB l ++ r) x top st n (hf t (by simp)) (aft_all l r (fun y hy => hf y (by simp [hy])) hr) (by omega) hn
    obtain ⟨m2, h3, h4⟩ := back_all l (fun y hy => hb y (by simp [hy])) r x (addKid top t) st m1 (fun y hy => hf y (by simp [hy])) hr (by omega) h1
    exact ⟨m2, h3, by rw [h2, h4, addKids_cons]⟩
theorem back_one : ∀ t, Back t := by
  refine Tree.induct_one ?_
  intro k t m a l ih r x top st n hf hr hd hn
  cases hk : isTxt k with
  | true =>
    obtain ⟨hm, rfl, rfl⟩ := text_parts hk hf
    have hkt : k = TEXT := txt_eq hk (by unfold isTxt; rw [beq_iff_eq, Lib.toList_data]; rfl)
    have e : writeB (.mk k t m [] []) ++ r = quoteL t.data.toList ++ (marksW m ++ r) := by rw [writeB, if_pos hk, List.append_assoc]
    rw [e] at hn ⊢
    have hb := text_back t m r (marks_names hm) hr
    have e2 : quoteL t.data.toList ++ (marksW m ++ r) = 34 :: ((escL t.data.toList ++ [34]) ++ (marksW m ++ r)) := rfl
    rw [e2] at hn hb ⊢
    cases n with
    | zero => simp at hn
    | succ n =>
      refine ⟨n, ?_, ?_⟩
      · simp only [List.length_cons, List.length_append] at hn ⊢; omega
      · rw [readN_step]
        have : roundL 34 ((escL t.data.toList ++ [34]) ++ (marksW m ++ r)) x top st = (r, x, addKid top (.mk k t m [] []) :: st) := by
          unfold roundL
          rw [if_pos (by decide), hb, hkt, Bool.or_false]
        rw [this]
  | false =>
    obtain ⟨hnm, ht, rfl, ha, hrow⟩ := node_parts hk hf
    obtain rfl : t = ⟨#[]⟩ := bytes_of ht
    have hdd : st.length + (deepB l + 1) ≤ 40 := by rw [depthB, hk] at hd; simpa using hd
    have e : writeB (.mk k ⟨#[]⟩ [] a l) ++ r = k.data.toList ++ (attrsW a ++ 91 :: (writeAllB l ++ 93 :: r)) := by rw [writeB, hk]; simp
    obtain ⟨c, q, hc, hcs⟩ : ∃ c q, k.data.toList = c :: q ∧ small c = true := by
      cases h : k.data.toList with
      | nil => exact absurd h (name_ne hnm)
      | cons c q => exact ⟨c, q, rfl, name_small hnm c (by rw [h]; simp)⟩
    have hb := head_back k a (writeAllB l ++ 93 :: r) hnm (attrs_names ha)
    have hlen : (writeAllB l ++ 93 :: r).length + 1 ≤ n := by
      rw [e, hc] at hn
      simp only [List.length_cons, List.length_append] at hn ⊢; omega
    rw [e, hc] at hn ⊢
    rw [hc] at hb
    have h34 : (c == 34) = false := by cases h : (c == 34) with
      | false => rfl
      | true => rw [beq_iff_eq.1 h] at hcs; revert hcs; decide
    have h93 : (c == 93) = false := by cases h : (c == 93) with
      | false => rfl
      | true => rw [beq_iff_eq.1 h] at hcs; revert hcs; decide
    cases n with
    | zero => simp at hlen
    | succ n =>
      rw [List.cons_append, readN_step]
      have h1 : roundL c (q ++ (attrsW a ++ 91 :: (writeAllB l ++ 93 :: r))) x top st = (writeAllB l ++ 93 :: r, x, .mk k ⟨#[]⟩ [] a [] :: top :: st) := by
        unfold roundL
        rw [h34, h93, ← List.cons_append, hb, Bool.or_false]; rfl
      rw [h1]
      obtain ⟨m1, g1, g2⟩ := back_all l ih (93 :: r) x (.mk k ⟨#[]⟩ [] a []) (top :: st) n (row_all l none hrow) (aft_93 r) (by simp only [List.length_cons]; omega) (by omega)
      have e3 : addKids (.mk k ⟨#[]⟩ [] a []) l = .mk k ⟨#[]⟩ [] a l := rfl
      rw [e3] at g2
      cases m1 with
      | zero => simp at g1
      | succ m1 =>
        refine ⟨m1, by simpa using g1, ?_⟩
        show readN n (writeAllB l ++ 93 :: r) x (.mk k ⟨#[]⟩ [] a [] :: top :: st) = _
        rw [g2, readN_step]
        have hcl : closedL (st.length + 1) (.mk k ⟨#[]⟩ [] a l) = (.mk k ⟨#[]⟩ [] a l, false) := if_pos (by omega)
        have h2 : roundL 93 r x (.mk k ⟨#[]⟩ [] a l) (top :: st) = (r, x, addKid top (.mk k ⟨#[]⟩ [] a l) :: st) := by
          unfold roundL
          rw [if_neg (by decide), if_pos (by decide)]
          simp only [hcl, Bool.or_false]; rfl
        rw [h2]
end Go.Proofs.YtggoebbfgkebcaaDoor

namespace Go.Proofs.YtggoebbfgkebcaaDoor
open Go.RowKit Go.Sort Go.Maps

/-- The node by which a list of nodes is judged. -/
def around (l : List Tree) : Tree := .mk ⟨#[120]⟩ ⟨#[]⟩ [] [] l
def noTree : Tree := .mk ⟨#[]⟩ ⟨#[]⟩ [] [] []
/-- read: the nodes, and whether all stood right. -/
def readL (s : List UInt8) : List Tree × Bool :=
  (((readN s.length s false [around []]).1.getLast?.map Tree.kids).getD [], !(readN s.length s false [around []]).2 && (readN s.length s false [around []]).1.length == 1)
def parseB (s : List UInt8) : Tree × Int :=
  match readL s with
  | ([t], true) => if checkB t = 0 then (t, 0) else (noTree, checkB t)
  | _ => (noTree, 2)
def parseAllB (s : List UInt8) : List Tree × Int :=
  match readL s with
  | (l, true) => if checkB (around l) = 0 then (l, 0) else ([], checkB (around l))
  | _ => ([], 2)

theorem readN_nil (n : Nat) (x : Bool) (st : List Tree) : readN n [] x st = (st, x) := by cases n <;> rfl
theorem check_zero {t : Tree} (h : checkB t = 0) : formedB t = true ∧ depthB t ≤ 40 := by
  unfold checkB at h
  split at h
  · rename_i hf
    split at h
    · cases h
    · exact ⟨hf, by omega⟩
  · cases h
theorem aft_nil : Aft [] := by intro c hc; cases hc
theorem read_back (t : Tree) (hf : formedB t = true) (hd : depthB t ≤ 40) : readL (writeB t) = ([t], true) := by
  obtain ⟨m, _, h⟩ := back_one t [] false (around []) [] (writeB t).length hf aft_nil (by simpa using hd) (by simp)
  rw [List.append_nil, readN_nil] at h
  unfold readL
  rw [h]; rfl
theorem parse_back (t : Tree) (h : checkB t = 0) : parseB (writeB t) = (t, 0) := by
  obtain ⟨hf, hd⟩ := check_zero h
  unfold parseB
  rw [read_back t hf hd]
  exact if_pos h
theorem readAll_back (l : List Tree) (hf : ∀ t ∈ l, formedB t = true) (hd : deepB l ≤ 40) : readL (writeAllB l) = (l, true) := by
  obtain ⟨m, _, h⟩ := back_all l (fun t _ => back_one t) [] false (around []) [] (writeAllB l).length hf aft_nil (by simpa using hd) (by simp)
  rw [List.append_nil, readN_nil] at h
  unfold readL
  rw [h]; rfl
end Go.Proofs.YtggoebbfgkebcaaDoor
