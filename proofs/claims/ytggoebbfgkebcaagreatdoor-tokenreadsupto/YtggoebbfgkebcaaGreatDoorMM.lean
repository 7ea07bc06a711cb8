/-
  The document's reader: node walked.
  The document's reader: node walked.
  The document's Parse and ParseAll: what they answer.
-/
import Derived.Test.YtggoebbfgkebcaaGreatDoorML
import Derived.Test.YtggoebbfgkebcaaGreatDoorMG
import Derived.Deep.DeepCutAuto
namespace Go.Proofs.YtggoebbfgkebcaaGreatDoor
open Go.RowKit Go.Sort Go.Maps

section
variable {w W W2 : World} {R : Nat} {S : ByteArray} {i j k : Nat} {y z : Bool} {v0 v1 v2 v3 v4 : Value}
theorem AtN.start (h : RR w R S k y) : AtN w R S ((w.alloc (.cells #[.string ⟨#[]⟩, .string ⟨#[]⟩, .slice none 0 0, .slice none 0 0, .slice none 0 0] 41)).alloc (.cells #[.string ⟨#[]⟩, .string ⟨#[]⟩, .slice none 0 0, .slice none 0 0, .slice none 0 0] 41)) k y (.string ⟨#[]⟩) (.string ⟨#[]⟩) (.slice none 0 0) (.slice none 0 0) (.slice none 0 0) := by
  have hb : Below w.heap.size w ((w.alloc (.cells #[.string ⟨#[]⟩, .string ⟨#[]⟩, .slice none 0 0, .slice none 0 0, .slice none 0 0] 41)).alloc (.cells #[.string ⟨#[]⟩, .string ⟨#[]⟩, .slice none 0 0, .slice none 0 0, .slice none 0 0] 41)) := ((Below.refl _ _).alloc (Nat.le_refl _) _).alloc (by simp) _
  obtain ⟨h0, h1⟩ := two_new w (.cells #[.string ⟨#[]⟩, .string ⟨#[]⟩, .slice none 0 0, .slice none 0 0, .slice none 0 0] 41) (.cells #[.string ⟨#[]⟩, .string ⟨#[]⟩, .slice none 0 0, .slice none 0 0, .slice none 0 0] 41)
  exact ⟨h.below hb h.lt, h1, h0, OnlyR.of_below R hb, h.lt, by simp⟩
theorem AtN.drew (h : AtN w R S W i y v0 v1 v2 v3 v4) : AtN w R S W.drew i y v0 v1 v2 v3 v4 := h.step (drew_only R W) h.rr
/-- The answer laid in its variable. -/
theorem AtN.finish (h : AtN w R S W i y v0 v1 v2 v3 v4) : (put5 W w.heap.size v0 v1 v2 v3 v4).heap[w.heap.size]? = some (.cells #[v0, v1, v2, v3, v4] 41) ∧ RR (put5 W w.heap.size v0 v1 v2 v3 v4) R S i y ∧ OnlyR R w (put5 W w.heap.size v0 v1 v2 v3 v4) ∧
    (∀ b, w.heap.size + 2 ≤ b → b < W.heap.size → (put5 W w.heap.size v0 v1 v2 v3 v4).heap[b]? = W.heap[b]?) ∧ (put5 W w.heap.size v0 v1 v2 v3 v4).heap.size = W.heap.size := by
  have ho := put5_only W w.heap.size v0 v1 v2 v3 v4
  have hz := put5_size W w.heap.size v0 v1 v2 v3 v4
  have hl := h.lt
  have hs := h.size
  refine ⟨put5_at h.rb _ _ _ _ _, (ho.block R (by omega) (by omega)).trans h.rr, ⟨ho.os.trans h.only.os, ho.tape.trans h.only.tape, ho.output.trans h.only.output, Nat.le_trans h.only.size ho.size, fun b hb hn => (ho.block b (by omega) (by omega)).trans (h.only.block b hb hn)⟩, fun b h1 h2 => ho.block b h2 (by omega), hz⟩
end
theorem row_slice {w : World} {base : Nat} {e : TypeId} {size : Nat} {v : Value} {n : Nat} {xs : List Value} (h : w.ownsRow base e size v n xs) : ∃ A c, v = .slice A n c := by
  rcases h.2 with ⟨rfl, hn⟩ | ⟨g, cap, cur, rfl, _⟩
  · exact ⟨none, 0, by rw [hn]⟩
  · exact ⟨_, _, rfl⟩
theorem row_ge {w : World} {base : Nat} {e : TypeId} {size : Nat} {v : Value} {n : Nat} {xs : List Value} (h : w.ownsRow base e size v n xs) : ∀ k, v.ownBlock = some k → base ≤ k := by
  rcases h.2 with ⟨rfl, _⟩ | ⟨g, cap, cur, rfl, hb, _⟩
  · intro k hk; cases hk
  · intro k hk
    have : g = k := Option.some.inj hk
    omega

section
variable {w : World} {ops : Array Oper} {o : Oper} {a : Act} {K : Act → World → Prop} {Q : Exit → Act → World → Prop} {E : Prop}
theorem step_let {R : Nat} {S : ByteArray} {k : Nat} {x : Bool} (hgd : o.guard = none) (p : Operand) (ho : o.op = .call { callee := .value (.func 68), args := #[p], argTypes := #[56] })
    (hp : a.eval p = .pointer (some ⟨R, 0, none⟩)) (hR : RR w R S k x) (hs : S.size ≤ 10000000) (hk : k ≤ S.size)
    (h : ∀ nm j w', LetK S k nm j → RR w' R S j x → OnlyR R w w' → K (a.put o.dst (.string nm)) w') :
    if Region.wanted o (yielded ops a.tmps) = true then Oper.wp Tryz.prog o a w K Q else E :=
  step_letters hgd p ho hp hR hs hk fun j w' h1 h2 h3 _ h5 h6 => h _ j w' (LetK.of h3 h5 h6) h1 h2
end
theorem rr_let (R : Nat) (S : ByteArray) (k : Nat) (x : Bool) (w : World) (h : RR w R S k x) (hs : S.size ≤ 10000000) (hk : k ≤ S.size) :
    Calls Tryz.prog 68 #[.pointer (some ⟨R, 0, none⟩)] w fun e w' => ∃ nm j, e = .returned (.string nm) ∧ RR w' R S j x ∧ OnlyR R w w' ∧ LetK S k nm j :=
  (rr_letters R S k x w h hs hk).mono fun _ _ ⟨j, he, h1, h2, h3, _, h5, h6⟩ => ⟨_, j, he, h1, h2, LetK.of h3 h5 h6⟩

/-- A text of which the marks are read. -/
def TextMid (w : World) (R : Nat) (S : ByteArray) (k : Nat) (s : ByteArray) (lo : Nat) (W : World) : Prop :=
  ∃ A m c i y, lo ≤ i ∧ AtN w R S W i y (.string ⟨#[116, 101, 120, 116]⟩) (.string s) (.slice A m.length c) (.slice none 0 0) (.slice none 0 0) ∧ SRow W (w.heap.size + 2) (.slice A m.length c) m ∧ MarkR S k s m i y
/-- A head of which the attributes are read. -/
def AttrMid (w : World) (R : Nat) (S : ByteArray) (k : Nat) (kd : ByteArray) (lo : Nat) (W : World) : Prop :=
  ∃ A a c i y, lo ≤ i ∧ AtN w R S W i y (.string kd) (.string ⟨#[]⟩) (.slice none 0 0) (.slice A a.length c) (.slice none 0 0) ∧ PRow W (w.heap.size + 2) (.slice A a.length c) a ∧ AttrR S k kd a 32 i y
def HeadEnd (w : World) (R : Nat) (S : ByteArray) (k : Nat) (kd : ByteArray) (W : World) : Prop :=
  ∃ A a c i y, AtN w R S W i y (.string kd) (.string ⟨#[]⟩) (.slice none 0 0) (.slice A a.length c) (.slice none 0 0) ∧ PRow W (w.heap.size + 2) (.slice A a.length c) a ∧ HeadR S k kd a i y

theorem textMid_of {w W W2 W3 : World} {R : Nat} {S : ByteArray} {k i lo : Nat} {s nm : ByteArray} {m : List ByteArray} {y : Bool} {v v' : Value} (hA : AtN w R S W i y (.string ⟨#[116, 101, 120, 116]⟩) (.string s) v (.slice none 0 0) (.slice none 0 0))
    (hr : SRow W (w.heap.size + 2) v m) (hB : Below W.heap.size W W2) (hown : W3.ownsRow (w.heap.size + 2) 9 1 v' (m.length + 1) (m.map .string ++ [.string nm])) (hg : W2.grownBy W3 v.ownBlock) (hM : MarkR S k s (m ++ [nm]) i y) (hlo : lo ≤ i) :
    TextMid w R S k s lo (W3.setCell ⟨w.heap.size + 1, 2, none⟩ v') := by
  have h3 := (hA.below hB).grown hg (row_ge hr)
  have hsr : SRow W3 (w.heap.size + 2) v' (m ++ [nm]) := by unfold SRow; rw [List.length_append, List.map_append]; exact hown
  obtain ⟨A, c, rfl⟩ := row_slice hsr
  exact ⟨A, m ++ [nm], c, i, y, hlo, h3.set2 _, ownsRow_set hsr (by omega), hM⟩
theorem attrMid_of {w W W2 W3 : World} {R : Nat} {S : ByteArray} {k i lo : Nat} {kd nm s : ByteArray} {m : List (ByteArray × ByteArray)} {y : Bool} {v v' : Value} (hA : AtN w R S W i y (.string kd) (.string ⟨#[]⟩) (.slice none 0 0) v (.slice none 0 0))
    (hr : PRow W (w.heap.size + 2) v m) (hB : Below W.heap.size W W2) (hown : W3.ownsRow (w.heap.size + 2) 80 2 v' (m.length + 1) (flatA m ++ [.string nm, .string s])) (hg : W2.grownBy W3 v.ownBlock) (hM : AttrR S k kd (m ++ [(nm, s)]) 32 i y) (hlo : lo ≤ i) :
    AttrMid w R S k kd lo (W3.setCell ⟨w.heap.size + 1, 3, none⟩ v') := by
  have h3 := (hA.below hB).grown hg (row_ge hr)
  have hsr : PRow W3 (w.heap.size + 2) v' (m ++ [(nm, s)]) := by unfold PRow; rw [List.length_append, flatA_append]; exact hown
  obtain ⟨A, c, rfl⟩ := row_slice hsr
  exact ⟨A, m ++ [(nm, s)], c, i, y, hlo, h3.set3 _, ownsRow_set hsr (by omega), hM⟩
end Go.Proofs.YtggoebbfgkebcaaGreatDoor

namespace Go.Proofs.YtggoebbfgkebcaaGreatDoor
open Go.RowKit Go.Sort Go.Maps

set_option maxHeartbeats 40000000 in
set_option maxRecDepth 100000 in
theorem rr_node (n : Nat) (ih : RNodes n) : RNode (n + 1) := by
  intro R S k w h hs hk hn hn6
  have IH := Lib.hid ih
  have hs7 : S.size ≤ 10000000 := by omega
  obtain ⟨m, hm⟩ : ∃ m : Nat, m = n + 1 := ⟨_, rfl⟩
  rw [← hm]
  have hm0 : ((m : Int) == 0) = false := by rw [beq_eq_false_iff_ne]; omega
  have hm1 : ¬ (m : Int) = 0 := by omega
  have hmz : m ≤ 1000000 := by omega
  have hmp : 1 ≤ m := by omega
  have HM := Lib.hid hm
  have HN := Lib.hid hn
  have HN6 := Lib.hid hn6
  have HA0 := Lib.hid (AtN.start h)
  have hRw := h.lt
  clear ih h hm hn hn6
  go_enter Tryz.func39, Tryz.ntmps39
  go_upto_region 5 with fail
  generalize (w.alloc (.cells #[.string ⟨#[]⟩, .string ⟨#[]⟩, .slice none 0 0, .slice none 0 0, .slice none 0 0] 41)).alloc (.cells #[.string ⟨#[]⟩, .string ⟨#[]⟩, .slice none 0 0, .slice none 0 0, .slice none 0 0] 41) = w1 at *
  go_wp2_with fail
  refine (rr_is R S k false 34 w1 HA0.out.rr hk).mono ?_
  rintro e w2 ⟨rfl, hb2⟩
  have HA2 := Lib.hid (HA0.out.below hb2)
  clear hb2 HA0
  cases h34 : isC S k 34 with
  | true =>
    have H34 := Lib.hid h34
    clear h34
    have f0 := HA2.out.free 0
    obtain ⟨c0, c1, c2, c3, c4⟩ := HA2.out.cells
    go_upto_region 7 with fail
    have HA3 := Lib.hid (HA2.out.set0 (.string ⟨#[116, 101, 120, 116]⟩))
    clear f0 c0 c1 c2 c3 c4 HA2
    generalize w2.setCell ⟨w.heap.size + 1, 0, none⟩ (.string ⟨#[116, 101, 120, 116]⟩) = w3 at *
    go_wp2_with fail
    refine (rr_quoted R S k false w3 HA3.out.rr hs7 hk).mono ?_
    rintro e w4 ⟨s, j, y, rfl, h4, o4, q4⟩
    have HA4 := Lib.hid (HA3.out.step o4 h4)
    have HQ := Lib.hid q4
    have hjl := q4.le
    clear HA3 h4 o4 q4
    have f1 := HA4.out.free 1
    obtain ⟨c0, c1, c2, c3, c4⟩ := HA4.out.cells
    go_upto_region 8 with fail
    have HA5 := Lib.hid (HA4.out.set1 (.string s))
    clear f1 c0 c1 c2 c3 c4 HA4
    generalize w4.setCell ⟨w.heap.size + 1, 1, none⟩ (.string s) = w5 at *
    go_wp2_with fail
    refine (rr_is R S j y 60 w5 HA5.out.rr hjl).mono ?_
    rintro e w6 ⟨rfl, hb6⟩
    have HA6 := Lib.hid (HA5.out.below hb6)
    clear HA5 hb6
    cases h60 : isC S j 60 with
    | false =>
      have HK := Lib.hid (NodK.text HQ.out H34.out h60)
      clear h60
      obtain ⟨c0, c1, c2, c3, c4⟩ := HA6.out.cells
      obtain ⟨d0, d1, d2, d3, d4⟩ := five_cells HA6.out.rb
      have f0 := HA6.out.freeR 0
      have f1 := HA6.out.freeR 1
      have f2 := HA6.out.freeR 2
      have f3 := HA6.out.freeR 3
      have f4 := HA6.out.freeR 4
      go_wp2
      obtain ⟨g0, g1, g2, g3, g4⟩ := HA6.out.finish
      change bodyPost _ _ _ _ _ (put5 w6 w.heap.size (.string ⟨#[116, 101, 120, 116]⟩) (.string s) (.slice none 0 0) (.slice none 0 0) (.slice none 0 0))
      generalize put5 w6 w.heap.size (.string ⟨#[116, 101, 120, 116]⟩) (.string s) (.slice none 0 0) (.slice none 0 0) (.slice none 0 0) = W at *
      obtain ⟨q0, q1, q2, q3, q4⟩ := five_cells g0
      have hsz6 := HA6.out.size
      refine bodyPost_ret (v := .agg #[(.string ⟨#[116, 101, 120, 116]⟩), (.string s), (.slice none 0 0), (.slice none 0 0), (.slice none 0 0)]) (by simp [results, Tryz.results39, go_sem, q0, q1, q2, q3, q4]) rfl ⟨_, _, _, _, rfl, ?_, g1, g2, HK.out⟩
      exact ⟨_, _, _, rfl, strs_nil, pairs_nil, kids_nil⟩
    | true =>
      have H60 := Lib.hid h60
      clear h60
      go_wp2_with fail
      refine (rr_eat R S j y 60 w6 HA6.out.rr hs7 hjl).mono ?_
      rintro e w7 ⟨rfl, h7, o7⟩
      have HA7 := Lib.hid (HA6.out.step o7 h7)
      obtain ⟨he1, he2⟩ := eatK_le (c := 60) hjl
      clear HA6 h7 o7
      go_upto_region 10 with fail
      go_cut [] (fun wx => TextMid w R S k s 0 wx)
      case first =>
        have HRD : Hid (RR w7.drew R S (eatK S j 60) (y || !isC S j 60)) := Lib.hid HA7.out.rr
        obtain ⟨c0, c1, c2, c3, c4⟩ := HA7.out.cells
        go_region_law (first
          | ((with_reducible refine step_let (R := R) (S := S) (k := eatK S j 60) (x := y || !isC S j 60) rfl (.tmp 26) rfl rfl HRD.out hs7 he2 ?_); intro nm i3 w8 hl8 h8 o8; have HA8 := Lib.hid (HA7.out.drew.step o8 h8); have HL8 := Lib.hid hl8; have c2b := HA8.out.cells.2.2.1; have HB8 : Hid (Below w8.heap.size w8 (w8.alloc (.cells #[.string nm] 9))) := Lib.hid ((Below.refl _ _).alloc (Nat.le_refl _) _); have c2c := (HA8.out.below HB8.out).cells.2.2.1; have HR8 : Hid (SRow w8 (w.heap.size + 2) (.slice none 0 0) []) := Lib.hid (World.ownsRow_nil _ _ _ _); have HOW : Hid ((w8.alloc (.cells #[.string nm] 9)).ownsRow (w.heap.size + 2) 9 1 (.slice none 0 0) 0 []) := Lib.hid (ownsRow_only HR8.out (OnlyR.of_below R HB8.out) (by omega : R < w.heap.size + 2)); have HFC : Hid (∀ j u, [Value.string nm][j]? = some u → (w8.alloc (.cells #[.string nm] 9)).cell? ⟨w8.heap.size, j, none⟩ = some u) := Lib.hid fun j u hj => fresh_cell w8 #[.string nm] _ j u (by simpa using hj); have HON : Hid (∀ u ∈ [Value.string nm], u.oneCell' = true) := Lib.hid (by intro u hu; simp only [List.mem_singleton] at hu; subst hu; rfl); have HBS : Hid (w.heap.size + 2 ≤ (w8.alloc (.cells #[.string nm] 9)).heap.size) := Lib.hid (Nat.le_trans HA8.out.size HB8.out.size); clear hl8 h8 o8)
          | ((with_reducible refine step_append_gen Tryz.underlying38 str_info rfl (by decide) (by decide) rfl (.tmp 25) (.tmp 28) rfl (w.heap.size + 2) (.slice none 0 0) 0 [] w8.heap.size 1 [.string nm] rfl rfl HOW.out rfl HFC.out HON.out (by decide) HBS.out ?_); intro v9 w9 ho9 hg9; obtain ⟨A9, e9, rfl⟩ := row_slice ho9; have hA9 := (HA8.out.below HB8.out).grown hg9 (row_ge HOW.out); have f2 := hA9.free 2; have c2d := hA9.cells.2.2.1; have HTM := Lib.hid (textMid_of (m := []) (lo := 0) HA8.out HR8.out HB8.out ho9 hg9 (MarkR.start HQ.out H34.out H60.out HL8.out) (Nat.zero_le _)); clear ho9 hg9 hA9))
        all_goals
          go_wp2_with fail
          go_meet
          exact HTM.out
      case rest =>
        have HMID := Lib.hid hcut
        clear hcut HA7
        go_wp2_with fail
        go_loopg [] (S.size + 1) (fun g wx => Hid (∃ lo, S.size + 1 ≤ g + lo ∧ TextMid w R S k s lo wx))
        case atStart => exact Lib.hid ⟨0, by omega, HMID.out⟩
        case round =>
          obtain ⟨lo, hg, A, mk, cp, i, y2, hlo, hA, hrow, hM⟩ := hrel.out
          have HA := Lib.hid hA
          have HROW := Lib.hid hrow
          have HMR := Lib.hid hM
          have hil := hM.le
          clear hrel hA hrow hM HMID
          go_wp2_with fail
          refine (rr_is R S i y2 44 wr HA.out.rr hil).mono ?_
          rintro e wa ⟨rfl, hba⟩
          have HAa := Lib.hid (HA.out.below hba)
          have HRa := Lib.hid (ownsRow_only HROW.out (OnlyR.of_below R hba) (by omega : R < w.heap.size + 2))
          clear hba HA HROW
          cases h44 : isC S i 44 with
          | true =>
            have H44 := Lib.hid h44
            have hlt := isC_lt h44
            have HEK := Lib.hid (eat_yes h44)
            clear h44
            go_wp2_with fail
            refine (rr_eat R S i y2 44 wa HAa.out.rr hs7 hil).mono ?_
            rintro e w7b ⟨rfl, h7, o7⟩
            have HA7 := Lib.hid (HAa.out.step o7 h7)
            have HR7 := Lib.hid (ownsRow_only HRa.out o7 (by omega : R < w.heap.size + 2))
            obtain ⟨he1, he2⟩ := eatK_le (c := 44) hil
            have hmk : mk.length + 1 ≤ 100000000 := by
              have h1 := HMR.out.weigh
              have h2 := length_le_weighL mk
              omega
            clear HAa HRa h7 o7
            go_upto_region 13 with fail
            have HRD : Hid (RR w7b.drew R S (eatK S i 44) (y2 || !isC S i 44)) := Lib.hid HA7.out.rr
            obtain ⟨c0, c1, c2, c3, c4⟩ := HA7.out.cells
            go_region_law (first
              | ((with_reducible refine step_let (R := R) (S := S) (k := eatK S i 44) (x := y2 || !isC S i 44) rfl (.tmp 37) rfl rfl HRD.out hs7 he2 ?_); intro nm i3 w8 hl8 h8 o8; have HA8 := Lib.hid (HA7.out.drew.step o8 h8); have HL8 := Lib.hid hl8; have c2b := HA8.out.cells.2.2.1; have HB8 : Hid (Below w8.heap.size w8 (w8.alloc (.cells #[.string nm] 9))) := Lib.hid ((Below.refl _ _).alloc (Nat.le_refl _) _); have c2c := (HA8.out.below HB8.out).cells.2.2.1; have HR8 : Hid (SRow w8 (w.heap.size + 2) (.slice A mk.length cp) mk) := Lib.hid (ownsRow_only HR7.out ((drew_only R w7b).trans o8) (by omega : R < w.heap.size + 2)); have HOW : Hid ((w8.alloc (.cells #[.string nm] 9)).ownsRow (w.heap.size + 2) 9 1 (.slice A mk.length cp) mk.length (mk.map .string)) := Lib.hid (ownsRow_only HR8.out (OnlyR.of_below R HB8.out) (by omega : R < w.heap.size + 2)); have HFC : Hid (∀ j u, [Value.string nm][j]? = some u → (w8.alloc (.cells #[.string nm] 9)).cell? ⟨w8.heap.size, j, none⟩ = some u) := Lib.hid fun j u hj => fresh_cell w8 #[.string nm] _ j u (by simpa using hj); have HON : Hid (∀ u ∈ [Value.string nm], u.oneCell' = true) := Lib.hid (by intro u hu; simp only [List.mem_singleton] at hu; subst hu; rfl); have HBS : Hid (w.heap.size + 2 ≤ (w8.alloc (.cells #[.string nm] 9)).heap.size) := Lib.hid (Nat.le_trans HA8.out.size HB8.out.size); clear hl8 h8 o8)
              | ((with_reducible refine step_append_gen Tryz.underlying38 str_info rfl (by decide) (by decide) rfl (.tmp 36) (.tmp 39) rfl (w.heap.size + 2) (.slice A mk.length cp) mk.length (mk.map .string) w8.heap.size 1 [.string nm] rfl rfl HOW.out rfl HFC.out HON.out hmk HBS.out ?_); intro v9 w9 ho9 hg9; obtain ⟨A9, e9, rfl⟩ := row_slice ho9; have hA9 := (HA8.out.below HB8.out).grown hg9 (row_ge HOW.out); have f2 := hA9.free 2; have c2d := hA9.cells.2.2.1; have HTM := Lib.hid (textMid_of (m := mk) (lo := i + 1) HA8.out HR8.out HB8.out ho9 hg9 (MarkR.next HMR.out H44.out HL8.out) (by have := HL8.out.size; have := HEK.out; omega)); clear ho9 hg9 hA9))
            all_goals
              go_wp2
              go_roundg (S.size - i)
              case measure => omega
              case rel => exact Lib.hid ⟨i + 1, by omega, HTM.out⟩
          | false =>
            have HK := Lib.hid (NodK.marks HMR.out H34.out h44)
            clear h44
            go_wp2_with fail
            refine (rr_eat R S i y2 62 wa HAa.out.rr hs7 hil).mono ?_
            rintro e w6 ⟨rfl, h7, o7⟩
            have HA6 := Lib.hid (HAa.out.step o7 h7)
            have HR6 := Lib.hid (SRow.strs (ownsRow_only HRa.out o7 (by omega : R < w.heap.size + 2)))
            clear HAa HRa h7 o7
            obtain ⟨c0, c1, c2, c3, c4⟩ := HA6.out.cells
            obtain ⟨d0, d1, d2, d3, d4⟩ := five_cells HA6.out.rb
            have f0 := HA6.out.freeR 0
            have f1 := HA6.out.freeR 1
            have f2 := HA6.out.freeR 2
            have f3 := HA6.out.freeR 3
            have f4 := HA6.out.freeR 4
            go_wp2
            obtain ⟨g0, g1, g2, g3, g4⟩ := HA6.out.finish
            change bodyPost _ _ _ _ _ (put5 w6 w.heap.size (.string ⟨#[116, 101, 120, 116]⟩) (.string s) (.slice A mk.length cp) (.slice none 0 0) (.slice none 0 0))
            generalize put5 w6 w.heap.size (.string ⟨#[116, 101, 120, 116]⟩) (.string s) (.slice A mk.length cp) (.slice none 0 0) (.slice none 0 0) = W at *
            obtain ⟨q0, q1, q2, q3, q4⟩ := five_cells g0
            have hsz6 := HA6.out.size
            refine bodyPost_ret (v := .agg #[(.string ⟨#[116, 101, 120, 116]⟩), (.string s), (.slice A mk.length cp), (.slice none 0 0), (.slice none 0 0)]) (by simp [results, Tryz.results39, go_sem, q0, q1, q2, q3, q4]) rfl ⟨_, _, _, _, rfl, ?_, g1, g2, HK.out⟩
            exact ⟨_, _, _, rfl, HR6.out.keep (fun b hb => ⟨by have := hb.1; omega, by have := hb.2; omega⟩) fun b hb => g3 b hb.1 hb.2, pairs_nil, kids_nil⟩
  | false =>
    have H34 := Lib.hid h34
    clear h34
    go_wp2_with fail
    refine (rr_let R S k false w2 HA2.out.rr hs7 hk).mono ?_
    rintro e w3 ⟨kd, j, rfl, h3, o3, l3⟩
    have HA3 := Lib.hid (HA2.out.step o3 h3)
    have HL := Lib.hid l3
    have hjl := l3.le
    clear HA2 h3 o3 l3
    have f0 := HA3.out.free 0
    obtain ⟨c0, c1, c2, c3, c4⟩ := HA3.out.cells
    go_upto_region 17 with fail
    have HA4 := Lib.hid (HA3.out.set0 (.string kd))
    clear f0 c0 c1 c2 c3 c4 HA3
    generalize w3.setCell ⟨w.heap.size + 1, 0, none⟩ (.string kd) = w4 at *
    go_wp2_with fail
    refine (rr_is R S j false 40 w4 HA4.out.rr hjl).mono ?_
    rintro e w5 ⟨rfl, hb5⟩
    have HA5 := Lib.hid (HA4.out.below hb5)
    clear HA4 hb5
    go_upto_if 49 with fail
    go_cut [6, 7] (fun s6 s7 wx => HeadEnd w R S k kd wx)
    case first =>
      cases h40 : isC S j 40 with
      | false =>
        have HE : Hid (HeadEnd w R S k kd w5) := Lib.hid ⟨none, [], 0, j, false, HA5.out, World.ownsRow_nil _ _ _ _, HeadR.none HL.out h40⟩
        clear h40
        go_wp2_with fail
        go_meet
        exact HE.out
      | true =>
        have HR5 := Lib.hid (AttrR.start HL.out h40)
        clear h40
        go_wp2_with fail
        go_loopg [6] (S.size + 1) (fun g s6 wx => ∃ c : UInt8, s6 = .int .u8 (c.toNat : Int) ∧ Hid (∃ A a cp i y, S.size + 1 ≤ g + i ∧ AtN w R S wx i y (.string kd) (.string ⟨#[]⟩) (.slice none 0 0) (.slice A a.length cp) (.slice none 0 0) ∧ PRow wx (w.heap.size + 2) (.slice A a.length cp) a ∧ AttrR S k kd a c i y))
        case atStart => exact ⟨40, rfl, Lib.hid ⟨none, [], 0, j, false, by omega, HA5.out, World.ownsRow_nil _ _ _ _, HR5.out⟩⟩
        case round =>
          obtain ⟨c, rfl, hrel⟩ := hrel
          obtain ⟨A, a, cp, i, y, hg, hA, hrow, hR⟩ := hrel.out
          have HA := Lib.hid hA
          have HROW := Lib.hid hrow
          have HAR := Lib.hid hR
          have hil := hR.le
          clear hrel hA hrow hR HA5 HR5
          go_wp2_with fail
          refine (rr_is R S i y c wr HA.out.rr hil).mono ?_
          rintro e wa ⟨rfl, hba⟩
          have HAa := Lib.hid (HA.out.below hba)
          have HRa := Lib.hid (ownsRow_only HROW.out (OnlyR.of_below R hba) (by omega : R < w.heap.size + 2))
          clear hba HA HROW
          obtain ⟨b0, b1, b2⟩ := HAa.out.rr.three
          cases hc : isC S i c with
          | false =>
            have HST := Lib.hid (HAR.out.stop (.inl hc))
            clear hc HAR
            go_wp2_with fail
            refine (rr_eat R S i _ 41 wa HAa.out.rr hs7 hil).mono ?_
            rintro e wb ⟨rfl, h7, o7⟩
            have HE : Hid (HeadEnd w R S k kd wb) := Lib.hid ⟨A, a, cp, _, _, HAa.out.step o7 h7, ownsRow_only HRa.out o7 (by omega : R < w.heap.size + 2), HST.out⟩
            clear h7 o7
            go_wp2_with fail
            go_meet
            exact HE.out
          | true =>
            cases y with
            | true =>
              have HST := Lib.hid (HAR.out.stop (.inr rfl))
              clear hc HAR
              go_wp2_with fail
              refine (rr_eat R S i _ 41 wa HAa.out.rr hs7 hil).mono ?_
              rintro e wb ⟨rfl, h7, o7⟩
              have HE : Hid (HeadEnd w R S k kd wb) := Lib.hid ⟨A, a, cp, _, _, HAa.out.step o7 h7, ownsRow_only HRa.out o7 (by omega : R < w.heap.size + 2), HST.out⟩
              clear h7 o7
              go_wp2_with fail
              go_meet
              exact HE.out
            | false =>
              have HC := Lib.hid hc
              have hlt := isC_lt hc
              have HEK := Lib.hid (eat_yes hc)
              clear hc
              go_wp2_with fail
              refine (rr_eat R S i false c wa HAa.out.rr hs7 hil).mono ?_
              rintro e wb ⟨rfl, h7, o7⟩
              have HAb := Lib.hid (HAa.out.step o7 h7)
              have HRb := Lib.hid (ownsRow_only HRa.out o7 (by omega : R < w.heap.size + 2))
              obtain ⟨he1, he2⟩ := eatK_le (c := c) hil
              clear HAa HRa h7 o7 b0 b1 b2
              go_wp2_with fail
              refine (rr_let R S (eatK S i c) _ wb HAb.out.rr hs7 he2).mono ?_
              rintro e w8 ⟨nm, i2, rfl, h8, o8, l8⟩
              have HA8 := Lib.hid (HAb.out.step o8 h8)
              have HR8 := Lib.hid (ownsRow_only HRb.out o8 (by omega : R < w.heap.size + 2))
              have HL8 := Lib.hid l8
              have hi2 := l8.le
              have hi2b := l8.size
              clear HAb HRb h8 o8 l8
              go_wp2_with fail
              refine (rr_eat R S i2 _ 61 w8 HA8.out.rr hs7 hi2).mono ?_
              rintro e w7b ⟨rfl, h7, o7⟩
              have HA7 := Lib.hid (HA8.out.step o7 h7)
              have HR7 := Lib.hid (ownsRow_only HR8.out o7 (by omega : R < w.heap.size + 2))
              obtain ⟨he3, he4⟩ := eatK_le (c := 61) hi2
              have ha8 : a.length + 1 ≤ 100000000 := by
                have h1 := HAR.out.weigh
                have h2 := length_le_weighP a
                omega
              clear HA8 HR8 h7 o7
              go_upto_region 23 with fail
              go_cut [] (fun wx => AttrMid w R S k kd (i + 1) wx)
              case first =>
                have HRD : Hid (RR w7b.drew R S (eatK S i2 61) ((false || !isC S i c) || !isC S i2 61)) := Lib.hid HA7.out.rr
                obtain ⟨c0, c1, c2, c3, c4⟩ := HA7.out.cells
                go_region_law (first
                  | ((with_reducible refine step_quoted (R := R) (S := S) (k := eatK S i2 61) (x := (false || !isC S i c) || !isC S i2 61) rfl (.tmp 70) rfl rfl HRD.out hs7 he4 ?_); intro s i4 y4 w9 h9 o9 q9; have HA9 := Lib.hid (HA7.out.drew.step o9 h9); have HQ9 := Lib.hid q9; have c3b := HA9.out.cells.2.2.2.1; have HB9 : Hid (Below w9.heap.size w9 (w9.alloc (.cells #[.string nm, .string s] 80))) := Lib.hid ((Below.refl _ _).alloc (Nat.le_refl _) _); have c3c := (HA9.out.below HB9.out).cells.2.2.2.1; have HR9 : Hid (PRow w9 (w.heap.size + 2) (.slice A a.length cp) a) := Lib.hid (ownsRow_only HR7.out ((drew_only R w7b).trans o9) (by omega : R < w.heap.size + 2)); have HOW : Hid ((w9.alloc (.cells #[.string nm, .string s] 80)).ownsRow (w.heap.size + 2) 80 2 (.slice A a.length cp) a.length (flatA a)) := Lib.hid (ownsRow_only HR9.out (OnlyR.of_below R HB9.out) (by omega : R < w.heap.size + 2)); have HFC : Hid (∀ j u, [Value.string nm, .string s][j]? = some u → (w9.alloc (.cells #[.string nm, .string s] 80)).cell? ⟨w9.heap.size, j, none⟩ = some u) := Lib.hid fun j u hj => fresh_cell w9 #[.string nm, .string s] _ j u (by simpa using hj); have HON : Hid (∀ u ∈ [Value.string nm, .string s], u.oneCell' = true) := Lib.hid (by intro u hu; simp only [List.mem_cons, List.not_mem_nil, or_false] at hu; rcases hu with rfl | rfl <;> rfl); have HBS : Hid (w.heap.size + 2 ≤ (w9.alloc (.cells #[.string nm, .string s] 80)).heap.size) := Lib.hid (Nat.le_trans HA9.out.size HB9.out.size); clear h9 o9 q9)
                  | ((with_reducible refine step_append_gen Tryz.underlying39 pair_info rfl (by decide) (by decide) rfl (.tmp 68) (.tmp 73) rfl (w.heap.size + 2) (.slice A a.length cp) a.length (flatA a) w9.heap.size 1 [.string nm, .string s] rfl rfl HOW.out rfl HFC.out HON.out ha8 HBS.out ?_); intro v5 w5b ho9 hg9; obtain ⟨A9, e9, rfl⟩ := row_slice ho9; have hA5 := (HA9.out.below HB9.out).grown hg9 (row_ge HOW.out); have f3 := hA5.free 3; have c3d := hA5.cells.2.2.2.1; have HTM := Lib.hid (attrMid_of (lo := i + 1) HA9.out HR9.out HB9.out ho9 hg9 (AttrR.next HAR.out HC.out HL8.out HQ9.out) (by have := HQ9.out.ge; have := HEK.out; omega)); clear ho9 hg9 hA5))
                all_goals
                  go_wp2_with fail
                  go_meet
                  exact HTM.out
              case rest =>
                have HMID := Lib.hid hcut
                clear hcut HA7
                go_wp2
                go_roundg (S.size - i)
                case measure => omega
                case rel =>
                  obtain ⟨A', a', cp', i', y', h1, h2, h3, h4⟩ := HMID.out
                  exact ⟨32, rfl, Lib.hid ⟨A', a', cp', i', y', by omega, h2, h3, h4⟩⟩
    case rest =>
      obtain ⟨A, a, cp, i, y, hA, hrow, hR⟩ := hcut
      have HA5b := Lib.hid hA
      have HROW := Lib.hid hrow
      have HHR := Lib.hid hR
      have hil := hR.le
      clear hA hrow hR HL
      go_wp2_with fail
      refine (rr_eat R S i y 91 wc HA5b.out.rr hs7 hil).mono ?_
      rintro e w6 ⟨rfl, h6, o6⟩
      have HA6 := Lib.hid (HA5b.out.step o6 h6)
      have HR6 := Lib.hid (ownsRow_only HROW.out o6 (by omega : R < w.heap.size + 2))
      obtain ⟨he1, he2⟩ := eatK_le (c := 91) hil
      have HLT : Hid ((y || !isC S i 91) = false → S.size < n + eatK S i 91) := Lib.hid fun hy => by
        have h1 : isC S i 91 = true := by cases hq : isC S i 91 with | true => rfl | false => rw [hq] at hy; simp at hy
        have h2 := HHR.out.weigh
        have h3 := HN.out
        rw [eat_yes h1]; omega
      have HMI : Hid ((m : Int) - 1 = (n : Int)) := Lib.hid (by have := HM.out; omega)
      have HN5 : Hid (n ≤ 1000000) := Lib.hid (by have := HN6.out; omega)
      clear HA5 HA5b HROW h6 o6
      go_wp2_with fail
      rw [HMI.out]
      refine (IH.out R S (eatK S i 91) (y || !isC S i 91) w6 HA6.out.rr hs he2 HLT.out HN5.out).mono ?_
      rintro e w7 ⟨v4, ks, i2, y2, rfl, hk7, h7, o7, hn7⟩
      obtain ⟨A4, c4', rfl, _⟩ := hk7.form
      have HA7 := Lib.hid (HA6.out.step o7 h7)
      have HR7 := Lib.hid (ownsRow_only HR6.out o7 (by omega : R < w.heap.size + 2))
      have HK7 : Hid (Kids w7 (From (w.heap.size + 2) w7.heap.size) (.slice A4 ks.length c4') ks) := Lib.hid (hk7.keep (fun b hb => ⟨Nat.le_trans HA6.out.size hb.1, hb.2⟩) fun _ _ => rfl)
      have HNK := Lib.hid hn7
      have hi2 := hn7.le
      clear hk7 h7 o7 hn7 HA6 HR6 HLT HMI HN5
      have f4 := HA7.out.free 4
      obtain ⟨c0, c1, c2, c3, c4⟩ := HA7.out.cells
      go_upto_region 28 with fail
      have HA8 := Lib.hid (HA7.out.set4 (.slice A4 ks.length c4'))
      have HR8 := Lib.hid (ownsRow_set (c := 4) (u := .slice A4 ks.length c4') HR7.out (by omega : w.heap.size + 1 < w.heap.size + 2))
      have HK8 : Hid (Kids (w7.setCell ⟨w.heap.size + 1, 4, none⟩ (.slice A4 ks.length c4')) (From (w.heap.size + 2) (w7.setCell ⟨w.heap.size + 1, 4, none⟩ (.slice A4 ks.length c4')).heap.size) (.slice A4 ks.length c4') ks) := Lib.hid (HK7.out.keep (fun b hb => ⟨hb.1, by simpa [World.setCell] using hb.2⟩) fun b hb => Below.heap_setCell _ _ _ _ (show b ≠ w.heap.size + 1 by have := hb.1; omega))
      clear f4 c0 c1 c2 c3 c4 HA7 HR7 HK7
      generalize w7.setCell ⟨w.heap.size + 1, 4, none⟩ (.slice A4 ks.length c4') = w8 at *
      go_wp2_with fail
      refine (rr_eat R S i2 y2 93 w8 HA8.out.rr hs7 hi2).mono ?_
      rintro e w6 ⟨rfl, h9, o9⟩
      have HA6 := Lib.hid (HA8.out.step o9 h9)
      have HR6 := Lib.hid (PRow.pairs (ownsRow_only HR8.out o9 (by omega : R < w.heap.size + 2)))
      have HK6 : Hid (Kids w6 (From (w.heap.size + 2) w6.heap.size) (.slice A4 ks.length c4') ks) := Lib.hid (HK8.out.keep (fun b hb => ⟨hb.1, Nat.lt_of_lt_of_le hb.2 o9.size⟩) fun b hb => o9.block b hb.2 (by have := hb.1; omega))
      have HK := Lib.hid (NodK.node H34.out HHR.out HNK.out)
      clear h9 o9 HA8 HR8 HK8
      obtain ⟨c0, c1, c2, c3, c4⟩ := HA6.out.cells
      obtain ⟨d0, d1, d2, d3, d4⟩ := five_cells HA6.out.rb
      have f0 := HA6.out.freeR 0
      have f1 := HA6.out.freeR 1
      have f2 := HA6.out.freeR 2
      have f3 := HA6.out.freeR 3
      have f4 := HA6.out.freeR 4
      go_wp2
      obtain ⟨g0, g1, g2, g3, g4⟩ := HA6.out.finish
      change bodyPost _ _ _ _ _ (put5 w6 w.heap.size (.string kd) (.string ⟨#[]⟩) (.slice none 0 0) (.slice A a.length cp) (.slice A4 ks.length c4'))
      generalize put5 w6 w.heap.size (.string kd) (.string ⟨#[]⟩) (.slice none 0 0) (.slice A a.length cp) (.slice A4 ks.length c4') = W at *
      obtain ⟨q0, q1, q2, q3, q4⟩ := five_cells g0
      have hsz6 := HA6.out.size
      refine bodyPost_ret (v := .agg #[(.string kd), (.string ⟨#[]⟩), (.slice none 0 0), (.slice A a.length cp), (.slice A4 ks.length c4')]) (by simp [results, Tryz.results39, go_sem, q0, q1, q2, q3, q4]) rfl ⟨_, _, _, _, rfl, ?_, g1, g2, HK.out⟩
      exact ⟨_, _, _, rfl, strs_nil, HR6.out.keep (fun b hb => ⟨by have := hb.1; omega, by have := hb.2; omega⟩) (fun b hb => g3 b hb.1 hb.2), HK6.out.keep (fun b hb => ⟨by have := hb.1; omega, by have := hb.2; omega⟩) fun b hb => g3 b hb.1 hb.2⟩
end Go.Proofs.YtggoebbfgkebcaaGreatDoor

namespace Go.Proofs.YtggoebbfgkebcaaGreatDoor
open Go.RowKit Go.Sort Go.Maps

theorem rr_node_all : ∀ n, RNode n
  | 0 => fun R S k w h hs hk hn hn6 => absurd hn (by omega)
  | n + 1 => rr_node n (rr_nodes n (rr_node_all n))

set_option maxHeartbeats 2000000 in
theorem rr_Node (R : Nat) (S : ByteArray) (w : World) (h : RR w R S 0 false) (hs : S.size ≤ 124000) :
    Calls Tryz.prog 20 #[.pointer (some ⟨R, 0, none⟩)] w (NodPost R S 0 w) := by
  have hRw := h.lt
  have HR := Lib.hid h
  have hb1 : Below w.heap.size w (w.alloc (.cells #[.string ⟨#[]⟩, .string ⟨#[]⟩, .slice none 0 0, .slice none 0 0, .slice none 0 0] 41)) := (Below.refl _ _).alloc (Nat.le_refl _) _
  have H1 := Lib.hid (h.below hb1 h.lt)
  have O1 := Lib.hid (OnlyR.of_below R hb1)
  have HC : Hid ((w.alloc (.cells #[.string ⟨#[]⟩, .string ⟨#[]⟩, .slice none 0 0, .slice none 0 0, .slice none 0 0] 41)).heap[w.heap.size]? = some (.cells #[.string ⟨#[]⟩, .string ⟨#[]⟩, .slice none 0 0, .slice none 0 0, .slice none 0 0] 41)) := Lib.hid (heap_alloc_new w _)
  have hz1 : w.heap.size < (w.alloc (.cells #[.string ⟨#[]⟩, .string ⟨#[]⟩, .slice none 0 0, .slice none 0 0, .slice none 0 0] 41)).heap.size := by simp
  obtain ⟨c0, c1, c2⟩ := H1.out.three
  clear h hb1
  go_enter Tryz.func20, Tryz.ntmps20
  go_upto_region 1 with fail
  generalize w.alloc (.cells #[.string ⟨#[]⟩, .string ⟨#[]⟩, .slice none 0 0, .slice none 0 0, .slice none 0 0] 41) = w1 at *
  go_wp2_with fail
  have HE : Hid ((S.size : Int) + 1 = ((S.size + 1 : Nat) : Int)) := Lib.hid (by omega)
  rw [HE.out]
  refine (rr_node_all (S.size + 1) R S 0 w1 H1.out hs (Nat.zero_le _) (by omega) (by omega)).mono ?_
  rintro e w2 ⟨v, t, j, y, rfl, hn, h2, o2, hk⟩
  obtain ⟨vm, va, vk, rfl, hm, ha, hkk⟩ := hn
  obtain ⟨A1, n1, rfl, _⟩ := hm.form
  obtain ⟨A2, n2, rfl, _⟩ := ha.form
  obtain ⟨A3, n3, rfl, _⟩ := hkk.form
  have HND := Lib.hid (show Node w2 (From w1.heap.size w2.heap.size) (.agg #[.string t.kind, .string t.text, .slice A1 t.marks.length n1, .slice A2 t.attrs.length n2, .slice A3 t.kids.length n3]) t from ⟨_, _, _, rfl, hm, ha, hkk⟩)
  have hc2 := (o2.block _ hz1 (by omega)).trans HC.out
  have HC2 := Lib.hid hc2
  have H2 := Lib.hid h2
  have O2 := Lib.hid (O1.out.trans o2)
  have HK := Lib.hid hk
  have hz2 := o2.size
  obtain ⟨d0, d1, d2, d3, d4⟩ := five_cells hc2
  have f0 := frozen_of_row w2 _ 0 _ _ hc2
  have f1 := frozen_of_row w2 _ 1 _ _ hc2
  have f2 := frozen_of_row w2 _ 2 _ _ hc2
  have f3 := frozen_of_row w2 _ 3 _ _ hc2
  have f4 := frozen_of_row w2 _ 4 _ _ hc2
  clear hm ha hkk h2 o2 hk hc2 c0 c1 c2 HR
  go_wp2
  have q := put5_at HC2.out (.string t.kind) (.string t.text) (.slice A1 t.marks.length n1) (.slice A2 t.attrs.length n2) (.slice A3 t.kids.length n3)
  have o4 := put5_only w2 w.heap.size (.string t.kind) (.string t.text) (.slice A1 t.marks.length n1) (.slice A2 t.attrs.length n2) (.slice A3 t.kids.length n3)
  change bodyPost _ _ _ _ _ (put5 w2 w.heap.size (.string t.kind) (.string t.text) (.slice A1 t.marks.length n1) (.slice A2 t.attrs.length n2) (.slice A3 t.kids.length n3))
  generalize put5 w2 w.heap.size (.string t.kind) (.string t.text) (.slice A1 t.marks.length n1) (.slice A2 t.attrs.length n2) (.slice A3 t.kids.length n3) = W at *
  have hb4 : Below w.heap.size w2 W := o4.below (Nat.le_refl _) (by omega)
  have hz4 := o4.size
  obtain ⟨q0, q1, q2, q3, q4⟩ := five_cells q
  refine bodyPost_ret (v := .agg #[.string t.kind, .string t.text, .slice A1 t.marks.length n1, .slice A2 t.attrs.length n2, .slice A3 t.kids.length n3]) (by simp [results, Tryz.results20, go_sem, q0, q1, q2, q3, q4]) rfl ⟨_, t, j, y, rfl, ?_, H2.out.below hb4 hRw, O2.out.thenBelow hb4 (Nat.le_refl _), HK.out⟩
  exact HND.out.keep (fun b hb => ⟨by have := hb.1; omega, by have := hb.2; omega⟩) fun b hb => o4.block b hb.2 (by have := hb.1; omega)

theorem NodK.whole {S : ByteArray} {t : Tree} {j : Nat} {y : Bool} (h : NodK S 0 t j y) {u : Tree} (hf : formedB u = true) (hw : writeB u = S.data.toList) : t = u ∧ j = S.size ∧ y = false := by
  obtain ⟨h1, h2, h3⟩ := h.back u [] hf aft_nil (by unfold left; rw [hw]; simp)
  have h4 := congrArg List.length h2
  rw [left_len, List.length_nil] at h4
  have := h.le
  exact ⟨h1, by omega, h3⟩

end Go.Proofs.YtggoebbfgkebcaaGreatDoor
